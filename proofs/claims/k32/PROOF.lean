import PyProof.Rows.All
import Wide.All
import OpenK.AllK
import Wide.FinOn
import Lean
import PyProof.EqAt
import PyProof.EqKinds
import PyProof.TupleCall
import PySem.Challenge.RW_voucherstack_k32_spoilt_papers
set_option Elab.async false
set_option linter.all false
set_option maxRecDepth 100000
open Array renaming length_toList → My, size_zip → M8, getElem?_eq_getElem → EA
open Bool renaming false_ne_true → JS, and_eq_true → NL, false_eq_true → NM, false_and → MH, eq_iff_iff → MI, and_true → MN, and_false → M1, or_eq_true → Ez
open List renaming length_map → JJ, mem_of_getElem? → JO, range → JP, map_append → JQ, replicate → JR, getElem?_map → JU, map_cons → JV, length_append → JW, getElem?_eq_some_iff → JX, mem_cons_of_mem → JZ, mem_cons_self → J0, mem_map → J4, getD_eq_getElem?_getD → J5, map_map → J8, length_take → Na, mem_cons → Nc, size_toArray → Nd, sum_cons → Nf, mem_filter → Nh, flatten_cons → Ni, mem_append → Nk, append_nil → Nl, append_assoc → Nm, length_singleton → Np, take_length → Nt, mem_append_right → Nw, length_cons → Ny, length → NA, lookup_cons → NB, range_succ → NC, zipWith → ND, nil_append → NH, map_congr_left → NN, Pairwise → NO, sum_append → NP, lookup → NQ, nodup_cons → NR, map_nil → NS, mem_singleton → NT, getElem?_of_mem → NU, find?_cons → NZ, getElem?_eq_getElem → N1, mem_flatten → N2, length_drop → N5, any_cons → N6, take_add_one → N8, mem_iff_getElem? → N9, length_set → Mb, replicate_succ → Mc, take_of_length_le → Md, map_take → Me, map_set → Mg, mem_map_of_mem → Mh, of_mem_zip → Mj, length_replicate → Ml, all_eq_true → Mm, not_mem_nil → Mn, pairwise_iff_getElem → Mo, ext_getElem → Mp, filter_append → Mq, filter_cons → Mr, nodup_range → Mu, pairwise_cons → Mv, foldl_append → Mw, mem_of_mem_take → Mx, getElem?_append_right → Mz, foldl_cons → MA, map_drop → MB, length_filter_le → MC, getElem?_eq_none → MD, getElem?_range → ME, sum_nil → MF, getElem?_set_self → MG, getElem?_append_left → MK, getElem?_take_of_lt → ML, cons_append → MO, getElem_map → MP, length_nil → MQ, take_append_drop → MR, count_append → MS, mem_range → MT, mem_append_left → MU, getElem?_set_ne → MV, all_cons → M0, getElem_mem → M3, drop_of_length_le → M4, nodup_nil → M7, flatten_append → Eb, getElem_range → Ec, length_zipWith → Ed, getElem?_zipWith → Ee, getElem?_drop → Eh, pairwise_map → Ei, pairwise_lt_range → Ej, filter_nil → Ek, replicate_succ' → El, map_inj_right → Em, mem_or_eq_of_mem_set → En, filterMap_cons → Ep, getElem_inj → Er, getElem?_replicate → Ex, count_cons → EB, drop_eq_getElem_cons → EC, zipIdx_cons → ED, nodup_append → EF, mem_of_mem_drop → EG, getLastD_eq_getLast? → EH, set_cons_succ → EI, take_zero → EJ, getElem?_take → EK, mem_replicate → EL, take_eq_take_iff → ER, getElem_cons_drop → EV, singleton_append → EW, sublist_append_left → EX, getLast?_eq_some_getLast → EY, length_eq_zero_iff → E4, count_cons_of_ne → E5, append_cancel_left → E6
open Nat renaming le_refl → JK, le_trans → JN, le_of_lt → JY, lt_of_lt_of_le → Ng, ne_of_lt → Nj, zero_le → Nr, lt_irrefl → NV, ne_of_gt → NW, lt_of_le_of_lt → N7, le_succ → Ms, min_self → Mt, min_eq_left → MM, le_of_eq → MX, lt_succ_self → MY, lt_trans → M5, not_lt → M6, add_mul → Ef, one_mul → Eg, mul_le_mul_right → EE
open Option renaming map_some → Mf, getD_none → Ey, isSome_iff_exists → EO
open PySem.F renaming plainAttrs_list → NK, slot_list_append → N3, type_list_append → N4, slot_dict_setdefault → ES, plainAttrs_dict → ET, slot_dict_values → EU, slot_list_extend → EZ, type_list_extend → E1, slot_list_count → E2, type_list_count → E3
open PySem.W renaming Frag → JL, findIn → JM, mroIn → JT, fnOf → J6, keepIn → J7, nsIn → J9, kitOne → Nb, mg_of → Nq, codeIn → Nu, mg_none_of → Nv, plainGet → Nx, typeIn → Nz, hasDictIn → NF, makesIn → NG, isFn → NI, plainOver → NJ, kia_one → NY, emptyDict → Ma, instObj → Mi, specialIn → MJ, lookIn → MW, callWith_K → MZ, kla_obj → M9, tabObj → Ea, methodObj → Eo, plainGet_of → Es, takerIn → Et, takesIn → Eu, methodCall_KW → Ew, callWith_K0 → EM, cellsFrom_some → EN
set_option hygiene false
local macro_rules|`(tactic|exists $a,$b)=>`(tactic|refine FunD.ok $a $b (by intro _ _ _ _ h;cases h;subst_vars;rfl) (fun cdv A outer s H vs Q E hr h=>?_))
local macro_rules|`(tactic|ac_rfl)=>`(tactic|exact⟨rfl,rfl,rfl,by decide +kernel,rfl,by decide +kernel,by decide +kernel⟩)
local macro_rules|`(tactic|exists $a:ident,$b,$c)=>`(tactic|have $a:ident:=$b (P:=P) (w:=w) $c)
local macro_rules|`(tactic|exists $a:ident,$b,$c,$_)=>`(tactic|have $a:ident:Room $b _:=($c).mono (by decide))
local macro_rules|`(tactic|exists $a:ident)=>`(tactic|try refine sN fun _ $a=>?_)
local macro_rules|`(tactic|exists $a,$b,$c:ident,$d:ident,$e:ident,$f)=>`(tactic|(generalize hg9:upd $a $b _=$c;obtain⟨$d:ident,$e:ident⟩:=kax hg9 $f;clear hg9))
local macro_rules|`(tactic|ac_nf)=>`(tactic|(repeat (first|rw[kac,if_pos rfl]|rw[kac,if_neg (by decide +kernel)])))
local macro_rules|`(tactic|symm)=>`(tactic|try apply Y4)
local macro_rules|`(tactic|nofun)=>`(tactic|try first|apply Y6|apply Y4)
local macro_rules|`(tactic|exists 3)=>`(tactic|try first|apply Y8|apply Y6|apply Y4)
local macro_rules|`(tactic|exists 4)=>`(tactic|try first|apply Y10|apply Y6|apply Y4)
local macro_rules|`(tactic|exists $a:ident,$b,$_,$_,$_)=>`(tactic|(case $a:ident=>refine' Vs.dn_mk KX G ?_ ?_ ?_ ?_ (fun _ _ _ _ _ _=>$b);any_goals k_is))
local macro_rules|`(tactic|exists $a:ident,$b,$_,$_,$_,$_,$_)=>`(tactic|(case $a:ident=>refine' Vs.mt_mk ?_ ?_ ?_ ?_ ?_ (fun _ _ _ _ _ _=>$b);any_goals k_is))
namespace L2
open PySem PySem.Spec PyProof.Rows
abbrev Key:=Sum Int Str
def keyIs:Key→Value→Bool
 | .inl k,v=>Value.isInt k v
 | .inr x,v=>Value.isStrOf x v
def keyH(w:World):Key→Int
 | .inl k=>hashInt k
 | .inr x=>hashStr w x
theorem ka5:∀{k:Key}{v:Value},keyIs k v=true→(∃i t,k=Sum.inl i∧v=Value.int i t)∨(∃x t,k=Sum.inr x∧v=Value.str x t)
 | .inl i,v,h=>by
  obtain⟨t,e⟩:=Value.isInt_shape (k:=i) (v:=v) h
  exact .inl ⟨i,t,rfl,e⟩
 | .inr x,v,h=>by
  obtain⟨t,e⟩:=Value.isStrOf_shape (x:=x) (v:=v) h
  exact .inr ⟨x,t,rfl,e⟩
def kkD(i:Int)(t:Tok):keyIs (.inl i) (.int i t)=true:=by simp[keyIs,Value.isInt]
def kkC(x:Str)(t:Tok):keyIs (.inr x) (.str x t)=true:=by simp[keyIs,Value.isStrOf]
def knG(a b:Int):decide ((Sum.inl a:Key)=Sum.inl b)=(a==b):=by
 by_cases e:a=b
 ·subst e;simp
 ·have h:¬(Sum.inl a:Key)=Sum.inl b:=fun q=>e (Sum.inl.inj q)
  rw[decide_eq_false h]
  exact(beq_eq_false_iff_ne.mpr e).symm
def knD(a b:Str):decide ((Sum.inr a:Key)=Sum.inr b)=decide (a=b):=by
 by_cases e:a=b
 ·subst e;simp
 ·have h:¬(Sum.inr a:Key)=Sum.inr b:=fun q=>e (Sum.inr.inj q)
  rw[decide_eq_false h,decide_eq_false e]
def knF(a:Int)(b:Str):decide ((Sum.inl a:Key)=Sum.inr b)=false:=decide_eq_false (fun q=>nomatch q)
def knE(a:Str)(b:Int):decide ((Sum.inr a:Key)=Sum.inl b)=false:=decide_eq_false (fun q=>nomatch q)
def kbe(prog:Program)(w:World):PySem.KeyKind prog w Key where
 is:=keyIs
 hash:=keyH w
 inj:=fun v a b ha hb=>by
  rcases ka5 ha with⟨i,t,rfl,rfl⟩|⟨x,t,rfl,rfl⟩
  ·rcases ka5 hb with⟨j,u,rfl,e⟩|⟨y,u,rfl,e⟩
   ·injection e with e1 _;rw[e1]
   ·exact nomatch e
  ·rcases ka5 hb with⟨j,u,rfl,e⟩|⟨y,u,rfl,e⟩
   ·exact nomatch e
   ·injection e with e1 _;rw[e1]
 byValue:=fun k v h=>by
  rcases ka5 h with⟨i,t,rfl,rfl⟩|⟨x,t,rfl,rfl⟩ <;> rfl
 pyHash:=fun hv h=>by
  rcases ka5 hv with⟨i,t,rfl,rfl⟩|⟨x,t,rfl,rfl⟩
  ·exact wpAny_pyHash_int h
  ·exact wpAny_pyHash_str h
 eqBool:=fun hu hv h=>by
  rcases ka5 hu with⟨i,t,rfl,rfl⟩|⟨x,t,rfl,rfl⟩
  ·rcases ka5 hv with⟨j,u,rfl,rfl⟩|⟨y,u,rfl,rfl⟩
   ·rw[knG] at h;exact wpAny_eqBool_int h
   ·rw[knF] at h;exact SeqAt.EqAt.int_str i t y u _ _ _ _ h
  ·rcases ka5 hv with⟨j,u,rfl,rfl⟩|⟨y,u,rfl,rfl⟩
   ·rw[knE] at h;exact SeqAt.EqAt.str_int x t j u _ _ _ _ h
   ·rw[knD] at h;exact wpAny_eqBool_str h
 «strs» :=fun k x t v h=>by
  rcases ka5 h with⟨i,u,rfl,e⟩|⟨y,u,rfl,e⟩
  ·exact nomatch e
  ·injection e with e1 _
   subst e1
   cases v <;> rfl
def keU(prog:Program)(w:World)(i:Int)(t:Tok):(kbe prog w).is (.inl i) (.int i t)=true:=kkD i t
def khL(prog:Program)(w:World)(x:Str)(t:Tok):(kbe prog w).is (.inr x) (.str x t)=true:=kkC x t
end L2
namespace L2
open PySem PySem.Spec PyProof.Rows
inductive V where
 |non|bl (b:Bool)|int (i:Int)|str (x:Str)|byt (b:Array UInt8)|flt (b:UInt64)|ref (a:Addr)|ty (n:String)
 deriving DecidableEq
def RelV:V→Value→Prop
 | .non,u=>u=Value.none
 | .bl b,u=>u=Value.bool b
 | .int i,u=>∃t,u=Value.int i t
 | .str x,u=>∃t,u=Value.str x t
 | .byt b,u=>∃t,u=Value.bytes b t
 | .flt b,u=>∃t,u=Value.float b t
 | .ref a,u=>u=Value.ref a
 | .ty n,u=>u=Value.type n
abbrev Vals:List V→List Value→Prop:=Paired RelV
def Vals.length{xs:List V}{us:List Value}(r:Vals xs us):xs.length=us.length:=Paired.length r
theorem Vals.get:∀{xs:List V}{us:List Value}{i:Nat}{x:V},Vals xs us→xs[i]?=some x→∃u,us[i]?=some u∧RelV x u
 |_,_,_,_, .nil,e=>by simp at e
 |_,_,0,_, .cons r _,e=>by simp at e;subst e;exact⟨_,rfl,r⟩
 |_,_,i+1,x, .cons _ t,e=>by
  obtain⟨u,h1,h2⟩:=Vals.get (i:=i) (x:=x) t (by simpa using e)
  exact⟨u,by simpa using h1,h2⟩
theorem Vals.set{x:V}{u:Value}(r:RelV x u):∀{xs:List V}{us:List Value}(i:Nat),Vals xs us→Vals (xs.set i x) (us.set i u)
 |_,_,_, .nil=>.nil
 |_,_,0, .cons _ t=>.cons r t
 |_,_,i+1, .cons q t=>.cons q (Vals.set r i t)
theorem Vals.append:∀{xs ys:List V}{us ws:List Value},Vals xs us→Vals ys ws→Vals (xs++ys) (us++ws)
 |_,_,_,_, .nil,s=>s
 |_,_,_,_, .cons r t,s=>.cons r (Vals.append t s)
theorem Vals.take:∀{xs:List V}{us:List Value}(n:Nat),Vals xs us→Vals (xs.take n) (us.take n)
 |_,_,0,_=>.nil
 |_,_,_+1, .nil=>.nil
 |_,_,n+1, .cons r t=>.cons r (Vals.take n t)
theorem Vals.drop:∀{xs:List V}{us:List Value}(n:Nat),Vals xs us→Vals (xs.drop n) (us.drop n)
 |_,_,0,r=>r
 |_,_,_+1, .nil=>.nil
 |_,_,n+1, .cons _ t=>Vals.drop n t
def RelO:Option V→Option Value→Prop
 |some v,some u=>RelV v u
 |none,none=>True
 |_,_=>False
def KV{κ:Type}:List (κ×V)→List (κ×Value)→Prop:=Paired fun(p: κ×V)(q: κ×Value)=>p.1=q.1∧RelV p.2 q.2
def kV:Key→V
 | .inl i=>.int i
 | .inr x=>.str x
inductive HO where
 |lst (xs:List V)
 |tup (xs:List V)
 |dK (kvs:List (Key×V))|dT (kvs:List (List Key×V))
 |set (S:Int→Bool) (n:Nat)
 |ins (C dx:Addr) (fs:List (Str×V))
 |own (x:Addr)
 |xd (fs:List (Str×V))
 |met (f x:Addr)
 |rng (lo hi:Int)
 |frz (o:Obj) (u:HO)
 |tbl (ps:Array Value)
 |ext (φ:Heap→Prop)
abbrev Hp:=Addr→Option HO
def upd(H:Hp)(a:Addr)(o:HO):Hp:=fun b=>if b=a then some o else H b
def kae{H:Hp}{a:Addr}{o:HO}:upd H a o a=some o:=by unfold upd;rw[if_pos rfl]
def kak{H:Hp}{a b:Addr}{o:HO}(h:b≠a):upd H a o b=H b:=by unfold upd;rw[if_neg h]
def kmy{H:Hp}{a:Addr}{o u:HO}:upd (upd H a o) a u=upd H a u:=by
 funext b;unfold upd;split <;> rfl
def ne_of{H:Hp}{a b:Addr}{o u:HO}(h:H a=some o)(h':H b=some u)(d:o≠u):a≠b:=by
 intro e;subst e;rw[h] at h';exact d (Option.some.inj h')
def kai{H:Hp}{a b:Addr}{o:HO}(h:H a=some o)(h':H b=none):a≠b:=by
 intro e;subst e;rw[h] at h';cases h'
section
variable (P:Program) (w:World)
def ObjOk(H:Hp)(h:Heap)(a:Addr):HO→Prop
 | .lst xs=>xs.length≤sizeLine∧∃(its:List Value)(n:Nat),Vals xs its∧h.get? a=some {cls:=.type "list",data:=.seq its.toArray n}
 | .tup xs=>xs.length≤sizeLine∧∃its:List Value,Vals xs its∧IsTup h a its.toArray
 | .dK kvs=>kvs.length≤sizeLine∧(a==sysModules)=false∧∃vs,KV kvs vs∧h.DictOf (kbe P w) a vs
 | .dT kvs=>kvs.length≤sizeLine∧(a==sysModules)=false∧∃xs:List (List Key×Addr×Value),
   Paired (fun(p:List Key×V)(q:List Key×Addr×Value)=>p.1=q.1∧H q.2.1=some (.tup (p.1.map kV))∧RelV p.2 q.2.2) kvs xs∧
   ∃o es ep,h.get? a=some o∧o.ExactDict∧o.data=.dict es ep∧es.toList=xs.map (entryOfKey (tupleKind (kbe P w)))∧(xs.map (·.1)).Nodup
 | .set S n=>h.SetOf (intKind P w) a S n
 | .ins C dx fs=>H dx=some (.own a)∧fs.length≤1000∧dx≠a∧h.get? a=some (Mi C dx)∧
   ∃mA,h.Ns1 dx mA∧(∀f,RelO (fs.lookup f) (mA f))∧PySem.Within mA (fs.map (·.1))
 | .own _=>∃o,h.get? a=some o
 | .xd fs=>∃mA,h.Ns1 a mA∧∀f,RelO (fs.lookup f) (mA f)
 | .rng lo hi=>∃t u v,h.get? a=some {cls:=.type "range",data:=.fields #[.int lo t, .int hi u, .int 1 v]}
 | .frz o u=>h.get? a=some o∧ObjOk H h a u
 | .tbl ps=>h.get? a=some {cls:=.none,data:=.fields ps}
 | .met f x=>h.get? a=some (Eo (.ref f) (.ref x))
 | .ext φ=>φ h∧(∃o,h.get? a=some o)∧∀h1 h2:Heap,φ h1→(∀o,h1.get? a=some o→h2.get? a=some o)→φ h2
def HOk(H:Hp)(h:Heap):Prop:=∀a o,H a=some o→ObjOk P w H h a o
end
section
variable {P:Program} {w:World} {H H':Hp} {h h':Heap} {a:Addr} {o:HO}
theorem ObjOk.lt(x:ObjOk P w H h a o):a<h.objs.size:=by
 cases o with
 |lst xs=>obtain⟨_,_,_,_,e⟩:=x;exact Heap.lt_size e
 |tup xs=>obtain⟨_,_,_,p⟩:=x;exact p.lt
 |dK kvs=>obtain⟨_,_,_,_,o,_,_,e,_⟩:=x;exact Heap.lt_size e
 |dT kvs=>obtain⟨_,_,_,_,o,_,_,e,_⟩:=x;exact Heap.lt_size e
 |set S n=>obtain⟨o,_,_,_,e,_⟩:=x;exact Heap.lt_size e
 |ins C dx fs=>obtain⟨_,_,_,e,_⟩:=x;exact Heap.lt_size e
 |own y=>obtain⟨_,e⟩:=x;exact Heap.lt_size e
 |xd fs=>obtain⟨_,⟨_,_,_,e,_⟩,_⟩:=x;exact Heap.lt_size e
 |rng lo hi=>obtain⟨_,_,_,e⟩:=x;exact Heap.lt_size e
 |frz ob u=>obtain⟨e,_⟩:=x;exact Heap.lt_size e
 |tbl ps=>exact Heap.lt_size (show h.get? a=some _ from x)
 |met f y=>exact Heap.lt_size (show h.get? a=some _ from x)
 |ext φ=>obtain⟨_,⟨_,e⟩,_⟩:=x;exact Heap.lt_size e
theorem Paired.mapP{α β:Type}{F G: α→β→Prop}:∀{l₁:List α}{l₂:List β},Paired F l₁ l₂→(∀a b,F a b→G a b)→Paired G l₁ l₂
 |_,_, .nil,_=>.nil
 |_,_, .cons r t,f=>.cons (f _ _ r) (Paired.mapP t f)
theorem ObjOk.stay(x:ObjOk P w H h a o)(k:∀b u,(b=a∨H b=some (.own a))→h.get? b=some u→h'.get? b=some u)
  (ho:∀b,H b=some (.own a)→H' b=some (.own a)) (ht:∀b xs,H b=some (.tup xs)→H' b=some (.tup xs)):ObjOk P w H' h' a o:=by
 induction o with
 |lst xs=>obtain⟨z,its,n,r,e⟩:=x;exact⟨z,its,n,r,k _ _ (.inl rfl) e⟩
 |tup xs=>obtain⟨z,its,r,ob,e,c⟩:=x;exact⟨z,its,r,ob,k _ _ (.inl rfl) e,c⟩
 |dK kvs=>obtain⟨z,y,vs,r,ob,es,ep,e,c⟩:=x;exact⟨z,y,vs,r,ob,es,ep,k _ _ (.inl rfl) e,c⟩
 |dT kvs=>
  obtain⟨z,y,xs,r,ob,es,ep,e,c⟩:=x
  exact⟨z,y,xs,Paired.mapP r fun p q z=>⟨z.1,ht _ _ z.2.1,z.2.2⟩,ob,es,ep,k _ _ (.inl rfl) e,c⟩
 |set S n=>obtain⟨ob,es,ep,t,e,c⟩:=x;exact⟨ob,es,ep,t,k _ _ (.inl rfl) e,c⟩
 |ins C dx fs=>
  obtain⟨d,z,ne,e,mA,⟨od,es,ep,e2,c⟩,r⟩:=x
  exact⟨ho _ d,z,ne,k _ _ (.inl rfl) e,mA,⟨od,es,ep,k _ _ (.inr d) e2,c⟩,r⟩
 |own y=>obtain⟨ob,e⟩:=x;exact⟨ob,k _ _ (.inl rfl) e⟩
 |xd fs=>obtain⟨mA,⟨od,es,ep,e,c⟩,r⟩:=x;exact⟨mA,⟨od,es,ep,k _ _ (.inl rfl) e,c⟩,r⟩
 |rng lo hi=>obtain⟨t,u,v,e⟩:=x;exact⟨t,u,v,k _ _ (.inl rfl) e⟩
 |frz ob u ih=>obtain⟨e,q⟩:=x;exact⟨k _ _ (.inl rfl) e,ih q⟩
 |tbl ps=>
  have e:h.get? a=some {cls:=.none,data:=.fields ps}:=x
  show h'.get? a=some {cls:=.none,data:=.fields ps}
  exact k a _ (.inl rfl) e
 |met f y=>
  have e:h.get? a=some (Eo (.ref f) (.ref y)):=x
  show h'.get? a=some (Eo (.ref f) (.ref y))
  exact k a _ (.inl rfl) e
 |ext φ=>obtain⟨p,⟨o,e⟩,st⟩:=x;exact⟨st _ _ p fun o q=>k _ _ (.inl rfl) q,⟨o,k _ _ (.inl rfl) e⟩,st⟩
theorem HOk.lt(x:HOk P w H h)(e:H a=some o):a<h.objs.size:=(x a o e).lt
theorem HOk.fresh(x:HOk P w H h)(e:h.objs.size≤a):H a=none:=by
 cases q:H a with
 |none=>rfl
 |some u=>exact absurd (Ng (x.lt q) e) (NV _)
theorem HOk.kept(x:HOk P w H h)(k:∀b u,h.get? b=some u→h'.get? b=some u):HOk P w H h':=fun a o e=>
 (x a o e).stay (fun b u _ q=>k b u q) (fun _ q=>q) fun _ _ q=>q
theorem HOk.laid(x:HOk P w H h)(k:∀b u,h.get? b=some u→h'.get? b=some u)(hp:h.objs.size≤a)(new:ObjOk P w (upd H a o) h' a o):HOk P w (upd H a o) h':=fun b u e=>by
 have hn:=x.fresh hp
 by_cases hb:b=a
 ·subst hb;rw[kae] at e;cases e;exact new
 ·rw[kak hb] at e
  exact(x b u e).stay (fun c v _ q=>k c v q) (fun c q=>by rw[kak (kai q hn)];exact q) fun c xs q=>by rw[kak (kai q hn)];exact q
end
def Rd(H:Hp)(a:Addr)(u:HO):Prop:=H a=some u∨∃o,H a=some (.frz o u)
def Rd.ok{P:Program}{w:World}{H:Hp}{h:Heap}{a:Addr}{u:HO}(r:Rd H a u)(x:HOk P w H h):ObjOk P w H h a u:=by
 rcases r with r|⟨o,r⟩
 ·exact x a u r
 ·obtain⟨_,q⟩:=x a _ r
  exact q
def Mut:Option HO→Prop
 |some (.lst _)=>True
 |some (.dK _)=>True
 |some (.dT _)=>True
 |some (.set _ _)=>True
 |some (.ins _ _ _)=>True
 |some (.ext _)=>True
 |_=>False
section
variable {P:Program} {w:World} {H:Hp} {h h':Heap} {x e:Addr} {o':HO}
theorem HOk.write(ok:HOk P w H h)(mu:Mut (H x))(he:e=x∨H e=some (.own x))(k:∀b u,b≠e→h.get? b=some u→h'.get? b=some u)(heo:∃u,h'.get? e=some u)
  (new:ObjOk P w (upd H x o') h' x o'):HOk P w (upd H x o') h':=fun b u q=>by
 have nown:∀c y,H c=some (.own y)→c≠x:=fun c y r z=>by subst z;rw[r] at mu;exact mu
 have ntup:∀c xs,H c=some (.tup xs)→c≠x:=fun c xs r z=>by subst z;rw[r] at mu;exact mu
 by_cases hb:b=x
 ·subst hb;rw[kae] at q;cases q;exact new
 ·rw[kak hb] at q
  by_cases hbe:b=e
  ·have q':H b=some (.own x):=by
    rcases he with z|z
    ·exact absurd (hbe.trans z) hb
    ·rw[hbe];exact z
   rw[q] at q';cases q'
   obtain⟨v,hv⟩:=heo
   exact⟨v,by rw[hbe];exact hv⟩
  ·refine(ok b u q).stay (fun c v hc r=>k c v ?_ r) (fun c r=>by rw[kak (nown c b r)];exact r) fun c xs r=>by rw[kak (ntup c xs r)];exact r
   rcases hc with rfl|hc
   ·exact hbe
   ·rintro rfl
    rcases he with z|z
    ·exact nown c b hc z
    ·rw[hc] at z;cases z;exact hb rfl
end
structure Un (fs ex:List Addr) (H H':Hp) (h h':Heap):Prop where
 keep:∀b o,h.get? b=some o→H b=none→b∉fs→b∉ex→h'.get? b=some o
 slot:∀b o,h.get? b=some o→H b=none→b∈fs→b∉ex→∃sl,h'.get? b=some {o with slots:=sl}
 free:∀b o,h.get? b=some o→H b=none→b∉ex→H' b=none
 there:∀b o,h.get? b=some o→b∉ex→∃o',h'.get? b=some o'
 tups:∀b xs,H b=some (.tup xs)→H' b=some (.tup xs)
 frzs:∀b o u,H b=some (.frz o u)→H' b=some (.frz o u)
 tbls:∀b ps,H b=some (.tbl ps)→∃more,H' b=some (.tbl (ps++more))
section
variable {fs fs' ex ex':List Addr} {H H1 H2:Hp} {h h1 h2 h':Heap} {a x e:Addr} {o:HO}
theorem Un.any(u:Un fs ex H H1 h h1){b:Addr}{ob:Obj}(q:h.get? b=some ob)(n:H b=none)(hx:b∉ex):∃sl,h1.get? b=some {ob with slots:=sl}:=by
 by_cases hb:b∈fs
 ·exact u.slot b ob q n hb hx
 ·exact⟨ob.slots,u.keep b ob q n hb hx⟩
theorem Un.kept(k:∀b u,h.get? b=some u→h'.get? b=some u):Un fs ex H H h h':=
 ⟨fun b ob q _ _ _=>k b ob q,fun b ob q _ _ _=>⟨ob.slots,k b ob q⟩,fun _ _ _ n _=>n,fun b ob q _=>⟨ob,k b ob q⟩,fun _ _ q=>q,fun _ _ _ q=>q,fun _ ps q=>⟨#[],by rw[q];simp⟩⟩
theorem Un.refl:Un fs ex H H h h:=Un.kept fun _ _ q=>q
theorem Un.laid(k:∀b u,h.get? b=some u→h'.get? b=some u)(hp:h.objs.size≤a)(hn:H a=none):Un fs ex H (upd H a o) h h' where
 keep:=fun b u q _ _ _=>k b u q
 slot:=fun b u q _ _ _=>⟨u.slots,k b u q⟩
 free:=fun b u q n _=>by rw[kak (Nj (Ng (Heap.lt_size q) hp))];exact n
 there:=fun b u q _=>⟨u,k b u q⟩
 tups:=fun b xs q=>by rw[kak (kai q hn)];exact q
 frzs:=fun b u xs q=>by rw[kak (kai q hn)];exact q
 tbls:=fun b ps q=>⟨#[],by rw[kak (kai q hn),q];simp⟩
theorem Un.write(mu:Mut (H x))(he:e=x∨H e=some (.own x))(k:∀b u,b≠e→h.get? b=some u→h'.get? b=some u)(heo:∃u,h'.get? e=some u):Un fs ex H (upd H x o) h h':=by
 have hx:∀b,H b=none→b≠x:=fun b n z=>by subst z;rw[n] at mu;exact mu
 have hb:∀b,H b=none→b≠e:=fun b n z=>by
  subst z
  rcases he with r|r
  ·exact hx b n r
  ·rw[n] at r;cases r
 have hm:∀b u,H b=some u→¬Mut (some u)→b≠x:=fun b u q nm z=>by subst z;rw[q] at mu;exact nm mu
 refine⟨fun b u q n _ _=>k b u (hb b n) q,fun b u q n _ _=>⟨u.slots,k b u (hb b n) q⟩,fun b u q n _=>by rw[kak (hx b n)];exact n,fun b u q _=>?_,
  fun b xs q=>by rw[kak (hm b _ q fun z=>z)];exact q,fun b u xs q=>by rw[kak (hm b _ q fun z=>z)];exact q,fun b ps q=>⟨#[],by rw[kak (hm b _ q fun z=>z),q];simp⟩⟩
 by_cases hbe:b=e
 ·subst hbe;exact heo
 ·exact⟨u,k b u hbe q⟩
end
def trk(h:Heap)(H:Hp):List Addr:=(JP h.objs.size).filter fun a=>(H a).isSome
def hidT(h:Heap)(H:Hp):Heap:=PySem.W.hideAll h (trk h H)
def kkL(h:Heap)(H:Hp):(hidT h H).objs.size=h.objs.size:=PySem.W.hideAll_size _ _
def klK{h:Heap}{H:Hp}{b:Addr}{o:Obj}(e:h.get? b=some o)(n:H b=none):(hidT h H).get? b=some o:=
 PySem.W.hideAll_get _ e fun hm=>by
  have q:(H b).isSome=true:=(Nh.mp hm).2
  rw[n] at q;simp at q
theorem kmW{h:Heap}{H:Hp}{b:Addr}{o:Obj}(e:(hidT h H).get? b=some o):h.get? b=some o∧H b=none:=by
 have e':h.get? b=some o:=PySem.W.of_hideAll (trk h H) e
 refine⟨e',?_⟩
 cases q:H b with
 |none=>rfl
 |some x=>
  have hm:b∈trk h H:=Nh.mpr ⟨MT.mpr (Heap.lt_size e'),by simp[q]⟩
  have z:(hidT h H).get? b=none:=PySem.W.hideAll_none (trk h H) hm
  rw[z] at e;cases e
def knj(g h:Heap)(L:Addr):List (Addr×Obj):=(JP h.objs.size).filterMap fun a=>if a=L∨(g.get? a).isSome=true then none else(h.get? a).map fun o=>(a,o)
def rest(g h:Heap)(L d:Addr):List (Addr×Obj):=(knj g h L).filter fun p=>decide (p.1≠d)
end L2
namespace L2
open PySem PySem.Spec PyProof.Rows
structure Mod (K:JL) (mg:Str→Option Value) (base:Heap):Prop where
 kin:K.In base
 glob:base.Ns mainGlobals mg
 blt:∃mb,base.Ns builtinsNs mb∧∀x:Str,x≠"__name__"→mb x=bootBuiltins x
 nolimit:base.NoLimit
structure Cx where
 prog:Program
 w:World
 K:JL
 mg:Str→Option Value
 base:Heap
 A:Around
 N:List Str
 s₀:Shared
 H₀:Hp
 env:Env
 outer:List Env
 stack:List Env
 ex:List Addr
 fn:Str→Bool
 calm:Bool
 pn:List (Addr×Obj)
 xe:Value→Shared→Prop
def frs(l:List Env):List Addr:=l.filterMap (·.frame)
abbrev Cx.fs(X:Cx):List Addr:=frs X.outer
def Vis(sc:Scope)(x:Str):Prop:=sc.names.lookup x=some .local∨sc.names.lookup x=some .cell∨sc.names.lookup x=some .free
def Loc(sc:Scope)(x:Str):Prop:=sc.names.lookup x=some .local∨sc.names.lookup x=some .cell
def Look(env:Env)(h:Heap)(m:Str→Option Value)(x:Str)(u:Value):Prop:=
 (env.kindOf x=some .local∧m x=some u)∨((env.kindOf x=some .cell∨env.kindOf x=some .free)∧∃c,env.cells.lookup x=some c∧h.IsCell c (some u))
structure Cx.Ok (X:Cx):Prop where
 mod:Mod X.K X.mg X.base
 kind:X.env.scope.kind=.function
 glob:X.env.globals=mainGlobals
 blt:X.env.builtins=builtinsNs
 above:X.s₀.heap.objs.size≤X.env.locals
 inj:∀x y c,X.env.cells.lookup x=some c→X.env.cells.lookup y=some c→x=y
 has:∀x,(X.env.kindOf x=some .cell∨X.env.kindOf x=some .free)→∃c,X.env.cells.lookup x=some c
 cab:∀x c,X.fn x=true→X.env.cells.lookup x=some c→X.s₀.heap.objs.size≤c
 hd:X.calm=true→X.A.handled=none
 frames:X.A.frames=some X.stack
 stk:X.stack=X.outer∨(X.stack=X.env::X.outer∧X.env.frame=some X.env.locals)
 exf:∀b∈X.ex,b≠X.env.locals∧∀x c,X.env.cells.lookup x=some c→c≠b
 bs:∀b o,X.base.get? b=some o→X.s₀.heap.get? b=some o∧X.H₀ b=none
 bsz:X.base.objs.size≤X.s₀.heap.objs.size
 noex:∀b o,X.base.get? b=some o→b∉X.ex
 exfs:∀b∈X.ex,b∉X.fs
 funs:X.s₀.heap.FunFrames X.base X.outer
 frf:∀b∈X.fs,X.H₀ b=none
structure Inv (X:Cx) (pins:List (Addr×Obj)) (σ:List (Option V)) (H:Hp) (s:Shared):Prop where
 ok:X.Ok
 os:s.os=X.s₀.os
 bare:AllBare s.gens
 base:Un X.fs X.ex X.H₀ H X.s₀.heap s.heap
 loc:∃m,s.heap.Ns X.env.locals m∧∀(i:Nat)(x:Str)(v:V),X.N[i]?=some x→σ[i]?=some (some v)→Vis X.env.scope x→∃u,RelV v u∧Look X.env s.heap m x u
 cell:∀x c,X.env.cells.lookup x=some c→∃v,s.heap.IsCell c v
 free:H X.env.locals=none
 freeC:∀x c,X.env.cells.lookup x=some c→H c=none
 pin:∀p∈X.pn++pins,s.heap.get? p.1=some p.2∧H p.1=none∧p.1≠X.env.locals∧p.1∉X.fs∧∀v,p.2.data≠.cell v
 hok:HOk X.prog X.w H s.heap
 len: σ.length=X.N.length
section
variable {X:Cx} {pins:List (Addr×Obj)} {σ:List (Option V)} {H H':Hp} {s:Shared} {h':Heap}
theorem Cx.Ok.nofr(ok:X.Ok){b:Addr}{o:Obj}(e:X.base.get? b=some o):b∉X.fs:=fun hb=>by
 have:=(ok.funs.mem hb).1
 rw[e] at this;cases this
theorem Inv.bs(I:Inv X pins σ H s):∀b o,X.base.get? b=some o→s.heap.get? b=some o∧H b=none:=fun b o e=>
 ⟨I.base.keep b o (I.ok.bs b o e).1 (I.ok.bs b o e).2 (I.ok.nofr e) (I.ok.noex b o e),I.base.free b o (I.ok.bs b o e).1 (I.ok.bs b o e).2 (I.ok.noex b o e)⟩
theorem Inv.bk(I:Inv X pins σ H s):∀b o,X.base.get? b=some o→s.heap.get? b=some o:=fun b o e=>(I.bs b o e).1
theorem Inv.mod(I:Inv X pins σ H s):Mod X.K X.mg X.base:=I.ok.mod
theorem Inv.kIn(I:Inv X pins σ H s):X.K.In s.heap:=I.ok.mod.kin.keeps I.bk
theorem Inv.nolimit(I:Inv X pins σ H s):s.heap.NoLimit:=I.ok.mod.nolimit.keeps I.bk
theorem Inv.lt(I:Inv X pins σ H s):X.env.locals<s.heap.objs.size:=let⟨_,hn,_⟩:=I.loc;hn.lt
theorem Inv.sz(I:Inv X pins σ H s):X.s₀.heap.objs.size≤s.heap.objs.size:=JN I.ok.above (JY I.lt)
theorem Inv.nofs(I:Inv X pins σ H s){a:Addr}(h:s.heap.objs.size≤a):a∉X.fs:=fun hb=>by
 obtain⟨_,o,ho,_⟩:=I.ok.funs.mem hb
 exact absurd (Ng (Heap.lt_size ho) (JN I.sz h)) (NV _)
theorem Inv.cne(I:Inv X pins σ H s):∀x c,X.env.cells.lookup x=some c→c≠X.env.locals:=fun x c e z=>by
 obtain⟨v,o,ho,hd⟩:=I.cell x c e
 obtain⟨m,⟨o',es,ep,ho',hd',_⟩,_⟩:=I.loc
 rw[z,ho'] at ho;cases ho;rw[hd'] at hd;cases hd
theorem Inv.funs(I:Inv X pins σ H s):s.heap.FunFrames X.base X.outer:=by
 have all:∀(l:List Env),(∀b∈frs l,b∈X.fs)→X.s₀.heap.FunFrames X.base l→s.heap.FunFrames X.base l:=by
  intro l
  induction l with
  |nil=>intro _ _;trivial
  |cons env r ih=>
   intro hs hl
   obtain⟨hk,⟨L,o,hf,hn,ho,hd⟩,hr⟩:=hl
   have hL:L∈X.fs:=hs L (by unfold frs;rw[Ep,hf];exact J0)
   obtain⟨sl,e⟩:=I.base.slot L o ho (I.ok.frf L hL) hL fun z=>I.ok.exfs L z hL
   exact⟨hk,⟨L,_,hf,hn,e,hd⟩,ih (fun b hb=>hs b (by unfold frs;rw[Ep,hf];exact JZ _ hb)) hr⟩
 exact all X.outer (fun _ hb=>hb) I.ok.funs
theorem Inv.stack(I:Inv X pins σ H s):s.heap.FunFrames X.base X.stack:=by
 rcases I.ok.stk with e|⟨e,hf⟩
 ·rw[e];exact I.funs
 ·rw[e]
  obtain⟨m,hn,_⟩:=I.loc
  refine .cons (by rw[I.ok.kind];decide) hf hn ?_ I.funs
  exact Heap.get?_none_of_le (JN I.ok.bsz I.ok.above)
theorem Inv.stkSub(I:Inv X pins σ H s):∀b∈frs X.stack,b∈X.env.locals::X.fs:=fun b hb=>by
 rcases I.ok.stk with e|⟨e,hf⟩
 ·rw[e] at hb;exact JZ _ hb
 ·rw[e] at hb
  unfold frs at hb
  rw[Ep,hf] at hb
  exact hb
theorem Inv.stkFree(I:Inv X pins σ H s):∀b∈frs X.stack,H b=none:=fun b hb=>by
 rcases Nc.mp (I.stkSub b hb) with e|hb
 ·rw[e];exact I.free
 ·obtain⟨_,o,ho,_⟩:=I.ok.funs.mem hb
  exact I.base.free b o ho (I.ok.frf b hb) fun z=>I.ok.exfs b z hb
theorem Inv.step{g':Array GenState}{t':Nat}{d':Drawn}{ch:List Addr}(I:Inv X pins σ H s)
  (hch:∀b∈ch,(b∈X.ex∨X.s₀.heap.objs.size≤b)∧b≠X.env.locals∧(∀x c,X.env.cells.lookup x=some c→c≠b)∧∀p∈X.pn++pins,p.1≠b)
  (keep:∀b o,b≠X.env.locals→b∉X.fs→b∉ch→s.heap.get? b=some o→H b=none→h'.get? b=some o)
  (slot:∀b o,b≠X.env.locals→b∈X.fs→b∉ch→s.heap.get? b=some o→H b=none→∃sl,h'.get? b=some {o with slots:=sl}) (free:∀b o,b∉ch→s.heap.get? b=some o→H b=none→H' b=none)
  (there:∀b o,b∉ch→s.heap.get? b=some o→∃o',h'.get? b=some o')
  (tups:∀b xs,H b=some (.tup xs)→H' b=some (.tup xs)) (frzs:∀b o u,H b=some (.frz o u)→H' b=some (.frz o u)) (tbls:∀b ps,H b=some (.tbl ps)→∃more,H' b=some (.tbl (ps++more)))
  (ns:∀m,s.heap.Ns X.env.locals m→h'.Ns X.env.locals m) (hok:HOk X.prog X.w H' h') (hg:AllBare g'):
  Inv X pins σ H' {s with heap:=h',gens:=g',drawn:=d',toks:=t'}:=by
 have neL:∀b o,X.s₀.heap.get? b=some o→b≠X.env.locals:=fun b o e=>Nj (Ng (Heap.lt_size e) I.ok.above)
 have neC:∀b o,X.s₀.heap.get? b=some o→b∉X.ex→b∉ch:=fun b o e hx hb=>by
  rcases(hch b hb).1 with z|z
  ·exact hx z
  ·exact absurd (Ng (Heap.lt_size e) z) (NV _)
 have cellK:∀x c,X.env.cells.lookup x=some c→∀v,s.heap.IsCell c v→h'.IsCell c v:=fun x c e v ⟨o,ho,hd⟩=>by
  have nch:c∉ch:=fun z=>(hch c z).2.2.1 x c e rfl
  by_cases hc:c∈X.fs
  ·obtain⟨sl,q⟩:=slot c o (I.cne x c e) hc nch ho (I.freeC x c e)
   exact⟨_,q,hd⟩
  ·exact⟨o,keep c o (I.cne x c e) hc nch ho (I.freeC x c e),hd⟩
 refine⟨I.ok,I.os,hg,⟨fun b o e n hb hx=>?_,fun b o e n hb hx=>?_,fun b o e n hx=>?_,fun b o e hx=>?_,fun b xs e=>tups b xs (I.base.tups b xs e),fun b o xs e=>frzs b o xs (I.base.frzs b o xs e),fun b ps e=>?_⟩,?_,fun x c e=>?_,?_,fun x c e=>?_,fun p hp=>?_,hok,I.len⟩
 ·exact keep b o (neL b o e) hb (neC b o e hx) (I.base.keep b o e n hb hx) (I.base.free b o e n hx)
 ·obtain⟨sl,e1⟩:=I.base.slot b o e n hb hx
  obtain⟨sl',e2⟩:=slot b _ (neL b o e) hb (neC b o e hx) e1 (I.base.free b o e n hx)
  exact⟨sl',e2⟩
 ·obtain⟨o',e1⟩:=I.base.there b o e hx
  exact free b o' (neC b o e hx) e1 (I.base.free b o e n hx)
 ·obtain⟨o',e1⟩:=I.base.there b o e hx
  exact there b o' (neC b o e hx) e1
 ·obtain⟨m1,e1⟩:=I.base.tbls b ps e
  obtain⟨m2,e2⟩:=tbls b _ e1
  exact⟨m1++m2,by rw[e2,Array.append_assoc]⟩
 ·obtain⟨m,hn,hl⟩:=I.loc
  refine⟨m,ns m hn,fun i x v e1 e2 e3=>?_⟩
  obtain⟨u,r,l⟩:=hl i x v e1 e2 e3
  refine⟨u,r,?_⟩
  rcases l with l|⟨k,c,e,z⟩
  ·exact .inl l
  ·exact .inr ⟨k,c,e,cellK x c e _ z⟩
 ·obtain⟨v,z⟩:=I.cell x c e
  exact⟨v,cellK x c e v z⟩
 ·obtain⟨m,⟨o,_,_,ho,_⟩,_⟩:=I.loc
  exact free _ o (fun z=>(hch _ z).2.1 rfl) ho I.free
 ·obtain⟨v,o,ho,hd⟩:=I.cell x c e
  exact free c o (fun z=>(hch c z).2.2.1 x c e rfl) ho (I.freeC x c e)
 ·obtain⟨e,n,ne,nf,d⟩:=I.pin p hp
  have nch:p.1∉ch:=fun z=>(hch p.1 z).2.2.2 p hp rfl
  exact⟨keep p.1 p.2 ne nf nch e n,free p.1 p.2 nch e n,ne,nf,d⟩
theorem Inv.un{t':Nat}(I:Inv X pins σ H s)(u:Un X.fs [] H H' s.heap h')(hok:HOk X.prog X.w H' h'):Inv X pins σ H' {s with heap:=h',toks:=t'}:=by
 obtain⟨m,⟨o,es,ep,ho,r⟩,_⟩:=id I.loc
 obtain⟨sl,hL⟩:=u.any ho I.free (by simp)
 exact I.step (g':=s.gens) (d':=s.drawn) (ch:=[]) (fun _ z=>nomatch z) (fun b o _ hb _ e n=>u.keep b o e n hb (by simp)) (fun b o _ hb _ e n=>u.slot b o e n hb (by simp)) (fun b o _ e n=>u.free b o e n (by simp)) (fun b o _ e=>u.there b o e (by simp)) u.tups u.frzs u.tbls (fun m' hm=>by
  obtain⟨o',es',ep',ho',r'⟩:=hm
  rw[ho] at ho';cases ho'
  exact⟨_,es',ep',hL,r'⟩) hok I.bare
theorem Inv.call{g':Array GenState}{t':Nat}{d':Drawn}{ch:List Addr}(I:Inv X pins σ H s)(u:Un (frs X.stack) ch H H' s.heap h')(hok:HOk X.prog X.w H' h')(hg:AllBare g')
  (hch:∀b∈ch,(b∈X.ex∨X.s₀.heap.objs.size≤b)∧b≠X.env.locals∧(∀x c,X.env.cells.lookup x=some c→c≠b)∧∀p∈X.pn++pins,p.1≠b):
  Inv X pins σ H' {s with heap:=h',gens:=g',drawn:=d',toks:=t'}:=by
 obtain⟨m,⟨o,es,ep,ho,r⟩,_⟩:=id I.loc
 obtain⟨sl,hL⟩:=u.any ho I.free fun z=>(hch _ z).2.1 rfl
 exact I.step (ch:=ch) hch (fun b o hL hb hc e n=>u.keep b o e n (fun z=>(Nc.mp (I.stkSub b z)).elim hL hb) hc) (fun b o _ _ hc e n=>u.any e n hc) (fun b o hc e n=>u.free b o e n hc) (fun b o hc e=>u.there b o e hc) u.tups u.frzs u.tbls (fun m' hm=>by
  obtain⟨o',es',ep',ho',r'⟩:=hm
  rw[ho] at ho';cases ho'
  exact⟨_,es',ep',hL,r'⟩) hok hg
theorem Inv.turned{t':Nat}{it:Addr}(I:Inv X pins σ H s)(k:∀b o,b≠it→s.heap.get? b=some o→h'.get? b=some o)(hn:H it=none)(hL:it≠X.env.locals)
  (h1:it∈X.ex∨X.s₀.heap.objs.size≤it) (h2:∀x c,X.env.cells.lookup x=some c→c≠it) (h3:∀p∈X.pn++pins,p.1≠it):Inv X pins σ H {s with heap:=h',toks:=t'}:=by
 have nit:∀b u,H b=some u→b≠it:=fun b u e z=>by rw[z,hn] at e;cases e
 refine I.step (g':=s.gens) (d':=s.drawn) (ch:=[it]) (fun b hb=>?_) (fun b o _ _ hc e _=>k b o (fun z=>hc (by simp[z])) e) (fun b o _ _ hc e _=>⟨o.slots,k b o (fun z=>hc (by simp[z])) e⟩) (fun _ _ _ _ n=>n)
  (fun b o hc e=>⟨o,k b o (fun z=>hc (by simp[z])) e⟩) (fun _ _ e=>e) (fun _ _ _ e=>e) (fun b ps e=>⟨#[],by rw[e];simp⟩) (fun m hm=>?_) (fun b u e=>?_) I.bare
 ·have e:b=it:=by simpa using hb
  subst e
  exact⟨h1,hL,h2,h3⟩
 ·obtain⟨o,es,ep,ho,r⟩:=hm
  exact⟨o,es,ep,k _ o (Ne.symm hL) ho,r⟩
 ·refine(I.hok b u e).stay (fun c v hc q=>k c v ?_ q) (fun _ q=>q) fun _ _ q=>q
  rcases hc with z|z
  ·rw[z];exact nit b u e
  ·exact nit c _ z
theorem Inv.tok(I:Inv X pins σ H s)(t:Nat):Inv X pins σ H {s with toks:=t}:=I.un (h':=s.heap) (t':=t) Un.refl I.hok
theorem Inv.kept{t':Nat}(I:Inv X pins σ H s)(k:∀b u,s.heap.get? b=some u→h'.get? b=some u):Inv X pins σ H {s with heap:=h',toks:=t'}:=I.un (Un.kept k) (I.hok.kept k)
theorem Inv.laid{a:Addr}{o:HO}{t':Nat}(I:Inv X pins σ H s)(k:∀b u,s.heap.get? b=some u→h'.get? b=some u)(hp:s.heap.objs.size≤a)(new:ObjOk X.prog X.w (upd H a o) h' a o):
  Inv X pins σ (upd H a o) {s with heap:=h',toks:=t'}:=I.un (Un.laid k hp (I.hok.fresh hp)) (I.hok.laid k hp new)
theorem Inv.write{x e:Addr}{o:HO}{t':Nat}(I:Inv X pins σ H s)(mu:Mut (H x))(he:e=x∨H e=some (.own x))(k:∀b u,b≠e→s.heap.get? b=some u→h'.get? b=some u)(heo:∃u,h'.get? e=some u)
  (new:ObjOk X.prog X.w (upd H x o) h' x o):Inv X pins σ (upd H x o) {s with heap:=h',toks:=t'}:=I.un (Un.write mu he k heo) (I.hok.write mu he k heo new)
theorem Inv.pins_of{pins':List (Addr×Obj)}(I:Inv X pins σ H s)(h:∀p∈pins',s.heap.get? p.1=some p.2∧H p.1=none∧p.1≠X.env.locals∧p.1∉X.fs∧∀v,p.2.data≠.cell v):Inv X pins' σ H s:=
 ⟨I.ok,I.os,I.bare,I.base,I.loc,I.cell,I.free,I.freeC,fun p hp=>(Nk.mp hp).elim (fun z=>I.pin p (MU _ z)) (h p),I.hok,I.len⟩
theorem kiF{N:List Str}(hN:N.Nodup){i j:Nat}{x:Str}(a:N[i]?=some x)(b:N[j]?=some x):i=j:=by
 obtain⟨h1,e1⟩:=JX.mp a
 obtain⟨h2,e2⟩:=JX.mp b
 exact(Er hN).mp (e1.trans e2.symm)
theorem kjw{M:Model}{A:Around}{E:Value→Shared→Prop}{i:Nat}{x:Str}{v:V}{u:Value}{Q:Unit→Shared→Prop}(I:Inv X pins σ H s)(hN:X.N.Nodup)(hi:X.N[i]?=some x)(hx:Loc X.env.scope x)(r:RelV v u)
  (h:∀s',Inv X pins (σ.set i (some v)) H s'→(∃a,Heap.SameBut a s.heap s'.heap∧(a=X.env.locals∨X.env.cells.lookup x=some a))→Q () s') (hf:X.fn x=true∨X.env.scope.names.lookup x=some .local:=by first|exact .inl rfl|exact .inr rfl|assumption):wpAny M A (storeName X.env x u) Q E s:=by
 obtain⟨m,hn,hl⟩:=id I.loc
 have hcls:(X.env.scope.kind== .class||(X.env.scope.kind== .module&&X.env.locals !=X.env.globals))=false:=by rw[I.ok.kind];rfl
 have hiσ:i< σ.length:=by rw[I.len];exact(JX.mp hi).1
 have cne:=I.cne
 have tracked:∀{a:Addr}{h':Heap},(∃o,s.heap.get? a=some o∧H a=none)→Heap.SameBut a s.heap h'→HOk X.prog X.w H h':=fun {a h'} ha hs b ob e=>by
  obtain⟨_,_,hfree⟩:=ha
  refine(I.hok b ob e).stay (fun c w' hc q=>(hs.2 c ?_).trans q) (fun _ q=>q) fun _ _ q=>q
  rintro rfl
  rcases hc with rfl|hc
  ·rw[hfree] at e;cases e
  ·rw[hfree] at hc;cases hc
 rcases hx with hk|hk
 ·refine wpAny_storeName_local hk hn (fun h' hn' hs=>?_) hcls
  obtain⟨oL,_,_,hoL,_⟩:=id hn
  refine h _ ⟨I.ok,I.os,I.bare,⟨fun b o e n hb hx=>?_,fun b o e n hb hx=>?_,I.base.free,fun b o e hx=>?_,I.base.tups,I.base.frzs,I.base.tbls⟩,⟨_,hn',fun j y v' e1 e2 e3=>?_⟩,fun y c e=>?_,I.free,I.freeC,fun p hp=>?_,tracked ⟨oL,hoL,I.free⟩ hs,by simpa using I.len⟩ ⟨_,hs, .inl rfl⟩
  ·exact(hs.2 b (Nj (Ng (Heap.lt_size e) I.ok.above))).trans (I.base.keep b o e n hb hx)
  ·obtain⟨sl,e1⟩:=I.base.slot b o e n hb hx
   exact⟨sl,(hs.2 b (Nj (Ng (Heap.lt_size e) I.ok.above))).trans e1⟩
  ·obtain⟨o',e1⟩:=I.base.there b o e hx
   exact⟨o',(hs.2 b (Nj (Ng (Heap.lt_size e) I.ok.above))).trans e1⟩
  ·by_cases hj:j=i
   ·subst hj
    rw[hi] at e1;cases e1
    rw[MG hiσ] at e2
    cases e2
    exact⟨u,r, .inl ⟨hk,by simp⟩⟩
   ·rw[MV (Ne.symm hj)] at e2
    obtain⟨u',r',q⟩:=hl j y v' e1 e2 e3
    refine⟨u',r',?_⟩
    rcases q with⟨k,e⟩|⟨k,c,e,z⟩
    ·refine .inl ⟨k,?_⟩
     have:y≠x:=fun e=>hj (kiF hN e1 (e▸hi))
     simp[this,e]
    ·exact .inr ⟨k,c,e,z.sameBut hs (cne y c e)⟩
  ·obtain⟨w',z⟩:=I.cell y c e
   exact⟨w',z.sameBut hs (cne y c e)⟩
  ·obtain⟨e,n,ne,nf,d⟩:=I.pin p hp
   exact⟨(hs.2 p.1 ne).trans e,n,ne,nf,d⟩
 ·have hfn:X.fn x=true:=by
   rcases hf with z|z
   ·exact z
   ·rw[z] at hk;cases hk
  obtain⟨c,hc⟩:=I.ok.has x (.inl hk)
  obtain⟨w',z⟩:=I.cell x c hc
  refine wpAny_storeName_cell I.ok.kind hk hc z (fun h' hc' hs=>?_)
  obtain⟨oc,hoc,hocd⟩:=id z
  refine h {s with heap:=h'} ⟨I.ok,I.os,I.bare,⟨fun b o e n hb hx=>?_,fun b o e n hb hx=>?_,I.base.free,fun b o e hx=>?_,I.base.tups,I.base.frzs,I.base.tbls⟩,⟨m,hn.sameBut hs (Ne.symm (cne x c hc)),fun j y v' e1 e2 e3=>?_⟩,fun y c' e=>?_,I.free,I.freeC,fun p hp=>?_,tracked ⟨oc,hoc,I.freeC x c hc⟩ hs,by simpa using I.len⟩ ⟨c,hs, .inr hc⟩
  ·exact(hs.2 b (Nj (Ng (Heap.lt_size e) (I.ok.cab x c hfn hc)))).trans (I.base.keep b o e n hb hx)
  ·obtain⟨sl,e1⟩:=I.base.slot b o e n hb hx
   exact⟨sl,(hs.2 b (Nj (Ng (Heap.lt_size e) (I.ok.cab x c hfn hc)))).trans e1⟩
  ·obtain⟨o',e1⟩:=I.base.there b o e hx
   exact⟨o',(hs.2 b (Nj (Ng (Heap.lt_size e) (I.ok.cab x c hfn hc)))).trans e1⟩
  ·by_cases hj:j=i
   ·subst hj
    rw[hi] at e1;cases e1
    rw[MG hiσ] at e2
    cases e2
    exact⟨u,r, .inr ⟨.inl hk,c,hc,hc'⟩⟩
   ·rw[MV (Ne.symm hj)] at e2
    obtain⟨u',r',q⟩:=hl j y v' e1 e2 e3
    refine⟨u',r',?_⟩
    rcases q with q|⟨k,c',e,z'⟩
    ·exact .inl q
    ·refine .inr ⟨k,c',e,z'.sameBut hs ?_⟩
     rintro rfl
     exact hj (kiF hN e1 (I.ok.inj _ _ _ e hc▸hi))
  ·by_cases hcc:c'=c
   ·subst hcc;exact⟨_,hc'⟩
   ·obtain⟨w2,z2⟩:=I.cell y c' e
    exact⟨w2,z2.sameBut hs hcc⟩
  ·obtain⟨e,n,ne,nf,d⟩:=I.pin p hp
   refine⟨(hs.2 p.1 ?_).trans e,n,ne,nf,d⟩
   intro q
   rw[q,hoc] at e
   have q':oc=p.2:=Option.some.inj e
   exact d w' (by rw[←q'];exact hocd)
theorem kfU{M:Model}{A:Around}{E:Value→Shared→Prop}{i:Nat}{x:Str}{v:V}{u:Value}{Q:Unit→Shared→Prop}(I:Inv X pins σ H s)(hN:X.N.Nodup)(hi:X.N[i]?=some x)(hx:Loc X.env.scope x)(r:RelV v u)
  (h:∀s',Inv X pins (σ.set i (some v)) H s'→Q () s') (hf:X.fn x=true∨X.env.scope.names.lookup x=some .local:=by first|exact .inl rfl|exact .inr rfl|assumption):wpAny M A (storeName X.env x u) Q E s:=
 kjw I hN hi hx r (fun s' I' _=>h s' I') hf
theorem Inv.call'{s':Shared}{ch:List Addr}(I:Inv X pins σ H s)(ho:s'.os=s.os)(u:Un (frs X.stack) ch H H' s.heap s'.heap)(hok:HOk X.prog X.w H' s'.heap)(hg:AllBare s'.gens)
  (hch:∀b∈ch,(b∈X.ex∨X.s₀.heap.objs.size≤b)∧b≠X.env.locals∧(∀x c,X.env.cells.lookup x=some c→c≠b)∧∀p∈X.pn++pins,p.1≠b):Inv X pins σ H' s':=by
 obtain⟨h',g',d',t',o'⟩:=s'
 have e:o'=s.os:=ho
 subst e
 exact I.call (g':=g') (t':=t') (d':=d') u hok hg hch
end
abbrev XK:=Value→Option Addr→Hp→Prop
abbrev St:=List (Option V)
abbrev VK:=V→Hp→Prop
abbrev TE:=St→Hp→VK→Prop
abbrev TT:=St→Hp→(Bool→Hp→Prop)→Prop
abbrev TA:=St→Hp→(List V→Hp→Prop)→Prop
structure Ends where
 nx:St→Hp→Prop
 rt:VK
 bk:St→Hp→Prop:=fun _ _=>False
 ct:St→Hp→Prop:=fun _ _=>False
abbrev TS:=Ends→St→Hp→Prop
def EP(X:Cx)(pins:List (Addr×Obj))(σ:St)(Q:VK)(u:Value)(s':Shared):Prop:=∃v H',Inv X pins σ H' s'∧RelV v u∧Q v H'
def TP(X:Cx)(pins:List (Addr×Obj))(σ:St)(Q:Bool→Hp→Prop)(b:Bool)(s':Shared):Prop:=∃H',Inv X pins σ H' s'∧Q b H'
def AP(X:Cx)(pins:List (Addr×Obj))(σ:St)(Q:List V→Hp→Prop)(us:List Value)(s':Shared):Prop:=∃vs H',Inv X pins σ H' s'∧Vals vs us∧Q vs H'
def SP(X:Cx)(pins:List (Addr×Obj))(D:Ends)(f:Flow)(s':Shared):Prop:=
 match f with
 | .next=>∃σ' H',Inv X pins σ' H' s'∧D.nx σ' H'
 | .brk=>∃σ' H',Inv X pins σ' H' s'∧D.bk σ' H'
 | .cont=>∃σ' H',Inv X pins σ' H' s'∧D.ct σ' H'
 | .ret u=>∃v σ' H',Inv X pins σ' H' s'∧RelV v u∧D.rt v H'
def PE(X:Cx)(e:Expr)(t:TE):Prop:=
 ∀(pins:List (Addr×Obj))(s:Shared)(σ:St)(H:Hp)(Q:VK),Inv X pins σ H s→t σ H Q→wpAny (model X.prog X.w) X.A (eval e X.env) (EP X pins σ Q) X.xe s
def PT(X:Cx)(e:Expr)(t:TT):Prop:=
 ∀(pins:List (Addr×Obj))(s:Shared)(σ:St)(H:Hp)(Q:Bool→Hp→Prop),Inv X pins σ H s→t σ H Q→wpAny (model X.prog X.w) X.A (isTrue e X.env (eval e X.env)) (TP X pins σ Q) X.xe s
def PW(X:Cx)(e:Expr)(t:TT):Prop:=
 ∀(whole:Sem Value)(pins:List (Addr×Obj))(s:Shared)(σ:St)(H:Hp)(Q:Bool→Hp→Prop),Inv X pins σ H s→t σ H Q→wpAny (model X.prog X.w) X.A (isTrue e X.env whole) (TP X pins σ Q) X.xe s
def PW.pt{X:Cx}{e:Expr}{t:TT}(h:PW X e t):PT X e t:=h _
def PA(X:Cx)(es:List Expr)(t:TA):Prop:=
 ∀(pos:Pos)(pins:List (Addr×Obj))(s:Shared)(σ:St)(H:Hp)(Q:List V→Hp→Prop),Inv X pins σ H s→t σ H Q→wpAny (model X.prog X.w) X.A (spliced (backTo pos (starEach es X.env))) (AP X pins σ Q) X.xe s
def PS(X:Cx)(st:Stmt)(t:TS):Prop:=
 ∀(pins:List (Addr×Obj))(s:Shared)(σ:St)(H:Hp)(D:Ends),Inv X pins σ H s→t D σ H→wpAny (model X.prog X.w) X.A (exec st X.env) (SP X pins D) X.xe s
def PSs(X:Cx)(st:List Stmt)(t:TS):Prop:=
 ∀(pins:List (Addr×Obj))(s:Shared)(σ:St)(H:Hp)(D:Ends),Inv X pins σ H s→t D σ H→wpAny (model X.prog X.w) X.A (execs st X.env) (SP X pins D) X.xe s
def thn{α:Type}{t:Sem α}{Q Q': α→Shared→Prop}{M:Model}{A:Around}{E:Value→Shared→Prop}{s:Shared}(h:wpAny M A t Q E s)(hQ:∀a s,Q a s→Q' a s):wpAny M A t Q' E s:=wpAny_mono h hQ fun _ _ x=>x
end L2
namespace L2
open PySem PySem.Spec PyProof.Rows
section
variable {X:Cx}
def tVar(i:Nat):TE:=fun σ H Q=>∃v,σ[i]?=some (some v)∧Q v H
def tC(v:V):TE:=fun _ H Q=>Q v H
theorem knt{i:Nat}{x:Str}{pos:Pos}(hN:X.N[i]?=some x)(hv:Vis X.env.scope x)(hd:(x==("__debug__" :Str))=false:=by decide)(hcd:(x==("__classdict__" :Str))=false:=by decide):PE X (.Name x pos) (tVar i):=by
 intro pins s σ H Q I h
 obtain⟨v,e,h⟩:=h
 obtain⟨m,hn,hl⟩:=I.loc
 obtain⟨u,r,l⟩:=hl i x v hN e hv
 have fin:EP X pins σ Q u s:=⟨v,H,I,r,h⟩
 rcases l with⟨hk,hm⟩|⟨hk,c,hc,hcell⟩
 ·exact wpAny_Name (wpAny_loadName_local I.ok.kind hk hn hm fin) hd
 ·rcases hk with hk|hk
  ·exact wpAny_Name (wpAny_loadName_cell I.ok.kind hk hc hcell fin) hd
  ·exact wpAny_Name (wpAny_loadName_free I.ok.kind hk hc hcell fin hcd) hd
theorem kaf{i j pos}:PE X (.Constant (.int i) j pos) (tC (.int i)):=fun _ _ _ H _ I h=>wpAny_Constant_int ⟨.int i,H,I.tok _,⟨_,rfl⟩,h⟩
theorem pe_bl{b j pos}:PE X (.Constant (.bool b) j pos) (tC (.bl b)):=fun _ _ _ H _ I h=>Constant_bool ⟨.bl b,H,I,rfl,h⟩
theorem kby{j pos}:PE X (.Constant .none j pos) (tC .non):=fun _ _ _ H _ I h=>Constant_none ⟨.non,H,I,rfl,h⟩
theorem kbM{x j pos}:PE X (.Constant (.str x) j pos) (tC (.str x)):=fun _ _ _ H _ I h=>Calls.Constant_str ⟨.str x,H,I.tok _,⟨_,rfl⟩,h⟩
def Gl(X:Cx)(x:Str):Prop:=X.env.kindOf x=some .globalImplicit
theorem kgg{E:Value→Shared→Prop}{pins:List (Addr×Obj)}{s:Shared}{σ:St}{H:Hp}{x:Str}{u:Value}{pos:Pos}{Q:Value→Shared→Prop}(I:Inv X pins σ H s)(hg:Gl X x)(hm:X.mg x=some u)(h:Q u s)
  (hd:(x==("__debug__" :Str))=false:=by decide):wpAny (model X.prog X.w) X.A (eval (.Name x pos) X.env) Q E s:=
 Calls.Name_function_global I.ok.kind hg (Calls.loadGlobal_global (by rw[I.ok.glob];exact I.mod.glob.keeps I.bk) hm h) hd
theorem kdF{E:Value→Shared→Prop}{pins:List (Addr×Obj)}{s:Shared}{σ:St}{H:Hp}{x:Str}{u:Value}{pos:Pos}{Q:Value→Shared→Prop}(I:Inv X pins σ H s)(hg:Gl X x)(hm:X.mg x=none)(hv:bootBuiltins x=some u)(h:Q u s)
  (hn:x≠"__name__":=by decide) (hd:(x==("__debug__" :Str))=false:=by decide):wpAny (model X.prog X.w) X.A (eval (.Name x pos) X.env) Q E s:=by
 obtain⟨mb,h1,h2⟩:=I.mod.blt
 exact Calls.Name_function_global I.ok.kind hg (Calls.loadGlobal_builtin (by rw[I.ok.glob];exact I.mod.glob.keeps I.bk) hm (by rw[I.ok.blt];exact h1.keeps I.bk) ((h2 x hn).trans hv) h) hd
theorem kcv{x:Str}{v:V}{u:Value}{pos:Pos}(hg:Gl X x)(hm:X.mg x=some u)(r:RelV v u)(hd:(x==("__debug__" :Str))=false:=by decide):PE X (.Name x pos) (tC v):=
 fun _ _ _ H _ I h=>kgg I hg hm ⟨v,H,I,r,h⟩ hd
variable {a b:Expr} {ta tb:TE} {pos:Pos}
def PC(X:Cx)(op:CmpOp)(a b:Expr)(t:TE):Prop:=
 ∀(pins:List (Addr×Obj))(s:Shared)(σ:St)(H:Hp)(Q:VK),Inv X pins σ H s→t σ H Q→
  wpAny (model X.prog X.w) X.A (eval a X.env) (fun v s₁=>wpAny (model X.prog X.w) X.A (eval b X.env) (fun u s₂=>wpAny (model X.prog X.w) X.A (compareOp op v u) (EP X pins σ Q) X.xe s₂) X.xe s₁) X.xe s
theorem klB(b:Expr){op:CmpOp}(h:op≠.In)(h2:op≠.NotIn):behindInMarks op b=false:=by
 have e1:(op==CmpOp.In)=false:=by cases op <;> first|rfl|exact absurd rfl h
 have e2:(op==CmpOp.NotIn)=false:=by cases op <;> first|rfl|exact absurd rfl h2
 cases b <;> simp[behindInMarks,e1,e2]
def tB(t:TE):TT:=fun σ H Q=>t σ H fun x H1=>∃c,x=.bl c∧Q c H1
theorem kl9{op:CmpOp}{t:TE}(h:PC X op a b t)(h1:behindInMarks op b=false:=by first|exact klB _ (by decide) (by decide)|rfl):PT X (.Compare a [op] [b] pos) (tB t):=by
 intro pins s σ H Q I hw
 refine wpAny_isTrue_Compare1 (thn (h pins s σ H _ I hw) fun v s1 h1=>thn h1 fun u s2 h2=>thn h2 fun c s3 ⟨x,H1,I1,r1,q1⟩=>?_) h1
 obtain⟨d,rfl,q⟩:=q1
 cases r1
 exact wpAny_truthy_bool ⟨H1,I1,q⟩
theorem ka0{e:Expr}{t:TE}(h:PE X e t)(he:∀whole,isTrue e X.env whole=(do let v ←whole;standAt e.pos;holding [v] (truthy v)):=by intro _;rfl):PT X e (tB t):=by
 intro pins s σ H Q I hw
 refine isTrue_plain (thn (h pins s σ H _ I hw) fun v s1 ⟨x,H1,I1,r1,q1⟩=>?_) (he _)
 obtain⟨d,rfl,q⟩:=q1
 cases r1
 exact wpAny_truthy_bool ⟨H1,I1,q⟩
variable {tA tB':TT} {rest:List Expr}
def tAnd(t u:TT):TT:=fun σ H Q=>t σ H fun c H1=>if c=true then u σ H1 Q else Q false H1
def tOr(t u:TT):TT:=fun σ H Q=>t σ H fun c H1=>if c=true then Q true H1 else u σ H1 Q
def tNot(t:TT):TT:=fun σ H Q=>t σ H fun c H1=>Q (!c) H1
theorem kaV(ha:PT X a tA):PW X (.BoolOp .And [a] pos) tA:=by
 intro wh pins s σ H Q I h
 refine isTrue_and (thn (ha pins s σ H Q I h) fun c s1 e=>?_)
 cases c with
 |true=>exact isTrue_and_nil e
 |false=>exact e
theorem kj4(ha:PT X a tA):PW X (.BoolOp .Or [a] pos) tA:=by
 intro wh pins s σ H Q I h
 refine isTrue_or (thn (ha pins s σ H Q I h) fun c s1 e=>?_)
 cases c with
 |false=>exact isTrue_or_nil e
 |true=>exact e
theorem ka7(ha:PT X a tA)(hb:PW X (.BoolOp .And (b::rest) pos) tB'):PW X (.BoolOp .And (a::b::rest) pos) (tAnd tA tB'):=by
 intro wh pins s σ H Q I h
 refine isTrue_and (thn (ha pins s σ H _ I h) fun c s1 ⟨H1,I1,q1⟩=>?_)
 cases c with
 |true=>exact hb wh pins s1 σ H1 Q I1 q1
 |false=>exact⟨H1,I1,q1⟩
theorem pw_or(ha:PT X a tA)(hb:PW X (.BoolOp .Or (b::rest) pos) tB'):PW X (.BoolOp .Or (a::b::rest) pos) (tOr tA tB'):=by
 intro wh pins s σ H Q I h
 refine isTrue_or (thn (ha pins s σ H _ I h) fun c s1 ⟨H1,I1,q1⟩=>?_)
 cases c with
 |true=>exact⟨H1,I1,q1⟩
 |false=>exact hb wh pins s1 σ H1 Q I1 q1
theorem kix(ha:PT X a tA):PT X (.UnaryOp .Not a pos) (tNot tA):=by
 intro pins s σ H Q I h
 exact isTrue_not (ha pins s σ H (fun c H1=>Q (!c) H1) I h)
def tAndV(ta tb:TE):TE:=fun σ H Q=>ta σ H fun x H1=>∃c,x=.bl c∧if c=true then tb σ H1 Q else Q (.bl false) H1
def tOrV(ta tb:TE):TE:=fun σ H Q=>ta σ H fun x H1=>∃c,x=.bl c∧if c=true then Q (.bl true) H1 else tb σ H1 Q
theorem kmc{op}{t:TE}(h:PE X a t):PE X (.BoolOp op [a] pos) t:=fun pins s σ H Q I hw=>BoolOp_one (h pins s σ H Q I hw)
theorem knv(ha:PE X a ta)(hb:PE X (.BoolOp .And (b::rest) pos) tb):PE X (.BoolOp .And (a::b::rest) pos) (tAndV ta tb):=by
 intro pins s σ H Q I h
 refine BoolOp_and (thn (ha pins s σ H _ I h) fun v s1 ⟨x,H1,I1,r1,q1⟩=>?_)
 obtain⟨c,rfl,q1⟩:=q1
 cases r1
 refine wpAny_truthy_bool ?_
 cases c with
 |true=>exact hb pins s1 σ H1 Q I1 q1
 |false=>exact⟨.bl false,H1,I1,rfl,q1⟩
theorem pe_or(ha:PE X a ta)(hb:PE X (.BoolOp .Or (b::rest) pos) tb):PE X (.BoolOp .Or (a::b::rest) pos) (tOrV ta tb):=by
 intro pins s σ H Q I h
 refine BoolOp_or (thn (ha pins s σ H _ I h) fun v s1 ⟨x,H1,I1,r1,q1⟩=>?_)
 obtain⟨c,rfl,q1⟩:=q1
 cases r1
 refine wpAny_truthy_bool ?_
 cases c with
 |false=>exact hb pins s1 σ H1 Q I1 q1
 |true=>exact⟨.bl true,H1,I1,rfl,q1⟩
def tIf(t:TT)(ta tb:TE):TE:=fun σ H Q=>t σ H fun c H1=>if c=true then ta σ H1 Q else tb σ H1 Q
theorem keu{c:Expr}(hc:PT X c tA)(ha:PE X a ta)(hb:PE X b tb):PE X (.IfExp c a b pos) (tIf tA ta tb):=by
 intro pins s σ H Q I h
 refine wpAny_IfExp (thn (hc pins s σ H _ I h) fun d s1 ⟨H1,I1,q1⟩=>?_)
 cases d with
 |true=>exact ha pins s1 σ H1 Q I1 q1
 |false=>exact hb pins s1 σ H1 Q I1 q1
end
end L2
namespace L2
open PySem PySem.Spec PyProof.Rows
def SqL(K:JL)(H:Hp)(a:Addr)(xs:List V):Prop:=
 Rd H a (.lst xs)∨
  ∃(o:Obj)(its:Array Value)(n:Nat),K.lookup a=some o∧o.cls=.type "list"∧o.dict=none∧o.data=.seq its n∧its.size≤sizeLine∧Vals xs its.toList
def SqT(K:JL)(H:Hp)(a:Addr)(xs:List V):Prop:=
 Rd H a (.tup xs)∨
  ∃(o:Obj)(its:Array Value)(n:Nat),K.lookup a=some o∧o.cls=.type "tuple"∧o.data=.seq its n∧its.size≤sizeLine∧Vals xs its.toList
def absV:Value→Option V
 | .none=>some .non
 | .bool b=>some (.bl b)
 | .int i _=>some (.int i)
 | .str x _=>some (.str x)
 | .bytes b _=>some (.byt b)
 | .float b _=>some (.flt b)
 | .ref a=>some (.ref a)
 | .type n=>some (.ty n)
 |_=>none
theorem RelV.abs{x:V}{u:Value}(r:RelV x u):absV u=some x:=by
 cases x with
 |non=>cases r;rfl
 |bl _=>cases r;rfl
 |int _=>obtain⟨t,rfl⟩:=r;rfl
 |str _=>obtain⟨t,rfl⟩:=r;rfl
 |byt _=>obtain⟨t,rfl⟩:=r;rfl
 |flt _=>obtain⟨t,rfl⟩:=r;rfl
 |ref _=>cases r;rfl
 |ty _=>cases r;rfl
def RelV.inj{x y:V}{u:Value}(r:RelV x u)(q:RelV y u):x=y:=Option.some.inj (r.abs.symm.trans q.abs)
theorem Vals.inj:∀{xs ys:List V}{us:List Value},Vals xs us→Vals ys us→xs=ys
 |_,_,_, .nil, .nil=>rfl
 |_,_,_, .cons r t, .cons r' t'=>by rw[r.inj r',Vals.inj t t']
section
variable {X:Cx} {pins:List (Addr×Obj)} {σ:St} {H:Hp} {s:Shared} {a:Addr} {xs ys:List V}
theorem SqL.of{K:JL}(h:H a=some (.lst xs)):SqL K H a xs:=.inl (.inl h)
theorem SqT.of{K:JL}(h:H a=some (.tup xs)):SqT K H a xs:=.inl (.inl h)
theorem Inv.list(I:Inv X pins σ H s)(h:SqL X.K H a xs):∃its:List Value,Vals xs its∧PlainL s.heap a its.toArray∧xs.length≤sizeLine:=by
 rcases h with h|⟨o,its,n,hk,hc,hd,hs,hz,r⟩
 ·obtain⟨z,its,n,r,e⟩:=h.ok I.hok
  exact⟨its,r,⟨_,n,e,rfl,rfl,rfl⟩,z⟩
 ·refine⟨its.toList,r,⟨o,n,I.kIn a o hk,hc,hd,by simpa using hs⟩,?_⟩
  have e:=r.length
  simp only[My] at e
  omega
theorem Inv.tuple(I:Inv X pins σ H s)(h:SqT X.K H a xs):∃its:List Value,Vals xs its∧IsTup s.heap a its.toArray∧xs.length≤sizeLine:=by
 rcases h with h|⟨o,its,n,hk,hc,hs,hz,r⟩
 ·obtain⟨z,its,r,p⟩:=h.ok I.hok
  exact⟨its,r,p,z⟩
 ·refine⟨its.toList,r,⟨o,I.kIn a o hk,hc,n,by simpa using hs⟩,?_⟩
  have e:=r.length
  simp only[My] at e
  omega
theorem Inv.list_inj(I:Inv X pins σ H s)(h:SqL X.K H a xs)(h':SqL X.K H a ys):xs=ys:=by
 obtain⟨its,r,⟨o,n,e,_,_,d⟩,_⟩:=I.list h
 obtain⟨its',r',⟨o',n',e',_,_,d'⟩,_⟩:=I.list h'
 rw[e] at e';cases e'
 rw[d] at d'
 injection d' with d1 _
 have:its=its':=by simpa using congrArg Array.toList d1
 subst this
 exact r.inj r'
end
abbrev Cx.wish(X:Cx)(E:Value→Shared→Prop):Cx:={X with xe:=E}
abbrev Cx.nox(X:Cx):Cx:=X.wish fun _ _=>False
def Cx.Ok.wish{X:Cx}(ok:X.Ok)(E:Value→Shared→Prop):(X.wish E).Ok:=
 ⟨ok.mod,ok.kind,ok.glob,ok.blt,ok.above,ok.inj,ok.has,ok.cab,ok.hd,ok.frames,ok.stk,ok.exf,ok.bs,ok.bsz,ok.noex,ok.exfs,ok.funs,ok.frf⟩
def Cx.Ok.unwish{X:Cx}{E:Value→Shared→Prop}(ok:(X.wish E).Ok):X.Ok:=
 ⟨ok.mod,ok.kind,ok.glob,ok.blt,ok.above,ok.inj,ok.has,ok.cab,ok.hd,ok.frames,ok.stk,ok.exf,ok.bs,ok.bsz,ok.noex,ok.exfs,ok.funs,ok.frf⟩
section
variable {X:Cx} {pins:List (Addr×Obj)} {σ:St} {H:Hp} {s:Shared} {E:Value→Shared→Prop}
theorem Inv.wish(I:Inv X pins σ H s)(E:Value→Shared→Prop):Inv (X.wish E) pins σ H s:=⟨I.ok.wish E,I.os,I.bare,I.base,I.loc,I.cell,I.free,I.freeC,I.pin,I.hok,I.len⟩
theorem Inv.unwish(I:Inv (X.wish E) pins σ H s):Inv X pins σ H s:=⟨I.ok.unwish,I.os,I.bare,I.base,I.loc,I.cell,I.free,I.freeC,I.pin,I.hok,I.len⟩
theorem SP.unwish{D:Ends}{f:Flow}{s':Shared}(h:SP (X.wish E) pins D f s'):SP X pins D f s':=by
 cases f with
 |next=>obtain⟨σ',H',I,q⟩:=h;exact⟨σ',H',I.unwish,q⟩
 |brk=>obtain⟨σ',H',I,q⟩:=h;exact⟨σ',H',I.unwish,q⟩
 |cont=>obtain⟨σ',H',I,q⟩:=h;exact⟨σ',H',I.unwish,q⟩
 |ret u=>obtain⟨v,σ',H',I,r,q⟩:=h;exact⟨v,σ',H',I.unwish,r,q⟩
theorem PSs.nox{st:List Stmt}{t:TS}(h:PSs X.nox st t):PSs X st t:=fun pins s σ H D I hw=>
 wpAny_mono (h pins s σ H D (I.wish _) hw) (fun _ _ q=>q.unwish) fun _ _ z=>False.elim z
end
section
variable {X:Cx} {st:Stmt} {rest:List Stmt} {t u:TS} {e:Expr} {te:TE} {pos:Pos}
def tNext:TS:=fun D σ H=>D.nx σ H
def tSeq(t u:TS):TS:=fun D σ H=>t {D with nx:=u D} σ H
theorem kap:PSs X [] tNext:=fun _ _ σ H _ I h=>wpAny_execs_nil ⟨σ,H,I,h⟩
theorem kab(h1:PS X st t)(h2:PSs X rest u):PSs X (st::rest) (tSeq t u):=by
 intro pins s σ H D I h
 refine wpAny_execs_cons (thn (h1 pins s σ H {D with nx:=u D} I h) fun f s1 q=>?_)
 cases f with
 |next=>
  obtain⟨σ',H',I',q⟩:=q
  exact h2 pins s1 σ' H' D I' q
 |ret v=>exact q
 |brk=>exact q
 |cont=>exact q
theorem kag(h1:PS X st t):PSs X [st] t:=by
 intro pins s σ H D I h
 refine wpAny_execs_cons (thn (h1 pins s σ H D I h) fun f s1 q=>?_)
 cases f with
 |next=>exact wpAny_execs_nil q
 |ret v=>exact q
 |brk=>exact q
 |cont=>exact q
theorem Inv.quiet{pins:List (Addr×Obj)}{σ:St}{H:Hp}{s:Shared}(I:Inv X pins σ H s):interactive X.env=false:=by simp[interactive,I.ok.kind]
def tDrop(te:TE):TS:=fun D σ H=>te σ H fun _ H1=>D.nx σ H1
theorem ka1(he:PE X e te)(hs:swapsWith e none pos.line X.env=pure false:=by rfl):PS X (.Expr e pos) (tDrop te):=by
 intro pins s σ H D I h
 exact wpAny_Expr_any (thn (he pins s σ H _ I h) fun v s1 ⟨x,H1,I1,r1,q1⟩=>⟨σ,H1,I1,q1⟩) I.quiet hs
def tRet(te:TE):TS:=fun D σ H=>te σ H D.rt
theorem kao(he:PE X e te):PS X (.Return (some e) pos) (tRet te):=by
 intro pins s σ H D I h
 exact wpAny_Return_some (thn (he pins s σ H _ I h) fun v s1 ⟨x,H1,I1,r1,q1⟩=>⟨x,σ,H1,I1,r1,q1⟩)
def tIfS(c:TT)(t u:TS):TS:=fun D σ H=>c σ H fun b H1=>if b=true then t D σ H1 else u D σ H1
theorem ps_if{c:Expr}{a b:List Stmt}{tc:TT}(hc:PT X c tc)(ha:PSs X a t)(hb:PSs X b u):PS X (.If c a b pos) (tIfS tc t u):=by
 intro pins s σ H D I h
 refine wpAny_If (thn (hc pins s σ H _ I h) fun d s1 ⟨H1,I1,q1⟩=>?_)
 cases d with
 |true=>exact ha pins s1 σ H1 D I1 q1
 |false=>exact hb pins s1 σ H1 D I1 q1
end
abbrev TG:=V→St→Hp→(St→Hp→Prop)→Prop
abbrev TGs:=List V→St→Hp→(St→Hp→Prop)→Prop
def PG(X:Cx)(target:Expr)(t:TG):Prop:=
 ∀(pins:List (Addr×Obj))(s:Shared)(σ:St)(H:Hp)(v:V)(u:Value)(Q:St→Hp→Prop),Inv X pins σ H s→RelV v u→t v σ H Q→
  wpAny (model X.prog X.w) X.A (assign target X.env u) (fun _ s'=>∃σ' H',Inv X pins σ' H' s'∧Q σ' H') X.xe s
def PGs(X:Cx)(ts:List Expr)(t:TGs):Prop:=
 ∀(pins:List (Addr×Obj))(s:Shared)(σ:St)(H:Hp)(vs:List V)(us:List Value)(Q:St→Hp→Prop),Inv X pins σ H s→Vals vs us→t vs σ H Q→
  wpAny (model X.prog X.w) X.A (assignInOrder ((assignEach ts X.env).map (·.2)) us) (fun _ s'=>∃σ' H',Inv X pins σ' H' s'∧Q σ' H') X.xe s
abbrev TSet:=V→V→V→Hp→(Hp→Prop)→Prop
def PSet(X:Cx)(t:TSet):Prop:=
 ∀(pins:List (Addr×Obj))(s:Shared)(σ:St)(H:Hp)(o i v:V)(ov iv u:Value)(Q:Hp→Prop),Inv X pins σ H s→RelV o ov→RelV i iv→RelV v u→t o i v H Q→
  wpAny (model X.prog X.w) X.A (setItem ov iv u) (fun _ s'=>∃H',Inv X pins σ H' s'∧Q H') X.xe s
abbrev TIp:=V→V→Hp→VK→Prop
def PIp(X:Cx)(op:Operator)(t:TIp):Prop:=
 ∀(pins:List (Addr×Obj))(s:Shared)(σ:St)(H:Hp)(x y:V)(v u:Value)(Q:VK),Inv X pins σ H s→RelV x v→RelV y u→t x y H Q→
  wpAny (model X.prog X.w) X.A (inplaceOp op v u) (EP X pins σ Q) X.xe s
section
variable {X:Cx} {pos:Pos}
def gName(i:Nat):TG:=fun v σ H Q=>Q (σ.set i (some v)) H
theorem kmP{i:Nat}{x:Str}(hN:X.N.Nodup)(hi:X.N[i]?=some x)(hx:Loc X.env.scope x)(hf:X.fn x=true∨X.env.scope.names.lookup x=some .local:=by first|exact .inl rfl|exact .inr rfl|assumption):PG X (.Name x pos) (gName i):=by
 intro pins s σ H v u Q I r h
 exact wpAny_assign_Name (kfU I hN hi hx r (fun s' I'=>⟨_,H,I',h⟩) hf)
def gNil:TGs:=fun vs σ H Q=>vs=[]∧Q σ H
def gCons(t:TG)(u:TGs):TGs:=fun vs σ H Q=>∃v r,vs=v::r∧t v σ H fun σ' H'=>u r σ' H' Q
theorem kba:PGs X [] gNil:=by
 intro pins s σ H vs us Q I r h
 obtain⟨e,h⟩:=h
 subst e
 cases r
 exact assignInOrder_nil ⟨σ,H,I,h⟩
theorem kay{e:Expr}{es:List Expr}{t:TG}{u:TGs}(h1:PG X e t)(h2:PGs X es u)
  (hs:(assignEach (e::es) X.env).map (·.2)=assign e X.env::(assignEach es X.env).map (·.2):=by rfl):PGs X (e::es) (gCons t u):=by
 intro pins s σ H vs us Q I r h
 obtain⟨v,vr,e1,h⟩:=h
 subst e1
 cases r with
 |cons r rr=>
  rw[hs]
  refine assignInOrder_cons (thn (h1 pins s σ H _ _ _ I r h) fun _ s1 ⟨σ1,H1,I1,q1⟩=>?_)
  exact h2 pins s1 σ1 H1 _ _ Q I1 rr q1
def gTup(K:JL)(n:Nat)(t:TGs):TG:=fun v σ H Q=>∃a xs,v=.ref a∧SqT K H a xs∧xs.length=n∧t xs σ H Q
theorem kns{es:List Expr}{k:Nat}{t:TGs}{n:Nat}(hc:X.calm=true)(h:PGs X es t)
  (hn:(assignEach es X.env).length=n:=by rfl) (hst:(assignEach es X.env).findIdx? (·.1)=none:=by rfl):PG X (.Tuple es k pos) (gTup X.K n t):=by
 intro pins s σ H v u Q I r hw
 obtain⟨a,xs,e1,hq,hl,hw⟩:=hw
 subst e1
 cases r
 obtain⟨its,rv,ht,hz⟩:=I.tuple hq
 refine assign_Tuple_tuple (I.ok.hd hc) ht (by simp[hn,←hl,rv.length]) hst fun h' hx=>?_
 have I1:Inv X pins σ H {s with heap:=h'}:=I.kept (t':=s.toks) fun b o e=>hx b o (Nj (Heap.lt_size e)) e
 exact h pins _ σ H xs _ Q I1 (by simpa using rv) hw
def gSub(to ti:TE)(t:TSet):TG:=fun v σ H Q=>to σ H fun o H1=>ti σ H1 fun i H2=>t o i v H2 fun H3=>Q σ H3
theorem kfB{o i:Expr}{to ti:TE}{t:TSet}(ho:PE X o to)(hi:PE X i ti)(hs:PSet X t)
  (ha:∀v,assign (.Subscript o i pos) X.env v=(do
   let ov ←holding [v] (eval o X.env)
   let iv ←holding [v,ov] (eval i X.env)
   standAt pos
   holding [v,ov,iv] (setItem ov iv v)
   release [v,ov,iv] []):=by intro _;rfl):PG X (.Subscript o i pos) (gSub to ti t):=by
 intro pins s σ H v u Q I r h
 rw[ha]
 refine wpAny_bind (wpAny_holding (thn (ho pins s σ H _ I h) fun ov s1 ⟨x,H1,I1,r1,q1⟩=>?_))
 refine wpAny_bind (wpAny_holding (thn (hi pins s1 σ H1 _ I1 q1) fun iv s2 ⟨y,H2,I2,r2,q2⟩=>?_))
 refine wpAny_bind (wpAny_standAt (wpAny_bind (wpAny_holding (thn (hs pins s2 σ H2 x y v ov iv u _ I2 r1 r2 r q2) fun _ s3 ⟨H3,I3,q3⟩=>?_))))
 exact wpAny_release ⟨σ,H3,I3,q3⟩
def tAsg(te:TE)(g:TG):TS:=fun D σ H=>te σ H fun x H1=>g x σ H1 D.nx
theorem kdf{tg e:Expr}{te:TE}{g:TG}(he:PE X e te)(hg:PG X tg g)(hs:swapsWithSole [tg] e pos.line X.env=pure false:=by rfl)(hw:swappedStores [tg] e X.env=pure none:=by rfl)
  (h1:(assignEach [tg] X.env).map (·.2)=[assign tg X.env]:=by rfl):PS X (.Assign [tg] e pos) (tAsg te g):=by
 intro pins s σ H D I h
 refine wpAny_Assign_stores (thn (he pins s σ H _ I h) fun v s1 ⟨x,H1,I1,r1,q1⟩=>?_) hs hw
 rw[h1]
 exact thn (hg pins s1 σ H1 x v _ I1 r1 q1) fun _ s2 q=>q
theorem knr{i:Nat}{x:Str}{e:Expr}{te:TE}{pos':Pos}(hN:X.N.Nodup)(hi:X.N[i]?=some x)(hx:Loc X.env.scope x)(he:PE X e te)(hs:swapsWith e (some (.Name x pos')) pos.line X.env=pure false:=by rfl)(hf:X.fn x=true∨X.env.scope.names.lookup x=some .local:=by first|exact .inl rfl|exact .inr rfl|assumption):
  PS X (.Assign [.Name x pos'] e pos) (tAsg te (gName i)):=by
 intro pins s σ H D I h
 refine wpAny_Assign_Name (thn (he pins s σ H _ I h) fun v s1 ⟨y,H1,I1,r1,q1⟩=>?_) hs
 exact kfU I1 hN hi hx r1 (fun s2 I2=>⟨_,H1,I2,q1⟩) hf
def tAug(i:Nat)(te:TE)(ti:TIp):TS:=fun D σ H=>∃x,σ[i]?=some (some x)∧te σ H fun y H1=>ti x y H1 fun z H2=>D.nx (σ.set i (some z)) H2
theorem kma{i:Nat}{x:Str}{e:Expr}{te:TE}{op:Operator}{ti:TIp}{pos':Pos}(hN:X.N.Nodup)(hi:X.N[i]?=some x)(hx:Loc X.env.scope x)(he:PE X e te)(ho:PIp X op ti)(hf:X.fn x=true∨X.env.scope.names.lookup x=some .local:=by first|exact .inl rfl|exact .inr rfl|assumption):
  PS X (.AugAssign (.Name x pos') op e pos) (tAug i te ti):=by
 intro pins s σ H D I h
 obtain⟨v,e1,h⟩:=h
 obtain⟨m,hn,hl⟩:=I.loc
 have vis:Vis X.env.scope x:=by rcases hx with k|k;exact .inl k;exact .inr (.inl k)
 obtain⟨u,r,l⟩:=hl i x v hi e1 vis
 refine wpAny_AugAssign_Name ?_
 have go:wpAny (model X.prog X.w) X.A (eval e X.env) (fun w s₂=>wpAny (model X.prog X.w) X.A (inplaceOp op u w) (fun r s₃=>wpAny (model X.prog X.w) X.A (storeName X.env x r) (fun _=>SP X pins D .next) X.xe s₃) X.xe s₂) X.xe s:=by
  refine thn (he pins s σ H _ I h) fun w s1 ⟨y,H1,I1,r1,q1⟩=>?_
  refine thn (ho pins s1 σ H1 v y u w _ I1 r r1 q1) fun z s2 ⟨zv,H2,I2,r2,q2⟩=>?_
  exact kfU I2 hN hi hx r2 (fun s3 I3=>⟨_,H2,I3,q2⟩) hf
 rcases l with⟨hk,hm⟩|⟨hk,c,hc,hcell⟩
 ·exact wpAny_loadName_local I.ok.kind hk hn hm go
 ·rcases hk with hk|hk
  ·exact wpAny_loadName_cell I.ok.kind hk hc hcell go
  ·rcases hx with k|k
   ·have:X.env.scope.names.lookup x=some .free:=hk
    rw[k] at this;cases this
   ·have:X.env.scope.names.lookup x=some .free:=hk
    rw[k] at this;cases this
def tAugS(to ti te:TE)(tget:V→V→Hp→VK→Prop)(tip:TIp)(tset:TSet):TS:=fun D σ H=>to σ H fun o H1=>ti σ H1 fun i H2=>tget o i H2 fun x H3=>te σ H3 fun y H4=>tip x y H4 fun z H5=>tset o i z H5 fun H6=>D.nx σ H6
def PGet(X:Cx)(t:V→V→Hp→VK→Prop):Prop:=
 ∀(pins:List (Addr×Obj))(s:Shared)(σ:St)(H:Hp)(o i:V)(ov iv:Value)(Q:VK),Inv X pins σ H s→RelV o ov→RelV i iv→t o i H Q→
  wpAny (model X.prog X.w) X.A (getItem ov iv) (EP X pins σ Q) X.xe s
theorem kmM{o i e:Expr}{to ti te:TE}{tget:V→V→Hp→VK→Prop}{tip:TIp}{tset:TSet}{op:Operator}{tpos:Pos}(ho:PE X o to)(hi:PE X i ti)(hg:PGet X tget)(he:PE X e te)(hp:PIp X op tip)(hs:PSet X tset)
  (ha:∀ov iv new,augStore i ov iv new=(do holding [new,ov,iv] (setItem ov iv new);release [new,ov,iv] [];pure .next):=by intros;rfl):PS X (.AugAssign (.Subscript o i tpos) op e pos) (tAugS to ti te tget tip tset):=by
 intro pins s σ H D I h
 refine wpAny_AugAssign_SubscriptAny (thn (ho pins s σ H _ I h) fun ov s1 ⟨x1,H1,I1,r1,q1⟩=>?_) ha
 refine thn (hi pins s1 σ H1 _ I1 q1) fun iv s2 ⟨x2,H2,I2,r2,q2⟩=>?_
 refine thn (hg pins s2 σ H2 x1 x2 ov iv _ I2 r1 r2 q2) fun old s3 ⟨x3,H3,I3,r3,q3⟩=>?_
 refine thn (he pins s3 σ H3 _ I3 q3) fun v s4 ⟨x4,H4,I4,r4,q4⟩=>?_
 refine thn (hp pins s4 σ H4 x3 x4 old v _ I4 r3 r4 q4) fun new s5 ⟨x5,H5,I5,r5,q5⟩=>?_
 exact thn (hs pins s5 σ H5 x1 x2 x5 ov iv new _ I5 r1 r2 r5 q5) fun _ s6 ⟨H6,I6,q6⟩=>⟨σ,H6,I6,q6⟩
def ipI(f:Int→Int→Int):TIp:=fun x y H Q=>∃i j,x=.int i∧y=.int j∧Q (.int (f i j)) H
theorem kmm:PIp X .Add (ipI fun i j=>i+j):=by
 intro pins s σ H x y v u Q I r1 r2 h
 obtain⟨i,j,e1,e2,q⟩:=h
 subst e1;subst e2
 obtain⟨t,rfl⟩:=r1
 obtain⟨t',rfl⟩:=r2
 exact iadd_int ⟨.int _,H,I.tok _,⟨_,rfl⟩,q⟩
theorem knI:PIp X .Sub (ipI fun i j=>i-j):=by
 intro pins s σ H x y v u Q I r1 r2 h
 obtain⟨i,j,e1,e2,q⟩:=h
 subst e1;subst e2
 obtain⟨t,rfl⟩:=r1
 obtain⟨t',rfl⟩:=r2
 exact isub_int ⟨.int _,H,I.tok _,⟨_,rfl⟩,q⟩
end
section
variable {X:Cx} {pos:Pos}
def kl1(c:TT)(tb:TS):TS:=fun D σ H=>∃W:Nat→St→Hp→Prop,(∃m,W m σ H)∧∀m σ H,W m σ H→
 c σ H fun b H1=>if b=true then ∃N:St→Hp→Prop,(∀σ' H',N σ' H'→∃m',m'<m∧W m' σ' H')∧tb {D with nx:=N,ct:=N,bk:=D.nx} σ H1 else D.nx σ H1
theorem kln{c:Expr}{body:List Stmt}{tc:TT}{tb:TS}(hp:PassesOwn (model X.prog X.w) X.A X.env X.xe)(hc:PT X c tc)(hb:PSs X body tb):PS X (.While c body [] pos) (kl1 tc tb):=by
 intro pins s σ H D I h
 obtain⟨W,⟨m0,w0⟩,turn⟩:=h
 refine wpAny_While (codeAny_whileLoop (fun n s'=>∃σ' H',Inv X pins σ' H' s'∧W n σ' H') ?_ m0 ⟨σ,H,I,w0⟩)
 rintro n s1 ⟨σ1,H1,I1,w1⟩
 refine wpAny_passesOwn hp (thn (hc pins s1 σ1 H1 _ I1 (turn n σ1 H1 w1)) fun b s2 ⟨H2,I2,q2⟩=>?_)
 cases b with
 | true=>
  obtain⟨N,hN,q2⟩:=q2
  rw[if_pos rfl]
  refine wpAny_passesOwn hp (thn (hb pins s2 σ1 H2 _ I2 q2) fun f s3 q3=>?_)
  cases f with
  |next=>
   obtain⟨σ3,H3,I3,n3⟩:=q3
   obtain⟨m',hm,w3⟩:=hN σ3 H3 n3
   exact⟨m',hm,σ3,H3,I3,w3⟩
  |cont=>
   obtain⟨σ3,H3,I3,n3⟩:=q3
   obtain⟨m',hm,w3⟩:=hN σ3 H3 n3
   exact⟨m',hm,σ3,H3,I3,w3⟩
  |brk=>exact q3
  |ret v=>exact q3
 |false=>
  rw[if_neg JS]
  exact wpAny_execs_nil ⟨σ1,H2,I2,q2⟩
end
structure It where
 go:Nat→Hp→Prop
 yld:Nat→Hp→V→Hp→Prop
 stop:Nat→Hp→Prop
def FpOk(X:Cx)(pins:List (Addr×Obj))(H:Hp)(b:Addr):Prop:=
 H b=none∧b≠X.env.locals∧b∉X.fs∧(b∈X.ex∨X.s₀.heap.objs.size≤b)∧(∀x c,X.env.cells.lookup x=some c→c≠b)∧∀p∈X.pn++pins,p.1≠b
def Inv.fpOk{X:Cx}{pins:List (Addr×Obj)}{σ:St}{H H':Hp}{s:Shared}{b:Addr}(I:Inv X pins σ H s)(hb:s.heap.objs.size≤b)(hn:H' b=none):FpOk X pins H' b:=by
 refine⟨hn,NW (Ng I.lt hb),I.nofs hb, .inr (JN I.sz hb),fun x c e z=>?_,fun p hp z=>?_⟩
 ·obtain⟨v,q⟩:=I.cell x c e
  exact absurd (Ng q.lt (by rw[z];exact hb)) (NV _)
 ·exact absurd (Ng (Heap.lt_size (I.pin p hp).1) (by rw[z];exact hb)) (NV _)
structure Turn (P:Program) (w:World) (K:JL) (tg:Expr) (J:It) (fp:List Addr) (it:Addr) (tn:Nat→Heap→Prop):Prop where
 mem:it∈fp
 obj:∀i h,tn i h→∀b∈fp,∃o,h.get? b=some o∧∀v,o.data≠.cell v
 keep:∀i h h',tn i h→(∀b∈fp,∀o,h.get? b=some o→h'.get? b=some o)→tn i h'
 item:∀(X:Cx),X.prog=P→X.w=w→X.K=K→X.calm=true→∀(i:Nat)(pins:List (Addr×Obj))(s:Shared)(σ:St)(H:Hp)(E:Value→Shared→Prop),Inv X pins σ H s→(∀b∈fp,FpOk X pins H b)→tn i s.heap→J.go i H→
  wpAny (model P w) X.A (pyNext (.ref it)) (fun r s1=>∃u,r=some u∧
   wpAny (model P w) X.A (letOwnedTupleGo tg (.ref it) u) (fun _ s2=>∃x H',Inv X pins σ H' s2∧RelV x u∧J.yld i H x H'∧tn (i+1) s2.heap∧∀b∈fp,H' b=none) E s1) E s
 done:∀(X:Cx),X.prog=P→X.w=w→X.K=K→X.calm=true→∀(i:Nat)(pins:List (Addr×Obj))(s:Shared)(σ:St)(H:Hp)(E:Value→Shared→Prop),Inv X pins σ H s→(∀b∈fp,FpOk X pins H b)→tn i s.heap→J.stop i H→
  wpAny (model P w) X.A (pyNext (.ref it)) (fun r s1=>r=none∧Inv X pins σ H s1) E s
 self:∀(A:Around)(i:Nat)(s:Shared)(Q:Value→Shared→Prop)(E:Value→Shared→Prop),tn i s.heap→Q (.ref it) s→wpAny (model P w) A (pyIter (.ref it)) Q E s
abbrev TI:=St→Hp→(It→Hp→Prop)→Prop
def PIE(X:Cx)(pins:List (Addr×Obj))(σ:St)(tg:Expr)(R:It→Hp→Prop)(itv:Value)(s2:Shared):Prop:=
 ∃(it:Addr)(fp:List Addr)(tn:Nat→Heap→Prop)(J:It)(H':Hp),itv=.ref it∧Inv X pins σ H' s2∧Turn X.prog X.w X.K tg J fp it tn∧tn 0 s2.heap∧(∀b∈fp,FpOk X pins H' b)∧R J H'
def PI(X:Cx)(tg iter:Expr)(wi:TI):Prop:=
 ∀(pins:List (Addr×Obj))(s:Shared)(σ:St)(H:Hp)(R:It→Hp→Prop),Inv X pins σ H s→wi σ H R→
  wpAny (model X.prog X.w) X.A (eval iter X.env) (fun v s1=>wpAny (model X.prog X.w) X.A (pyIter v) (PIE X pins σ tg R) X.xe s1) X.xe s
theorem go_of{M:Model}{A:Around}{E:Value→Shared→Prop}{s:Shared}{tg:Expr}{it:Addr}{u:Value}{o:Obj}{n:String}{vs:Array Value}{Q:Unit→Shared→Prop}(ho:s.heap.get? it=some o)(hc:o.cls=.type n)(hd:o.data=.fields vs)
    (hn:["enumerate","zip","dict_itemiterator","dict_reverseitemiterator","odict_iterator","itertools.zip_longest","itertools.pairwise"].contains n=false) (hQ:Q () s):wpAny M A (letOwnedTupleGo tg (.ref it) u) Q E s:=by
  unfold letOwnedTupleGo
  cases tg <;> first
    |exact wpAny_pure hQ
    |(cases u <;> first
        |exact wpAny_pure hQ
        | (refine wpAny_bind (wpAny_load ho ?_)
           rw[hc,hd]
           show wpAny M A (if(["enumerate","zip","dict_itemiterator","dict_reverseitemiterator","odict_iterator","itertools.zip_longest","itertools.pairwise"].contains n&&vs[0]? ==some (rawInt _))=true then _ else _) Q E s
           rw[if_neg (by intro h;rw[hn,MH] at h;cases h)]
           exact wpAny_pure hQ))
def Itl(K:JL)(a:Addr):It:=
 ⟨fun i H=>∃xs x,SqL K H a xs∧xs[i]?=some x,fun i H x H'=>H'=H∧∀xs,SqL K H a xs→xs[i]?=some x,fun i H=>∃xs,SqL K H a xs∧xs.length≤i⟩
def Itr(lo:Int)(n:Nat):It:=⟨fun i _=>i<n,fun i H x H'=>H'=H∧x=.int (lo+i),fun i _=>n≤i⟩
theorem kjq{P:Program}{w:World}{K:JL}{tg:Expr}(a it:Addr):Turn P w K tg (Itl K a) [it] it (fun i h=>h.IsListIter it a i) where
 mem:=by simp
 obj:=fun i h st b hb=>by
  have e:b=it:=by simpa using hb
  subst e
  obtain⟨o,e,c,d⟩:=st
  exact⟨o,e,fun v z=>by rw[d] at z;cases z⟩
 keep:=fun i h h' st k=>st.at fun o e=>k it (by simp) o e
 item:=by
  intro X hP hw hK hc i pins s σ H E I hf st hg
  subst hP hw hK
  obtain⟨xs,x,hq,hx⟩:=hg
  obtain⟨its,rv,p,hz⟩:=I.list hq
  obtain⟨u,hu,ru⟩:=rv.get hx
  obtain⟨f0,f1,f2,f3,f4,f5⟩:=hf it (by simp)
  refine wpAny_pyNext_list_item st p.isList (x:=u) (by simpa using hu) fun h' st' sb=>?_
  have I1:Inv X pins σ H {s with heap:=h'}:=I.turned (t':=s.toks) (fun b o hb e=>(sb.2 b hb).trans e) f0 f1 f3 f4 f5
  obtain⟨o,e,c,d⟩:=id st'
  exact⟨u,rfl,go_of (s:={s with heap:=h'}) e c d (by decide) ⟨x,H,I1,ru,⟨rfl,fun ys hy=>by rw[I.list_inj hy hq];exact hx⟩,st',fun b hb=>(hf b hb).1⟩⟩
 done:=by
  intro X hP hw hK hc i pins s σ H E I hf st hg
  subst hP hw hK
  obtain⟨xs,hq,hx⟩:=hg
  obtain⟨its,rv,p,hz⟩:=I.list hq
  obtain⟨f0,f1,f2,f3,f4,f5⟩:=hf it (by simp)
  have hl:=rv.length
  exact wpAny_pyNext_list_end (I.ok.hd hc) st p.isList (by simp;omega) fun h' eb=>⟨rfl,I.turned (t':=s.toks) (fun b o hb e=>eb b o hb e) f0 f1 f3 f4 f5⟩
 self:=fun _ _ _ _ _ st h=>wpAny_pyIter_listiter st h
theorem ki0{P:Program}{w:World}{K:JL}{tg:Expr}(it:Addr)(lo:Int)(n:Nat):Turn P w K tg (Itr lo n) [it] it (fun i h=>IsRangeIter h it (lo+(i:Nat)*1) ((n:Int)-(i:Nat)) 1) where
 mem:=by simp
 obj:=fun i h st b hb=>by
  have e:b=it:=by simpa using hb
  subst e
  exact⟨_,st,fun v z=>by
   have z':Data.fields _=Data.cell v:=z
   cases z'⟩
 keep:=fun i h h' st k=>k it (by simp) _ st
 item:=by
  intro X hP hw hK hc i pins s σ H E I hf st hg
  subst hP hw hK
  obtain⟨f0,f1,f2,f3,f4,f5⟩:=hf it (by simp)
  have W:=Walks.range (prog:=X.prog) (w:=X.w) (I.ok.hd hc) it lo 1 n
  refine W.item i s _ _ hg st fun v h' tk hv st' kk=>?_
  obtain⟨t,rfl⟩:=hv
  have I1:Inv X pins σ H {s with heap:=h',toks:=tk}:=I.turned (fun b o hb e=>kk b o (by simpa using hb) e) f0 f1 f3 f4 f5
  refine⟨_,rfl,go_of (s:={s with heap:=h',toks:=tk}) (n:="range_iterator") st' rfl rfl (by decide) ⟨.int (lo+i),H,I1,⟨t,?_⟩,⟨rfl,rfl⟩,st',fun b hb=>(hf b hb).1⟩⟩
  rw[Int.mul_one]
 done:=by
  intro X hP hw hK hc i pins s σ H E I hf st hg
  subst hP hw hK
  obtain⟨f0,f1,f2,f3,f4,f5⟩:=hf it (by simp)
  exact wpAny_pyNext_range_end (I.ok.hd hc) st (by have:n≤i:=hg;omega) fun h' eb=>⟨rfl,I.turned (t':=s.toks) (fun b o hb e=>eb b o hb e) f0 f1 f3 f4 f5⟩
 self:=fun _ _ _ _ _ st h=>wpAny_pyIter_rangeiter st h
end L2
namespace L2
open PySem PySem.Spec PyProof.Rows
section
variable {X:Cx} {tg:Expr}
def iList(K:JL)(tl:TE):TI:=fun σ H R=>tl σ H fun x H1=>∃a,x=.ref a∧(∃xs,SqL K H1 a xs)∧R (Itl K a) H1
theorem kmO{l:Expr}{tl:TE}(hl:PE X l tl):PI X tg l (iList X.K tl):=by
 intro pins s σ H R I h
 refine thn (hl pins s σ H _ I h) fun v s1 ⟨x,H1,I1,r1,q1⟩=>?_
 obtain⟨a,e,⟨xs,hq⟩,q⟩:=q1
 subst e
 cases r1
 obtain⟨its,rv,p,hz⟩:=I1.list hq
 refine wpAny_pyIter_list p.isList ?_
 refine⟨s1.heap.objs.size,[s1.heap.objs.size],_,_,H1,rfl,I1.kept (t':=s1.toks) fun b o e=>Heap.get?_push_of_some _ e,kjq a _,⟨_,Heap.get?_push_size _ rfl,rfl,rfl⟩,fun b hb=>?_,q⟩
 have e:b=s1.heap.objs.size:=by simpa using hb
 subst e
 exact I1.fpOk (JK _) (I1.hok.fresh (JK _))
theorem kiv{pins:List (Addr×Obj)}{σ:St}{H:Hp}{s:Shared}{R:It→Hp→Prop}{E:Value→Shared→Prop}{lo hi:Int}{t u v:Tok}{tk:Nat}(I:Inv X pins σ H s)(h1: -(2 ^ 62)≤lo)(h2:lo<2 ^ 62)(h3: -(2 ^ 62)≤hi)(h4:hi<2 ^ 62)
  (q:R (Itr lo (hi-lo).toNat) H):wpAny (model X.prog X.w) X.A (pyIter (.ref s.heap.objs.size)) (PIE X pins σ tg R) E {s with heap:=s.heap.push {cls:=.type "range",data:=.fields #[.int lo t, .int hi u, .int 1 v]},toks:=tk}:=by
 refine wpAny_pyIter_range (IsRange.new ..) (small_one h1 h2 h3 h4) ?_
 have I1:Inv X pins σ H {s with heap:=s.heap.push {cls:=.type "range",data:=.fields #[.int lo t, .int hi u, .int 1 v]},toks:=tk}:=I.kept fun b o e=>Heap.get?_push_of_some _ e
 refine⟨(s.heap.push {cls:=.type "range",data:=.fields #[.int lo t, .int hi u, .int 1 v]}).objs.size,[(s.heap.push {cls:=.type "range",data:=.fields #[.int lo t, .int hi u, .int 1 v]}).objs.size],_,_,H,rfl,
  I1.kept (t':=tk) fun b o e=>Heap.get?_push_of_some _ e,ki0 _ lo (hi-lo).toNat,?_,fun b hb=>?_,q⟩
 ·have e1:lo+((0:Nat):Int)*1=lo:=by simp
  have e2:(((hi-lo).toNat:Nat):Int)-((0:Nat):Int)=Builtin.Range.rangeSize lo hi 1:=by rw[rangeSize_one];split <;> omega
  show IsRangeIter _ _ (lo+((0:Nat):Int)*1) ((((hi-lo).toNat:Nat):Int)-((0:Nat):Int)) 1
  rw[e1,e2]
  exact Heap.get?_push_size _ rfl
 ·have e:b=(s.heap.push {cls:=.type "range",data:=.fields #[.int lo t, .int hi u, .int 1 v]}).objs.size:=by simpa using hb
  subst e
  exact I1.fpOk (JK _) (I1.hok.fresh (JK _))
def iRng1(ta:TA):TI:=fun σ H R=>ta σ H fun vs H1=>∃j:Int,vs=[.int j]∧-(2 ^ 62)≤j∧j<2 ^ 62∧R (Itr 0 j.toNat) H1
def iRng2(ta:TA):TI:=fun σ H R=>ta σ H fun vs H1=>∃i j:Int,vs=[.int i, .int j]∧(-(2 ^ 62)≤i∧i<2 ^ 62∧-(2 ^ 62)≤j∧j<2 ^ 62)∧R (Itr i (j-i).toNat) H1
theorem kdv{a:Expr}{ta:TA}{p pos:Pos}(hg:Gl X "range")(hm:X.mg "range"=none)(ha:PA X [a] ta)(hs:starEach [a] X.env=[(false,eval a X.env)]:=by rfl):PI X tg (.Call (.Name "range" p) [a] [] pos) (iRng1 ta):=by
 intro pins s σ H R I h
 refine Call_ (kdF I hg hm boot_range (PyProof.Rows.callWith_type1 (thn (ha pos pins s σ H _ I h) fun us s1 ⟨vs,H1,I1,r1,q1⟩=>?_) hs rfl))
 obtain⟨j,e,q1,q2,q⟩:=q1
 subst e
 cases r1 with
 |cons r rr=>
  cases rr
  obtain⟨t,rfl⟩:=r
  exact call_range_1 (kiv I1 (by omega) (by omega) q1 q2 (by simpa using q))
theorem kj9{a b:Expr}{ta:TA}{p pos:Pos}(hg:Gl X "range")(hm:X.mg "range"=none)(ha:PA X [a,b] ta)(hs:starEach [a,b] X.env=[(false,eval a X.env),(false,eval b X.env)]:=by rfl)(hs2:starEach [b] X.env=[(false,eval b X.env)]:=by rfl):
  PI X tg (.Call (.Name "range" p) [a,b] [] pos) (iRng2 ta):=by
 intro pins s σ H R I h
 refine Call_ (kdF I hg hm boot_range (PyProof.Rows.callWith_type1 (thn (ha pos pins s σ H _ I h) fun us s1 ⟨vs,H1,I1,r1,q1⟩=>?_) (by rw[hs,hs2]) (by rw[hs2];rfl)))
 obtain⟨i,j,e,⟨q1,q2,q3,q4⟩,q⟩:=q1
 subst e
 cases r1 with
 | cons r rr=>
  cases rr with
  |cons r' rr=>
   cases rr
   obtain⟨t,rfl⟩:=r
   obtain⟨t',rfl⟩:=r'
   exact call_range_2 (kiv I1 q1 q2 q3 q4 q)
def tFor(wi:TI)(g:TG)(tb:TS):TS:=fun D σ H=>wi σ H fun J H1=>∃W:Nat→Nat→St→Hp→Prop,(∃m,W 0 m σ H1)∧∀i m σ H,W i m σ H→
 (J.stop i H∧D.nx σ H)∨(J.go i H∧∃N:St→Hp→Prop,(∀σ' H',N σ' H'→∃m',m'<m∧W (i+1) m' σ' H')∧∀x H',J.yld i H x H'→g x σ H' fun σ2 H2=>tb {D with nx:=N,ct:=N,bk:=D.nx} σ2 H2)
def kiA(fp:List Addr)(h:Heap):List (Addr×Obj):=fp.filterMap fun b=>(h.get? b).map fun o=>(b,o)
theorem kc8{fp:List Addr}{h:Heap}{b:Addr}{o:Obj}(hb:b∈fp)(e:h.get? b=some o):(b,o)∈kiA fp h:=List.mem_filterMap.mpr ⟨b,hb,by rw[e];rfl⟩
theorem kke{fp:List Addr}{h:Heap}{p:Addr×Obj}(hp:p∈kiA fp h):p.1∈fp∧h.get? p.1=some p.2:=by
 obtain⟨b,hb,e⟩:=List.mem_filterMap.mp hp
 cases q:h.get? b with
 |none=>rw[q] at e;cases e
 |some o=>
  rw[q] at e
  have e':(b,o)=p:=Option.some.inj e
  subst e'
  exact⟨hb,q⟩
theorem Inv.pinned{pins:List (Addr×Obj)}{σ:St}{H:Hp}{s:Shared}{fp:List Addr}(I:Inv X pins σ H s)(hf:∀b∈fp,FpOk X pins H b)(ho:∀b∈fp,∃o,s.heap.get? b=some o∧∀v,o.data≠.cell v):Inv X (pins++kiA fp s.heap) σ H s:=
 I.pins_of fun p hp=>(Nk.mp hp).elim (fun z=>I.pin p (Nw _ z)) fun z=>by
  obtain⟨hb,e⟩:=kke z
  obtain⟨f0,f1,f2,_⟩:=hf p.1 hb
  obtain⟨o,e',d⟩:=ho p.1 hb
  rw[e] at e';cases e'
  exact⟨e,f0,f1,f2,d⟩
theorem Inv.unpinned{pins pl:List (Addr×Obj)}{σ:St}{H:Hp}{s:Shared}(I:Inv X (pins++pl) σ H s):Inv X pins σ H s:=I.pins_of fun p hp=>I.pin p (Nw _ (MU _ hp))
theorem kaZ{iter:Expr}{body:List Stmt}{wi:TI}{g:TG}{tb:TS}{pos:Pos}(hp:PassesOwn (model X.prog X.w) X.A X.env X.xe)(hc:X.calm=true)(hi:PI X tg iter wi)(hg:PG X tg g)(hb:PSs X body tb)
  (hs:∀x,foldedSetIterable iter X.env x=pure x:=by intro _;rfl):PS X (.For tg iter body [] pos) (tFor wi g tb):=by
 intro pins s σ H D I h
 refine wpAny_For (thn (hi pins s σ H _ I h) fun v s1 h1=>thn h1 fun itv s2 h2=>?_) hs
 obtain⟨it,fp,tn,J,H2,e,I2,T,st2,f2,W,⟨m0,w0⟩,turn⟩:=h2
 subst e
 have stat:∀{H':Hp},(∀b∈fp,H' b=none)→∀b∈fp,FpOk X pins H' b:=fun hn b hb=>⟨hn b hb,(f2 b hb).2⟩
 refine codeAny_forLoop_any (fun n s'=>∃i σ' H',Inv X pins σ' H' s'∧tn i s'.heap∧(∀b∈fp,H' b=none)∧W i n σ' H') ?_ m0 ⟨0,σ,H2,I2,st2,fun b hb=>(f2 b hb).1,w0⟩
 rintro n s3 ⟨i,σ3,H3,I3,st3,fr3,w3⟩
 rcases turn i n σ3 H3 w3 with⟨stop,qn⟩|⟨go,N,hN,step⟩
 ·refine wpAny_passesOwn hp (thn (T.done X rfl rfl rfl hc i pins s3 σ3 H3 X.xe I3 (stat fr3) st3 stop) fun r s4 ⟨hr,I4⟩=>?_)
  subst hr
  exact wpAny_execs_nil ⟨σ3,H3,I4,qn⟩
 ·refine wpAny_passesOwn hp (thn (T.item X rfl rfl rfl hc i pins s3 σ3 H3 X.xe I3 (stat fr3) st3 go) fun r s4 ⟨u,hr,h4⟩=>?_)
  subst hr
  refine wpAny_passesOwn hp (thn h4 fun _ s5 ⟨x,H5,I5,r5,y5,st5,fr5⟩=>?_)
  have I5':=I5.pinned (stat fr5) (T.obj _ _ st5)
  refine wpAny_passesOwn hp (thn (hg _ s5 σ3 H5 x u _ I5' r5 (step x H5 y5)) fun _ s6 ⟨σ6,H6,I6,q6⟩=>?_)
  refine wpAny_passesOwn hp (thn (hb _ s6 σ6 H6 _ I6 q6) fun f s7 q7=>?_)
  have again:∀{σ7:St}{H7:Hp},Inv X (pins++kiA fp s5.heap) σ7 H7 s7→N σ7 H7→∃m,m<n∧∃i σ' H',Inv X pins σ' H' s7∧tn i s7.heap∧(∀b∈fp,H' b=none)∧W i m σ' H':=fun {σ7 H7} I7 n7=>by
   obtain⟨m',hm,w7⟩:=hN σ7 H7 n7
   refine⟨m',hm,i+1,σ7,H7,I7.unpinned,T.keep _ _ _ st5 fun b hb o e=>(I7.pin (b,o) (Nw _ (Nw _ (kc8 hb e)))).1,fun b hb=>?_,w7⟩
   obtain⟨o,e,d⟩:=T.obj _ _ st5 b hb
   exact(I7.pin (b,o) (Nw _ (Nw _ (kc8 hb e)))).2.1
  cases f with
  |next=>obtain⟨σ7,H7,I7,n7⟩:=q7;exact again I7 n7
  |cont=>obtain⟨σ7,H7,I7,n7⟩:=q7;exact again I7 n7
  |brk=>obtain⟨σ7,H7,I7,q7⟩:=q7;exact⟨σ7,H7,I7.unpinned,q7⟩
  |ret v=>obtain⟨x7,σ7,H7,I7,r7,q7⟩:=q7;exact⟨x7,σ7,H7,I7.unpinned,r7,q7⟩
end
theorem kaP{K:JL}{a:Addr}{xs:List V}{g:TG}{tb:TS}{D:Ends}{σ:St}{H:Hp}(Pv:Nat→St→Hp→Prop)(h0:Pv 0 σ H)(hl:∀i σ H,i≤xs.length→Pv i σ H→SqL K H a xs)
  (hs:∀i x σ H,xs[i]?=some x→Pv i σ H→g x σ H fun σ2 H2=>tb {D with nx:=Pv (i+1),ct:=Pv (i+1),bk:=D.nx} σ2 H2) (hd:∀σ H,Pv xs.length σ H→D.nx σ H):
  ∃W:Nat→Nat→St→Hp→Prop,(∃m,W 0 m σ H)∧∀i m σ H,W i m σ H→
   ((Itl K a).stop i H∧D.nx σ H)∨((Itl K a).go i H∧∃N:St→Hp→Prop,(∀σ' H',N σ' H'→∃m',m'<m∧W (i+1) m' σ' H')∧∀x H',(Itl K a).yld i H x H'→g x σ H' fun σ2 H2=>tb {D with nx:=N,ct:=N,bk:=D.nx} σ2 H2):=by
 refine⟨fun i m σ H=>m=xs.length-i∧i≤xs.length∧Pv i σ H,⟨xs.length,by simp,Nr _,h0⟩,?_⟩
 rintro i m σ H ⟨rfl,hi,p⟩
 have q:=hl i σ H hi p
 by_cases hlt:i<xs.length
 ·refine .inr ⟨⟨xs,xs[i],q,by simp[hlt]⟩,Pv (i+1),fun σ' H' p'=>⟨xs.length-(i+1),by omega,rfl,hlt,p'⟩,fun x H' y=>?_⟩
  obtain⟨e,y⟩:=y
  subst e
  exact hs i x σ _ (y xs q) p
 ·have e:i=xs.length:=by omega
  subst e
  exact .inl ⟨⟨xs,q,JK _⟩,hd σ H p⟩
theorem ke1{lo:Int}{n:Nat}{g:TG}{tb:TS}{D:Ends}{σ:St}{H:Hp}(Pv:Nat→St→Hp→Prop)(h0:Pv 0 σ H)
  (hs:∀i σ H,i<n→Pv i σ H→g (.int (lo+i)) σ H fun σ2 H2=>tb {D with nx:=Pv (i+1),ct:=Pv (i+1),bk:=D.nx} σ2 H2) (hd:∀σ H,Pv n σ H→D.nx σ H):
  ∃W:Nat→Nat→St→Hp→Prop,(∃m,W 0 m σ H)∧∀i m σ H,W i m σ H→
   ((Itr lo n).stop i H∧D.nx σ H)∨((Itr lo n).go i H∧∃N:St→Hp→Prop,(∀σ' H',N σ' H'→∃m',m'<m∧W (i+1) m' σ' H')∧∀x H',(Itr lo n).yld i H x H'→g x σ H' fun σ2 H2=>tb {D with nx:=N,ct:=N,bk:=D.nx} σ2 H2):=by
 refine⟨fun i m σ H=>m=n-i∧i≤n∧Pv i σ H,⟨n,by simp,Nr _,h0⟩,?_⟩
 rintro i m σ H ⟨rfl,hi,p⟩
 by_cases hlt:i<n
 ·refine .inr ⟨hlt,Pv (i+1),fun σ' H' p'=>⟨n-(i+1),by omega,rfl,hlt,p'⟩,fun x H' y=>?_⟩
  obtain⟨e,y⟩:=y
  subst e y
  exact hs i σ _ hlt p
 ·have e:i=n:=by omega
  subst e
  exact .inl ⟨JK _,hd σ H p⟩
theorem klg{c:TT}{tb:TS}{D:Ends}{σ:St}{H:Hp}(Pv:St→Hp→Prop)(μ:St→Hp→Nat)(h0:Pv σ H)
  (hs:∀σ H,Pv σ H→c σ H fun b H1=>if b=true then tb {D with nx:=fun σ' H'=>Pv σ' H'∧μ σ' H'< μ σ H,ct:=fun σ' H'=>Pv σ' H'∧μ σ' H'< μ σ H,bk:=D.nx} σ H1 else D.nx σ H1)
  (mono:∀σ H Q Q',(∀b H1,Q b H1→Q' b H1)→c σ H Q→c σ H Q'):kl1 c tb D σ H:=by
 refine⟨fun m σ H=>m= μ σ H∧Pv σ H,⟨_,rfl,h0⟩,?_⟩
 rintro m σ H ⟨rfl,p⟩
 refine mono σ H _ _ (fun b H1 q=>?_) (hs σ H p)
 cases b with
 |true=>exact⟨_,fun σ' H' ⟨p',l⟩=>⟨_,l,rfl,p'⟩,q⟩
 |false=>exact q
end L2
namespace L2
open PySem PySem.Spec PyProof.Rows
abbrev R2:=V→V→Hp→VK→Prop
def OpR(X:Cx)(f:Value→Value→Sem Value)(r:R2):Prop:=
 ∀(pins:List (Addr×Obj))(s:Shared)(σ:St)(H:Hp)(x y:V)(v u:Value)(Q:VK),Inv X pins σ H s→RelV x v→RelV y u→r x y H Q→
  wpAny (model X.prog X.w) X.A (f v u) (EP X pins σ Q) X.xe s
def UnR(X:Cx)(f:Value→Sem Value)(r:V→Hp→VK→Prop):Prop:=
 ∀(pins:List (Addr×Obj))(s:Shared)(σ:St)(H:Hp)(x:V)(v:Value)(Q:VK),Inv X pins σ H s→RelV x v→r x H Q→
  wpAny (model X.prog X.w) X.A (f v) (EP X pins σ Q) X.xe s
def CallR(X:Cx)(f:Value)(r:List V→Hp→VK→Prop):Prop:=
 ∀(pins:List (Addr×Obj))(s:Shared)(σ:St)(H:Hp)(xs:List V)(us:List Value)(Q:VK),Inv X pins σ H s→Vals xs us→r xs H Q→
  wpAny (model X.prog X.w) X.A (call f us) (EP X pins σ Q) X.xe s
def tOp(r:R2)(ta tb:TE):TE:=fun σ H Q=>ta σ H fun x H1=>tb σ H1 fun y H2=>r x y H2 Q
def tUn(r:V→Hp→VK→Prop)(ta:TE):TE:=fun σ H Q=>ta σ H fun x H1=>r x H1 Q
def rI(C:Int→Int→Prop)(g:Int→Int→V):R2:=fun x y H Q=>∃i j,x=.int i∧y=.int j∧C i j∧Q (g i j) H
def rI0(g:Int→Int→V):R2:=fun x y H Q=>∃i j,x=.int i∧y=.int j∧Q (g i j) H
def rU(g:Int→V):V→Hp→VK→Prop:=fun x H Q=>∃i,x=.int i∧Q (g i) H
section
variable {X:Cx} {a b c:Expr} {ta tb tc:TE} {pos:Pos}
theorem binT(ha:PE X a ta)(hb:PE X b tb){pins:List (Addr×Obj)}{s:Shared}{σ:St}{H:Hp}{R:V→V→Hp→Prop}(I:Inv X pins σ H s)
  (h:ta σ H fun x H1=>tb σ H1 fun y H2=>R x y H2) {Q:Value→Shared→Prop} {f:Value→Value→Sem Value}
  (hf:∀v u s2 x y H2,Inv X pins σ H2 s2→RelV x v→RelV y u→R x y H2→wpAny (model X.prog X.w) X.A (f v u) Q X.xe s2):
  wpAny (model X.prog X.w) X.A (eval a X.env) (fun v s₁=>wpAny (model X.prog X.w) X.A (eval b X.env) (fun u s₂=>wpAny (model X.prog X.w) X.A (f v u) Q X.xe s₂) X.xe s₁) X.xe s:=by
 refine thn (ha pins s σ H _ I h) fun v s1 ⟨x,H1,I1,r1,q1⟩=>?_
 refine thn (hb pins s1 σ H1 _ I1 q1) fun u s2 ⟨y,H2,I2,r2,q2⟩=>?_
 exact hf v u s2 x y H2 I2 r1 r2 q2
theorem pe_op{op:Operator}{r:R2}(ho:OpR X (binaryOp op) r)(ha:PE X a ta)(hb:PE X b tb):PE X (.BinOp a op b pos) (tOp r ta tb):=by
 intro pins s σ H Q I h
 exact wpAny_BinOp (binT ha hb I h fun v u s2 x y H2 I2 rx ry q=>ho pins s2 σ H2 x y v u Q I2 rx ry q)
theorem pe_un{op:UnaryOp}{r:V→Hp→VK→Prop}(ho:UnR X (unaryOp op) r)(ha:PE X a ta):PE X (.UnaryOp op a pos) (tUn r ta):=by
 intro pins s σ H Q I h
 exact UnaryOp_ (thn (ha pins s σ H _ I h) fun v s1 ⟨x,H1,I1,r1,q1⟩=>ho pins s1 σ H1 x v Q I1 r1 q1)
theorem opI{f:Value→Value→Sem Value}{C:Int→Int→Prop}{g:Int→Int→Int}
  (rule:∀(i j:Int)(t u:Tok)(s:Shared)(Q:Value→Shared→Prop)(E:Value→Shared→Prop),C i j→Q (.int (g i j) s.toks) {s with toks:=s.toks+1}→wpAny (model X.prog X.w) X.A (f (.int i t) (.int j u)) Q E s):
  OpR X f (rI C fun i j=>.int (g i j)):=by
 intro pins s σ H x y v u Q I rx ry h
 obtain⟨i,j,rfl,rfl,hc,q⟩:=h
 obtain⟨t,rfl⟩:=rx
 obtain⟨t',rfl⟩:=ry
 exact rule i j t t' s _ _ hc ⟨.int (g i j),H,I.tok _,⟨_,rfl⟩,q⟩
theorem opI0{f:Value→Value→Sem Value}{g:Int→Int→Int}
  (rule:∀(i j:Int)(t u:Tok)(s:Shared)(Q:Value→Shared→Prop)(E:Value→Shared→Prop),Q (.int (g i j) s.toks) {s with toks:=s.toks+1}→wpAny (model X.prog X.w) X.A (f (.int i t) (.int j u)) Q E s):
  OpR X f (rI0 fun i j=>.int (g i j)):=by
 intro pins s σ H x y v u Q I rx ry h
 obtain⟨i,j,rfl,rfl,q⟩:=h
 obtain⟨t,rfl⟩:=rx
 obtain⟨t',rfl⟩:=ry
 exact rule i j t t' s _ _ ⟨.int (g i j),H,I.tok _,⟨_,rfl⟩,q⟩
theorem opB0{f:Value→Value→Sem Value}{g:Int→Int→Bool}
  (rule:∀(i j:Int)(t u:Tok)(s:Shared)(Q:Value→Shared→Prop)(E:Value→Shared→Prop),Q (.bool (g i j)) s→wpAny (model X.prog X.w) X.A (f (.int i t) (.int j u)) Q E s):
  OpR X f (rI0 fun i j=>.bl (g i j)):=by
 intro pins s σ H x y v u Q I rx ry h
 obtain⟨i,j,rfl,rfl,q⟩:=h
 obtain⟨t,rfl⟩:=rx
 obtain⟨t',rfl⟩:=ry
 exact rule i j t t' s _ _ ⟨.bl (g i j),H,I,rfl,q⟩
def CDiv(i j:Int):Prop:=0<j∧j<1073741824
def CMul(i j:Int):Prop:=(-(2 ^ 64)<i∧i<2 ^ 64)∨(-(2 ^ 64)<j∧j<2 ^ 64)
theorem CMul.ok{i j:Int}(h:CMul i j):IntMulOk i j:=by
 rcases h with⟨h1,h2⟩|⟨h1,h2⟩
 ·exact .of_left (intBits_le_64 h1 h2)
 ·exact .of_right (intBits_le_64 h1 h2)
theorem kb3:OpR X (binaryOp .Add) (rI0 fun i j=>.int (i+j)):=opI0 fun _ _ _ _ _ _ _ q=>add_int q
theorem kdg:OpR X (binaryOp .Sub) (rI0 fun i j=>.int (i-j)):=opI0 fun _ _ _ _ _ _ _ q=>sub_int q
theorem kcy:OpR X (binaryOp .Mult) (rI CMul fun i j=>.int (i*j)):=opI fun _ _ _ _ _ _ _ hc q=>mul_int q hc.ok
theorem kaD:OpR X (binaryOp .FloorDiv) (rI CDiv fun i j=>.int (i/j)):=opI fun i j _ _ _ _ _ hc q=>by
 have h1:(0:Int)<j:=hc.1
 have h2:j<1073741824:=hc.2
 exact floordiv_int (by omega) (by rw[Int.fdiv_eq_ediv_of_nonneg i (by omega)];exact q) (.inl (PyProof.noPylong_small (by omega)))
theorem kaC:OpR X (binaryOp .Mod) (rI (fun _ j=>0<j) fun i j=>.int (i%j)):=opI fun i j _ _ _ _ _ hc q=>by
 have h1:(0:Int)<j:=hc
 exact mod_int' (by omega) (by rw[Int.fmod_eq_emod_of_nonneg i (by omega)];exact q)
theorem unI{f:Value→Sem Value}{g:Int→Int}
  (rule:∀(i:Int)(t:Tok)(s:Shared)(Q:Value→Shared→Prop)(E:Value→Shared→Prop),Q (.int (g i) s.toks) {s with toks:=s.toks+1}→wpAny (model X.prog X.w) X.A (f (.int i t)) Q E s):
  UnR X f (rU fun i=>.int (g i)):=by
 intro pins s σ H x v Q I rx h
 obtain⟨i,rfl,q⟩:=h
 obtain⟨t,rfl⟩:=rx
 exact rule i t s _ _ ⟨.int (g i),H,I.tok _,⟨_,rfl⟩,q⟩
theorem kjo:UnR X (unaryOp .USub) (rU fun i=>.int (-i)):=unI fun _ _ _ _ _ q=>neg_int q
end
def scal:V→V→Bool
 | .non, .non=>true| .non, .int _=>true| .int _, .non=>true| .non, .bl _=>true| .bl _, .non=>true| .non, .str _=>true| .str _, .non=>true
 | .int _, .int _=>true| .bl _, .bl _=>true| .str _, .str _=>true| .byt _, .byt _=>true
 | .int _, .str _=>true| .str _, .int _=>true| .bl _, .str _=>true| .str _, .bl _=>true
 |_,_=>false
def rEq:R2:=fun x y H Q=>scal x y=true∧Q (.bl (decide (x=y))) H
def rNe:R2:=fun x y H Q=>scal x y=true∧Q (.bl (!decide (x=y))) H
def kkX{i j:Int}:decide (V.int i=V.int j)=(i==j):=by
 rw[MI]
 simp
def kmp{i j:Bool}:decide (V.bl i=V.bl j)=(i==j):=by
 rw[MI]
 simp
def kkW{i j:Str}:decide (V.str i=V.str j)=(i==j):=by
 rw[MI]
 simp
def kkY{i j:Array UInt8}:decide (V.byt i=V.byt j)=(i.toList==j.toList):=by
 rw[MI]
 cases i
 cases j
 simp
section
variable {X:Cx} {a b c:Expr} {ta tb tc:TE} {pos:Pos}
theorem kaR{pins:List (Addr×Obj)}{σ:St}{H:Hp}{s:Shared}{Q:VK}{k k':Bool}(I:Inv X pins σ H s)(q:Q (.bl k) H)(e:k=k'):EP X pins σ Q (.bool k') s:=by
 subst e
 exact⟨.bl k,H,I,rfl,q⟩
theorem op_eq:OpR X (compareOp .Eq) rEq:=by
 intro pins s σ H x y v u Q I rx ry h
 obtain⟨hs,q⟩:=h
 cases x with
 |non=>
  cases rx
  cases y with
  |non=>cases ry;exact PySem.EqNone.eq_none_none (kaR I q (by simp))
  |bl j=>cases ry;exact PySem.EqNone.eq_none_bool (kaR I q (by simp))
  |int j=>obtain⟨t',rfl⟩:=ry;exact PySem.EqNone.eq_none_int (kaR I q (by simp))
  |str j=>obtain⟨t',rfl⟩:=ry;exact PySem.EqNone.eq_none_str (kaR I q (by simp))
  |_=>exact absurd (show false=true from hs) JS
 |bl i=>
  cases rx
  cases y with
  |non=>cases ry;exact PySem.EqNone.eq_bool_none (kaR I q (by simp))
  |bl j=>cases ry;exact eq_bool (kaR I q kmp)
  |str j=>obtain⟨t',rfl⟩:=ry;exact PySem.EqMixed.eq_bool_str (kaR I q (by simp))
  |_=>exact absurd (show false=true from hs) JS
 |int i=>
  obtain⟨t,rfl⟩:=rx
  cases y with
  |non=>cases ry;exact PySem.EqNone.eq_int_none (kaR I q (by simp))
  |int j=>obtain⟨t',rfl⟩:=ry;exact eq_int (kaR I q kkX)
  |str j=>obtain⟨t',rfl⟩:=ry;exact PySem.EqMixed.eq_int_str (kaR I q (by simp))
  |_=>exact absurd (show false=true from hs) JS
 |str i=>
  obtain⟨t,rfl⟩:=rx
  cases y with
  |non=>cases ry;exact PySem.EqNone.eq_str_none (kaR I q (by simp))
  |bl j=>cases ry;exact PySem.EqMixed.eq_str_bool (kaR I q (by simp))
  |int j=>obtain⟨t',rfl⟩:=ry;exact PySem.EqMixed.eq_str_int (kaR I q (by simp))
  |str j=>obtain⟨t',rfl⟩:=ry;exact eq_str (kaR I q kkW)
  |_=>exact absurd (show false=true from hs) JS
 |byt i=>
  obtain⟨t,rfl⟩:=rx
  cases y with
  |byt j=>obtain⟨t',rfl⟩:=ry;exact PySem.W.eq_bytes (kaR I q kkY)
  |_=>exact absurd (show false=true from hs) JS
 |_=>cases y <;> exact absurd (show false=true from hs) JS
theorem op_ne:OpR X (compareOp .NotEq) rNe:=by
 intro pins s σ H x y v u Q I rx ry h
 obtain⟨hs,q⟩:=h
 cases x with
 |non=>
  cases rx
  cases y with
  |non=>cases ry;exact PySem.EqNone.ne_none_none (kaR I q (by simp))
  |bl j=>cases ry;exact PySem.EqNone.ne_none_bool (kaR I q (by simp))
  |int j=>obtain⟨t',rfl⟩:=ry;exact PySem.EqNone.ne_none_int (kaR I q (by simp))
  |str j=>obtain⟨t',rfl⟩:=ry;exact PySem.EqNone.ne_none_str (kaR I q (by simp))
  |_=>exact absurd (show false=true from hs) JS
 |bl i=>
  cases rx
  cases y with
  |non=>cases ry;exact PySem.EqNone.ne_bool_none (kaR I q (by simp))
  |bl j=>cases ry;exact ne_bool (kaR I q (congrArg not kmp))
  |str j=>obtain⟨t',rfl⟩:=ry;exact PySem.EqMixed.ne_bool_str (kaR I q (by simp))
  |_=>exact absurd (show false=true from hs) JS
 |int i=>
  obtain⟨t,rfl⟩:=rx
  cases y with
  |non=>cases ry;exact PySem.EqNone.ne_int_none (kaR I q (by simp))
  |int j=>obtain⟨t',rfl⟩:=ry;exact ne_int (kaR I q (congrArg not kkX))
  |str j=>obtain⟨t',rfl⟩:=ry;exact PySem.EqMixed.ne_int_str (kaR I q (by simp))
  |_=>exact absurd (show false=true from hs) JS
 |str i=>
  obtain⟨t,rfl⟩:=rx
  cases y with
  |non=>cases ry;exact PySem.EqNone.ne_str_none (kaR I q (by simp))
  |bl j=>cases ry;exact PySem.EqMixed.ne_str_bool (kaR I q (by simp))
  |int j=>obtain⟨t',rfl⟩:=ry;exact PySem.EqMixed.ne_str_int (kaR I q (by simp))
  |str j=>obtain⟨t',rfl⟩:=ry;exact ne_str (kaR I q (congrArg not kkW))
  |_=>exact absurd (show false=true from hs) JS
 |byt i=>
  obtain⟨t,rfl⟩:=rx
  cases y with
  |byt j=>obtain⟨t',rfl⟩:=ry;exact PySem.W.ne_bytes (kaR I q (congrArg not kkY))
  |_=>exact absurd (show false=true from hs) JS
 |_=>cases y <;> exact absurd (show false=true from hs) JS
theorem op_lt:OpR X (compareOp .Lt) (rI0 fun i j=>.bl (decide (i<j))):=opB0 fun _ _ _ _ _ _ _ q=>lt_int q
theorem op_gt:OpR X (compareOp .Gt) (rI0 fun i j=>.bl (decide (j<i))):=opB0 fun _ _ _ _ _ _ _ q=>gt_int q
theorem kgR:OpR X (compareOp .Is) (fun x y H Q=>y=.non∧Q (.bl (decide (x=.non))) H):=by
 intro pins s σ H x y v u Q I rx ry h
 obtain⟨rfl,q⟩:=h
 cases ry
 refine is_none_gen (kaR I q ?_)
 cases x <;> first
  |(cases rx;rfl)
  |(obtain⟨t,rfl⟩:=rx;rfl)
theorem kdY:OpR X (compareOp .IsNot) (fun x y H Q=>y=.non∧Q (.bl (!decide (x=.non))) H):=by
 intro pins s σ H x y v u Q I rx ry h
 obtain⟨rfl,q⟩:=h
 cases ry
 refine isnot_none_gen (kaR I q ?_)
 cases x <;> first
  |(cases rx;rfl)
  |(obtain⟨t,rfl⟩:=rx;rfl)
theorem kat(b:Expr){op:CmpOp}(h:op≠.In:=by decide)(h2:op≠.NotIn:=by decide):behindInMarks op b=false:=by
 have e1:(op==CmpOp.In)=false:=by cases op <;> first|rfl|exact absurd rfl h
 have e2:(op==CmpOp.NotIn)=false:=by cases op <;> first|rfl|exact absurd rfl h2
 cases b <;> simp[behindInMarks,e1,e2]
theorem kce{op:CmpOp}{r:R2}(ho:OpR X (compareOp op) r)(ha:PE X a ta)(hb:PE X b tb)(hm:behindInMarks op b=false):PE X (.Compare a [op] [b] pos) (tOp r ta tb):=by
 intro pins s σ H Q I h
 exact wpAny_Compare1 (binT ha hb I h fun v u s2 x y H2 I2 rx ry q=>ho pins s2 σ H2 x y v u Q I2 rx ry q) hm
def tTest(t:TE):TT:=fun σ H Q=>t σ H fun x H'=>∃k,x=.bl k∧Q k H'
theorem kam{op:CmpOp}{r:R2}(ho:OpR X (compareOp op) r)(ha:PE X a ta)(hb:PE X b tb)(hm:behindInMarks op b=false):PT X (.Compare a [op] [b] pos) (tTest (tOp r ta tb)):=by
 intro pins s σ H Q I h
 refine wpAny_isTrue_Compare1 (thn (ha pins s σ H _ I h) fun v s1 ⟨x,H1,I1,r1,q1⟩=>thn (hb pins s1 σ H1 _ I1 q1) fun u s2 ⟨y,H2,I2,r2,q2⟩=>
  thn (ho pins s2 σ H2 x y v u _ I2 r1 r2 q2) fun c s3 ⟨z,H3,I3,r3,k,e,q3⟩=>?_) hm
 subst e
 cases r3
 exact wpAny_truthy_bool ⟨H3,I3,q3⟩
theorem kg4:(sizeLine:Nat)<2 ^ 63:=by rw[sizeLine_eq];decide
theorem vals1{x:V}{us:List Value}(r:Vals [x] us):∃u,us=[u]∧RelV x u:=by
 cases r with
 |cons r1 r2=>cases r2;exact⟨_,rfl,r1⟩
theorem vals2{x y:V}{us:List Value}(r:Vals [x,y] us):∃u w',us=[u,w']∧RelV x u∧RelV y w':=by
 cases r with
 |cons r1 r2=>
  cases r2 with
  |cons r3 r4=>cases r4;exact⟨_,_,rfl,r1,r3⟩
theorem kfb(hc:X.calm=true):CallR X (.builtin "max") (fun xs H Q=>∃i j,xs=[.int i, .int j]∧Q (.int (if j > i then j else i)) H):=by
 intro pins s σ H xs us Q I r h
 obtain⟨i,j,rfl,q⟩:=h
 obtain⟨u,w',rfl,⟨t,rfl⟩,⟨t',rfl⟩⟩:=vals2 r
 refine max_two_ints (I.ok.hd hc) fun h' tk k=>⟨_,H,I.kept k,?_,q⟩
 by_cases hj:j > i
 ·rw[if_pos hj,if_pos hj];exact⟨_,rfl⟩
 ·rw[if_neg hj,if_neg hj];exact⟨_,rfl⟩
theorem kbP(hc:X.calm=true):CallR X (.builtin "min") (fun xs H Q=>∃i j,xs=[.int i, .int j]∧Q (.int (if j<i then j else i)) H):=by
 intro pins s σ H xs us Q I r h
 obtain⟨i,j,rfl,q⟩:=h
 obtain⟨u,w',rfl,⟨t,rfl⟩,⟨t',rfl⟩⟩:=vals2 r
 refine min_two_ints (I.ok.hd hc) fun h' tk k=>⟨_,H,I.kept k,?_,q⟩
 by_cases hj:j<i
 ·rw[if_pos hj,if_pos hj];exact⟨_,rfl⟩
 ·rw[if_neg hj,if_neg hj];exact⟨_,rfl⟩
end
end L2
namespace L2
open PySem PySem.Spec PyProof.Rows
structure ObjM (h:Heap) (x dx C:Addr) (mA:Str→Option Value):Prop where
 obj:h.get? x=some (Mi C dx)
 ns:h.Ns1 dx mA
 ne:dx≠x
def kkp{h:Heap}{dx:Addr}{mA:Str→Option Value}(n:h.Ns1 dx mA):∃od,h.get? dx=some od∧∀name,MW name od=some (mA name):=by
 obtain⟨o,es,ep,ho,hd,hk,_,hm⟩:=n
 refine⟨o,ho,fun name=>?_⟩
 have e:=hm name
 unfold nsFind findBy at e
 rw[←Array.find?_toList] at e
 unfold MW
 rw[hd]
 dsimp only
 split
 ·rename_i y q
  rw[q] at e
  exact congrArg some e
 ·rename_i q
  rw[q] at e
  have a:es.toList.any (·.refKey)=false:=by
   rw[List.any_eq_false]
   intro y hy
   obtain⟨z,t,hkey⟩:=hk y (Array.mem_toList_iff.mp hy)
   simp[DictEntry.refKey,hkey]
  have a':¬es.toList.any (·.refKey)=true:=by rw[a];exact JS
  rw[if_neg a']
  exact congrArg some e
def ObjM.look{h:Heap}{x dx C:Addr}{mA:Str→Option Value}(I:ObjM h x dx C mA):∃od,PySem.W.InstAt h x (Mi C dx) C (some od)∧∀name,MW name od=some (mA name):=
 let⟨od,ho,hl⟩:=kkp I.ns
 ⟨od,⟨I.obj,rfl,rfl,ho⟩,hl⟩
section
variable {prog:Program} {w:World} {A:Around} {E:Value→Shared→Prop} {s:Shared} {K:JL} {x dx C f:Addr} {mA:Str→Option Value} {name:Str} {v:Value}
theorem get_map{expr:Bool}{Q:Value→Shared→Prop}(X:K.In s.heap)(I:ObjM s.heap x dx C mA)(hg:Nx K C name=true)(hh:NF K C=true)
  (ha:JM K (.ref C) name=some none) (hv:mA name=some v) (hv':PySem.W.handedIn v=true) (h:Q v {s with toks:=s.toks+1}):
  wpAny (model prog w) A (getAttr (.ref x) name expr) Q E s:=by
 obtain⟨od,J,hl⟩:=I.look
 exact PySem.W.get_value X J (Es hg).1 (PySem.W.findObj_own hh ha rfl (by rw[hl,hv])) hv' h
theorem klN{pl:Sem Bool}{Q:Value×List Value→Shared→Prop}(X:K.In s.heap)(I:ObjM s.heap x dx C mA)(hg:Nx K C name=true)
  (hf:JM K (.ref C) name=some (some (.ref f))) (ht:NI K (.ref f)=true) (hv:mA name=none) (h:Q (.ref f,[.ref x]) s):
  wpAny (model prog w) A (getMethod (.ref x) name pl) Q E s:=by
 obtain⟨od,J,hl⟩:=I.look
 exact PySem.W.method_fn X J (Es hg).1 (Es hg).2 hf (beq_iff_eq.mp ht) (by show(MW name od).map (·.isSome)=some false;rw[hl,hv];rfl) h
theorem kmG{ns:List Str}{Q:Unit→Shared→Prop}(X:K.In s.heap)(I:ObjM s.heap x dx C mA)
  (hs:JM K (.ref C) "__setattr__"=some (some (.builtin "object.__setattr__"))) (hp:NJ K C=true) (ht:Et K C name=some none) (hh:NF K C=true)
  (hw:PySem.Within mA ns) (hsz:ns.length≤sizeLine)
  (h:∀h',ObjM h' x dx C (fun y=>if y=name then some v else mA y)→Heap.SameBut dx s.heap h'→Q () {s with heap:=h',toks:=s.toks+2}):
  wpAny (model prog w) A (setAttr (.ref x) name v) Q E s:=by
 obtain⟨od,J,hl⟩:=I.look
 refine PySem.W.set_plain X J hs (PySem.W.osa_open (s:={s with toks:=s.toks+1}) (r:=none) X J hp ht fun b=>?_)
 obtain⟨cd,hc,hd'⟩:=PySem.W.any_some hh
 have hx:s.heap.get? x=some ⟨.ref C,some dx, .plain,#[]⟩:=I.obj
 refine wpAny_bind (wpAny_pure (wpAny_bind (wpAny_bind (wpAny_loadPart hx (wpAny_bind (PySem.W.Looks.here (s:={s with toks:=s.toks+1}) (PySem.W.looks_clsIn X hc) ?_))))))
 rw[hd']
 refine wpAny_pure (a:=some dx) (wpAny_bind (wpAny_pure (wpAny_bind ?_)))
 refine wpAny_nsSet1 (s:={s with toks:=s.toks+1}) I.ns fun h' hn2 hs2=>?_
 obtain⟨oD,esD,epD,hoD,hdD,hcD⟩:=hn2.count (PySem.Within.cons name v hw)
 refine wpAny_bind (wpAny_lookBehind hoD (by rw[hdD];exact pastItsLine_dict (JN hcD (by rw[Ny];omega))) ?_)
 exact wpAny_pure (h _ ⟨(hs2.2 _ (Ne.symm I.ne)).trans I.obj,hn2,I.ne⟩ hs2)
theorem klF{R:Result→Shared→Prop}{vs:List Value}{kw:List (Str×Value)}(X:K.In s.heap)(hm:NG K C=true)
  (hi:JM K (.ref C) "__init__"=some (some (.ref f))) (hf:Nz K (.ref f)=some (.type "function"))
  (h:codeAny (model prog w) (A.under (.builtin "type.__call__" ⟨.ref C::vs,kw⟩)) (.call (.ref f) ⟨.ref (s.heap.objs.size+1)::vs,kw⟩) (PySem.W.InitBack (s.heap.objs.size+1) R)
   {s with heap:=(s.heap.push Ma).push (Mi C s.heap.objs.size)}):
  codeAny (model prog w) A (.call (.ref C) ⟨vs,kw⟩) R s:=by
 obtain⟨hh,g,d,t,os⟩:=s
 exact PySem.W.make_core (PySem.W.makes_of X hm) (PySem.W.looks_findIn X hi) (fun self=>PySem.W.bind_fn X self hf) (.inl rfl) h
end
def putF(f:Str)(v:V):List (Str×V)→List (Str×V)
 |[]=>[(f,v)]
 |(g,x)::r=>if g=f then(g,v)::r else(g,x)::putF f v r
theorem kac(f g:Str)(v:V):∀fs:List (Str×V),(putF f v fs).lookup g=if g=f then some v else fs.lookup g
 | []=>by
  show NQ g [(f,v)]=_
  by_cases h:g=f
  ·have hb:(g==f)=true:=beq_iff_eq.mpr h
   simp only[NQ,hb,if_pos h]
  ·have hb:(g==f)=false:=beq_eq_false_iff_ne.mpr h
   simp only[NQ,hb,if_neg h]
 | (k,x)::r=>by
  have ih:=kac f g v r
  rw[show putF f v ((k,x)::r)=(if k=f then(k,v)::r else(k,x)::putF f v r) from rfl]
  by_cases hk:k=f
  ·rw[if_pos hk]
   by_cases h:g=k
   ·have hb:(g==k)=true:=beq_iff_eq.mpr h
    simp only[NQ,hb,if_pos (h.trans hk)]
   ·have hb:(g==k)=false:=beq_eq_false_iff_ne.mpr h
    simp only[NQ,hb,if_neg (fun e:g=f=>h (e.trans hk.symm))]
  ·rw[if_neg hk]
   by_cases h:g=k
   ·have hb:(g==k)=true:=beq_iff_eq.mpr h
    simp only[NQ,hb,if_neg (fun e:g=f=>hk (h.symm.trans e))]
   ·have hb:(g==k)=false:=beq_eq_false_iff_ne.mpr h
    simp only[NQ,hb]
    exact ih
theorem keZ(f:Str)(v:V):∀fs:List (Str×V),f∈(putF f v fs).map (·.1)∧∀g,g∈fs.map (·.1)→g∈(putF f v fs).map (·.1)
 |[]=>⟨by simp[putF],fun g h=>by simp at h⟩
 | (k,x)::r=>by
  obtain⟨i1,i2⟩:=keZ f v r
  rw[show putF f v ((k,x)::r)=(if k=f then(k,v)::r else(k,x)::putF f v r) from rfl]
  by_cases hk:k=f
  ·rw[if_pos hk]
   subst hk
   exact⟨by simp,fun g h=>by simpa using h⟩
  ·rw[if_neg hk]
   refine⟨?_,fun g h=>?_⟩
   ·rw[JV]
    exact JZ _ i1
   ·rw[JV] at h⊢
    rcases Nc.mp h with e|e
    ·exact Nc.mpr (.inl e)
    ·exact JZ _ (i2 g e)
theorem keW(f:Str)(v:V):∀fs:List (Str×V),(putF f v fs).length≤fs.length+1
 |[]=>by simp[putF]
 |(k,x)::r=>by
  have ih:=keW f v r
  rw[show putF f v ((k,x)::r)=(if k=f then(k,v)::r else(k,x)::putF f v r) from rfl]
  by_cases hk:k=f
  ·rw[if_pos hk,Ny,Ny];omega
  ·rw[if_neg hk,Ny,Ny];omega
theorem RelO.some_of{v:V}{o:Option Value}(r:RelO (some v) o):∃u,o=some u∧RelV v u:=by
 cases o with
 |none=>exact(show False from r).elim
 |some u=>exact⟨u,rfl,r⟩
theorem RelO.none_of{o:Option Value}(r:RelO none o):o=none:=by
 cases o with
 |none=>rfl
 |some u=>exact(show False from r).elim
theorem kkM{v:V}{u:Value}(r:RelV v u):PySem.W.handedIn u=true:=by
 cases v with
 |non=>cases(show u=Value.none from r);rfl
 |bl b=>cases(show u=Value.bool b from r);rfl
 |int i=>obtain⟨t,e⟩:=(show ∃t,u=Value.int i t from r);cases e;rfl
 |str x=>obtain⟨t,e⟩:=(show ∃t,u=Value.str x t from r);cases e;rfl
 |byt b=>obtain⟨t,e⟩:=(show ∃t,u=Value.bytes b t from r);cases e;rfl
 |flt b=>obtain⟨t,e⟩:=(show ∃t,u=Value.float b t from r);cases e;rfl
 |ref a=>cases(show u=Value.ref a from r);rfl
 |ty n=>cases(show u=Value.type n from r);rfl
section
variable {P:Program} {w:World} {H H':Hp} {h h':Heap} {a C dx:Addr} {fs fs':List (Str×V)}
theorem kgh(hok:HOk P w H h)(e:H a=some (.ins C dx fs)):∃mA,ObjM h a dx C mA∧(∀f,RelO (fs.lookup f) (mA f))∧PySem.Within mA (fs.map (·.1))∧fs.length≤1000∧H dx=some (.own a):=by
 obtain⟨d,z,ne,ob,mA,n,r,q⟩:=(show ObjOk P w H h a (.ins C dx fs) from hok a _ e)
 exact⟨mA,⟨ob,n,ne⟩,r,q,z,d⟩
end
structure Cls (K:JL) (C:Addr):Prop where
 pg:Nx K C Str.empty=true
 hd:NF K C=true
 po:NJ K C=true
 sa:JM K (.ref C) "__setattr__"=some (some (.builtin "object.__setattr__"))
def Cls.get{K:JL}{C:Addr}(c:Cls K C)(f:Str):Nx K C f=true:=c.pg
def NoAttr(K:JL)(C:Addr)(f:Str):Prop:=JM K (.ref C) f=some none
def NoAttr.taker{K:JL}{C:Addr}{f:Str}(n:NoAttr K C f):Et K C f=some none:=by
 unfold Et
 rw[show JM K (.ref C) f=some none from n]
 rfl
structure Meth (K:JL) (C:Addr) (m:Str) (f:Addr):Prop where
 at_:JM K (.ref C) m=some (some (.ref f))
 fn:NI K (.ref f)=true
 kp:J7 K (.ref f)=true
section
variable {X:Cx} {pins:List (Addr×Obj)} {σ:St} {H:Hp} {s:Shared} {a C dx:Addr} {fs:List (Str×V)} {f:Str} {v:V} {A:Around} {E:Value→Shared→Prop}
theorem kjg{b:Bool}{Q:Value→Shared→Prop}(I:Inv X pins σ H s)(e:H a=some (.ins C dx fs))(c:Cls X.K C)(n:NoAttr X.K C f)(l:fs.lookup f=some v)
  (h:∀u s',Inv X pins σ H s'→RelV v u→Q u s'):wpAny (model X.prog X.w) A (getAttr (.ref a) f b) Q E s:=by
 obtain⟨mA,O,r,_,_,_⟩:=kgh I.hok e
 obtain⟨u,hu,ru⟩:=RelO.some_of (v:=v) (o:=mA f) (by rw[←l];exact r f)
 exact get_map I.kIn O (c.get f) c.hd n hu (kkM ru) (h u _ (I.tok _) ru)
theorem kfL{m:Str}{g:Addr}{pl:Sem Bool}{Q:Value×List Value→Shared→Prop}(I:Inv X pins σ H s)(e:H a=some (.ins C dx fs))(c:Cls X.K C)(k:Meth X.K C m g)(l:fs.lookup m=none)
  (h:Q (.ref g,[.ref a]) s):wpAny (model X.prog X.w) A (getMethod (.ref a) m pl) Q E s:=by
 obtain⟨mA,O,r,_,_,_⟩:=kgh I.hok e
 have hn:mA m=none:=RelO.none_of (by rw[←l];exact r m)
 exact klN I.kIn O (c.get m) k.at_ k.fn hn h
theorem ki4{y:V}{u:Value}{Q:Unit→Shared→Prop}(I:Inv X pins σ H s)(e:H a=some (.ins C dx fs))(c:Cls X.K C)(n:NoAttr X.K C f)(hl:fs.length<1000)(ry:RelV y u)
  (h:∀s',Inv X pins σ (upd H a (.ins C dx (putF f y fs))) s'→Q () s'):wpAny (model X.prog X.w) A (setAttr (.ref a) f u) Q E s:=by
 obtain⟨mA,O,r,wi,_,ho⟩:=kgh I.hok e
 have hz:(fs.map (·.1)).length≤sizeLine:=by rw[JJ,sizeLine_eq];omega
 refine kmG I.kIn O c.sa c.po n.taker c.hd wi hz fun h' O' sb=>h _ ?_
 have hd:∃o,h'.get? dx=some o:=let⟨o,_,_,e',_⟩:=O'.ns;⟨o,e'⟩
 refine I.write (x:=a) (e:=dx) (by rw[e];exact True.intro) (.inr ho) (fun b q hb z=>(sb.2 b hb).trans z) hd ?_
 refine⟨by rw[kak O.ne];exact ho,?_,O.ne,O'.obj,_,O'.ns,fun g=>?_,fun g hg=>?_⟩
 ·have:=keW f y fs;omega
 ·show RelO ((putF f y fs).lookup g) (if g=f then some u else mA g)
  rw[kac]
  by_cases q:g=f
  ·rw[if_pos q,if_pos q];exact ry
  ·rw[if_neg q,if_neg q];exact r g
 ·by_cases q:g=f
  ·rw[q];exact(keZ f y fs).1
  ·refine(keZ f y fs).2 g (wi g fun z=>hg ?_)
   show(if g=f then some u else mA g)=none
   rw[if_neg q];exact z
theorem Inv.made(I:Inv X pins σ H s):Inv X pins σ (upd (upd H s.heap.objs.size (.own (s.heap.objs.size+1))) (s.heap.objs.size+1) (.ins C s.heap.objs.size []))
  {s with heap:=(s.heap.push Ma).push (Mi C s.heap.objs.size)}:=by
 have e1:(s.heap.push Ma).get? s.heap.objs.size=some Ma:=Heap.get?_push_size s.heap rfl
 have e2:((s.heap.push Ma).push (Mi C s.heap.objs.size)).get? (s.heap.objs.size+1)=some (Mi C s.heap.objs.size):=by
  have:=Heap.get?_push_size (s.heap.push Ma) (o:=Mi C s.heap.objs.size) rfl
  rwa [Heap.size_push] at this
 have e3:(s.heap.push Ma).Ns s.heap.objs.size (fun _=>none):=⟨Ma,#[],_,e1,rfl,(fun e he=>absurd he (by simp)),fun _=>rfl⟩
 have I1:=I.laid (a:=s.heap.objs.size) (o:=.own (s.heap.objs.size+1)) (h':=s.heap.push Ma) (t':=s.toks) (fun b u q=>Heap.get?_push_of_some _ q) (JK _) ⟨_,e1⟩
 refine I1.laid (a:=s.heap.objs.size+1) (o:=.ins C s.heap.objs.size []) (t':=s.toks) (fun b u q=>Heap.get?_push_of_some _ q) (MX (Heap.size_push _ _)) ?_
 have ne:s.heap.objs.size≠s.heap.objs.size+1:=Nj (MY _)
 refine⟨by rw[kak ne,kae],Nr _,ne,e2,fun _=>none,(Heap.Ns1.of_empty e3).at fun o q=>Heap.get?_push_of_some _ q,fun _=>True.intro,fun y hy=>absurd rfl hy⟩
theorem knh{prog:Program}{w:World}{env:Env}{e:Expr}{f:Str}{pos:Pos}{s:Shared}{Q:Value→Shared→Prop}(hb:attributeBase e f env (eval e env)=eval e env)
  (h:wpAny (model prog w) A (eval e env) (fun o s₁=>wpAny (model prog w) A (getAttr o f true) Q E s₁) E s):wpAny (model prog w) A (eval (.Attribute e f pos) env) Q E s:=
 Attribute_any_ h (by rw[arm_eval_Attribute,hb])
end
def tFld(K:JL)(ta:TE)(f:Str):TE:=fun σ H Q=>ta σ H fun x H1=>∃a C dx fs v,x=.ref a∧H1 a=some (.ins C dx fs)∧Cls K C∧NoAttr K C f∧fs.lookup f=some v∧Q v H1
def sFld(K:JL)(ta tv:TE)(f:Str):TS:=fun D σ H=>tv σ H fun y H1=>ta σ H1 fun x H2=>∃a C dx fs,x=.ref a∧H2 a=some (.ins C dx fs)∧Cls K C∧NoAttr K C f∧fs.length<1000∧
 D.nx σ (upd H2 a (.ins C dx (putF f y fs)))
section
variable {X:Cx} {o e value:Expr} {f:Str} {pos pos' tpos:Pos} {ta tv:TE}
theorem knu(he:PE X e ta)(hb:attributeBase e f X.env (eval e X.env)=eval e X.env):PE X (.Attribute e f pos) (tFld X.K ta f):=by
 intro pins s σ H Q I h
 refine knh hb (thn (he pins s σ H _ I h) fun u s1 ⟨x,H1,I1,rx,a,C,dx,fs,v,ex,ea,c,n,l,q⟩=>?_)
 subst ex
 obtain rfl:u=Value.ref a:=rx
 exact kjg I1 ea c n l fun u' s2 I2 ru=>⟨v,H1,I2,ru,q⟩
theorem kaI(ha:PE X o ta)(hv:PE X value tv)(hs:swapsWith value (some (.Attribute o f pos')) pos.line X.env=pure false):PS X (.Assign [.Attribute o f pos'] value pos) (sFld X.K ta tv f):=by
 intro pins s σ H D I h
 refine plainObj_wpAny_Assign_Attribute (thn (hv pins s σ H _ I h) fun u s1 ⟨y,H1,I1,ry,q⟩=>thn (ha pins s1 σ H1 _ I1 q) fun ov s2 ⟨x,H2,I2,rx,a,C,dx,fs,ex,ea,c,n,l,q2⟩=>?_) hs
 subst ex
 obtain rfl:ov=Value.ref a:=rx
 exact ki4 I2 ea c n l ry fun s3 I3=>⟨σ,_,I3,q2⟩
end
section
variable {X:Cx} {pins:List (Addr×Obj)} {σ:St} {H:Hp} {s:Shared} {A:Around} {E:Value→Shared→Prop} {Q:Value→Shared→Prop} {c:Value} {b:Bool}
inductive TyOf (K:JL) (H:Hp):V→Value→Prop where
 |non:TyOf K H .non (.type "NoneType")
 |bl (x:Bool):TyOf K H (.bl x) (.type "bool")
 |int (i:Int):TyOf K H (.int i) (.type "int")
 |str (x:Str):TyOf K H (.str x) (.type "str")
 |flt (x:UInt64):TyOf K H (.flt x) (.type "float")
 |lst {a:Addr} {xs:List V} (e:H a=some (.lst xs)):TyOf K H (.ref a) (.type "list")
 |frz {a:Addr} {o:Obj} {xs:List V} (e:H a=some (.frz o (.lst xs))):TyOf K H (.ref a) (.type "list")
 |tup {a:Addr} {xs:List V} (e:H a=some (.tup xs)):TyOf K H (.ref a) (.type "tuple")
 |dK {a:Addr} {kvs:List (Key×V)} (e:H a=some (.dK kvs)):TyOf K H (.ref a) (.type "dict")
 |dT {a:Addr} {kvs:List (List Key×V)} (e:H a=some (.dT kvs)):TyOf K H (.ref a) (.type "dict")
 | ins {a C dx:Addr} {fs:List (Str×V)} (e:H a=some (.ins C dx fs)) (cl:Cls K C) (ha:JM K (.ref C) "__class__"=some (some (.builtin "object.__class__")))
   (hn:MJ K (.builtin "object.__class__") "__get__"=some (some (.builtin "getset_descriptor.__get__"))) (htk:Eu K (.builtin "object.__class__")=some true)
   (hm:JT K C (.type "object")=some true):TyOf K H (.ref a) (.ref C)
theorem kkG{x:V}{u t:Value}(I:Inv X pins σ H s)(rx:RelV x u)(ty:TyOf X.K H x t)(e:Nb X.K t c=some b)(h:∀tk,Q (.bool b) {s with toks:=tk}):
  wpAny (model X.prog X.w) A (call (.builtin "isinstance") [u,c]) Q E s:=by
 cases ty with
 |non=>cases(show u=Value.none from rx);exact NY PySem.W.kitx_none I.kIn True.intro e (fun z=>nomatch z) h
 |bl y=>cases(show u=Value.bool y from rx);exact NY PySem.W.kitx_bool I.kIn True.intro e (fun z=>nomatch z) h
 |int i=>obtain⟨t,q⟩:=(show ∃t,u=Value.int i t from rx);cases q;exact NY PySem.W.kitx_int I.kIn True.intro e (fun z=>nomatch z) h
 |str y=>obtain⟨t,q⟩:=(show ∃t,u=Value.str y t from rx);cases q;exact NY PySem.W.kitx_str I.kIn True.intro e (fun z=>nomatch z) h
 |flt y=>obtain⟨t,q⟩:=(show ∃t,u=Value.float y t from rx);cases q;exact NY PySem.W.kitx_float I.kIn True.intro e (fun z=>nomatch z) h
 | @lst a xs ea=>
  cases(show u=Value.ref a from rx)
  obtain⟨_,_,n,_,h1⟩:=(show ObjOk X.prog X.w H s.heap a (.lst xs) from I.hok a _ ea)
  exact NY PySem.W.kitx_list I.kIn ⟨_,h1,rfl⟩ e (fun z=>nomatch z) h
 | @frz a ob xs ea=>
  cases(show u=Value.ref a from rx)
  obtain⟨_,_,_,n,_,h1⟩:=(show ObjOk X.prog X.w H s.heap a (.frz ob (.lst xs)) from I.hok a _ ea)
  exact NY PySem.W.kitx_list I.kIn ⟨_,h1,rfl⟩ e (fun z=>nomatch z) h
 | @tup a xs ea=>
  cases(show u=Value.ref a from rx)
  obtain⟨_,_,_,p⟩:=(show ObjOk X.prog X.w H s.heap a (.tup xs) from I.hok a _ ea)
  obtain⟨o,h1,h2,_⟩:=p
  exact NY PySem.W.kitx_tuple I.kIn ⟨o,h1,h2⟩ e (fun z=>nomatch z) h
 | @dK a kvs ea=>
  cases(show u=Value.ref a from rx)
  obtain⟨_,_,vs,_,p⟩:=(show ObjOk X.prog X.w H s.heap a (.dK kvs) from I.hok a _ ea)
  obtain⟨o,es,ep,h1,h2,_⟩:=p
  exact NY PySem.W.kitx_dict I.kIn ⟨o,h1,h2.1⟩ e (fun z=>nomatch z) h
 | @dT a kvs ea=>
  cases(show u=Value.ref a from rx)
  obtain⟨_,_,xs,_,o,es,ep,h1,h2,_⟩:=(show ObjOk X.prog X.w H s.heap a (.dT kvs) from I.hok a _ ea)
  exact NY PySem.W.kitx_dict I.kIn ⟨o,h1,h2.1⟩ e (fun z=>nomatch z) h
 | @ins a C dx fs ea cl ha hn htk hm=>
  cases(show u=Value.ref a from rx)
  obtain⟨mA,O,_⟩:=kgh I.hok ea
  obtain⟨od,J,_⟩:=O.look
  exact NY (PySem.W.kitx_own (cl.get _) cl.hd ha hn htk hm) I.kIn J e (fun z=>nomatch z) h
end
end L2
namespace L2
open PySem PySem.Spec PyProof.Rows
structure Room (k:Nat) (A:Around):Prop where
 hd:A.handled=none
 dp:A.depth+3*k+5<recursionLimit
 un:A.units+16*k+200<cLine
def Room.mono{j k:Nat}{A:Around}(r:Room k A)(h:j≤k):Room j A:=⟨r.hd,by have:=r.dp;omega,by have:=r.un;omega⟩
def Room.deeper{k:Nat}{A:Around}(r:Room (k+1) A)(env:Env):Room k (A.deeper env):=
 ⟨r.hd,by have:=r.dp;show A.depth+1+3*k+5<_;omega,by have:=r.un;show A.units+3+16*k+200<_;omega⟩
def kjd{A:Around}{C:Addr}{us:List Value}{kw:List (Str×Value)}:(A.under (.builtin "type.__call__" ⟨.ref C::us,kw⟩)).depth=A.depth+1:=by
 first|rfl|simp[Around.under,Code.weight,Code.isCreation,Code.isGuard,Code.isCaller,Code.frames,Code.isFrame,guardIds]
def kjc{A:Around}{C:Addr}{us:List Value}{kw:List (Str×Value)}:(A.under (.builtin "type.__call__" ⟨.ref C::us,kw⟩)).units=A.units+1:=by
 first|rfl|simp[Around.under,Code.cUnits,Code.frames,Code.isFrame]
def Room.make{k:Nat}{A:Around}(r:Room (k+1) A)(C:Addr)(us:List Value)(kw:List (Str×Value)):Room k (A.under (.builtin "type.__call__" ⟨.ref C::us,kw⟩)):=
 ⟨r.hd,by have:=r.dp;rw[kjd];omega,by have:=r.un;rw[kjc];omega⟩
def Room.depth{k:Nat}{A:Around}(r:Room k A):A.depth<recursionLimit:=by have:=r.dp;omega
def Room.units{k:Nat}{A:Around}(r:Room k A):A.units+64<cLine:=by have:=r.un;omega
def Room.units0{k:Nat}{A:Around}(r:Room k A):A.units<cLine:=by have:=r.un;omega
def tNil:TA:=fun _ H Q=>Q [] H
def tCons(ta:TE)(tr:TA):TA:=fun σ H Q=>ta σ H fun x H1=>tr σ H1 fun xs H2=>Q (x::xs) H2
section
variable {X:Cx} {e:Expr} {es:List Expr} {te:TE} {t:TA} {pos:Pos}
theorem kad:PA X [] tNil:=fun _ _ _ _ H Q I h=>Calls.spliced_nil ⟨[],H,I, .nil,h⟩
theorem kaa(ha:PE X e te)(hr:PA X es t)(hs:starEach (e::es) X.env=(false,eval e X.env)::starEach es X.env:=by rfl):PA X (e::es) (tCons te t):=by
 intro pos pins s σ H Q I h
 rw[hs]
 show wpAny _ _ (spliced ((false,eval e X.env)::backTo pos (starEach es X.env))) _ _ s
 refine Calls.spliced_cons (thn (ha pins s σ H _ I h) fun u s1 ⟨x,H1,I1,r1,q1⟩=>?_)
 exact thn (hr pos pins s1 σ H1 _ I1 q1) fun us s2 ⟨xs,H2,I2,r2,q2⟩=>⟨x::xs,H2,I2, .cons r1 r2,q2⟩
def tTup(t:TA):TE:=fun σ H Q=>t σ H fun xs H1=>xs.length≤sizeLine∧∀p,H1 p=none→Q (.ref p) (upd H1 p (.tup xs))
def tLst(t:TA):TE:=fun σ H Q=>t σ H fun xs H1=>xs.length≤sizeLine∧∀p,H1 p=none→Q (.ref p) (upd H1 p (.lst xs))
theorem kb0{x1}(h:PA X es t):PE X (.Tuple es x1 pos) (tTup t):=by
 intro pins s σ H Q I hq
 refine wpAny_Tuple_spliced (thn (h pos pins s σ H _ I hq) fun us s1 ⟨xs,H1,I1,r,z,q⟩=>⟨by rw[←r.length];exact z,?_⟩)
 have hf:H1 s1.heap.objs.size=none:=I1.hok.fresh (JK _)
 refine⟨.ref s1.heap.objs.size,upd H1 s1.heap.objs.size (.tup xs),I1.laid (t':=s1.toks) (fun b u e=>Heap.get?_push_of_some _ e) (JK _) ?_,rfl,q _ hf⟩
 exact⟨z,us,r,⟨_,Heap.get?_push_size _ rfl,rfl,_,rfl⟩⟩
theorem kaS(h:PA X es t):PE X (.List es pos) (tLst t):=by
 intro pins s σ H Q I hq
 refine wpAny_List_spliced (thn (h pos pins s σ H _ I hq) fun us s1 ⟨xs,H1,I1,r,z,q⟩=>⟨by rw[←r.length];exact z,?_⟩)
 have hf:H1 s1.heap.objs.size=none:=I1.hok.fresh (JK _)
 refine⟨.ref s1.heap.objs.size,upd H1 s1.heap.objs.size (.lst xs),I1.laid (t':=s1.toks) (fun b u e=>Heap.get?_push_of_some _ e) (JK _) ?_,rfl,q _ hf⟩
 exact⟨z,us,0,r,Heap.get?_push_size _ rfl⟩
end
abbrev Sp:=List V→Hp→VK→XK→Prop
abbrev CXT:=List Env→Hp→Shared→XK→Value→Shared→Prop
structure Env0 (P:Program) (w:World) (K:JL) (mg:Str→Option Value) (base:Heap) (A:Around) (outer:List Env) (s:Shared) (H:Hp):Prop where
 frames:A.frames=some outer
 mod:Mod K mg base
 bs:∀b o,base.get? b=some o→s.heap.get? b=some o∧H b=none
 bsz:base.objs.size≤s.heap.objs.size
 funs:s.heap.FunFrames base outer
 frf:∀b∈frs outer,H b=none
 hok:HOk P w H s.heap
 bare:AllBare s.gens
def CE(outer:List Env)(P:Program)(w:World)(H:Hp)(s:Shared)(Q:VK)(u:Value)(s':Shared):Prop:=
 ∃v H',s'.os=s.os∧AllBare s'.gens∧Un (frs outer) [] H H' s.heap s'.heap∧HOk P w H' s'.heap∧RelV v u∧Q v H'
def CR(CX:CXT)(outer:List Env)(P:Program)(w:World)(H:Hp)(s:Shared)(Q:VK)(E:XK)(r:Result)(s':Shared):Prop:=
 match r with
 | .ok (.ret u)=>CE outer P w H s Q u s'
 | .ok _=>False
 | .error e=>CX outer H s E e s'
structure FnOk (P:Program) (w:World) (K:JL) (mg:Str→Option Value) (base:Heap) (CX:CXT) (k:Nat) (f:Addr) (fd:FuncData) (ps:List Str) (sp:Sp):Prop where
 len:∀vs H Q E,sp vs H Q E→vs.length=ps.length
 run:∀(A:Around)(outer:List Env)(s:Shared)(H:Hp)(args:Args)(us:List Value)(vs:List V)(Q:VK)(E:XK),Room k A→Env0 P w K mg base A outer s H→BindsTo s fd args (ps.zip us)→Vals vs us→sp vs H Q E→
  codeAny (model P w) A (.call (.ref f) args) (CR CX outer P w H s Q E) s
theorem Env0.make{P:Program}{w:World}{K:JL}{mg:Str→Option Value}{base:Heap}{A:Around}{outer:List Env}{s:Shared}{H:Hp}(e:Env0 P w K mg base A outer s H)(C:Addr)(us:List Value)(kw:List (Str×Value)):
  Env0 P w K mg base (A.under (.builtin "type.__call__" ⟨.ref C::us,kw⟩)) outer s H:=⟨by first|exact e.frames|(simpa[Around.under,Code.envs,Code.isFrame,pushEnvs] using e.frames),e.mod,e.bs,e.bsz,e.funs,e.frf,e.hok,e.bare⟩
section
variable {X:Cx} {pins:List (Addr×Obj)} {σ:St} {H:Hp} {s s':Shared}
theorem Inv.env0(I:Inv X pins σ H s):Env0 X.prog X.w X.K X.mg X.base X.A X.stack s H:=
 ⟨I.ok.frames,I.ok.mod,I.bs,JN I.ok.bsz I.sz,I.stack,I.stkFree,I.hok,I.bare⟩
theorem Inv.after{Q:VK}{u:Value}(I:Inv X pins σ H s)(h:CE X.stack X.prog X.w H s Q u s'):EP X pins σ Q u s':=by
 obtain⟨v,H',os,bare,un,hok,r,q⟩:=h
 obtain⟨hh,g,d,t,os'⟩:=s'
 obtain rfl:os'=s.os:=os
 exact⟨v,H',I.call (h':=hh) (g':=g) (d':=d) (t':=t) (ch:=[]) un hok bare (fun b z=>absurd z (by simp)),r,q⟩
end
def tCall(sp:Sp)(dvs:List V)(E:XK)(t:TA):TE:=fun σ H Q=>t σ H fun vs H1=>sp (vs++dvs) H1 Q E
def tMeth(C:Addr)(m:Str)(sp:Sp)(dvs:List V)(E:XK)(ta:TE)(t:TA):TE:=fun σ H Q=>ta σ H fun x H1=>∃a dx fs,x=.ref a∧H1 a=some (.ins C dx fs)∧fs.lookup m=none∧
 t σ H1 fun vs H2=>sp (x::(vs++dvs)) H2 Q E
def tMake(C:Addr)(sp:Sp)(dvs:List V)(E:XK)(t:TA):TE:=fun σ H Q=>t σ H fun vs H1=>∀x dx,H1 x=none→H1 dx=none→dx≠x→
 sp (.ref x::(vs++dvs)) (upd (upd H1 dx (.own x)) x (.ins C dx [])) (fun v H2=>v=.non∧Q (.ref x) H2) E
def Binds(K:JL)(fd:FuncData)(ps:List Str)(ds:List Value):Prop:=
 ∀(s:Shared)(us:List Value),K.In s.heap→(us++ds).length=ps.length→BindsTo s fd ⟨us,[]⟩ (ps.zip (us++ds))
def Binds.all{K:JL}{fd:FuncData}{ps:List Str}(h:∀us:List Value,us.length=ps.length→bindArgs fd ⟨us,[]⟩=pure (ps.zip us)):Binds K fd ps []:=fun s us _ hl=>by
 rw[Nl] at hl⊢
 exact .of_eq (h us hl)
def kdO(CX:CXT)(X:Cx)(E:XK):Prop:=∀(pins:List (Addr×Obj))(σ:St)(H:Hp)(s:Shared)(e:Value)(s':Shared),Inv X pins σ H s→CX X.stack H s E e s'→X.xe e s'
section
variable {X:Cx} {CX:CXT} {k:Nat} {f C:Addr} {fd:FuncData} {ps:List Str} {sp:Sp} {dvs:List V} {ds:List Value} {E:XK} {x m:Str} {p pos apos:Pos} {e o:Expr} {es:List Expr} {ta:TE} {t:TA}
theorem kiu{pins:List (Addr×Obj)}{σ:St}{H:Hp}{s:Shared}{Q:VK}{us:List Value}{vs:List V}(F:FnOk X.prog X.w X.K X.mg X.base CX k f fd ps sp)(hr:Room k X.A)(hb:Binds X.K fd ps ds)(hd:Vals dvs ds)(hx:kdO CX X E)
  (I:Inv X pins σ H s) (r:Vals vs us) (h:sp (vs++dvs) H Q E):wpAny (model X.prog X.w) X.A (call (.ref f) us) (EP X pins σ Q) X.xe s:=by
 have r2:Vals (vs++dvs) (us++ds):=r.append hd
 have hl:(us++ds).length=ps.length:=by rw[←r2.length];exact F.len _ _ _ _ h
 refine wpAny_call (codeAny_mono (F.run X.A X.stack s H ⟨us,[]⟩ (us++ds) (vs++dvs) Q E hr I.env0 (hb s us I.kIn hl) r2 h) fun r s' hq=>?_)
 cases r with
 |error e=>exact hx pins σ H s e s' I hq
 |ok fl=>
  cases fl with
  |ret u=>exact I.after hq
  |next=>exact False.elim hq
  |brk=>exact False.elim hq
  |cont=>exact False.elim hq
theorem kmR(F:FnOk X.prog X.w X.K X.mg X.base CX k f fd ps sp)(hr:Room k X.A)(hg:Gl X x)(hm:X.mg x=some (.ref f))(hk:J7 X.K (.ref f)=true)(hb:Binds X.K fd ps ds)(hd:Vals dvs ds)(hx:kdO CX X E)
  (ha:PA X (e::es) t) (hdb:(x==("__debug__" :Str))=false:=by decide) (he:starEach (e::es) X.env=(false,eval e X.env)::starEach es X.env:=by rfl) (hpl:(backTo pos (starEach es X.env)).any (·.1)=false:=by rfl):
  PE X (.Call (.Name x p) (e::es) [] pos) (tCall sp dvs E t):=by
 intro pins s σ H Q I h
 refine wpAny_Call_Name_kw (kgg I hg hm ?_ hdb)
 refine MZ (h₀:=X.base) I.ok.mod.kin hk (thn (ha pos pins s σ H _ I h) fun us s1 ⟨vs,H1,I1,r,q⟩=>⟨I1.kIn,?_⟩) he hpl
 exact kiu F hr hb hd hx I1 r q
theorem kdm{pl:Sem Bool}(he:PE X o ta)(c:Cls X.K C)(hm:Meth X.K C m f)(F:FnOk X.prog X.w X.K X.mg X.base CX k f fd ps sp)(hr:Room k X.A)(hb:Binds X.K fd ps ds)(hd:Vals dvs ds)(hx:kdO CX X E)(ha:PA X (e::es) t)
  (hst:starEach (e::es) X.env=(false,eval e X.env)::starEach es X.env:=by rfl) (hpl:(backTo pos (starEach es X.env)).any (·.1)=false:=by rfl)
  (ht:eval (.Call (.Attribute o m apos) (e::es) [] pos) X.env=(do
   let ov ←eval o X.env
   standAt apos.atName
   let(f,first) ←holding [ov] (getMethod ov m pl)
   callWith pos f first (backTo pos (starEach (e::es) X.env)) (backToKw pos (keywordEach [] X.env))):=by rfl):
  PE X (.Call (.Attribute o m apos) (e::es) [] pos) (tMeth C m sp dvs E ta t):=by
 intro pins s σ H Q I h
 refine Ew (pl:=pl) (thn (he pins s σ H _ I h) fun u s1 ⟨x,H1,I1,rx,a,dx,fs,ex,ea,l,q⟩=>?_) ht
 subst ex
 obtain rfl:u=Value.ref a:=rx
 refine kfL I1 ea c hm l ?_
 refine MZ (first:=[.ref a]) (h₀:=X.base) I.ok.mod.kin hm.kp (thn (ha pos pins s1 σ H1 _ I1 q) fun us s2 ⟨vs,H2,I2,r,q2⟩=>⟨I2.kIn,?_⟩) hst hpl
 exact kiu (us:=.ref a::us) (vs:=.ref a::vs) F hr hb hd hx I2 (.cons rfl r) q2
theorem kbK{pl:Sem Bool}(he:PE X o ta)(c:Cls X.K C)(hm:Meth X.K C m f)(F:FnOk X.prog X.w X.K X.mg X.base CX k f fd ps sp)(hr:Room k X.A)(hb:Binds X.K fd ps ds)(hd:Vals dvs ds)(hx:kdO CX X E)
  (ht:eval (.Call (.Attribute o m apos) [] [] pos) X.env=(do
   let ov ←eval o X.env
   standAt apos.atName
   let(f,first) ←holding [ov] (getMethod ov m pl)
   callWith pos f first (backTo pos (starEach [] X.env)) (backToKw pos (keywordEach [] X.env))):=by rfl):
  PE X (.Call (.Attribute o m apos) [] [] pos) (tMeth C m sp dvs E ta tNil):=by
 intro pins s σ H Q I h
 refine Ew (pl:=pl) (thn (he pins s σ H _ I h) fun u s1 ⟨x,H1,I1,rx,a,dx,fs,ex,ea,l,q⟩=>?_) ht
 subst ex
 obtain rfl:u=Value.ref a:=rx
 refine kfL I1 ea c hm l ?_
 exact EM (first:=[.ref a]) I1.kIn hm.kp (kiu (us:=[.ref a]) (vs:=[.ref a]) F hr hb hd hx I1 (.cons rfl .nil) q)
structure Mk (K:JL) (C f:Addr):Prop where
 makes:NG K C=true
 init:JM K (.ref C) "__init__"=some (some (.ref f))
 fn:NI K (.ref f)=true
 kp:J7 K (.ref C)=true
theorem kis{pins:List (Addr×Obj)}{σ:St}{H:Hp}{s:Shared}{Q:VK}{us:List Value}{vs:List V}(M:Mk X.K C f)(F:FnOk X.prog X.w X.K X.mg X.base CX k f fd ps sp)(hr:Room (k+1) X.A)(hb:Binds X.K fd ps ds)(hd:Vals dvs ds)
  (hx:kdO CX X E) (I:Inv X pins σ H s) (r:Vals vs us)
  (h:∀x dx,H x=none→H dx=none→dx≠x→sp (.ref x::(vs++dvs)) (upd (upd H dx (.own x)) x (.ins C dx [])) (fun v H2=>v=.non∧Q (.ref x) H2) E):
  wpAny (model X.prog X.w) X.A (call (.ref C) us) (EP X pins σ Q) X.xe s:=by
 have hq:=h (s.heap.objs.size+1) s.heap.objs.size (I.hok.fresh (Ms _)) (I.hok.fresh (JK _)) (Nj (MY _))
 have I2:=Inv.made (C:=C) I
 have r2:Vals (V.ref (s.heap.objs.size+1)::(vs++dvs)) (Value.ref (s.heap.objs.size+1)::(us++ds)):=.cons rfl (r.append hd)
 have hl:(Value.ref (s.heap.objs.size+1)::us++ds).length=ps.length:=by
  have e:=r2.length
  rw[F.len _ _ _ _ hq] at e
  exact e.symm
 refine wpAny_call (klF (f:=f) I.kIn M.makes M.init (beq_iff_eq.mp M.fn) (codeAny_mono (F.run _ X.stack _ _ ⟨Value.ref (s.heap.objs.size+1)::us,[]⟩ (Value.ref (s.heap.objs.size+1)::(us++ds)) _ _ E (hr.make C us [])
  (I2.env0.make C us []) (hb _ (Value.ref (s.heap.objs.size+1)::us) I2.kIn hl) r2 hq) fun r s' hq'=>?_))
 cases r with
 |error e=>exact hx pins σ _ _ e s' I2 hq'
 | ok fl=>
  cases fl with
  |ret u=>
   obtain⟨v,H',I3,rv,ev,q3⟩:=I2.after hq'
   subst ev
   exact⟨rv,⟨V.ref (s.heap.objs.size+1),H',I3,rfl,q3⟩⟩
  |next=>exact False.elim hq'
  |brk=>exact False.elim hq'
  |cont=>exact False.elim hq'
theorem kbp(M:Mk X.K C f)(F:FnOk X.prog X.w X.K X.mg X.base CX k f fd ps sp)(hr:Room (k+1) X.A)(hg:Gl X x)(hm:X.mg x=some (.ref C))(hb:Binds X.K fd ps ds)(hd:Vals dvs ds)(hx:kdO CX X E)
  (ha:PA X (e::es) t) (hdb:(x==("__debug__" :Str))=false:=by decide) (he:starEach (e::es) X.env=(false,eval e X.env)::starEach es X.env:=by rfl) (hpl:(backTo pos (starEach es X.env)).any (·.1)=false:=by rfl):
  PE X (.Call (.Name x p) (e::es) [] pos) (tMake C sp dvs E t):=by
 intro pins s σ H Q I h
 refine wpAny_Call_Name_kw (kgg I hg hm ?_ hdb)
 refine MZ (h₀:=X.base) I.ok.mod.kin M.kp (thn (ha pos pins s σ H _ I h) fun us s1 ⟨vs,H1,I1,r,q⟩=>⟨I1.kIn,?_⟩) he hpl
 exact kis M F hr hb hd hx I1 r q
theorem klp(M:Mk X.K C f)(F:FnOk X.prog X.w X.K X.mg X.base CX k f fd ps sp)(hr:Room (k+1) X.A)(hg:Gl X x)(hm:X.mg x=some (.ref C))(hb:Binds X.K fd ps ds)(hd:Vals dvs ds)(hx:kdO CX X E)
  (hdb:(x==("__debug__" :Str))=false:=by decide):PE X (.Call (.Name x p) [] [] pos) (tMake C sp dvs E tNil):=by
 intro pins s σ H Q I h
 refine wpAny_Call_Name_kw (kgg I hg hm ?_ hdb)
 exact EM I.kIn M.kp (kis (us:=[]) M F hr hb hd hx I .nil h)
end
section
variable {X:Cx} {CX:CXT} {k:Nat} {f C:Addr} {fd:FuncData} {ps ks:List Str} {sp:Sp} {E:XK} {x m:Str} {p pos apos kpos:Pos} {e o:Expr} {es:List Expr} {kws:List Keyword} {te ta:TE} {t tk:TA} {nm:Option Str}
variable {g:List Value→List Value→List Value} {gV:List V→List V→List V}
end
structure kas (N P:List Str) (sc:Scope):Prop where
 kind:sc.kind=.function
 co:sc.isCoroutine=false
 gen:sc.isGenerator=false
 nd:N.Nodup
 pre:N.take P.length=P
 par:∀x∈P,sc.names.lookup x=some .local∨sc.names.lookup x=some .cell
 nofree:∀y∈sc.names,y.2≠.free
theorem khg{kindOf:Str→Option NameKind}{x:Str}:∀{binds:List (Str×Value)}{m:Str→Option Value},(∀v,(x,v)∉binds)→bindL kindOf binds m x=m x
 |[],_,_=>rfl
 | (n,v)::r,m,h=>by
  unfold bindL
  rw[khg fun w hw=>h w (JZ _ hw)]
  split
  ·have:x≠n:=by rintro rfl;exact h v J0
   simp[this]
  ·rfl
theorem khi{kindOf:Str→Option NameKind}{x:Str}:∀{binds:List (Str×Value)}{m:Str→Option Value},(∀v,(x,v)∉binds)→bindC kindOf binds m x=m x
 |[],_,_=>rfl
 | (n,v)::r,m,h=>by
  unfold bindC
  rw[khi fun w hw=>h w (JZ _ hw)]
  split
  ·rfl
  ·have:x≠n:=by rintro rfl;exact h v J0
   simp[this]
theorem khh{kindOf:Str→Option NameKind}{x:Str}{v:Value}:∀{P:List Str}{vs:List Value}{i:Nat}{m:Str→Option Value},P.Nodup→P[i]?=some x→vs[i]?=some v→kindOf x=some .local→
  bindL kindOf (P.zip vs) m x=some v
 |[],_,_,_,_,h,_,_=>by simp at h
 |_::_,[],_,_,_,_,h,_=>by simp at h
 |p::P,w::vs,0,m,nd,h1,h2,hk=>by
  simp at h1 h2;subst h1;subst h2
  show bindL kindOf ((p,w)::P.zip vs) m p=_
  unfold bindL
  rw[khg fun v hv=>(NR.mp nd).1 (Mj hv).1,if_pos hk]
  simp
 |p::P,w::vs,i+1,m,nd,h1,h2,hk=>by
  show bindL kindOf ((p,w)::P.zip vs) m x=_
  unfold bindL
  exact khh (i:=i) (NR.mp nd).2 (by simpa using h1) (by simpa using h2) hk
theorem khj{kindOf:Str→Option NameKind}{x:Str}{v:Value}:∀{P:List Str}{vs:List Value}{i:Nat}{m:Str→Option Value},P.Nodup→P[i]?=some x→vs[i]?=some v→kindOf x≠some .local→
  bindC kindOf (P.zip vs) m x=some v
 |[],_,_,_,_,h,_,_=>by simp at h
 |_::_,[],_,_,_,_,h,_=>by simp at h
 |p::P,w::vs,0,m,nd,h1,h2,hk=>by
  simp at h1 h2;subst h1;subst h2
  show bindC kindOf ((p,w)::P.zip vs) m p=_
  unfold bindC
  rw[khi fun v hv=>(NR.mp nd).1 (Mj hv).1,if_neg hk]
  simp
 |p::P,w::vs,i+1,m,nd,h1,h2,hk=>by
  show bindC kindOf ((p,w)::P.zip vs) m x=_
  unfold bindC
  exact khj (i:=i) (NR.mp nd).2 (by simpa using h1) (by simpa using h2) hk
def start(N:List Str)(vs:List V):St:=vs.map some++JR (N.length-vs.length) none
def cxOf(CX:CXT)(P:Program)(w:World)(K:JL)(mg:Str→Option Value)(base:Heap)(N:List Str)(qual:Str)(scope:Scope)(f:Addr)(cd:Value)(A:Around)(outer:List Env)(s:Shared)(H:Hp)(E:XK):Cx where
 prog:=P
 w:=w
 K:=K
 mg:=mg
 base:=base
 A:=A.deeper (envOfC qual scope s.heap.objs.size f cd)
 N:=N
 s₀:=s
 H₀:=H
 env:=envOfC qual scope s.heap.objs.size f cd
 outer:=outer
 stack:=envOfC qual scope s.heap.objs.size f cd::outer
 ex:=[]
 calm:=true
 fn:=fun _=>true
 pn:=[]
 xe:=fun e s'=>wpAny (model P w) (A.deeper (envOfC qual scope s.heap.objs.size f cd)) (leaving (envOfC qual scope s.heap.objs.size f cd) e) (fun _ s''=>CX outer H s E e s'') (fun e' s''=>CX outer H s E e' s'') s'
def kez{sc:Scope}{n:Nat}{x:Str}(h:sc.names.lookup x=some .cell):∃c,(cellsFrom n sc.names []).lookup x=some c:=by
 have q:=EN sc.names n [] (.inl h)
 exact EO.mp q
theorem kkI{CX:CXT}{P:Program}{w:World}{K:JL}{mg:Str→Option Value}{base:Heap}{N ps:List Str}{qual:Str}{scope:Scope}{f:Addr}{cd:Value}{A:Around}{outer:List Env}{s s1:Shared}{H:Hp}{E:XK}{us:List Value}{vs:List V}
  (S:kas N ps scope) (hd:A.handled=none) (e0:Env0 P w K mg base A outer s H) (hl:vs.length=ps.length) (r:Vals vs us)
  (x:InCallC s s.heap.objs.size (bindL (envOfC qual scope s.heap.objs.size f cd).kindOf (ps.zip us) fun _=>none) (cellsFrom (s.heap.objs.size+1) scope.names []) (bindC (envOfC qual scope s.heap.objs.size f cd).kindOf (ps.zip us) fun _=>none) s1):
  Inv (cxOf CX P w K mg base N qual scope f cd A outer s H E) [] (start N vs) H s1:=by
 have hpl:ps.length≤N.length:=by have:=congrArg NA S.pre;rw[Na] at this;omega
 obtain⟨h1,tk,rfl,hk⟩:=x.done
 have noA:∀b:Addr,b∉(cxOf CX P w K mg base N qual scope f cd A outer s H E).ex:=fun b z=>absurd (show b∈([]:List Addr) from z) (by simp)
 refine⟨⟨e0.mod,S.kind,rfl,rfl,JK _,fun y z c h1 h2=>?_,fun y hy=>?_,fun y c _ h=>?_,fun _=>hd,Around.frames_deeper e0.frames, .inr ⟨rfl,rfl⟩,fun b z=>absurd z (noA b),e0.bs,e0.bsz,fun b _ _=>noA b,fun b z=>absurd z (noA b),e0.funs,e0.frf⟩,
  rfl,e0.bare,Un.kept hk,⟨_,x.toInCall.ns,fun i y v h1 h2 h3=>?_⟩,fun y c h=>⟨_,x.cell y c h⟩,e0.hok.fresh (JK _),fun y c h=>?_,fun p hp=>absurd (show p∈([]:List (Addr×Obj)) from hp) (by simp),e0.hok.kept hk,?_⟩
 ·exact name_of_addr x.apart (PySem.mem_of_lookup h1) (PySem.mem_of_lookup h2)
 ·have hy:scope.names.lookup y=some .cell∨scope.names.lookup y=some .free:=hy
  rcases hy with hy|hy
  ·exact kez hy
  ·exact absurd rfl (S.nofree _ (PySem.mem_of_lookup hy))
 ·exact JY (x.above y c (PySem.mem_of_lookup h))
 ·have hi:i<vs.length:=by
   unfold start at h2
   by_cases hi:i<vs.length
   ·exact hi
   ·rw[Mz (by simpa using hi)] at h2
    rw[Ex] at h2
    split at h2 <;> cases h2
  have ha:vs[i]?=some v:=by
   unfold start at h2
   rw[MK (by simpa using hi),JU] at h2
   cases e:vs[i]? with
   |none=>rw[e] at h2;cases h2
   |some a=>rw[e] at h2;cases h2;rfl
  obtain⟨u,hu,rv⟩:=r.get ha
  have hp:ps[i]?=some y:=by
   rw[←S.pre,ML (by omega)];exact h1
  have ndP:ps.Nodup:=by rw[←S.pre];exact S.nd.sublist (List.take_sublist _ _)
  refine⟨u,rv,?_⟩
  rcases S.par y (JO hp) with k|k
  ·exact .inl ⟨k,khh ndP hp hu k⟩
  ·obtain⟨c,e⟩:=kez (n:=s.heap.objs.size+1) k
   refine .inr ⟨.inl k,c,e,?_⟩
   have q:=x.cell y c e
   rw[khj ndP hp hu (by show scope.names.lookup y≠_;rw[k];decide)] at q
   exact q
 ·exact e0.hok.fresh (JY (x.above y c (PySem.mem_of_lookup h)))
 ·unfold start
  show _=N.length
  rw[JW,JJ,Ml]
  omega
theorem fn_of{CX:CXT}{P:Program}{w:World}{K:JL}{mg:Str→Option Value}{base:Heap}{k:Nat}{f:Addr}{name qual:Str}{params:Arguments}{body:List Stmt}{scope:Scope}{dV kV doc pm cdv ct oc:Value}{an od:Option Addr}
  {osl:Array (Option Value)} {N ps:List Str} {sp:Sp} (lk:K.lookup f=some ⟨oc,od, .func (J6 name qual params body scope dV kV doc pm an cdv ct),osl⟩) (hcd:Nu K cdv qual=true) (S:kas N ps scope)
  (len:∀vs H Q E,sp vs H Q E→vs.length=ps.length)
  (hbody:∀(A:Around)(outer:List Env)(s:Shared)(H:Hp)(vs:List V)(Q:VK)(E:XK),Room k (A.deeper (envOfC qual scope s.heap.objs.size f cdv))→sp vs H Q E→
   ∃t,PSs (cxOf CX P w K mg base N qual scope f cdv A outer s H E) body t∧t {nx:=fun _ H'=>Q .non H',rt:=Q} (start N vs) H):
  FnOk P w K mg base CX (k+1) f (J6 name qual params body scope dV kV doc pm an cdv ct) ps sp:=by
 refine⟨len,fun A outer s H args us vs Q E hr e0 hb r hsp=>?_⟩
 have hl:=len _ _ _ _ hsp
 have KX:K.In s.heap:=e0.mod.kin.keeps fun b o e=>(e0.bs b o e).1
 have lim:s.heap.NoLimit:=e0.mod.nolimit.keeps fun b o e=>(e0.bs b o e).1
 have hkind:∀y∈ps.zip us,scope.names.lookup y.1=some .local∨(scope.names.lookup y.1=some .cell∧((cellsFrom (s.heap.objs.size+1) scope.names []).lookup y.1).isSome=true):=fun⟨n,v⟩ hy=>by
  rcases S.par n (Mj hy).1 with q|q
  ·exact .inl q
  ·exact .inr ⟨q,EN _ _ _ (.inl q)⟩
 refine codeAny_call_function hr.depth (KX _ _ lk) rfl S.co S.gen rfl (PySem.W.codeRec_of KX hcd) (hb _ _ _ _ ?_)
 refine wpAny_newFunctionEnv_cells S.kind hkind fun env he s1 x=>?_
 subst he
 refine⟨lim.keeps x.toInCall.keep,codeAny_func ?_⟩
 obtain⟨t,ht,hq⟩:=hbody A outer s H vs Q E (hr.deeper _) hsp
 have I:Inv (cxOf CX P w K mg base N qual scope f cdv A outer s H E) [] (start N vs) H s1:=kkI S hr.hd e0 hl r x
 refine wpAny_mono (ht [] s1 (start N vs) H _ I hq) (fun fl s' hs=>?_) fun e s' hs=>hs
 have fin:∀{σ':St}{H':Hp}{v:V}{u:Value},Inv (cxOf CX P w K mg base N qual scope f cdv A outer s H E) [] σ' H' s'→RelV v u→Q v H'→CE outer P w H s Q u s':=
  fun {σ' H' v u} J rv q=>⟨v,H',J.os,J.bare,J.base,J.hok,rv,q⟩
 cases fl with
 |ret u=>
  obtain⟨v,σ',H',J,rv,q⟩:=hs
  exact fin J rv q
 |next=>
  obtain⟨σ',H',J,q⟩:=hs
  exact fin (v:=V.non) (u:=Value.none) J rfl q
 |brk=>
  obtain⟨_,_,_,q⟩:=hs
  exact False.elim q
 |cont=>
  obtain⟨_,_,_,q⟩:=hs
  exact False.elim q
end L2
namespace L2
open PySem PySem.Spec PyProof.Rows
section
variable {X:Cx} {x:Str} {p pos:Pos} {e:Expr} {es:List Expr} {t:TA} {id T:String} {r:List V→Hp→VK→Prop}
def tCB(r:List V→Hp→VK→Prop)(t:TA):TE:=fun σ H Q=>t σ H fun vs H1=>r vs H1 Q
theorem kaq(hc:CallR X (.builtin id) r)(hg:Gl X x)(hm:X.mg x=none)(hv:bootBuiltins x=some (.builtin id))(ha:PA X (e::es) t)(hn:x≠"__name__":=by decide)(hdb:(x==("__debug__" :Str))=false:=by decide)
  (he:starEach (e::es) X.env=(false,eval e X.env)::starEach es X.env:=by rfl) (hpl:(backTo pos (starEach es X.env)).any (·.1)=false:=by rfl):PE X (.Call (.Name x p) (e::es) [] pos) (tCB r t):=by
 intro pins s σ H Q I h
 refine wpAny_Call_Name_kw (kdF I hg hm hv ?_ hn hdb)
 exact PyProof.Rows.callWith_builtin1 (thn (ha pos pins s σ H _ I h) fun us s1 ⟨vs,H1,I1,r1,q1⟩=>hc pins s1 σ H1 vs us Q I1 r1 q1) he hpl
theorem kaA(hc:CallR X (.type T) r)(hg:Gl X x)(hm:X.mg x=none)(hv:bootBuiltins x=some (.type T))(ha:PA X (e::es) t)(hn:x≠"__name__":=by decide)(hdb:(x==("__debug__" :Str))=false:=by decide)
  (he:starEach (e::es) X.env=(false,eval e X.env)::starEach es X.env:=by rfl) (hpl:(backTo pos (starEach es X.env)).any (·.1)=false:=by rfl):PE X (.Call (.Name x p) (e::es) [] pos) (tCB r t):=by
 intro pins s σ H Q I h
 refine wpAny_Call_Name_kw (kdF I hg hm hv ?_ hn hdb)
 exact PyProof.Rows.callWith_type1 (thn (ha pos pins s σ H _ I h) fun us s1 ⟨vs,H1,I1,r1,q1⟩=>hc pins s1 σ H1 vs us Q I1 r1 q1) he hpl
end
end L2
namespace HT
open PySem PyProof.Rows
section
open PySem.SeqAt
open PySem.AutoSeq1 (wpAny_loadPart')
open PySem.MeetsSeq PySem.MeetsSeq2 PySem.MeetsSeq3
end
section
variable {prog:Program} {w:World} {A:Around} {E:Value→Shared→Prop} {s:Shared}
def sIx(n d:Nat):Option Int→Nat
 |none=>d
 |some v=>if v<0 then(v+(n:Int)).toNat else min v.toNat n
theorem sIx_none(n d:Nat):sIx n d none=d:=rfl
theorem sIx_nat(n d k:Nat):sIx n d (some (k:Int))=min k n:=by
 show(if(k:Int)<0 then((k:Int)+(n:Int)).toNat else min (k:Int).toNat n)=min k n
 rw[if_neg (by omega),Int.toNat_natCast]
end
end HT
namespace L2
open PySem PySem.Spec PyProof.Rows
abbrev TO:=St→Hp→(Option Int→Hp→Prop)→Prop
def PO(X:Cx)(e:Option Expr)(t:TO):Prop:=
 ∀(pins:List (Addr×Obj))(s:Shared)(σ:St)(H:Hp)(Q:Option Int→Hp→Prop),Inv X pins σ H s→t σ H Q→
  wpAny (model X.prog X.w) X.A (evalPart e X.env) (fun u s'=>∃o H',Inv X pins σ H' s'∧IsPart u o∧Q o H') X.xe s
def kmB:TO:=fun _ H Q=>Q none H
def tPart(t:TE):TO:=fun σ H Q=>t σ H fun x H1=>∃i,x=.int i∧Q (some i) H1
theorem intsAre_of{ns:List Int}:∀{us:List Value},Vals (ns.map V.int) us→IntsAre us ns:=by
 induction ns with
 |nil=>intro us r;rw[NS] at r;cases r;exact .nil
 | cons n ns ih=>
  intro us r
  rw[JV] at r
  cases r with
  |cons r1 r2=>
   obtain⟨t,e⟩:=r1
   subst e
   exact .cons n t (ih r2)
section
variable {X:Cx} {e:Expr} {te:TE} {lo hi:Option Expr} {tl th:TO} {pos p2:Pos}
theorem kcd:PO X none kmB:=by
 intro pins s σ H Q I h
 rw[evalPart_none]
 exact wpAny_pure ⟨none,H,I, .none,h⟩
theorem kbI(h:PE X e te):PO X (some e) (tPart te):=by
 intro pins s σ H Q I hw
 rw[evalPart_some]
 refine thn (h pins s σ H _ I hw) fun u s1 ⟨x,H1,I1,r1,q1⟩=>?_
 obtain⟨i,rfl,q⟩:=q1
 obtain⟨t,rfl⟩:=r1
 exact⟨some i,H1,I1, .int i t,q⟩
def SlR(X:Cx)(r:V→Option Int→Option Int→Hp→VK→Prop):Prop:=
 ∀(pins:List (Addr×Obj))(s:Shared)(σ:St)(H:Hp)(x:V)(v vl vu:Value)(lo hi:Option Int)(sl:Addr)(Q:VK),Inv X pins σ H s→RelV x v→s.heap.IsSliceOf sl vl vu .none→IsPart vl lo→IsPart vu hi→r x lo hi H Q→
  ∃T id,typeLookup (.type T) "__getitem__"=pure (some (.builtin id))∧s.TypeIs v T∧wpAny (model X.prog X.w) X.A (getItem v (.ref sl)) (EP X pins σ Q) X.xe s
def tSl(r:V→Option Int→Option Int→Hp→VK→Prop)(te:TE)(tl th:TO):TE:=fun σ H Q=>te σ H fun x H1=>tl σ H1 fun l H2=>th σ H2 fun u H3=>r x l u H3 Q
theorem kbn{r:V→Option Int→Option Int→Hp→VK→Prop}(hr:SlR X r)(he:PE X e te)(hl:PO X lo tl)(hu:PO X hi th):PE X (.Subscript e (.Slice lo hi none p2) pos) (tSl r te tl th):=by
 intro pins s σ H Q I h
 refine Subscript_ (thn (he pins s σ H _ I h) fun v s1 ⟨x,H1,I1,r1,q1⟩=>?_)
 refine wpAny_Slice (thn (hl pins s1 σ H1 _ I1 q1) fun vl s2 ⟨l,H2,I2,pl,q2⟩=>thn (hu pins s2 σ H2 _ I2 q2) fun vu s3 ⟨u,H3,I3,pu,q3⟩=>?_)
 rw[evalPart_none]
 refine wpAny_pure ?_
 have I4:Inv X pins σ H3 {s3 with heap:=s3.heap.push {cls:=.type "slice",data:=.fields #[vl,vu, .none]}}:=I3.kept (t':=s3.toks) fun b ob q=>Heap.get?_push_of_some _ q
 obtain⟨T,id,hT,ht,hg⟩:=hr pins {s3 with heap:=s3.heap.push {cls:=.type "slice",data:=.fields #[vl,vu, .none]}} σ H3 x v vl vu l u s3.heap.objs.size Q I4 r1 (Heap.IsSliceOf.new ..) pl pu q3
 show wpAny (model X.prog X.w) X.A (subscriptTail e (.Slice lo hi none p2) v (.ref s3.heap.objs.size)) (EP X pins σ Q) X.xe {s3 with heap:=s3.heap.push {cls:=.type "slice",data:=.fields #[vl,vu, .none]}}
 exact tail_any (ops:=[.ref s3.heap.objs.size,v]) ht hT hg (by with_unfolding_all rfl)
def cutV(xs:List V)(lo hi:Option Int):List V:=(xs.drop (HT.sIx xs.length 0 lo)).take (HT.sIx xs.length xs.length hi-HT.sIx xs.length 0 lo)
theorem khY(xs:List V)(lo hi:Option Int):(cutV xs lo hi).length≤xs.length:=by
 unfold cutV
 rw[Na,N5]
 omega
end
end L2
namespace L2
open PySem PySem.Spec PyProof.Rows
def ixN(n:Nat)(i:Int):Option Nat:=if 0≤i then(if i<n then some i.toNat else none) else if -(n:Int)≤i then some (i+n).toNat else none
def atI{α:Type}(xs:List α)(i:Int):Option α:=(ixN xs.length i).bind fun j=>xs[j]?
def kkE{n:Nat}{i:Int}{j:Nat}(h:ixN n i=some j):seqIndex? i n=some j∧j<n∧-(n:Int)≤i∧i<n:=by
 unfold ixN at h
 by_cases h0:0≤i
 ·rw[if_pos h0] at h
  by_cases h1:i<n
  ·rw[if_pos h1] at h
   have e:i.toNat=j:=Option.some.inj h
   exact⟨by rw[seqIndex_of h0 h1,e],by omega,by omega,h1⟩
  ·rw[if_neg h1] at h;cases h
 ·rw[if_neg h0] at h
  by_cases h1: -(n:Int)≤i
  ·rw[if_pos h1] at h
   have e:(i+n).toNat=j:=Option.some.inj h
   exact⟨by rw[seqIndex_neg (by omega) h1,e],by omega,h1,by omega⟩
  ·rw[if_neg h1] at h;cases h
theorem kh2{α:Type}{xs:List α}{i:Int}{v: α}(h:atI xs i=some v):∃j,seqIndex? i xs.length=some j∧xs[j]?=some v∧j<xs.length∧-(xs.length:Int)≤i∧i<xs.length:=by
 unfold atI at h
 cases e:ixN xs.length i with
 |none=>rw[e] at h;cases h
 |some j=>
  rw[e] at h
  obtain⟨h1,h2,h3,h4⟩:=kkE e
  exact⟨j,h1,h,h2,h3,h4⟩
def kaY{α:Type}{xs:List α}{j:Nat}{v: α}(h:xs[j]?=some v):atI xs (j:Int)=some v:=by
 have hj:j<xs.length:=(JX.mp h).1
 have e:ixN xs.length (j:Int)=some j:=by
  unfold ixN
  rw[if_pos (by omega),if_pos (by omega)];simp
 unfold atI;rw[e];exact h
def knk(b:Expr):Prop:=∀o i,subscripted b false o i=operate [o,i] (getItem o i)
def IxR(X:Cx)(r:R2):Prop:=
 ∀(value slice:Expr)(pins:List (Addr×Obj))(s:Shared)(σ:St)(H:Hp)(x y:V)(v u:Value)(Q:VK),Inv X pins σ H s→RelV x v→RelV y u→r x y H Q→
  subscripted slice false v u=operate [v,u] (getItem v u)→wpAny (model X.prog X.w) X.A (subscriptTail value slice v u) (EP X pins σ Q) X.xe s
def MtR(X:Cx)(id:String)(r:V→List V→Hp→VK→Prop):Prop:=
 ∀(pins:List (Addr×Obj))(s:Shared)(σ:St)(H:Hp)(x:V)(xs:List V)(v:Value)(us:List Value)(Q:VK),Inv X pins σ H s→RelV x v→Vals xs us→r x xs H Q→
  wpAny (model X.prog X.w) X.A (call (.builtin id) (v::us)) (EP X pins σ Q) X.xe s
section
variable {X:Cx} {a b:Expr} {ta tb:TE} {pos:Pos}
theorem pe_ix{r:R2}(hr:IxR X r)(ha:PE X a ta)(hb:PE X b tb)(hs:knk b):PE X (.Subscript a b pos) (tOp r ta tb):=by
 intro pins s σ H Q I h
 exact Subscript_ (binT ha hb I h fun v u s2 x y H2 I2 rx ry q=>hr a b pins s2 σ H2 x y v u Q I2 rx ry q (hs _ _))
def rIxL(K:JL):R2:=fun x y H Q=>∃p xs i v,x=.ref p∧y=.int i∧SqL K H p xs∧atI xs i=some v∧Q v H
def rIxT(K:JL):R2:=fun x y H Q=>∃p xs i v,x=.ref p∧y=.int i∧SqT K H p xs∧atI xs i=some v∧Q v H
theorem kaO:IxR X (rIxL X.K):=by
 intro value slice pins s σ H x y v u Q I rx ry h hs
 obtain⟨p,xs,i,z,rfl,rfl,hq,he,q⟩:=h
 cases rx
 obtain⟨t,rfl⟩:=ry
 obtain⟨its,r,pl,hz⟩:=I.list hq
 obtain⟨j,h1,h2,h3,h4,h5⟩:=kh2 he
 obtain⟨w,ew,rw'⟩:=r.get h2
 have hl:=r.length
 have hn:=kg4
 have fin:EP X pins σ Q w s:=⟨z,H,I,rw',q⟩
 by_cases h0:0≤i
 ·have hj:i.toNat=j:=by
   rw[seqIndex_of h0 h5] at h1
   exact Option.some.inj h1
  exact item_listR pl.isList h0 (by omega) (by rw[hj];simpa using ew) fin hs
 ·have hj:(i+(its.toArray.size:Int)).toNat=j:=by
   rw[seqIndex_neg (by omega) h4] at h1
   rw[Nd,←hl]
   exact Option.some.inj h1
  exact subscriptTail_builtinR (x:=w) pl.isList.typeIs slot_list_getitem.lookup
   (wpAny_getItem_list_neg (Q:=fun r s'=>r=w∧EP X pins σ Q r s') pl.isList (by omega) (by rw[Nd] <;> omega) (by omega) (by rw[hj];simpa using ew) ⟨rfl,fin⟩) hs
theorem kcR:IxR X (rIxT X.K):=by
 intro value slice pins s σ H x y v u Q I rx ry h hs
 obtain⟨p,xs,i,z,rfl,rfl,hq,he,q⟩:=h
 cases rx
 obtain⟨t,rfl⟩:=ry
 obtain⟨its,r,pl,hz⟩:=I.tuple hq
 obtain⟨j,h1,h2,h3,h4,h5⟩:=kh2 he
 obtain⟨w,ew,rw'⟩:=r.get h2
 have hl:=r.length
 have hn:=kg4
 have fin:EP X pins σ Q w s:=⟨z,H,I,rw',q⟩
 exact subscriptTail_builtinR (x:=w) pl.typeIs slot_tuple_getitem.lookup
  (getItem_tuple (j:=j) (Q:=fun r s'=>r=w∧EP X pins σ Q r s') pl (by omega) (by omega) (by rw[Nd,←hl];exact h1) (by simpa using ew) ⟨rfl,fin⟩) hs
theorem kjb(its:List Value)(n j:Nat)(u:Value):Obj.mapSeq (·.setIfInBounds j u) {cls:=.type "list",data:=.seq its.toArray n}= {cls:=.type "list",data:=.seq (its.set j u).toArray n}:=by
 simp[Obj.mapSeq]
theorem Inv.lst{pins:List (Addr×Obj)}{σ:St}{H:Hp}{s:Shared}{p:Addr}{xs:List V}(I:Inv X pins σ H s)(h:H p=some (.lst xs)):
  ∃(its:List Value)(n:Nat),Vals xs its∧s.heap.get? p=some {cls:=.type "list",data:=.seq its.toArray n}∧xs.length≤sizeLine:=by
 obtain⟨z,its,n,r,e⟩:=I.hok p _ h
 exact⟨its,n,r,e,z⟩
theorem Inv.lstUpd{pins:List (Addr×Obj)}{σ:St}{H:Hp}{s:Shared}{p:Addr}{xs ys:List V}{its its':List Value}{n n':Nat}{f:Obj→Obj}(I:Inv X pins σ H s)(h:H p=some (.lst xs))
  (ho:s.heap.get? p=some {cls:=.type "list",data:=.seq its.toArray n}) (hf:f {cls:=.type "list",data:=.seq its.toArray n}= {cls:=.type "list",data:=.seq its'.toArray n'}) (r:Vals ys its') (hz:ys.length≤sizeLine) (t:Nat):
  Inv X pins σ (upd H p (.lst ys)) {s with heap:=s.heap.update p f,toks:=t}:=by
 have e:(s.heap.update p f).get? p=some {cls:=.type "list",data:=.seq its'.toArray n'}:=by
  rw[Heap.get?_update_self f ho (by rw[hf] <;> rfl),hf]
 refine I.write (x:=p) (e:=p) (by rw[h];trivial) (.inl rfl) (fun b u hb q=>(Heap.get?_update_other _ _ (Ne.symm hb)).trans q) ⟨_,e⟩ ?_
 exact⟨hz,its',n',r,e⟩
def rSetL:V→V→V→Hp→(Hp→Prop)→Prop:=fun o i v H Q=>∃p xs k j,o=.ref p∧i=.int k∧H p=some (.lst xs)∧ixN xs.length k=some j∧Q (upd H p (.lst (xs.set j v)))
theorem set_list:PSet X rSetL:=by
 intro pins s σ H o i v ov iv u Q I ro ri rv h
 obtain⟨p,xs,k,j,rfl,rfl,hp,hj,q⟩:=h
 cases ro
 obtain⟨t,rfl⟩:=ri
 obtain⟨its,n,r,ho,hz⟩:=I.lst hp
 obtain⟨h1,h2,h3,h4⟩:=kkE hj
 have hl:=r.length
 have hn:=kg4
 have I':Inv X pins σ (upd H p (.lst (xs.set j v))) {s with heap:=s.heap.update p (Obj.mapSeq (·.setIfInBounds j u))}:=
  I.lstUpd hp ho (kjb its n j u) (r.set rv j) (by rw[Mb];exact hz) s.toks
 by_cases h0:0≤k
 ·have hk:k.toNat=j:=by
   rw[seqIndex_of h0 h4] at h1
   exact Option.some.inj h1
  exact PySem.W.ki_setAt ho h0 (by omega) (by rw[Nd,←hl];exact h4) (by rw[hk];exact⟨_,I',q⟩)
 ·have hk:(k+(its.toArray.size:Int)).toNat=j:=by
   rw[seqIndex_neg (by omega) h3] at h1
   rw[Nd,←hl]
   exact Option.some.inj h1
  exact PySem.W.ki_setBack ho (by omega) (by rw[Nd,←hl];exact h3) (by omega) (by rw[hk];exact⟨_,I',q⟩)
theorem kgE(lo hi:Option Int)(n:Nat):(sliceBounds lo hi none n).1=((HT.sIx n 0 lo:Nat):Int)∧(sliceBounds lo hi none n).2.1=((HT.sIx n n hi:Nat):Int)∧(sliceBounds lo hi none n).2.2=1:=by
 refine⟨?_,?_,rfl⟩
 ·cases lo with
  |none=>simp[sliceBounds,HT.sIx]
  |some i=>
   simp only[sliceBounds,HT.sIx,Ey,show(1:Int) > 0 by decide,if_true]
   by_cases h:i<0
   ·simp only[h,if_true] <;> omega
   ·simp only[h,if_false] <;> omega
 ·cases hi with
  |none=>simp[sliceBounds,HT.sIx]
  |some i=>
   simp only[sliceBounds,HT.sIx,Ey,show(1:Int) > 0 by decide,if_true]
   by_cases h:i<0
   ·simp only[h,if_true] <;> omega
   ·simp only[h,if_false] <;> omega
theorem kfV(its:List Value)(lo hi:Option Int):slicePick its.toArray lo hi none=((its.drop (HT.sIx its.length 0 lo)).take (HT.sIx its.length its.length hi-HT.sIx its.length 0 lo)).toArray:=by
 obtain⟨h1,h2,h3⟩:=kgE lo hi its.toArray.size
 unfold slicePick
 rw[h1,h2,h3]
 simp only[sliceRange_one,pick_run,Nd] <;> rfl
def rSlL(K:JL):V→Option Int→Option Int→Hp→VK→Prop:=fun x lo hi H Q=>∃a xs,x=.ref a∧SqL K H a xs∧∀p,H p=none→Q (.ref p) (upd H p (.lst (cutV xs lo hi)))
theorem kbR:SlR X (rSlL X.K):=by
 intro pins s σ H x v vl vu lo hi sl Q I rx hs pl pu h
 obtain⟨a,xs,rfl,hx,q⟩:=h
 cases rx
 obtain⟨its,r,ht,hz⟩:=I.list hx
 have hlen:=r.length
 refine⟨"list",_,slot_list_getitem.lookup,ht.isList.typeIs,?_⟩
 refine wpAny_getItem_list_slice ht.isList hs pl pu .none (by simp) ?_ (by rw[Nd] <;> omega)
 rw[kfV,←hlen]
 refine⟨.ref s.heap.objs.size,_,I.laid (t':=s.toks) (o:=.lst (cutV xs lo hi)) (fun b ob q=>Heap.get?_push_of_some _ q) (JK _) ?_,rfl,q _ (I.hok.fresh (JK _))⟩
 exact⟨JN (khY xs lo hi) hz,_,0,(r.drop (HT.sIx xs.length 0 lo)).take (HT.sIx xs.length xs.length hi-HT.sIx xs.length 0 lo),Heap.get?_push_size _ rfl⟩
def flatV:V→Bool
 | .non=>true
 | .bl _=>true
 | .int _=>true
 | .str _=>true
 |_=>false
def eqV:V→V→Bool
 | .non, .non=>true
 | .bl a, .bl b=>a==b
 | .bl a, .int b=>(if a then 1 else 0)==b
 | .int a, .bl b=>a==(if b then 1 else 0)
 | .int a, .int b=>a==b
 | .str a, .str b=>a==b
 |_,_=>false
theorem kiT{A:Around}{s:Shared}{y x:V}{u v:Value}(ry:RelV y u)(rx:RelV x v)(fy:flatV y=true)(fx:flatV x=true):SeqAt.EqAt A s u v (eqV y x):=by
 cases y with
 |non=>
  cases ry
  cases x with
  |non=>cases rx;exact SeqAt.EqAt.same _
  |bl b=>cases rx;exact SeqAt.EqAt.none_bool b
  |int b=>obtain⟨t,rfl⟩:=rx;exact SeqAt.EqAt.none_int b t
  |str b=>obtain⟨t,rfl⟩:=rx;exact SeqAt.EqAt.none_str b t
  |_=>exact absurd (show false=true from fx) JS
 |bl a=>
  cases ry
  cases x with
  |non=>cases rx;exact SeqAt.EqAt.bool_none a
  |bl b=>cases rx;exact SeqAt.EqAt.bool_bool a b
  |int b=>obtain⟨t,rfl⟩:=rx;exact SeqAt.EqAt.bool_int a b t
  |str b=>obtain⟨t,rfl⟩:=rx;exact SeqAt.EqAt.bool_str a b t
  |_=>exact absurd (show false=true from fx) JS
 |int a=>
  obtain⟨t',rfl⟩:=ry
  cases x with
  |non=>cases rx;exact SeqAt.EqAt.int_none a t'
  |bl b=>cases rx;exact SeqAt.EqAt.int_bool a t' b
  |int b=>obtain⟨t,rfl⟩:=rx;exact SeqAt.EqAt.int_int a t' b t
  |str b=>obtain⟨t,rfl⟩:=rx;exact SeqAt.EqAt.int_str a t' b t
  |_=>exact absurd (show false=true from fx) JS
 |str a=>
  obtain⟨t',rfl⟩:=ry
  cases x with
  |non=>cases rx;exact SeqAt.EqAt.str_none a t'
  |bl b=>cases rx;exact SeqAt.EqAt.str_bool a t' b
  |int b=>obtain⟨t,rfl⟩:=rx;exact SeqAt.EqAt.str_int a t' b t
  |str b=>obtain⟨t,rfl⟩:=rx;exact SeqAt.EqAt.str_str a t' b t
  |_=>exact absurd (show false=true from fx) JS
 |_=>exact absurd (show false=true from fy) JS
def eqU(x:V)(u:Value):Bool:=match u with
 | .none=>eqV .non x
 | .bool b=>eqV (.bl b) x
 | .int i _=>eqV (.int i) x
 | .str z _=>eqV (.str z) x
 |_=>false
theorem kmo{x y:V}{u:Value}(r:RelV y u)(f:flatV y=true):eqU x u=eqV y x:=by
 cases y with
 |non=>cases r;rfl
 |bl b=>cases r;rfl
 |int i=>obtain⟨t,rfl⟩:=r;rfl
 |str z=>obtain⟨t,rfl⟩:=r;rfl
 |_=>exact absurd (show false=true from f) JS
theorem kfe{x:V}:∀{xs:List V}{us:List Value},Vals xs us→xs.all flatV=true→us.any (eqU x)=xs.any fun y=>eqV y x
 |_,_, .nil,_=>rfl
 |y::xs,u::us, .cons r t,f=>by
  rw[M0,NL] at f
  rw[N6,N6,kmo r f.1,kfe t f.2]
theorem kdD{A:Around}{s:Shared}{x:V}{v:Value}(rx:RelV x v)(fx:flatV x=true):∀{xs:List V}{us:List Value},Vals xs us→xs.all flatV=true→∀u∈us,SeqAt.EqAt A s u v (eqU x u)
 |_,_, .nil,_=>fun u hu=>by cases hu
 |y::xs,u::us, .cons r t,f=>fun u' hu=>by
  rw[M0,NL] at f
  rcases Nc.mp hu with rfl|hu
  ·rw[kmo r f.1];exact kiT r rx f.1 fx
  ·exact kdD rx fx t f.2 u' hu
def inV(x:V)(xs:List V):Bool:=xs.any fun y=>eqV y x
def rIn(K:JL)(neg:Bool):R2:=fun x y H Q=>∃p xs,y=.ref p∧(SqL K H p xs∨SqT K H p xs)∧flatV x=true∧xs.all flatV=true∧Q (.bl (if neg then !inV x xs else inV x xs)) H
theorem kcz:OpR X (compareOp .In) (rIn X.K false):=by
 intro pins s σ H x y v u Q I rx ry h
 obtain⟨p,xs,rfl,hq,fx,fs,q⟩:=h
 cases ry
 rcases hq with hq|hq
 ·obtain⟨its,r,pl,hz⟩:=I.list hq
  refine SeqAt.in_listAt (eqU x) pl.isList (fun w hw=>kdD rx fx r fs w (by simpa using hw)) ⟨.bl _,H,I,rfl,?_⟩
  rw[show its.toArray.any (eqU x)=its.any (eqU x) by simp,kfe r fs]
  exact q
 ·obtain⟨its,r,pl,hz⟩:=I.tuple hq
  refine SeqAt.in_tupleAt (eqU x) pl (fun w hw=>kdD rx fx r fs w (by simpa using hw)) ⟨.bl _,H,I,rfl,?_⟩
  rw[show its.toArray.any (eqU x)=its.any (eqU x) by simp,kfe r fs]
  exact q
theorem kgQ:OpR X (compareOp .NotIn) (rIn X.K true):=by
 intro pins s σ H x y v u Q I rx ry h
 obtain⟨p,xs,rfl,hq,fx,fs,q⟩:=h
 cases ry
 rcases hq with hq|hq
 ·obtain⟨its,r,pl,hz⟩:=I.list hq
  refine SeqAt.notIn_listAt (eqU x) pl.isList (fun w hw=>kdD rx fx r fs w (by simpa using hw)) ⟨.bl _,H,I,rfl,?_⟩
  rw[show its.toArray.any (eqU x)=its.any (eqU x) by simp,kfe r fs]
  exact q
 ·obtain⟨its,r,pl,hz⟩:=I.tuple hq
  refine SeqAt.notIn_tupleAt (eqU x) pl (fun w hw=>kdD rx fx r fs w (by simpa using hw)) ⟨.bl _,H,I,rfl,?_⟩
  rw[show its.toArray.any (eqU x)=its.any (eqU x) by simp,kfe r fs]
  exact q
theorem kar:CallR X (.builtin "len") (fun xs H Q=>∃p ys,xs=[.ref p]∧(SqL X.K H p ys∨SqT X.K H p ys)∧Q (.int ys.length) H):=by
 intro pins s σ H xs us Q I r h
 obtain⟨p,ys,rfl,hq,q⟩:=h
 obtain⟨u,rfl,rx⟩:=vals1 r
 cases rx
 have hn:=kg4
 rcases hq with hq|hq
 ·obtain⟨its,r',pl,hz⟩:=I.list hq
  have hlen:=r'.length
  exact Calls.call_len_list pl.isList (by simp only[Nd] <;> omega) ⟨.int ys.length,H,I.tok _,⟨s.toks+1,by rw[Nd,hlen]⟩,q⟩
 ·obtain⟨its,r',pl,hz⟩:=I.tuple hq
  have hlen:=r'.length
  exact len_tuple pl (by simp only[Nd] <;> omega) ⟨.int ys.length,H,I.tok _,⟨s.toks+1,by rw[Nd,hlen]⟩,q⟩
theorem kav:CallR X (.type "list") (fun xs H Q=>∃p ys,xs=[.ref p]∧(SqL X.K H p ys∨SqT X.K H p ys)∧∀l,H l=none→Q (.ref l) (upd H l (.lst ys))):=by
 intro pins s σ H xs us Q I r h
 obtain⟨p,ys,rfl,hq,q⟩:=h
 obtain⟨u,rfl,rx⟩:=vals1 r
 cases rx
 have fin:∀(its:List Value),Vals ys its→ys.length≤sizeLine→∀(h':Heap)(c':Nat),(∀b o',s.heap.get? b=some o'→h'.get? b=some o')→
   h'.get? s.heap.objs.size=some {cls:=.type "list",dict:=none,data:=.seq its.toArray c',slots:=#[]}→EP X pins σ Q (.ref s.heap.objs.size) {s with heap:=h'}:=fun its r' hz h' c' kp e=>
  ⟨.ref s.heap.objs.size,_,I.laid (t':=s.toks) kp (JK _) (show ObjOk X.prog X.w _ h' _ (.lst ys) from⟨hz,its,c',r',e⟩),rfl,q _ (I.hok.fresh (JK _))⟩
 rcases hq with hq|hq
 ·obtain⟨its,r',pl,hz⟩:=I.list hq
  have hlen:=r'.length
  obtain⟨o,ho,hc,n,hd⟩:=pl.isList
  exact call_list_seq p (.inl rfl) ho hc hd (fun h' c' kp e=>fin its r' hz h' c' kp e) (by simp only[Nd] <;> omega)
 ·obtain⟨its,r',pl,hz⟩:=I.tuple hq
  have hlen:=r'.length
  obtain⟨o,ho,hc,n,hd⟩:=pl
  exact call_list_seq p (.inr rfl) ho hc hd (fun h' c' kp e=>fin its r' hz h' c' kp e) (by simp only[Nd] <;> omega)
theorem kgo:CallR X (.type "tuple") (fun xs H Q=>∃p ys,xs=[.ref p]∧((SqL X.K H p ys∧∀l,H l=none→Q (.ref l) (upd H l (.tup ys)))∨(SqT X.K H p ys∧Q (.ref p) H))):=by
 intro pins s σ H xs us Q I r h
 obtain⟨p,ys,rfl,h⟩:=h
 obtain⟨u,rfl,rx⟩:=vals1 r
 cases rx
 rcases h with⟨hq,q⟩|⟨hq,q⟩
 ·obtain⟨its,r',pl,hz⟩:=I.list hq
  have hlen:=r'.length
  refine call_tuple_list pl.isList (fun h' kp=>?_) (by simp only[Nd] <;> omega)
  have I1:Inv X pins σ H {s with heap:=h'}:=I.kept (t':=s.toks) kp
  have I2:Inv X pins σ (upd H h'.objs.size (.tup ys)) {s with heap:=h'.push {cls:=.type "tuple",data:=.seq its.toArray}}:=
   I1.laid (t':=s.toks) (fun b o e=>Heap.get?_push_of_some _ e) (JK _) (show ObjOk X.prog X.w _ _ _ (.tup ys) from⟨hz,its,r',IsTup.new _ _⟩)
  exact⟨.ref h'.objs.size,_,I2,rfl,q _ (I1.hok.fresh (JK _))⟩
 ·obtain⟨its,r',pl,hz⟩:=I.tuple hq
  exact call_tuple_same pl ⟨.ref p,H,I,rfl,q⟩
def tyV(K:JL)(T:String)(x:V)(H:Hp):Prop:=match x with
 | .str _=>T="str"
 | .int _=>T="int"
 | .ref p=>(T="list"∧∃xs,SqL K H p xs)∨(T="tuple"∧∃o,K.lookup p=some o∧o.cls=.type "tuple"∧o.dict=none)∨
   (T="dict"∧((∃kvs,H p=some (.dK kvs))∨∃kvs,H p=some (.dT kvs)))∨(T="set"∧∃S n,H p=some (.set S n))
 |_=>False
theorem kl0{pins:List (Addr×Obj)}{σ:St}{H:Hp}{s:Shared}{T:String}{x:V}{v:Value}(I:Inv X pins σ H s)(r:RelV x v)(ty:tyV X.K T x H):
  s.TypeIs v T∧∀a,v=.ref a→∃ob,s.heap.get? a=some ob∧ob.dict=none:=by
 cases x with
 |str z=>
  obtain⟨t,rfl⟩:=r
  cases(show T="str" from ty)
  exact⟨typeIs_str s z t,fun _ e=>nomatch e⟩
 |int i=>
  obtain⟨t,rfl⟩:=r
  cases(show T="int" from ty)
  exact⟨typeIs_int s i t,fun _ e=>nomatch e⟩
 | ref p=>
  cases r
  rcases ty with⟨rfl,xs,hq⟩|⟨rfl,o,hk,hc,hd⟩|⟨rfl,hk⟩|⟨rfl,S,n,hk⟩
  ·obtain⟨its,_,pl,_⟩:=I.list hq
   refine⟨pl.isList.typeIs,fun a e=>?_⟩
   cases e
   obtain⟨o,n,e,c,hd,_⟩:=pl
   exact⟨o,e,hd⟩
  ·refine⟨⟨o,I.kIn p o hk,hc⟩,fun a e=>?_⟩
   cases e
   exact⟨o,I.kIn _ o hk,hd⟩
  ·have z:∃o,s.heap.get? p=some o∧o.ExactDict:=by
    rcases hk with⟨kvs,hk⟩|⟨kvs,hk⟩
    ·obtain⟨_,_,_,_,o,_,_,e,ex,_⟩:=I.hok p _ hk
     exact⟨o,e,ex⟩
    ·obtain⟨_,_,_,_,o,_,_,e,ex,_⟩:=I.hok p _ hk
     exact⟨o,e,ex⟩
   obtain⟨o,e,ex⟩:=z
   refine⟨⟨o,e,ex.1⟩,fun a e2=>?_⟩
   cases e2
   exact⟨o,e,ex.2.1⟩
  ·obtain⟨o,_,_,_,e,ex,_⟩:=I.hok p _ hk
   refine⟨⟨o,e,ex.1⟩,fun a e2=>?_⟩
   cases e2
   exact⟨o,e,ex.2.1⟩
 |_=>exact False.elim ty
def tBM(K:JL)(T:String)(r:V→List V→Hp→VK→Prop)(to:TE)(t:TA):TE:=fun σ H Q=>to σ H fun x H1=>tyV K T x H1∧t σ H1 fun xs H2=>r x xs H2 Q
variable {o e:Expr} {es:List Expr} {to:TE} {t:TA} {name:Str} {apos cpos:Pos} {T id:String} {r:V→List V→Hp→VK→Prop}
theorem pe_bm(pa:PlainAttrs T)(slot:Slot T name id)(hty:typeOf (.builtin id)=pure (.type "method_descriptor"))(hm:MtR X id r)(ho:PE X o to)(ha:PA X (e::es) t)
  (hbase:attributeBase o name X.env (eval o X.env)=eval o X.env:=by rfl)
  (hfew:((backTo cpos (starEach (e::es) X.env)).all (fun x=>!x.1)&&(backToKw cpos (keywordEach [] X.env)).all (fun x=>x.1.isSome)
   &&decide ((e::es).length+([]:List Keyword).length+(if([]:List Keyword).isEmpty then 0 else 1)<30))=true:=by rfl)
  (hline:(apos.endLine==cpos.line)=true:=by rfl) (hs:starEach (e::es) X.env=(false,eval e X.env)::starEach es X.env:=by rfl) (hplain:(backTo cpos (starEach es X.env)).any (·.1)=false:=by rfl):
  PE X (.Call (.Attribute o name apos) (e::es) [] cpos) (tBM X.K T r to t):=by
 intro pins s σ H Q I h
 refine wpAny_Call_method_late hbase hfew hline rfl (thn (ho pins s σ H _ I h) fun v s1 ⟨x,H1,I1,r1,ty,q1⟩=>?_)
 obtain⟨h1,h2⟩:=kl0 I1 r1 ty
 refine⟨T,id,pa,slot,hty,h1,h2,?_⟩
 have hA:=ha cpos pins s1 σ H1 _ I1 q1
 rw[hs] at hA⊢
 refine Calls.callWith_builtin (by show(false||(backTo cpos (starEach es X.env)).any (·.1))=false;rw[hplain] <;> rfl) (Calls.evalArgs_plain ?_)
 exact thn hA fun us s2 ⟨vs,H2,I2,r2,q2⟩=>hm pins s2 σ H2 x vs v us Q I2 r1 r2 q2
end
end L2
namespace L2
open PySem PySem.Spec PyProof.Rows
def MtM(X:Cx)(id:String)(r:V→List V→Hp→VK→Prop):Prop:=
 ∀(pins:List (Addr×Obj))(s:Shared)(σ:St)(H:Hp)(x:V)(xs:List V)(v:Value)(us:List Value)(Q:VK),Inv X pins σ H s→RelV x v→Vals xs us→r x xs H Q→
  wpAny (model X.prog X.w) X.A (call (.builtin id) (v::us)) (EP X pins σ Q) X.xe s
theorem Vals.one:∀{x:V}{us:List Value},Vals [x] us→∃u,us=[u]∧RelV x u
 |_,_, .cons r .nil=>⟨_,rfl,r⟩
theorem Vals.rep{xs:List V}{us:List Value}(h:Vals xs us):∀k:Nat,Vals (JR k xs).flatten (JR k us).flatten
 |0=>.nil
 |k+1=>by
  rw[Mc,Mc,Ni,Ni]
  exact Vals.append h (Vals.rep h k)
theorem foldl_rep(its:List Value):∀(k:Nat)(acc:List Value),
  List.foldl (fun x1 x2=>x1++x2) acc.toArray (JR k its.toArray)=(acc++(JR k its).flatten).toArray
 |0,acc=>by simp
 | k+1,acc=>by
  have e:acc.toArray++its.toArray=(acc++its).toArray:=by simp
  have e2:(acc++its)++(JR k its).flatten=acc++(JR (k+1) its).flatten:=by
   rw[Mc,Ni,Nm]
  rw[←e2,←foldl_rep its k (acc++its),←e,Mc,MA]
section
variable {X:Cx} {pins:List (Addr×Obj)} {σ:St} {H:Hp} {s:Shared} {l b:Addr} {xs ys zs:List V}
theorem Inv.lset{its its':List Value}{n:Nat}{f:Array Value→Array Value}{t':Nat}(I:Inv X pins σ H s)(hH:H l=some (.lst xs))
  (e:s.heap.get? l=some {cls:=.type "list",data:=.seq its.toArray n}) (hf:f its.toArray=its'.toArray) (hv:Vals ys its') (hz:ys.length≤sizeLine):
  Inv X pins σ (upd H l (.lst ys)) {s with heap:=s.heap.update l (Obj.mapSeq f),toks:=t'}:=by
 have q:=PySem.IsL.update e f
 rw[hf] at q
 refine I.write (x:=l) (e:=l) (by rw[hH];exact trivial) (.inl rfl) (fun b' u hb hu=>(Heap.get?_update_other s.heap (Obj.mapSeq f) (Ne.symm hb)).trans hu) ⟨_,q⟩ ?_
 exact⟨hz,its',_,hv,q⟩
theorem Inv.lnew{its:List Value}{t':Nat}(I:Inv X pins σ H s)(hv:Vals ys its)(hz:ys.length≤sizeLine):
  Inv X pins σ (upd H s.heap.objs.size (.lst ys)) {s with heap:=s.heap.push {cls:=.type "list",data:=.seq its.toArray},toks:=t'}:=
 I.laid (fun _ _ q=>Heap.get?_push_of_some _ q) (JK _) ⟨hz,its,0,hv,Heap.get?_push_size _ rfl⟩
theorem Inv.fresh(I:Inv X pins σ H s):H s.heap.objs.size=none:=I.hok.fresh (JK _)
theorem Inv.lstM(I:Inv X pins σ H s)(hH:H l=some (.lst xs)):xs.length≤sizeLine∧∃(its:List Value)(n:Nat),Vals xs its∧xs.length=its.length∧s.heap.get? l=some {cls:=.type "list",data:=.seq its.toArray n}:=by
 obtain⟨z,its,n,r,e⟩:=I.hok l _ hH
 exact⟨z,its,n,r,r.length,e⟩
theorem kiE{n:Nat}(h:n≤sizeLine):Builtin.List.listTooLong n=false:=by
 unfold Builtin.List.listTooLong
 exact decide_eq_false (by omega)
end
section
variable {X:Cx}
def kmL:V→List V→Hp→VK→Prop:=fun x vs H Q=>∃l xs y,x=.ref l∧vs=[y]∧H l=some (.lst xs)∧xs.length<sizeLine∧Q .non (upd H l (.lst (xs++[y])))
theorem kbd:MtM X "list.append" kmL:=by
 intro pins s σ H x vs v us Q I rx rv h
 obtain⟨l,xs,y,rfl,rfl,hH,hz,q⟩:=h
 cases rx
 obtain⟨u,rfl,ru⟩:=rv.one
 obtain⟨z,its,n,r,hl,e⟩:=I.lstM hH
 refine call_meets F.slot_list_append ⟨_,e,rfl⟩ F.entry_list_append (F.args_list_append_2 _ _) (PySem.list_append l its.toArray n u (by rw[Nd];omega)) ⟨e,?_⟩
 refine⟨.non,_,I.lset (its':=its++[u]) hH e (by simp) (r.append (.cons ru .nil)) ?_,rfl,q⟩
 rw[JW,Np]
 omega
def kmK:V→List V→Hp→VK→Prop:=fun x vs H Q=>∃l b xs zs,x=.ref l∧vs=[.ref b]∧H l=some (.lst xs)∧H b=some (.lst zs)∧xs.length+zs.length≤sizeLine∧Q .non (upd H l (.lst (xs++zs)))
theorem kg0:MtM X "list.extend" kmK:=by
 intro pins s σ H x vs v us Q I rx rv h
 obtain⟨l,b,xs,zs,rfl,rfl,hH,hB,hz,q⟩:=h
 cases rx
 obtain⟨u,rfl,ru⟩:=rv.one
 cases ru
 obtain⟨z,its,n,r,hl,e⟩:=I.lstM hH
 obtain⟨z2,its2,n2,r2,hl2,e2⟩:=I.lstM hB
 have hsz:its.toArray.size+its2.toArray.size≤sizeLine:=by rw[Nd,Nd];omega
 have hlong:¬(!its.toArray.isEmpty&&Builtin.List.listTooLong (its.toArray.size+its2.toArray.size))=true:=by
  rw[kiE hsz,M1]
  exact JS
 refine call_meets F.slot_list_extend ⟨_,e,rfl⟩ F.entry_list_extend (F.args_list_extend_2 _ _)
  (AutoSeq1.list_extend_list_list_0 l its.toArray n b its2.toArray n2 hlong (by rw[Nd];omega) (by omega)) ⟨e,e2,?_⟩
 refine⟨.non,_,I.lset (its':=its++its2) hH e (by simp) (r.append r2) ?_,rfl,q⟩
 rw[JW]
 omega
def rCat:R2:=fun x y H Q=>∃l b xs zs,x=.ref l∧y=.ref b∧H l=some (.lst xs)∧H b=some (.lst zs)∧xs.length+zs.length≤sizeLine∧∀p,H p=none→Q (.ref p) (upd H p (.lst (xs++zs)))
theorem keN:OpR X (binaryOp .Add) rCat:=by
 intro pins s σ H x y v u Q I rx ry h
 obtain⟨l,b,xs,zs,rfl,rfl,hH,hB,hz,q⟩:=h
 cases rx
 cases ry
 obtain⟨z,its,n,r,hl,e⟩:=I.lstM hH
 obtain⟨z2,its2,n2,r2,hl2,e2⟩:=I.lstM hB
 refine PySem.P.add_list e e2 ?_ (by rw[Nd,Nd];omega)
 have ea:its.toArray++its2.toArray=(its++its2).toArray:=by simp
 rw[ea]
 exact⟨.ref _,_,I.lnew (t':=s.toks) (r.append r2) (by rw[JW];omega),rfl,q _ I.fresh⟩
def rRep:R2:=fun x y H Q=>∃l k xs,x=.ref l∧y=.int k∧H l=some (.lst xs)∧-(2 ^ 63)≤k∧k<2 ^ 63∧xs.length*k.toNat≤sizeLine∧
 ∀p,H p=none→Q (.ref p) (upd H p (.lst (JR k.toNat xs).flatten))
theorem len_rep{α:Type}(xs:List α)(k:Nat):(JR k xs).flatten.length=k*xs.length:=by
 induction k with
 |zero=>simp
 |succ k ih=>rw[Mc,Ni,JW,ih,Nat.succ_mul,Nat.add_comm]
theorem kmf:OpR X (binaryOp .Mult) rRep:=by
 intro pins s σ H x y v u Q I rx ry h
 obtain⟨l,k,xs,rfl,rfl,hH,h1,h2,hz,q⟩:=h
 cases rx
 obtain⟨t,rfl⟩:=ry
 obtain⟨z,its,n,r,hl,e⟩:=I.lstM hH
 have hlen:its.toArray.size*k.toNat≤sizeLine:=by rw[Nd,←hl];exact hz
 have hcap:¬its.toArray.size*k.toNat > (2 ^ 63-1)/8:=by
  have:(sizeLine:Nat)≤(2 ^ 63-1)/8:=by decide
  omega
 have hfit:¬(!Builtin.List.listFitsIndex k)=true:=by
  rw[fitsIndex_both h1 h2]
  exact JS
 have hlong:¬Builtin.List.listTooLong (its.toArray.size*k.toNat)=true:=by
  rw[kiE hlen]
  exact JS
 have hnew:List.foldl (fun x1 x2=>x1++x2) #[] (JR (if its.toArray.isEmpty=true then 0 else k.toNat) its.toArray)=(JR k.toNat its).flatten.toArray:=by
  have f0:∀m:Nat,List.foldl (fun x1 x2=>x1++x2) #[] (JR m its.toArray)=(JR m its).flatten.toArray:=fun m=>by
   have:=foldl_rep its m []
   rw[NH] at this
   exact this
  rw[f0]
  cases its with
  |nil=>simp
  |cons a r'=>rw[if_neg (by simp)]
 refine wpAny_binaryOp_repeat_ref (T:="list") (U:="int") (by decide) ⟨_,e,rfl⟩ (fun s'=>typeIs_int s' k t) noFill_list_mul F.fills_int_mul F.slot_int_rmul repeat_list F.slot_int_index.lookup
  (call_meets F.slot_int_rmul (typeIs_int s k t) F.entry_int_rmul (F.args_int_rmul_2 _ _) (int___rmul___int_list k t l its.toArray n)
   ⟨e,rfl,⟨_,e,rfl⟩,call_meets F.slot_list_mul ⟨_,e,rfl⟩ F.entry_list_mul (F.args_list_mul_2 _ _) (AutoListH.list___mul___list_int_3 l its.toArray n k t hfit hcap hlong) ⟨e,?_⟩⟩)
 rw[hnew]
 exact⟨.ref _,_,I.lnew (t':=s.toks) (r.rep k.toNat) (by rw[len_rep,Nat.mul_comm];exact hz),rfl,q _ I.fresh⟩
end
section
variable {prog:Program} {w:World} {A:Around} {E:Value→Shared→Prop} {s:Shared}
set_option maxRecDepth 100000 in
end
section
variable {X:Cx}
end
end L2
namespace Att
open PySem PySem.W PySem.Calls PyProof.Rows
theorem ke0{P:Params}{h:Heap}:∀(ns:List Int)(vs:List Value),WellAll P h vs (ns.map WData.int)→IntsAre vs ns:=by
 intro ns
 induction ns with
 |nil=>
  intro vs w
  rw[NS] at w
  cases w
  exact .nil
 | cons n ns ih=>
  intro vs w
  rw[JV] at w
  cases w with
  |cons a b=>
   cases a
   exact .cons _ _ (ih _ b)
theorem kjW{l:OpenLaw}{n:Nat}(hn:l.most=some n){P:Params}{h:Heap}{args:List WData}{vals:List Value}
  (hpre:l.row.toRowW.claim.pre args=true) (hwl:WellAll P h vals args):
  ∃a vs ns,vals=[Value.ref a]∧args=[WData.list (ns.map WData.int)]∧h.get? a=some {cls:=.type "list",data:=.seq vs.toArray}∧IntsAre vs ns∧ns.length≤n:=by
 have hsh:WShape.hasAll [] args [.list .int]=true:=(pre_splitW hpre).1
 have hc:l.pre.holds [] {args:=args}=true:=(pre_splitW hpre).2
 obtain⟨d,r,rfl,h1,h2⟩:=hasAllW_cons hsh
 obtain rfl:=hasAllW_nil h2
 obtain⟨xs,rfl,h3⟩:=hasW_list h1
 obtain⟨ns,rfl⟩:=items_int h3
 have hlen:ns.length≤n:=by
  unfold OpenLaw.pre at hc
  have h4:(WTm.not (.lt (.lit (.int (n:Int))) (.len (.arg 0)))).holds [] {args:=[.list (ns.map .int)]}=true:=by
   have h4:=(holds_andW hc).1
   rw[hn] at h4
   exact h4
  have h5:=condW_of h4 (w_not (w_lt w_lit (w_len_list (w_arg rfl))))
  rw[JJ] at h5
  refine Nat.le_of_not_lt fun q=>?_
  have q':(n:Int)<((ns.length:Nat):Int):=by omega
  first
   |(rw[decide_eq_true q'] at h5;exact absurd h5 (by decide))
   |(simp at h5;omega)
 cases hwl with
 |cons w1 w2=>
  cases w2
  cases w1 with
  |list ho hall=>exact⟨_,_,ns,rfl,rfl,ho,ke0 ns _ hall,hlen⟩
def kj7(l:OpenLaw)(args:List WData):l.row.toRowW.claim.post args (.bool true) args=true:=
 postW_of (r:=l.row.toRowW) (X:=(true==true))
  (show WShape.has [] (.bool true) .bool=true by first|rfl|decide|simp[WShape.has,WShape.arms,WShape.armsAll])
  (show(WTm.eq .res (.lit (.bool true))).value [] {args:=args,res:=some (.bool true),after:=args}=some (.bool (true==true)) from w_eq_bool (w_res rfl) w_lit) rfl
theorem attach_call{l:OpenLaw}{n:Nat}{q:Program}{loose:List Str}{XP:(Str→Option Value)→Heap→Prop}{YP:World→Heap→Prop}{d:DefRec}
  (hn:l.most=some n) (hdf:d.params.defaults=[])
  (call:∀(w:World)(s₀ s₁:Shared)(mg mb:Str→Option Value)(fa:Addr)(o:Obj)(pm cd doc:Value)(a:Addr)(vs:List Value)(ns:List Int),
   Ground q loose [] XP w s₀ mg mb s₁.heap→YP w s₁.heap→
   s₁.heap.get? fa=some o→o.data=.func (docDef d.name d.params d.body d.scope pm cd doc)→s₁.heap.CodeRec cd d.name→mg d.name=some (.ref fa)→
   s₁.heap.get? a=some {cls:=.type "list",data:=.seq vs.toArray}→IntsAre vs ns→ns.length≤n→s₁.gens= #[]→
   codeAny (model l.prog w) callerA (.call (.ref fa) ⟨[.ref a],[]⟩) (fun r s'=>r=.ok (.ret (.bool true))∧OldK s₁.heap s'.heap∧s'.os=s₁.os∧AllBare s'.gens) s₁):
  WalkO q loose XP YP l.row.toRowW d [] (fun f vs=>PySem.call f vs):=by
 intro w s₀ s₁ mg mb G Y fa o pm cd doc dV kV ho hd hcd hD hmg hg args vals as hpre hlay hrd hwl hlo
 obtain rfl:dV=.none:=Dflts.none hD hdf
 obtain rfl:kV=.none:=Dflts.noKw hD
 obtain⟨a,vs,ns,rfl,rfl,hobj,hints,hlen⟩:=kjW hn hpre hwl
 refine enter_call (codeAny_mono (call w s₀ s₁ mg mb fa o pm cd doc a vs ns G Y ho (fd_plain hd) hcd hmg hobj hints hlen hg) fun r s' hq=>?_)
 obtain⟨rfl,h2,h3,h4⟩:=hq
 exact⟨.inl ⟨.bool true, .bool true,[],rfl,fun _=>rfl, .bool true,kj7 l _,fun _=>⟨NO.nil,fun _ hm=>(nomatch hm)⟩⟩,h2,h3,h4⟩
section
variable {prog:Program} {w:World} {A:Around} {E:Value→Shared→Prop} {s:Shared} {K:Frag}
end
end Att
namespace L2
open PySem PySem.Spec PyProof.Rows
theorem kgs:∀{vs:List Value}{ns:List Int},IntsAre vs ns→Vals (ns.map V.int) vs
 |_,_, .nil=>.nil
 |_,_, .cons n t h=>.cons ⟨t,rfl⟩ (kgs h)
end L2
namespace L2
open PySem PySem.Spec PyProof.Rows
end L2
namespace L2
open PySem PySem.Spec PyProof.Rows
def inClass(s:Stmt)(j:Nat):Stmt:=match s with
 | .ClassDef _ _ _ body _ _ _ _ _ _ _=>body.getD j (.Pass ⟨0,0,0,0⟩)
 |_=>.Pass ⟨0,0,0,0⟩
def kaH(s:Stmt):Arguments:=match s with
 | .FunctionDef _ a _ _ _ _ _ _ _ _=>a
 |_=>{posonlyargs:=[],args:=[],vararg:=none,kwonlyargs:=[],kw_defaults:=[],kwarg:=none,defaults:=[]}
def kaF(s:Stmt):List Stmt:=match s with
 | .FunctionDef _ _ b _ _ _ _ _ _ _=>b
 |_=>[]
def kah(s:Stmt):Scope:=match s with
 | .FunctionDef _ _ _ _ _ _ sc _ _ _=>sc
 |_=>{kind:=.function,names:=[],isGenerator:=false,isCoroutine:=false}
abbrev CX0:CXT:=fun _ _ _ _ _ _=>False
abbrev E0:XK:=fun _ _ _=>False
def pass0{X:Cx}:kdO CX0 X E0:=fun _ _ _ _ _ _ _ h=>h.elim
structure Fun (K:JL) (x qual:Str) (st:Stmt) (f:Addr) (fd:FuncData):Prop where
 ex:∃(oc:Value)(od:Option Addr)(kV doc pm:Value)(an:Option Addr)(cdv ct:Value)(osl:Array (Option Value)),
  fd=J6 x qual (kaH st) (kaF st) (kah st) .none kV doc pm an cdv ct∧K.lookup f=some ⟨oc,od, .func fd,osl⟩∧Nu K cdv qual=true
 kp:J7 K (.ref f)=true
section
variable {P:Program} {w:World} {K:JL} {mg:Str→Option Value} {base:Heap}
end
def hu_of{A:Around}{k:Nat}(hr:Room k A):A.units+1<cLine:=N7 (Nat.add_le_add_left (by decide:1≤64) _) hr.units
def kau{n:Nat}(h:n≤1000):n<sizeLine:=N7 h (by decide)
section
variable {X:Cx}
theorem pv(i:Nat){x:Str}{pos:Pos}(hN:X.N[i]?=some x:=by rfl)(hv:Vis X.env.scope x:=by first|exact Or.inl rfl|exact Or.inr (Or.inl rfl)|exact Or.inr (Or.inr rfl))(hd:(x==("__debug__" :Str))=false:=by decide)
  (hcd:(x==("__classdict__" :Str))=false:=by decide):PE X (.Name x pos) (tVar i):=knt hN hv hd hcd
end
def iteF{A B:Prop}(h:B):if false=true then A else B:=by
 rw[if_neg JS]
 exact h
def iteT{A B:Prop}(h:A):if true=true then A else B:=by
 rw[if_pos rfl]
 exact h
def ite2{c A B:Prop} [Decidable c] (h1:c→A) (h2:¬c→B):if c then A else B:=by
 by_cases h:c
 ·rw[if_pos h]
  exact h1 h
 ·rw[if_neg h]
  exact h2 h
end L2
set_option maxHeartbeats 4000000
namespace L3
end L3
namespace L2
open PySem PySem.Spec PyProof.Rows
section
variable {X:Cx}
theorem log2_small{n:Nat}(h:n<2 ^ 200):n.log2<9000:=by
 by_cases h0:n=0
 ·subst h0
  decide
 ·have h1:n.log2<200:=(Nat.log2_lt h0).mpr h
  omega
def CDivB(_ j:Int):Prop:=0<j∧j<2 ^ 199
theorem kiD:OpR X (binaryOp .FloorDiv) (rI CDivB fun i j=>.int (i/j)):=opI fun i j _ _ _ _ _ hc q=>by
 have h1:(0:Int)<j:=hc.1
 have h2:j<2 ^ 199:=hc.2
 have h3:j.natAbs<2 ^ 200:=by omega
 exact floordiv_int (by omega) (by rw[Int.fdiv_eq_ediv_of_nonneg i (by omega)];exact q) (.inl (PyProof.noPylong_of_log2 (log2_small h3)))
theorem kcM(hc:X.calm=true):CallR X (.builtin "sum") (fun xs H Q=>∃(p:Addr)(ns:List Int),xs=[.ref p]∧SqL X.K H p (ns.map V.int)∧Q (.int ns.sum) H):=by
 intro pins s σ H xs us Q I r h
 obtain⟨p,ns,rfl,hq,q⟩:=h
 obtain⟨u,rfl,rx⟩:=vals1 r
 cases rx
 obtain⟨its,r',pl,hz⟩:=I.list hq
 have hi:IntsAre its ns:=intsAre_of r'
 have ha:=hi.allInts
 obtain⟨zs,hx⟩:=ha.items
 have hl:=pl.isList
 rw[hx] at hl
 refine sum_intListG (I.ok.hd hc) hl fun h' tk t' hk=>⟨.int ns.sum,H,I.kept hk,⟨t',?_⟩,q⟩
 have e2:preSum (numAt zs) zs.size=(numsOf (intItems zs).toList).sum:=by
  rw[nums_intItems,preSum_eq,Md (by simp)]
 have e3:numsOf its.toArray.toList=ns:=hi.numsOf
 rw[e2,←hx,e3]
def eqVs:List V→List V→Bool
 |[],[]=>true
 |x::xs,y::ys=>eqV x y&&eqVs xs ys
 |_,_=>false
theorem kgk:∀{xs ys:List V},xs.length≠ys.length→eqVs xs ys=false
 |[],[],h=>absurd rfl h
 |[],_::_,_=>rfl
 |_::_,[],_=>rfl
 |x::xs,y::ys,h=>by
  show(eqV x y&&eqVs xs ys)=false
  rw[kgk (fun e=>h (by simp[e])),M1]
theorem kdW:∀(xs ys:List V),xs.length=ys.length→(JP xs.length).all (fun j=>eqV (xs.getD j .non) (ys.getD j .non))=eqVs xs ys
 |[],[],_=>rfl
 |[],_::_,h=>by simp at h
 |_::_,[],h=>by simp at h
 |x::xs,y::ys,h=>by
  have ih:=kdW xs ys (by simpa using h)
  show(JP (xs.length+1)).all _=(eqV x y&&eqVs xs ys)
  rw[List.range_succ_eq_map,M0,List.all_map]
  show(eqV x y&&_)=_
  rw[←ih]
  rfl
theorem kiS:∀{x:V},flatV x=true→eqV x x=true
 | .non,_=>rfl
 | .bl b,_=>by simp[eqV]
 | .int i,_=>by simp[eqV]
 | .str z,_=>by simp[eqV]
theorem ke5:∀{xs:List V},xs.all flatV=true→eqVs xs xs=true
 |[],_=>rfl
 |x::xs,h=>by
  rw[M0,NL] at h
  show(eqV x x&&eqVs xs xs)=true
  rw[kiS h.1,ke5 h.2]
  rfl
theorem ke7:∀{ns ms:List Int},eqVs (ns.map V.int) (ms.map V.int)=decide (ns=ms)
 |[],[]=>by simp[eqVs]
 |[],_::_=>by simp[eqVs]
 |_::_,[]=>by simp[eqVs]
 |n::ns,m::ms=>by
  show((n==m)&&eqVs (ns.map V.int) (ms.map V.int))=_
  rw[ke7]
  by_cases h:n=m <;> by_cases h':ns=ms <;> simp[h,h']
theorem kdI(ns:List Int):(ns.map V.int).all flatV=true:=by
 rw[Mm]
 intro x hx
 obtain⟨n,_,rfl⟩:=J4.mp hx
 rfl
def rEqL(K:JL)(neg:Bool):R2:=fun x y H Q=>∃a b xs ys,x=.ref a∧y=.ref b∧SqL K H a xs∧SqL K H b ys∧xs.all flatV=true∧ys.all flatV=true∧Q (.bl (if neg then !eqVs xs ys else eqVs xs ys)) H
theorem kkT{xs:List V}(h:xs.all flatV=true){j:Nat}(hj:j<xs.length):flatV xs[j]=true:=by
 rw[Mm] at h
 exact h _ (M3 hj)
theorem khW{A:Around}{s:Shared}{xs ys:List V}{us ws:List Value}(r:Vals xs us)(q:Vals ys ws)(fx:xs.all flatV=true)(fy:ys.all flatV=true):
  ∀j (h1:j<us.toArray.size) (h2:j<ws.toArray.size),SeqAt.EqAt A s us.toArray[j] ws.toArray[j] (eqV (xs.getD j .non) (ys.getD j .non)):=by
 intro j h1 h2
 have l1:=r.length
 have l2:=q.length
 have h1':j<us.length:=by simpa using h1
 have h2':j<ws.length:=by simpa using h2
 have k1:j<xs.length:=by omega
 have k2:j<ys.length:=by omega
 obtain⟨u,e1,r1⟩:=r.get (i:=j) (x:=xs[j]) (by simp[k1])
 obtain⟨w,e2,r2⟩:=q.get (i:=j) (x:=ys[j]) (by simp[k2])
 have g1:us.toArray[j]=u:=by
  have:=JX.mp e1
  obtain⟨_,e⟩:=this
  simpa using e
 have g2:ws.toArray[j]=w:=by
  have:=JX.mp e2
  obtain⟨_,e⟩:=this
  simpa using e
 have d1:xs.getD j .non=xs[j]:=by simp[k1]
 have d2:ys.getD j .non=ys[j]:=by simp[k2]
 rw[g1,g2,d1,d2]
 exact kiT r1 r2 (kkT fx k1) (kkT fy k2)
theorem knw(hu:X.A.units<cLine):OpR X (compareOp .NotEq) (rEqL X.K true):=by
 intro pins s σ H x y v u Q I rx ry h
 obtain⟨a,b,xs,ys,rfl,rfl,hx,hy,fx,fy,q⟩:=h
 cases rx
 cases ry
 obtain⟨us,r1,p1,z1⟩:=I.list hx
 obtain⟨ws,r2,p2,z2⟩:=I.list hy
 have l1:=r1.length
 have l2:=r2.length
 show wpAny _ _ (richCompare .NotEq (.ref a) (.ref b)) _ _ s
 by_cases hl:xs.length=ys.length
 ·refine SeqAt.RcNeAt.lists p1.isList p2.isList (by simp;omega) hu (khW r1 r2 fx fy) _ _ _ _ ⟨.bl (!eqVs xs ys),H,I,?_,q⟩
  have e:us.toArray.size=xs.length:=by simp[l1]
  rw[e,kdW xs ys hl]
  rfl
 ·refine SeqAt.RcNeAt.lists_lengths p1.isList p2.isList (by simp;omega) hu _ _ _ _ ⟨.bl (!eqVs xs ys),H,I,?_,q⟩
  rw[kgk hl]
  rfl
def cV:V→Value
 | .ty n=>.type n
 | .ref a=>.ref a
 |_=>.none
theorem ka6:CallR X (.builtin "isinstance") (fun xs H Q=>∃x c t b,xs=[x,c]∧((∃n,c=.ty n)∨∃a,c=.ref a)∧TyOf X.K H x t∧Nb X.K t (cV c)=some b∧Q (.bl b) H):=by
 intro pins s σ H xs us Q I r h
 obtain⟨x,c,t,b,rfl,hc,ty,e,q⟩:=h
 obtain⟨u,w',rfl,r1,r2⟩:=vals2 r
 have ew:w'=cV c:=by
  rcases hc with⟨n,rfl⟩|⟨a,rfl⟩
  ·exact r2
  ·exact r2
 subst ew
 exact kkG I r1 ty e fun tk=>⟨.bl b,H,I.tok tk,rfl,q⟩
theorem b_isi:bootBuiltins "isinstance"=some (.builtin "isinstance"):=by decide +kernel
theorem kaU:bootBuiltins "list"=some (.type "list"):=by decide +kernel
theorem b_sum:bootBuiltins "sum"=some (.builtin "sum"):=by decide +kernel
theorem b_min:bootBuiltins "min"=some (.builtin "min"):=by decide +kernel
theorem b_max:bootBuiltins "max"=some (.builtin "max"):=by decide +kernel
theorem b_len:bootBuiltins "len"=some (.builtin "len"):=by decide +kernel
theorem kdH(K:JL)(t:Value):Nb K t t=some true:=by
 unfold Nb
 rw[if_pos (by simp)]
def tCut(t:TS):TS:=fun D σ H=>∃P:St→Hp→Prop,t {D with nx:=P} σ H∧∀σ' H',P σ' H'→D.nx σ' H'
theorem kcc{st:Stmt}{t:TS}(h:PS X st t):PS X st (tCut t):=by
 intro pins s σ H D I hw
 obtain⟨P,h1,h2⟩:=hw
 refine thn (h pins s σ H {D with nx:=P} I h1) fun f s' q=>?_
 cases f with
 |next=>
  obtain⟨σ',H',I',q'⟩:=q
  exact⟨σ',H',I',h2 σ' H' q'⟩
 |brk=>exact q
 |cont=>exact q
 |ret u=>exact q
def tCutE(t:TE):TE:=fun σ H Q=>∃P:V→Hp→Prop,t σ H P∧∀v H',P v H'→Q v H'
theorem kmd{e:Expr}{t:TE}(h:PE X e t):PE X e (tCutE t):=by
 intro pins s σ H Q I hw
 obtain⟨P,h1,h2⟩:=hw
 exact thn (h pins s σ H P I h1) fun u s' ⟨v,H',I',r,q⟩=>⟨v,H',I',r,h2 v H' q⟩
def Its(lo st:Int)(n:Nat):It:=⟨fun i _=>i<n,fun i H x H'=>H'=H∧x=.int (lo+i*st),fun i _=>n≤i⟩
theorem kjp{P:Program}{w:World}{K:JL}{tg:Expr}(it:Addr)(lo st:Int)(n:Nat):Turn P w K tg (Its lo st n) [it] it (fun i h=>IsRangeIter h it (lo+(i:Nat)*st) ((n:Int)-(i:Nat)) st) where
 mem:=by simp
 obj:=fun i h st b hb=>by
  have e:b=it:=by simpa using hb
  subst e
  exact⟨_,st,fun v z=>by
   have z':Data.fields _=Data.cell v:=z
   cases z'⟩
 keep:=fun i h h' st k=>k it (by simp) _ st
 item:=by
  intro X hP hw hK hc i pins s σ H E I hf st' hg
  subst hP hw hK
  obtain⟨f0,f1,f2,f3,f4,f5⟩:=hf it (by simp)
  have W:=Walks.range (prog:=X.prog) (w:=X.w) (I.ok.hd hc) it lo st n
  refine W.item i s _ _ hg st' fun v h' tk hv st'' kk=>?_
  obtain⟨t,rfl⟩:=hv
  have I1:Inv X pins σ H {s with heap:=h',toks:=tk}:=I.turned (fun b o hb e=>kk b o (by simpa using hb) e) f0 f1 f3 f4 f5
  exact⟨_,rfl,go_of (s:={s with heap:=h',toks:=tk}) (n:="range_iterator") st'' rfl rfl (by decide) ⟨.int (lo+i*st),H,I1,⟨t,rfl⟩,⟨rfl,rfl⟩,st'',fun b hb=>(hf b hb).1⟩⟩
 done:=by
  intro X hP hw hK hc i pins s σ H E I hf st hg
  subst hP hw hK
  obtain⟨f0,f1,f2,f3,f4,f5⟩:=hf it (by simp)
  exact wpAny_pyNext_range_end (I.ok.hd hc) st (by have:n≤i:=hg;omega) fun h' eb=>⟨rfl,I.turned (t':=s.toks) (fun b o hb e=>eb b o hb e) f0 f1 f3 f4 f5⟩
 self:=fun _ _ _ _ _ st h=>wpAny_pyIter_rangeiter st h
theorem kgF{a b c:Int}(hc:0<c)(ha: -(2 ^ 31)≤a∧a<2 ^ 31)(hb: -(2 ^ 31)≤b∧b<2 ^ 31):0≤Builtin.Range.rangeSize a b c∧Builtin.Range.rangeSize a b c<2 ^ 33:=by
 unfold Builtin.Range.rangeSize
 rw[if_pos hc]
 split
 ·have h1:0≤(b-a-1)/c:=Int.ediv_nonneg (by omega) (by omega)
  have h2:(b-a-1)/c≤b-a-1:=Int.ediv_le_self _ (by omega)
  omega
 ·omega
theorem ki3{a b c:Int}(hc:0<c)(hc2:c<2 ^ 30)(ha: -(2 ^ 31)≤a∧a<2 ^ 31)(hb: -(2 ^ 31)≤b∧b<2 ^ 31):Builtin.Range.small a b c=true:=by
 have h:=kgF hc ha hb
 unfold Builtin.Range.small
 generalize Builtin.Range.rangeSize a b c=n at h
 simp only[Builtin.Range.rangeFitsLong,NL,Ez,decide_eq_true_eq,beq_iff_eq,show c > 0 from hc,if_true]
 omega
end
def khc(xs:List V)(k:Nat):cutV xs none (some (k:Int))=xs.take k:=by
 unfold cutV
 rw[HT.sIx_none,HT.sIx_nat,List.drop_zero,Nat.sub_zero,ER]
 omega
def kgl(xs:List V)(k:Nat):cutV xs (some (k:Int)) none=xs.drop k:=by
 unfold cutV
 rw[HT.sIx_none,HT.sIx_nat]
 by_cases h:k≤xs.length
 ·rw[MM h,Md (by simp)]
 ·rw[Nat.min_eq_right (by omega),M4 (JK _),M4 (by omega)]
  simp
def kiV(ns:List Int)(lo hi:Option Int):∃ms:List Int,cutV (ns.map V.int) lo hi=ms.map V.int∧ms.length≤ns.length:=by
 refine⟨(ns.drop (HT.sIx ns.length 0 lo)).take (HT.sIx ns.length ns.length hi-HT.sIx ns.length 0 lo),?_,?_⟩
 ·unfold cutV
  rw[JJ,←MB,←Me]
 ·rw[Na,N5]
  omega
end L2
namespace L2
open PySem PySem.Spec PyProof.Rows
def Inv.adopt{X:Cx}{pins:List (Addr×Obj)}{σ:St}{H:Hp}{s:Shared}{a:Addr}{o:HO}(I:Inv X pins σ H s)(f:FpOk X pins H a)(h0:X.s₀.heap.objs.size≤a)(new:ObjOk X.prog X.w (upd H a o) s.heap a o):Inv X pins σ (upd H a o) s:=by
 obtain⟨hn,hL,_,_,hC,hp⟩:=f
 have nt:∀b u,H b=some u→b≠a:=fun b u e=>kai e hn
 refine⟨I.ok,I.os,I.bare,⟨I.base.keep,I.base.slot,fun b ob e n hx=>?_,I.base.there,fun b xs e=>?_,fun b ob u e=>?_,fun b ps e=>?_⟩,I.loc,I.cell,?_,fun x c e=>?_,fun p hp'=>?_,fun b u e=>?_,I.len⟩
 ·rw[kak (Nj (Ng (Heap.lt_size e) h0))]
  exact I.base.free b ob e n hx
 ·have q:=I.base.tups b xs e
  rw[kak (nt _ _ q)]
  exact q
 ·have q:=I.base.frzs b ob u e
  rw[kak (nt _ _ q)]
  exact q
 ·obtain⟨m,q⟩:=I.base.tbls b ps e
  exact⟨m,by rw[kak (nt _ _ q)];exact q⟩
 ·rw[kak (Ne.symm hL)]
  exact I.free
 ·rw[kak (hC x c e)]
  exact I.freeC x c e
 ·obtain⟨e,n,r⟩:=I.pin p hp'
  exact⟨e,by rw[kak (hp p hp')];exact n,r⟩
 ·by_cases hb:b=a
  ·subst hb
   rw[kae] at e
   cases e
   exact new
  ·rw[kak hb] at e
   exact(I.hok b u e).stay (fun c v _ q=>q) (fun c q=>by rw[kak (nt _ _ q)];exact q) fun c xs q=>by rw[kak (nt _ _ q)];exact q
def capσ(cap:List (Option Nat))(σ:St):St:=cap.map fun o=>match o with
 |some i=>(σ[i]?).getD none
 |none=>none
def closL(cells:List (Str×Addr))(names:List (Str×NameKind)):List (Str×Addr)→List (Str×Addr):=fun acc=>names.foldl (fun acc p=>if p.2== .free then(p.1,(cells.lookup p.1).getD 0)::acc else acc) acc
theorem ke2{α β:Type}{f: α→β→Sem (ForInStep β)}{g: β→α→β}:∀(l:List α)(b: β),(∀x∈l,∀b,f x b=pure (.yield (g b x)))→forIn l b f=pure (l.foldl g b)
 |[],b,_=>by rw[List.forIn_nil];rfl
 |x::l,b,h=>by
  rw[List.forIn_cons,h x J0]
  show forIn l (g b x) f=_
  rw[ke2 l (g b x) fun y hy=>h y (JZ _ hy)]
  rfl
def kgn{scope:Scope}{env:Env}(h:∀x∈scope.names,x.2=.free→∃c,env.cells.lookup x.1=some c):closureFor scope env=pure (closL env.cells scope.names []):=by
 unfold closureFor
 dsimp only
 rw[ke2 (g:=fun acc p=>if p.2== .free then(p.1,(env.cells.lookup p.1).getD 0)::acc else acc) scope.names [] fun x hx b=>?_]
 ·rfl
 ·obtain⟨n,k⟩:=x
  by_cases hk:k=.free
  ·subst hk
   obtain⟨c,ec⟩:=h _ hx rfl
   have ec':env.cells.lookup n=some c:=ec
   have e1:cellOf env n=pure c:=by unfold cellOf;rw[ec']
   simp only[beq_self_eq_true,if_true,e1,ec',Option.getD_some]
   rfl
  ·have:(k==NameKind.free)=false:=by simpa using hk
   simp only[this,NM,if_false]
def kfN(cells:List (Str×Addr))(p:Str×NameKind)(r:List (Str×NameKind))(acc:List (Str×Addr)):closL cells (p::r) acc=closL cells r (if p.2== .free then(p.1,(cells.lookup p.1).getD 0)::acc else acc):=rfl
theorem kex{cells:List (Str×Addr)}{x:Str}{c:Addr}:∀(names:List (Str×NameKind))(acc:List (Str×Addr)),(closL cells names acc).lookup x=some c→(((x,NameKind.free)∈names∧c=(cells.lookup x).getD 0)∨acc.lookup x=some c)
 |[],acc,h=>.inr h
 | (n,k)::r,acc,h=>by
  rw[kfN] at h
  rcases kex r _ h with⟨h1,h2⟩|h1
  ·exact .inl ⟨JZ _ h1,h2⟩
  ·by_cases hk:k=.free
   ·subst hk
    simp only[beq_self_eq_true,if_true] at h1
    rw[NB] at h1
    by_cases hx:x=n
    ·subst hx
     simp only[beq_self_eq_true] at h1
     exact .inl ⟨J0,(Option.some.inj h1).symm⟩
    ·have hb:(x==n)=false:=beq_eq_false_iff_ne.mpr hx
     rw[hb] at h1
     exact .inr h1
   ·have:(k==NameKind.free)=false:=by simpa using hk
    simp only[this,NM,if_false] at h1
    exact .inr h1
theorem kc5{cells:List (Str×Addr)}{x:Str}:∀(names:List (Str×NameKind))(acc:List (Str×Addr)),((x,NameKind.free)∈names∨∃c,acc.lookup x=some c)→∃c,(closL cells names acc).lookup x=some c
 |[],acc,h=>by
  rcases h with h|h
  ·cases h
  ·exact h
 | (n,k)::r,acc,h=>by
  rw[kfN]
  refine kc5 r _ ?_
  by_cases hm:(x,NameKind.free)∈r
  ·exact .inl hm
  ·refine .inr ?_
   rcases h with h|⟨c,h⟩
   ·rcases Nc.mp h with e|h
    ·cases e
     simp[NB]
    ·exact absurd h hm
   ·split
    ·rw[NB]
     by_cases hx:x=n
     ·subst hx
      simp
     ·have hb:(x==n)=false:=beq_eq_false_iff_ne.mpr hx
      rw[hb]
      exact⟨c,h⟩
    ·exact⟨c,h⟩
theorem kcL:∀(names:List (Str×NameKind))(n:Nat)(acc acc':List (Str×Addr)),cellsFrom n names (acc++acc')=cellsFrom n names acc++acc'
 |[],_,_,_=>rfl
 |(m,k)::r,n,acc,acc'=>by
  unfold cellsFrom
  split
  ·exact kcL r (n+1) ((m,n)::acc) acc'
  ·exact kcL r n acc acc'
def kch(names:List (Str×NameKind))(n:Nat)(acc:List (Str×Addr))(x:Str):(cellsFrom n names acc).lookup x=((cellsFrom n names []).lookup x).or (acc.lookup x):=by
 rw[←List.lookup_append,←kcL,NH]
theorem kcK{x:Str}:∀(names:List (Str×NameKind))(n:Nat)(acc:List (Str×Addr)),(x,NameKind.cell)∉names→(cellsFrom n names acc).lookup x=acc.lookup x
 |[],_,_,_=>rfl
 | (m,k)::r,n,acc,h=>by
  unfold cellsFrom
  by_cases hk:k=.cell
  ·subst hk
   simp only[beq_self_eq_true,if_true]
   rw[kcK r _ _ fun z=>h (JZ _ z),NB]
   have hx:x≠m:=fun e=>h (by rw[e];exact J0)
   have hb:(x==m)=false:=beq_eq_false_iff_ne.mpr hx
   rw[hb]
  ·have:(k==NameKind.cell)=false:=by simpa using hk
   simp only[this,NM,if_false]
   exact kcK r _ _ fun z=>h (JZ _ z)
def relN(names ns:List (Str×NameKind)):List (Str×NameKind):=names.map fun(n,k)=>if(k== .free&&ns.lookup n==some .cell) then(n, .cell) else(n,k)
def kdu{scope:Scope}{env:Env}(hk:env.scope.kind=.function):(relabel scope env).names=relN scope.names env.scope.names:=by
 unfold relabel relN
 have e:(ScopeKind.function==ScopeKind.function)=true:=by decide
 simp only[hk,e,MN]
 rfl
theorem kdl{ns:List (Str×NameKind)}{x:Str}:∀(names:List (Str×NameKind)),(relN names ns).lookup x=(names.lookup x).map fun k=>if(k== .free&&ns.lookup x==some .cell) then .cell else k
 |[]=>rfl
 | (n,k)::r=>by
  have ih:=kdl (ns:=ns) (x:=x) r
  show NQ x ((if(k== .free&&ns.lookup n==some .cell)=true then(n,NameKind.cell) else(n,k))::relN r ns)=_
  by_cases hx:x=n
  ·subst hx
   by_cases hc:(k== .free&&ns.lookup x==some .cell)=true
   ·rw[if_pos hc]
    simp only[NB,beq_self_eq_true,Mf]
    rw[if_pos hc]
   ·rw[if_neg hc]
    simp only[NB,beq_self_eq_true,Mf]
    rw[if_neg hc]
  ·have hb:(x==n)=false:=beq_eq_false_iff_ne.mpr hx
   by_cases hc:(k== .free&&ns.lookup n==some .cell)=true
   ·rw[if_pos hc]
    simp only[NB,hb]
    exact ih
   ·rw[if_neg hc]
    simp only[NB,hb]
    exact ih
theorem kmJ{names ns:List (Str×NameKind)}{x:Str}(h:(relN names ns).lookup x=some .cell∨(relN names ns).lookup x=some .free):names.lookup x=some .cell∨names.lookup x=some .free:=by
 rw[kdl] at h
 cases e:names.lookup x with
 |none=>rw[e] at h;simp at h
 |some k=>
  rw[e] at h
  cases k <;> simp_all
def kj1{names ns:List (Str×NameKind)}{x:Str}(h:names.lookup x=some .free):(relN names ns).lookup x=some .cell∨(relN names ns).lookup x=some .free:=by
 rw[kdl,h]
 by_cases hc:ns.lookup x==some .cell
 ·left;simp[hc]
 ·right;simp[hc]
structure CompScope (X:Cx) (scope:Scope) (N:List Str) (cap:List (Option Nat)):Prop where
 kind:scope.kind=.function
 names:∀x∈scope.names,x.2=.local→scope.names.lookup x.1=some .local
 free:∀x∈scope.names,x.2=.free→X.env.scope.names.lookup x.1=some .cell∨X.env.scope.names.lookup x.1=some .free
 nd:N.Nodup
 len:cap.length=N.length
 cap:∀(j i:Nat)(x:Str),cap[j]?=some (some i)→N[j]?=some x→X.N[i]?=some x∧scope.names.lookup x=some .free∧(x,NameKind.cell)∉scope.names
def ked(X:Cx)(scope:Scope)(C:Addr):List (Str×Addr):=cellsFrom (C+1) scope.names (closL X.env.cells scope.names [])
def cxC(X:Cx)(scope:Scope)(N:List Str)(fp:List Addr)(s:Shared)(H:Hp)(C:Addr):Cx:=
 {X with N:=N,s₀:=s,H₀:=H,env:=compEnvC scope (ked X scope C) C X.env,outer:=X.stack,ex:=fp,fn:=fun x=>scope.names.lookup x==some .cell,pn:=[],xe:=fun _ _=>False}
theorem kga{M:Model}{A:Around}{E:Value→Shared→Prop}{s:Shared}{scope:Scope}{globals:Addr}{cl:List (Str×Addr)}{qual:Str}{func:Option Addr}{code:Value}{outer:Env}{builtins:Addr}{Q:Env→Shared→Prop}
  (hQ:Q (newEnv scope s.heap.objs.size globals (cellsFrom (s.heap.objs.size+1) scope.names cl) qual func code (some outer) builtins) {s with heap:=pushCells (s.heap.push {cls:=.type "dict",data:=.dict #[]}) scope.names}):
  wpAny M A (newFunctionEnv scope globals cl [] qual func code (some outer) builtins) Q E s:=by
 simp only[newFunctionEnv,Option.isSome_some,if_true]
 refine wpAny_bind (wpAny_alloc ?_)
 refine wpAny_bind (wpAny_layCells _ (fun name kind cells=>by cases hkc:kind==NameKind.cell <;> simp[hkc]) _ _ _ _ ?_)
 rw[show({s with heap:=s.heap.push {cls:=.type "dict",data:=.dict #[]}}:Shared).heap.objs.size=s.heap.objs.size+1 from Heap.size_push ..]
 exact wpAny_bind (wpAny_pure (wpAny_pure hQ))
section
variable {X:Cx} {scope:Scope} {N:List Str} {cap:List (Option Nat)} {pins:List (Addr×Obj)} {σ:St} {H:Hp} {s:Shared}
theorem kjx(I:Inv X pins σ H s){b:Addr}(hb:b∈frs X.stack):b<s.heap.objs.size:=by
 obtain⟨_,o,ho,_⟩:=I.stack.mem hb
 exact Heap.lt_size ho
theorem kc4(S:CompScope X scope N cap)(I:Inv X pins σ H s):closureFor scope X.env=pure (closL X.env.cells scope.names []):=
 kgn fun x hx hf=>I.ok.has x.1 (S.free x hx hf)
theorem kci{C:Addr}{x:Str}{c:Addr}(S:CompScope X scope N cap)(I:Inv X pins σ H s)(h:(ked X scope C).lookup x=some c):(cellsFrom (C+1) scope.names []).lookup x=some c∨X.env.cells.lookup x=some c:=by
 unfold ked at h
 rw[kch] at h
 cases e:(cellsFrom (C+1) scope.names []).lookup x with
 |some c'=>
  rw[e] at h
  exact .inl h
 | none=>
  rw[e] at h
  have h':(closL X.env.cells scope.names []).lookup x=some c:=h
  rcases kex _ _ h' with⟨h1,h2⟩|h1
  ·obtain⟨c',ec⟩:=I.ok.has x (S.free _ h1 rfl)
   rw[ec] at h2
   rw[h2]
   exact .inr ec
  ·cases h1
theorem klJ{fp:List Addr}{C D:Addr}{o:Obj}{s4:Shared}{m:Str→Option Value}(S:CompScope X scope N cap)(I:Inv X pins σ H s)(f:∀b∈fp,FpOk X pins H b)(hfp:∀b∈fp,b<s.heap.objs.size)
  (hk:∀b u,s.heap.get? b=some u→s4.heap.get? b=some u) (hns:s4.heap.Ns C m) (hC:s.heap.objs.size≤C) (hD:s.heap.objs.size≤D) (hDC:D≠C) (eD:s4.heap.get? D=some o) (hcell:∀v,o.data≠.cell v)
  (hnew:CellsOk s4.heap (C+1) (cellsFrom (C+1) scope.names [])) (hos:s4.os=s.os) (hg:s4.gens=s.gens):Inv (cxC X scope N fp s H C) [(D,o)] (capσ cap σ) H s4:=by
 have stkne:∀b∈fp,b∉frs X.stack:=fun b hb hz=>by
  obtain⟨_,h1,h2,_⟩:=f b hb
  rcases Nc.mp (I.stkSub b hz) with e|e
  ·exact h1 e
  ·exact h2 e
 have nw:∀{x:Str}{c:Addr},(cellsFrom (C+1) scope.names []).lookup x=some c→s4.heap.IsCell c none∧Nat.lt C c:=fun {x c} h=>hnew.empty x c (PySem.mem_of_lookup h)
 have od:∀{x:Str}{c:Addr},X.env.cells.lookup x=some c→c<s.heap.objs.size:=fun {x c} h=>let⟨_,q⟩:=I.cell x c h;q.lt
 refine⟨⟨I.ok.mod,S.kind,I.ok.glob,I.ok.blt,hC,fun x y c h1 h2=>?_,fun x h=>?_,fun x c h1 h2=>?_,I.ok.hd,I.ok.frames, .inl rfl,fun b hb=>⟨?_,fun x c e=>?_⟩,I.bs,JN I.ok.bsz I.sz,fun b ob e hb=>?_,stkne,I.stack,I.stkFree⟩,
  hos,by rw[hg];exact I.bare,Un.kept hk,⟨m,hns,fun j x v e1 e2 e3=>?_⟩,fun x c e=>?_,I.hok.fresh hC,fun x c e=>?_,fun p hp=>?_,I.hok.kept hk,?_⟩
 ·rcases kci S I h1 with q1|q1 <;> rcases kci S I h2 with q2|q2
  ·exact name_of_addr hnew.apart (PySem.mem_of_lookup q1) (PySem.mem_of_lookup q2)
  ·exact absurd (N7 hC (nw q1).2) (Nat.not_lt_of_lt (od q2))
  ·exact absurd (N7 hC (nw q2).2) (Nat.not_lt_of_lt (od q1))
  ·exact I.ok.inj x y c q1 q2
 ·have h':(relabel scope X.env).names.lookup x=some .cell∨(relabel scope X.env).names.lookup x=some .free:=h
  rw[kdu I.ok.kind] at h'
  show ∃c,(cellsFrom (C+1) scope.names (closL X.env.cells scope.names [])).lookup x=some c
  rw[kch]
  rcases kmJ h' with q|q
  ·obtain⟨c,e⟩:=kez (n:=C+1) q
   exact⟨c,by rw[e];rfl⟩
  ·obtain⟨c,e⟩:=kc5 (cells:=X.env.cells) scope.names [] (.inl (PySem.mem_of_lookup q))
   cases e2:(cellsFrom (C+1) scope.names []).lookup x with
   |some c'=>exact⟨c',rfl⟩
   |none=>exact⟨c,e⟩
 ·have h1':(scope.names.lookup x==some .cell)=true:=h1
  have q:scope.names.lookup x=some .cell:=by simpa using h1'
  obtain⟨c',e⟩:=kez (n:=C+1) q
  have h2':(cellsFrom (C+1) scope.names (closL X.env.cells scope.names [])).lookup x=some c:=h2
  rw[kch,e] at h2'
  have h3:c'=c:=Option.some.inj h2'
  rw[←h3]
  exact JY (N7 hC (nw e).2)
 ·exact Nj (Ng (hfp b hb) hC)
 ·rcases kci S I e with q|q
  ·exact NW (M5 (Ng (hfp b hb) hC) (nw q).2)
  ·exact(f b hb).2.2.2.2.1 x c q
 ·obtain⟨_,_,_,h4,_⟩:=f b hb
  rcases h4 with h4|h4
  ·exact I.ok.noex b ob e h4
  ·exact absurd (Ng (Heap.lt_size e) (JN I.ok.bsz h4)) (NV _)
 ·
  have e2':(cap.map fun o=>match o with|some i=>(σ[i]?).getD none|none=>none)[j]?=some (some v):=e2
  rw[JU] at e2'
  cases ec:cap[j]? with
  |none=>rw[ec] at e2';cases e2'
  | some oi=>
   rw[ec] at e2'
   cases oi with
   |none=>cases e2'
   | some i=>
    have e4:(σ[i]?).getD none=some v:=Option.some.inj e2'
    have e5: σ[i]?=some (some v):=by
     cases q: σ[i]? with
     |none=>rw[q] at e4;cases e4
     |some w=>rw[q] at e4;exact congrArg some e4
    obtain⟨h1,hf,hnc⟩:=S.cap j i x ec e1
    have hm:=PySem.mem_of_lookup hf
    have h2:=S.free _ hm rfl
    obtain⟨mo,_,hl⟩:=I.loc
    obtain⟨u,ru,lk⟩:=hl i x v h1 e5 (.inr h2)
    have h3:(relabel scope X.env).names.lookup x=some .cell∨(relabel scope X.env).names.lookup x=some .free:=by
     rw[kdu I.ok.kind]
     exact kj1 hf
    refine⟨u,ru, .inr ⟨h3,?_⟩⟩
    rcases lk with⟨k1,_⟩|⟨_,c,ec',z⟩
    ·have k1':X.env.scope.names.lookup x=some .local:=k1
     rcases h2 with h2|h2 <;> rw[h2] at k1' <;> cases k1'
    ·obtain⟨c',ec2⟩:=kc5 (cells:=X.env.cells) scope.names [] (.inl hm)
     have ec3:(ked X scope C).lookup x=some c':=by
      unfold ked
      rw[kcK _ _ _ hnc]
      exact ec2
     rcases kex _ _ ec2 with⟨_,q2⟩|q2
     ·rw[ec'] at q2
      have q3:c'=c:=q2
      subst q3
      obtain⟨oc,ho,hd⟩:=z
      exact⟨c',ec3,oc,hk _ _ ho,hd⟩
     ·cases q2
 ·rcases kci S I e with q|q
  ·exact⟨none,(nw q).1⟩
  ·obtain⟨v,oc,ho,hd⟩:=I.cell x c q
   exact⟨v,oc,hk _ _ ho,hd⟩
 ·rcases kci S I e with q|q
  ·exact I.hok.fresh (JN hC (JY (nw q).2))
  ·exact I.freeC x c q
 ·have e:p=(D,o):=by simpa[cxC] using hp
  subst e
  exact⟨eD,I.hok.fresh hD,hDC,fun hz=>absurd (kjx I hz) (M6.mpr hD),hcell⟩
 ·show(cap.map _).length=N.length
  rw[JJ,S.len]
theorem comp_back{fp:List Addr}{C:Addr}{σ':St}{H':Hp}{s':Shared}(I:Inv X pins σ H s)(f:∀b∈fp,FpOk X pins H b)(J:Inv (cxC X scope N fp s H C) [] σ' H' s'):Inv X pins σ H' s':=
 I.call' (ch:=fp) J.os J.base J.hok J.bare fun b hb=>let⟨_,h1,_,h3,h4,h5⟩:=f b hb;⟨h3,h1,h4,h5⟩
end
def PIf(X:Cx)(ifs:List Expr)(t:TT):Prop:=∀(pins:List (Addr×Obj))(s:Shared)(σ:St)(H:Hp)(Q:Bool→Hp→Prop),Inv X pins σ H s→t σ H Q→
 wpAny (model X.prog X.w) X.A (forIn ifs true fun c r=>if r=true then do let ok ←isTrue c X.env (eval c X.env);pure (ForInStep.yield ok) else pure (ForInStep.yield r)) (TP X pins σ Q) X.xe s
def tYes:TT:=fun _ H Q=>Q true H
def kj8{X:Cx}:PIf X [] tYes:=fun _ _ _ H _ I h=>wpAny_tests_nil ⟨H,I,h⟩
def kf5{X:Cx}{c:Expr}{t:TT}(h:PT X c t):PIf X [c] t:=fun pins s σ H Q I hw=>wpAny_tests_one (h pins s σ H Q I hw)
theorem khf{prog:Program}{w:World}{A:Around}{R:Result→Shared→Prop}{s:Shared}{elt target iter:Expr}{ifs:List Expr}{scope:Scope}{pos:Pos}{it acc:Value}{env:Env}(I:Nat→Shared→Prop)
  (turn:∀n s,I n s→wpAny (model prog w) A (pyNext it) (fun r s₁=>match r with
   |none=>R (.ok .next) s₁
   | some v=>wpAny (model prog w) A (letOwnedTupleGo target it v) (fun _ s₁'=>wpAny (model prog w) A (assign target env v) (fun _ s₂=>
     wpAny (model prog w) A (forIn ifs true fun c r=>if r=true then do let ok ←isTrue c env (eval c env);pure (ForInStep.yield ok) else pure (ForInStep.yield r)) (fun ok s₂'=>
      if ok=true then wpAny (model prog w) A (eval elt env) (fun x s₃=>
       wpAny (model prog w) A (call (.builtin "list.append") [acc,x]) (fun _ s₄=>∃m,m<n∧I m s₄) (fun _ _=>False) s₃) (fun _ _=>False) s₂'
      else ∃m,m<n∧I m s₂') (fun _ _=>False) s₂) (fun _ _=>False) s₁') (fun _ _=>False) s₁) (fun _ _=>False) s)
  (n:Nat) (h:I n s):codeAny (model prog w) A (.compLoop (.ListComp elt [⟨target,iter,ifs,0⟩] scope pos) 0 it acc env) R s:=by
 refine codeAny_loop rfl I (fun n s hI=>?_) n h
 show wpAny _ _ ((compTurn (.ListComp elt [⟨target,iter,ifs,0⟩] scope pos) 0 it acc env).onRaise (fun x=>do noteFrame x env;theTreesLotGoes x)) _ _ s
 refine wpAny_noted ?_
 rw[compTurn_list]
 refine wpAny_bind (wpAny_standAt (wpAny_bind (wpAny_mono (turn n s hI) (fun r s₁ h₁=>?_) fun _ _ h'=>h'.elim)))
 cases r with
 |none=>exact wpAny_pure h₁
 | some v=>
  refine wpAny_bind (wpAny_mono h₁ (fun _ s₁' h₁'=>?_) fun _ _ h'=>h'.elim)
  refine wpAny_bind (wpAny_mono h₁' (fun _ s₂ h₂=>wpAny_bind (wpAny_mono h₂ (fun ok s₂' h₂'=>?_) fun _ _ h'=>h'.elim)) fun _ _ h'=>h'.elim)
  cases ok with
  |false=>exact wpAny_pure ⟨rfl,h₂'⟩
  |true=>
   exact wpAny_bind (wpAny_bind (wpAny_mono h₂' (fun x s₃ h₃=>wpAny_bind (wpAny_mono h₃ (fun _ s₄ h₄=>wpAny_pure (wpAny_pure ⟨rfl,h₄⟩)) fun _ _ h'=>h'.elim)) fun _ _ h'=>h'.elim))
def knn(wi:TI)(cap:List (Option Nat))(g:TG)(tt:TT)(te:TE):TE:=fun σ H Q=>wi σ H fun J H1=>∃W:Nat→Nat→St→List V→Hp→Prop,(∃m,W 0 m (capσ cap σ) [] H1)∧∀i m σ' ys H',W i m σ' ys H'→
 (J.stop i H'∧∀D,H' D=none→Q (.ref D) (upd H' D (.lst ys)))∨(J.go i H'∧ys.length<sizeLine∧∃(N:St→V→Hp→Prop)(N0:St→Hp→Prop),(∀σ2 y H4,N σ2 y H4→∃m',m'<m∧W (i+1) m' σ2 (ys++[y]) H4)∧(∀σ2 H4,N0 σ2 H4→∃m',m'<m∧W (i+1) m' σ2 ys H4)∧
  ∀x H2,J.yld i H' x H2→g x σ' H2 fun σ2 H3=>tt σ2 H3 fun b H4=>if b=true then te σ2 H4 (N σ2) else N0 σ2 H4)
def tComp(wi:TI)(cap:List (Option Nat))(g:TG)(te:TE):TE:=fun σ H Q=>wi σ H fun J H1=>∃W:Nat→Nat→St→List V→Hp→Prop,(∃m,W 0 m (capσ cap σ) [] H1)∧∀i m σ' ys H',W i m σ' ys H'→
 (J.stop i H'∧∀D,H' D=none→Q (.ref D) (upd H' D (.lst ys)))∨(J.go i H'∧ys.length<sizeLine∧∃N:St→V→Hp→Prop,(∀σ2 y H4,N σ2 y H4→∃m',m'<m∧W (i+1) m' σ2 (ys++[y]) H4)∧
  ∀x H2,J.yld i H' x H2→g x σ' H2 fun σ2 H3=>te σ2 H3 (N σ2))
section
variable {X:Cx} {scope:Scope} {N:List Str} {cap:List (Option Nat)} {pins:List (Addr×Obj)} {σ:St} {H2:Hp} {s2:Shared} {tg elt iter:Expr} {ifs:List Expr} {pos:Pos} {g:TG} {tt:TT} {te:TE}
theorem kd5{fp:List Addr}{it:Addr}{tn:Nat→Heap→Prop}{J:It}{Q:VK}{RR:Value→Addr→Result→Shared→Prop}{E:Value→Shared→Prop}(S:CompScope X scope N cap)(hc:X.calm=true)
  (hg:∀fp s H C,PG (cxC X scope N fp s H C) tg g) (ht:∀fp s H C,PIf (cxC X scope N fp s H C) ifs tt) (he:∀fp s H C,PE (cxC X scope N fp s H C) elt te)
  (I2:Inv X pins σ H2 s2) (T:Turn X.prog X.w X.K tg J fp it tn) (st2:tn 0 s2.heap) (f2:∀b∈fp,FpOk X pins H2 b)
  (W:Nat→Nat→St→List V→Hp→Prop) {m0:Nat} (w0:W 0 m0 (capσ cap σ) [] H2)
  (turn:∀i m σ' ys H',W i m σ' ys H'→(J.stop i H'∧∀D,H' D=none→Q (.ref D) (upd H' D (.lst ys)))∨(J.go i H'∧ys.length<sizeLine∧∃(N:St→V→Hp→Prop)(N0:St→Hp→Prop),(∀σ2 y H4,N σ2 y H4→∃m',m'<m∧W (i+1) m' σ2 (ys++[y]) H4)∧(∀σ2 H4,N0 σ2 H4→∃m',m'<m∧W (i+1) m' σ2 ys H4)∧
   ∀x H2,J.yld i H' x H2→g x σ' H2 fun σ2 H3=>tt σ2 H3 fun b H4=>if b=true then te σ2 H4 (N σ2) else N0 σ2 H4))
  (hRR:∀(D C:Addr)(H':Hp)(s':Shared)(m:Str→Option Value),Inv X pins σ H' s'→FpOk X pins H' C→C≠D→s'.heap.Ns C m→Q (.ref D) H'→RR (.ref D) C (.ok .next) s'):
  wpAny (model X.prog X.w) X.A (newList []) (fun acc s₃=>wpAny (model X.prog X.w) X.A (newFunctionEnv scope X.env.globals (closL X.env.cells scope.names []) [] X.env.qual none .none (some X.env)) (fun cenv s₄=>
   codeAny (model X.prog X.w) X.A (.compStart (.ListComp elt [⟨tg,iter,ifs,0⟩] scope pos) 0 (.ref it) acc {cenv with scope:=relabel scope X.env}) (RR acc cenv.locals) s₄) E s₃) E s2:=by
 refine wpAny_newObj_type (kga ?_)
 dsimp only
 generalize hP:s2.heap.push {cls:=.type "list",dict:=none,data:=.seq ([]:List Value).toArray}=P
 have hnew:CellsOk (pushCells (P.push {cls:=.type "dict",data:=.dict #[]}) scope.names) (P.objs.size+1) (cellsFrom (P.objs.size+1) scope.names []):=by
  have q:=cellsFrom_ok scope.names (P.push {cls:=.type "dict",data:=.dict #[]}) (P.objs.size+1) [] ⟨fun _ _ hm=>(nomatch hm),NO.nil⟩ (by rw[Heap.size_push];exact JK _)
  rwa [Heap.size_push] at q
 have hns₁:(pushCells (P.push {cls:=.type "dict",data:=.dict #[]}) scope.names).Ns P.objs.size (fun _=>none):=(Heap.Ns.new P (.type "dict")).keeps (pushCells_keeps _ _)
 have keep₁:∀b o,P.get? b=some o→(pushCells (P.push {cls:=.type "dict",data:=.dict #[]}) scope.names).get? b=some o:=fun b o e=>pushCells_keeps _ _ b o (Heap.get?_push_of_some _ e)
 generalize pushCells (P.push {cls:=.type "dict",data:=.dict #[]}) scope.names=h₁ at hnew hns₁ keep₁⊢
 have hC:P.objs.size=s2.heap.objs.size+1:=by rw[←hP,Heap.size_push]
 have hDC:s2.heap.objs.size≠P.objs.size:=by rw[hC];exact Nj (MY _)
 have hCle:s2.heap.objs.size≤P.objs.size:=by rw[hC];exact Ms _
 have hDle:s2.heap.objs.size≤s2.heap.objs.size:=JK _
 have old:∀b o,s2.heap.get? b=some o→h₁.get? b=some o:=fun b o e=>keep₁ b o (hP▸Heap.get?_push_of_some _ e)
 have hacc:h₁.get? s2.heap.objs.size=some {cls:=.type "list",data:=.seq ([]:List Value).toArray}:=keep₁ _ _ (hP▸Heap.get?_push_size _ rfl)
 have hfp:∀b∈fp,b<s2.heap.objs.size:=fun b hb=>let⟨_,e,_⟩:=T.obj 0 _ st2 b hb;Heap.lt_size e
 generalize hDd:s2.heap.objs.size=D at hacc hDC hDle⊢
 rw[hDd] at hCle hC
 generalize P.objs.size=C at hnew hns₁ hC hDC hCle⊢
 have dne:∀b∈fp,D≠b:=fun b hb=>NW (hDd▸hfp b hb)
 have cne:∀b∈fp,b≠C:=fun b hb=>Nj (Ng (hDd▸hfp b hb) hCle)
 have stkne:∀b∈fp,b∉frs X.stack:=fun b hb hz=>by
  obtain⟨_,h1,h2,_⟩:=f2 b hb
  rcases Nc.mp (I2.stkSub b hz) with e|e
  ·exact h1 e
  ·exact h2 e
 have dfs:D∉frs X.stack:=fun hz=>absurd (kjx I2 hz) (by rw[hDd];exact NV _)
 have dcell:∀x c,(ked X scope C).lookup x=some c→c≠D:=fun x c e z=>by
  rcases kci S I2 e with e|e
  ·have q:Nat.lt C c:=(hnew.empty x c (PySem.mem_of_lookup e)).2
   rw[z] at q
   exact absurd (N7 hCle q) (NV _)
  ·obtain⟨v,q⟩:=I2.cell x c e
   have:=q.lt
   rw[z,hDd] at this
   exact absurd this (NV _)
 have bcell:∀b∈fp,∀x c,(ked X scope C).lookup x=some c→c≠b:=fun b hb x c e=>by
  rcases kci S I2 e with e|e
  ·have q:Nat.lt C c:=(hnew.empty x c (PySem.mem_of_lookup e)).2
   exact NW (M5 (Ng (hDd▸hfp b hb) hCle) q)
  ·exact(f2 b hb).2.2.2.2.1 x c e
 have stat:∀{o:Obj}{H':Hp},(∀b∈fp,H' b=none)→∀b∈fp,FpOk (cxC X scope N fp s2 H2 C) [(D,o)] H' b:=fun {o H'} hn b hb=>
  ⟨hn b hb,cne b hb,stkne b hb, .inl hb,bcell b hb,fun p hp=>by
   have e:p=(D,o):=by simpa[cxC] using hp
   subst e
   exact dne b hb⟩
 have loop:∀s₃:Shared,s₃= {s2 with heap:=h₁}→
   codeAny (model X.prog X.w) X.A (.compLoop (.ListComp elt [⟨tg,iter,ifs,0⟩] scope pos) 0 (.ref it) (.ref D) (compEnvC scope (ked X scope C) C X.env)) (RR (.ref D) C) s₃:=by
  rintro s₃ rfl
  have I3:Inv (cxC X scope N fp s2 H2 C) [(D,_)] (capσ cap σ) H2 {s2 with heap:=h₁}:=
   klJ S I2 f2 hfp old hns₁ (by rw[hDd];exact hCle) (by rw[hDd];exact JK _) hDC hacc (fun v z=>by cases z) hnew rfl rfl
  refine khf (fun n s'=>∃i σ' ys H' its k,Inv (cxC X scope N fp s2 H2 C) [] σ' H' s'∧tn i s'.heap∧(∀b∈fp,H' b=none)∧H' D=none∧s'.heap.get? D=some {cls:=.type "list",data:=.seq (its:List Value).toArray k}∧Vals ys its∧ys.length≤sizeLine∧W i n σ' ys H') ?_ m0
   ⟨0,_,[],H2,[],_,I3.pins_of (fun p hp=>nomatch hp),T.keep _ _ _ st2 (fun b hb o e=>old b o e),fun b hb=>(f2 b hb).1,I2.hok.fresh (by rw[hDd];exact JK _),hacc, .nil,Nr _,w0⟩
  rintro n s3 ⟨i,σ3,ys,H3,its,k,J3,st3,fr3,hD3,e3,r3,z3,w3⟩
  have J3':Inv (cxC X scope N fp s2 H2 C) [(D,{cls:=.type "list",data:=.seq its.toArray k})] σ3 H3 s3:=J3.pins_of fun p hp=>by
   have e:p=(D,{cls:=.type "list",data:=.seq its.toArray k}):=by simpa using hp
   subst e
   exact⟨e3,hD3,hDC,dfs,fun v z=>by cases z⟩
  rcases turn i n σ3 ys H3 w3 with⟨stop,qn⟩|⟨go,hlt,N',N0',hN,hN0,step⟩
  ·refine thn (T.done (cxC X scope N fp s2 H2 C) rfl rfl rfl hc i _ s3 σ3 H3 (fun _ _=>False) J3' (stat fr3) st3 stop) fun r s4 ⟨hr,I4⟩=>?_
   subst hr
   have e4:=(I4.pin (D,{cls:=.type "list",data:=.seq its.toArray k}) (by simp[cxC])).1
   have B:Inv X pins σ H3 s4:=comp_back I2 f2 (I4.pins_of fun p hp=>nomatch hp)
   obtain⟨m,hm,_⟩:=I4.loc
   have fD:FpOk X pins H3 D:=I2.fpOk (by rw[hDd];exact JK _) hD3
   have B':Inv X pins σ (upd H3 D (.lst ys)) s4:=B.adopt fD (by rw[←hDd];exact I2.sz) ⟨z3,its,k,r3,e4⟩
   refine hRR D C _ s4 m B' (I2.fpOk (by rw[hDd];exact hCle) ?_) hDC.symm hm (qn D hD3)
   rw[kak hDC.symm]
   exact I4.free
  ·refine thn (T.item (cxC X scope N fp s2 H2 C) rfl rfl rfl hc i _ s3 σ3 H3 (fun _ _=>False) J3' (stat fr3) st3 go) fun r s4 ⟨u,hr,h4⟩=>?_
   subst hr
   refine thn h4 fun _ s5 ⟨x,H5,I5,r5,y5,st5,fr5⟩=>?_
   have I5':=I5.pinned (stat fr5) (T.obj _ _ st5)
   refine thn (hg fp s2 H2 C _ s5 σ3 H5 x u _ I5' r5 (step x H5 y5)) fun _ s6 ⟨σ6,H6,I6,q6⟩=>?_
   refine thn (ht fp s2 H2 C _ s6 σ6 H6 _ I6 q6) fun ok s6' ⟨H6',I6',q6'⟩=>?_
   cases ok with
   | false=>
    have q6':N0' σ6 H6':=by simpa using q6'
    obtain⟨m',hm',w7⟩:=hN0 σ6 H6' q6'
    have p7:=I6'.pin (D,{cls:=.type "list",data:=.seq its.toArray k}) (by simp[cxC])
    have e7:s6'.heap.get? D=some {cls:=.type "list",data:=.seq its.toArray k}:=p7.1
    have pf:∀b∈fp,∀o,s5.heap.get? b=some o→s6'.heap.get? b=some o∧H6' b=none:=fun b hb o e=>
     let z:=I6'.pin (b,o) (Nw _ (Nw _ (kc8 hb e)))
     ⟨z.1,z.2.1⟩
    refine⟨m',hm',i+1,σ6,ys,H6',its,_,I6'.pins_of (fun p hp=>nomatch hp),T.keep _ _ _ st5 (fun b hb o e=>(pf b hb o e).1),fun b hb=>?_,p7.2.1,e7,r3,z3,w7⟩
    obtain⟨o,e,_⟩:=T.obj _ _ st5 b hb
    exact(pf b hb o e).2
   |true=>
   have q6':te σ6 H6' (N' σ6):=by simpa using q6'
   refine thn (he fp s2 H2 C _ s6' σ6 H6' _ I6' q6') fun v s7 ⟨y,H7,I7,r7,q7⟩=>?_
   obtain⟨m',hm',w7⟩:=hN σ6 y H7 q7
   have p7:=I7.pin (D,{cls:=.type "list",data:=.seq its.toArray k}) (by simp[cxC])
   have e7:s7.heap.get? D=some {cls:=.type "list",data:=.seq its.toArray k}:=p7.1
   have hl7:=r3.length
   refine call_meets F.slot_list_append ⟨_,e7,rfl⟩ F.entry_list_append (F.args_list_append_2 _ _) (PySem.list_append D its.toArray k v (by rw[Nd];omega)) ⟨e7,?_⟩
   have q8:=PySem.IsL.update e7 (·.push v)
   have ex8:its.toArray.push v=(its++[v]).toArray:=by simp
   rw[ex8] at q8
   have pf:∀b∈fp,∀o,s5.heap.get? b=some o→s7.heap.get? b=some o∧H7 b=none:=fun b hb o e=>
    let z:=I7.pin (b,o) (Nw _ (Nw _ (kc8 hb e)))
    ⟨z.1,z.2.1⟩
   have I7':Inv (cxC X scope N fp s2 H2 C) [] σ6 H7 s7:=I7.pins_of fun p hp=>nomatch hp
   refine⟨m',hm',i+1,σ6,ys++[y],H7,its++[v],_,I7'.turned (it:=D) (fun b o hb e=>(Heap.get?_update_other _ _ (Ne.symm hb)).trans e) p7.2.1 hDC (.inr (by show s2.heap.objs.size≤D;rw[hDd];exact JK _)) dcell (fun p hp=>nomatch hp),
    T.keep _ _ _ st5 (fun b hb o e=>(Heap.get?_update_other _ _ (dne b hb)).trans (pf b hb o e).1),fun b hb=>?_,p7.2.1,q8,r3.append (.cons r7 .nil),by rw[JW,Np];omega,w7⟩
   obtain⟨o,e,_⟩:=T.obj _ _ st5 b hb
   exact(pf b hb o e).2
 have st1:tn 0 h₁:=T.keep _ _ _ st2 (fun b hb o e=>old b o e)
 exact codeAny_compStart_list (loop _ rfl) (T.self X.A 0 _ _ _ st1 (loop _ rfl))
theorem kev{wi:TI}(S:CompScope X scope N cap)(hc:X.calm=true)(hi:PI X tg iter wi)(hg:∀fp s H C,PG (cxC X scope N fp s H C) tg g)(ht:∀fp s H C,PIf (cxC X scope N fp s H C) ifs tt)(he:∀fp s H C,PE (cxC X scope N fp s H C) elt te)
  (hs:∀x,foldedSetIterable iter X.env x=pure x:=by intro _;rfl):PE X (.ListComp elt [⟨tg,iter,ifs,0⟩] scope pos) (knn wi cap g tt te):=by
 intro pins s σ H Q I h
 rw[eval_ListComp]
 refine wpAny_comprehension_free (use:=none) rfl hs (kc4 S I) S.kind S.names (thn (hi pins s σ H _ I h) fun v s1 h1=>thn h1 fun itv s2 h2=>?_)
 obtain⟨it,fp,tn,J,H2,e,I2,T,st2,f2,W,⟨m0,w0⟩,turn⟩:=h2
 subst e
 refine kd5 (RR:=fun acc C=>compPost (model X.prog X.w) X.A X.xe none (EP X pins σ Q) acc C) S hc hg ht he I2 T st2 f2 W w0 turn fun D C H' s' m B fC hCD hm q=>?_
 obtain⟨c0,c1,c2,c3,c4,c5⟩:=fC
 exact⟨m,hm,fun h' hs'=>⟨.ref D,H',B.turned (t':=s'.toks) (fun b o hb e=>(hs'.2 b hb).trans e) c0 c1 c3 c4 c5,rfl,q⟩⟩
theorem khe{J:It}{Q:VK}{W:Nat→Nat→St→List V→Hp→Prop}(h:∀i m σ' ys H',W i m σ' ys H'→(J.stop i H'∧∀D,H' D=none→Q (.ref D) (upd H' D (.lst ys)))∨(J.go i H'∧ys.length<sizeLine∧∃N:St→V→Hp→Prop,(∀σ2 y H4,N σ2 y H4→∃m',m'<m∧W (i+1) m' σ2 (ys++[y]) H4)∧
   ∀x H2,J.yld i H' x H2→g x σ' H2 fun σ2 H3=>te σ2 H3 (N σ2))):∀i m σ' ys H',W i m σ' ys H'→(J.stop i H'∧∀D,H' D=none→Q (.ref D) (upd H' D (.lst ys)))∨(J.go i H'∧ys.length<sizeLine∧∃(N:St→V→Hp→Prop)(N0:St→Hp→Prop),(∀σ2 y H4,N σ2 y H4→∃m',m'<m∧W (i+1) m' σ2 (ys++[y]) H4)∧(∀σ2 H4,N0 σ2 H4→∃m',m'<m∧W (i+1) m' σ2 ys H4)∧
   ∀x H2,J.yld i H' x H2→g x σ' H2 fun σ2 H3=>tYes σ2 H3 fun b H4=>if b=true then te σ2 H4 (N σ2) else N0 σ2 H4):=by
 intro i m σ' ys H' w
 rcases h i m σ' ys H' w with h|⟨go,hl,N,hN,st⟩
 ·exact .inl h
 ·refine .inr ⟨go,hl,N,fun _ _=>False,hN,(fun _ _ z=>z.elim),fun x H2 y=>?_⟩
  have e:(fun(σ2:St)(H3:Hp)=>tYes σ2 H3 fun b H4=>if b=true then te σ2 H4 (N σ2) else False)=fun σ2 H3=>te σ2 H3 (N σ2):=by
   funext σ2 H3
   show(if true=true then te σ2 H3 (N σ2) else False)=te σ2 H3 (N σ2)
   rw[if_pos rfl]
  rw[e]
  exact st x H2 y
theorem kcw{wi:TI}(S:CompScope X scope N cap)(hc:X.calm=true)(hi:PI X tg iter wi)(hg:∀fp s H C,PG (cxC X scope N fp s H C) tg g)(he:∀fp s H C,PE (cxC X scope N fp s H C) elt te)
  (hs:∀x,foldedSetIterable iter X.env x=pure x:=by intro _;rfl):PE X (.ListComp elt [⟨tg,iter,[],0⟩] scope pos) (tComp wi cap g te):=by
 intro pins s σ H Q I h
 rw[eval_ListComp]
 refine wpAny_comprehension_free (use:=none) rfl hs (kc4 S I) S.kind S.names (thn (hi pins s σ H _ I h) fun v s1 h1=>thn h1 fun itv s2 h2=>?_)
 obtain⟨it,fp,tn,J,H2,e,I2,T,st2,f2,W,⟨m0,w0⟩,turn⟩:=h2
 subst e
 refine kd5 (RR:=fun acc C=>compPost (model X.prog X.w) X.A X.xe none (EP X pins σ Q) acc C) S hc hg (fun _ _ _ _=>kj8) he I2 T st2 f2 W w0 (khe turn) fun D C H' s' m B fC hCD hm q=>?_
 obtain⟨c0,c1,c2,c3,c4,c5⟩:=fC
 exact⟨m,hm,fun h' hs'=>⟨.ref D,H',B.turned (t':=s'.toks) (fun b o hb e=>(hs'.2 b hb).trans e) c0 c1 c3 c4 c5,rfl,q⟩⟩
theorem kf3{wi:TI}{i:Nat}{y:Str}{py spos:Pos}(S:CompScope X scope N cap)(hc:X.calm=true)(hi:PI X tg iter wi)(hg:∀fp s H C,PG (cxC X scope N fp s H C) tg g)(he:∀fp s H C,PE (cxC X scope N fp s H C) elt te)
  (hA:PG X (.Name y py) (gName i)) (hsw:swapsWith (.ListComp elt [⟨tg,iter,[],0⟩] scope pos) (some (.Name y py)) spos.line X.env=pure true:=by rfl)
  (hs:∀x,foldedSetIterable iter X.env x=pure x:=by intro _;rfl):PS X (.Assign [.Name y py] (.ListComp elt [⟨tg,iter,[],0⟩] scope pos) spos) (tAsg (tComp wi cap g te) (gName i)):=by
 intro pins s σ H D I h
 rw[exec_Assign_Name_used _ _ _ _ hsw]
 refine wpAny_bind (wpAny_standAt (wpAny_bind ?_))
 show wpAny _ X.A (do let _ ←comprehension (.ListComp elt [⟨tg,iter,[],0⟩] scope pos) scope X.env _ (newList []) false (eval iter X.env) (some (assign (.Name y py) X.env))) _ _ s
 refine wpAny_bind (wpAny_mono (wpAny_comprehension_free (use:=some (assign (.Name y py) X.env)) (Q:=fun _ s'=>SP X pins D .next s') rfl hs (kc4 S I) S.kind S.names
  (thn (hi pins s σ H _ I h) fun v s1 h1=>thn h1 fun itv s2 h2=>?_)) (fun _ s' hq=>wpAny_pure (wpAny_pure hq)) fun _ _ e=>e)
 obtain⟨it,fp,tn,J,H2,e,I2,T,st2,f2,W,⟨m0,w0⟩,turn⟩:=h2
 subst e
 refine kd5 (Q:=fun v H'=>gName i v σ H' D.nx) (RR:=fun acc C=>compPost (model X.prog X.w) X.A X.xe (some (assign (.Name y py) X.env)) (fun _ s'=>SP X pins D .next s') acc C) S hc hg (fun _ _ _ _=>kj8) he I2 T st2 f2 W w0 (khe (Q:=fun v H'=>gName i v σ H' D.nx) turn) fun D' C H' s' m B fC hCD hm q=>?_
 obtain⟨c0,c1,c2,c3,c4,c5⟩:=fC
 obtain⟨oC,es,ep,eC,dC,kC⟩:=hm
 have B':Inv X (pins++[(C,oC)]) σ H' s':=B.pins_of fun p hp=>by
  rcases Nk.mp hp with hp|hp
  ·exact B.pin p (Nw _ hp)
  ·have e:p=(C,oC):=by simpa using hp
   subst e
   exact⟨eC,c0,c1,c2,fun v z=>by rw[dC] at z;cases z⟩
 refine thn (hA _ s' σ H' (.ref D') (.ref D') _ B' rfl q) fun _ s'' ⟨σ2,H3,I3,q3⟩=>?_
 obtain⟨e3,n3,_⟩:=I3.pin (C,oC) (Nw _ (Nw _ (by simp)))
 exact⟨m,⟨oC,es,ep,e3,dC,kC⟩,fun h' hs'=>⟨σ2,H3,I3.unpinned.turned (t':=s''.toks) (fun b o hb e=>(hs'.2 b hb).trans e) n3 c1 c3 c4 c5,q3⟩⟩
end
section
variable {g:TG} {te:TE} {σ:St} {H:Hp} {R:List V→Hp→Addr→Prop}
theorem kbf{K:JL}{a:Addr}{xs:List V}(Pv:Nat→St→List V→Hp→Prop)(h0:Pv 0 σ [] H)(hz:xs.length≤sizeLine)(hl:∀i σ ys H,i≤xs.length→Pv i σ ys H→SqL K H a xs∧ys.length=i)
  (hs:∀i x σ ys H,xs[i]?=some x→Pv i σ ys H→g x σ H fun σ2 H2=>te σ2 H2 fun y H3=>Pv (i+1) σ2 (ys++[y]) H3) (hd:∀σ ys H,Pv xs.length σ ys H→∀D,H D=none→R ys H D):
  ∃ W:Nat→Nat→St→List V→Hp→Prop,(∃m,W 0 m σ [] H)∧∀i m σ' ys H',W i m σ' ys H'→
   ((Itl K a).stop i H'∧∀D,H' D=none→R ys H' D)∨((Itl K a).go i H'∧ys.length<sizeLine∧∃N:St→V→Hp→Prop,(∀σ2 y H4,N σ2 y H4→∃m',m'<m∧W (i+1) m' σ2 (ys++[y]) H4)∧
    ∀x H2,(Itl K a).yld i H' x H2→g x σ' H2 fun σ2 H3=>te σ2 H3 (N σ2)):=by
 refine⟨fun i m σ ys H=>m=xs.length-i∧i≤xs.length∧Pv i σ ys H,⟨xs.length,by simp,Nr _,h0⟩,?_⟩
 rintro i m σ ys H ⟨rfl,hi,p⟩
 obtain⟨q,el⟩:=hl i σ ys H hi p
 by_cases hlt:i<xs.length
 ·refine .inr ⟨⟨xs,xs[i],q,by simp[hlt]⟩,by omega,fun σ2 y H3=>Pv (i+1) σ2 (ys++[y]) H3,fun σ' y H' p'=>⟨xs.length-(i+1),by omega,rfl,hlt,p'⟩,fun x H' yl=>?_⟩
  obtain⟨e,yl⟩:=yl
  subst e
  exact hs i x σ ys _ (yl xs q) p
 ·have e:i=xs.length:=by omega
  subst e
  exact .inl ⟨⟨xs,q,JK _⟩,hd σ ys H p⟩
end
theorem CompScope.plain{X:Cx}{scope:Scope}{N:List Str}(kind:scope.kind=.function)(names:∀x∈scope.names,x.2=.local→scope.names.lookup x.1=some .local)(_:∀x∈scope.names,x.2≠.cell)(nf:∀x∈scope.names,x.2≠.free)(nd:N.Nodup):
  CompScope X scope N (JR N.length none):=by
 refine⟨kind,names,fun x hx hf=>absurd hf (nf x hx),nd,by simp,fun j i x e _=>?_⟩
 rw[Ex] at e
 split at e
 ·cases e
 ·cases e
def kmq(scope:Scope)(ns:List (Str×NameKind))(XN N:List Str)(cap:List (Option Nat)):Bool:=
 scope.kind== .function&&scope.names.all (fun x=>!(x.2== .local)||scope.names.lookup x.1==some .local)&&scope.names.all (fun x=>!(x.2== .free)||(ns.lookup x.1==some .cell||ns.lookup x.1==some .free))&&decide N.Nodup&&decide (cap.length=N.length) &&
  (cap.zip N).all fun p=>match p.1 with
   |none=>true
   |some i=>XN[i]? ==some p.2&&scope.names.lookup p.2==some .free&&scope.names.all fun y=>!(y.1==p.2&&y.2== .cell)
def CompScope.of{X:Cx}{scope:Scope}{N:List Str}{cap:List (Option Nat)}(ns:List (Str×NameKind))(XN:List Str)(hn:X.env.scope.names=ns)(hN:X.N=XN)(h:kmq scope ns XN N cap=true):CompScope X scope N cap:=by
 unfold kmq at h
 simp only[NL,decide_eq_true_eq,Mm,Ez,Bool.not_eq_true',beq_iff_eq,beq_eq_false_iff_ne] at h
 obtain⟨⟨⟨⟨⟨h1,h2⟩,h3⟩,h4⟩,h5⟩,h6⟩:=h
 refine⟨h1,fun x hx hl=>?_,fun x hx hf=>?_,h4,h5,fun j i x e1 e2=>?_⟩
 ·rcases h2 x hx with q|q
  ·exact absurd hl q
  ·exact q
 ·rw[hn]
  rcases h3 x hx with q|q
  ·exact absurd hf q
  ·exact q
 ·have hz:(cap.zip N)[j]?=some (some i,x):=by
   rw[List.getElem?_zip_eq_some]
   exact⟨e1,e2⟩
  have q:=h6 _ (JO hz)
  simp only[NL,beq_iff_eq,Mm,Bool.not_eq_true',Bool.and_eq_false_iff,beq_eq_false_iff_ne] at q
  obtain⟨⟨q1,q2⟩,q3⟩:=q
  refine⟨by rw[hN];exact q1,q2,fun z=>?_⟩
  rcases q3 _ z with q|q
  ·exact q rfl
  ·exact q rfl
end L2
namespace L2
open PySem PySem.Spec PyProof.Rows
theorem Inv.turnedL{X:Cx}{pins:List (Addr×Obj)}{σ:St}{H:Hp}{s:Shared}{h':Heap}{t':Nat}{ch:List Addr}(I:Inv X pins σ H s)(k:∀b o,b∉ch→s.heap.get? b=some o→h'.get? b=some o)(hf:∀b∈ch,FpOk X pins H b):
  Inv X pins σ H {s with heap:=h',toks:=t'}:=by
 have nch:∀b u,H b=some u→b∉ch:=fun b u e z=>by
  have:=(hf b z).1
  rw[this] at e
  cases e
 refine I.step (g':=s.gens) (d':=s.drawn) (ch:=ch) (fun b hb=>let⟨_,h1,_,h3,h4,h5⟩:=hf b hb;⟨h3,h1,h4,h5⟩) (fun b o _ _ hc e _=>k b o hc e) (fun b o _ _ hc e _=>⟨o.slots,k b o hc e⟩) (fun _ _ _ _ n=>n)
  (fun b o hc e=>⟨o,k b o hc e⟩) (fun _ _ e=>e) (fun _ _ _ e=>e) (fun b ps e=>⟨#[],by rw[e];simp⟩) (fun m hm=>?_) (fun b u e=>?_) I.bare
 ·obtain⟨o,es,ep,ho,r⟩:=hm
  exact⟨o,es,ep,k _ o (fun z=>(hf _ z).2.1 rfl) ho,r⟩
 ·refine(I.hok b u e).stay (fun c v hc q=>k c v ?_ q) (fun _ q=>q) fun _ _ q=>q
  rcases hc with z|z
  ·rw[z];exact nch b u e
  ·exact nch c _ z
def Ite(a:Addr):It:=⟨fun i H=>∃xs x,H a=some (.lst xs)∧xs[i]?=some x,fun i H x H'=>∃t y,H t=none∧x=.ref t∧H'=upd H t (.tup [.int i,y])∧∀xs,H a=some (.lst xs)→xs[i]?=some y,fun i H=>∃xs,H a=some (.lst xs)∧xs.length≤i⟩
theorem kjr{P:Program}{w:World}{K:JL}{es:List Expr}{k:Nat}{pos:Pos}(a e it:Addr)(hne:e≠it):Turn P w K (.Tuple es k pos) (Ite a) [e,it] e (fun i h=>(∃old,IsEnum h e it ((i:Nat):Int) old)∧h.IsListIter it a i) where
 mem:=by simp
 obj:=fun i h st b hb=>by
  obtain⟨⟨old,he⟩,o,eo,c,d⟩:=st
  have hb':b=e∨b=it:=by simpa using hb
  rcases hb' with rfl|rfl
  ·exact⟨_,he,fun v z=>by
    have z':Data.fields _=Data.cell v:=z
    cases z'⟩
  ·exact⟨o,eo,fun v z=>by rw[d] at z;cases z⟩
 keep:=fun i h h' st k=>⟨let⟨old,he⟩:=st.1;⟨old,k e (by simp) _ he⟩,st.2.at fun o eo=>k it (by simp) o eo⟩
 item:=by
  intro X hP hw hK hc i pins s σ H E I hf st hg
  subst hP hw hK
  obtain⟨⟨old,he⟩,hit⟩:=st
  obtain⟨xs,x,hq,hx⟩:=hg
  obtain⟨its,n,r,ho,hz⟩:=I.lst hq
  obtain⟨u,hu,ru⟩:=r.get hx
  have hl:s.heap.IsList a its.toArray:=⟨_,ho,rfl,n,rfl⟩
  refine wpAny_pyNext_enum_item he hit hl (x:=u) (by simpa using hu) hne fun h1 heo hit1 ht1 hz1 hk1=>?_
  refine⟨.ref s.heap.objs.size,rfl,wpAny_letOwnedTupleGo_enum heo fun h2 he2 hs2=>?_⟩
  have hs2':Heap.SameBut e h1 h2:=hs2
  have el:e<s.heap.objs.size:=Heap.lt_size he
  have kk:∀b o,b∉[e,it]→s.heap.get? b=some o→h2.get? b=some o:=fun b o hb eo=>by
   have hb':b≠e∧b≠it:=by simpa using hb
   exact(hs2'.2 b hb'.1).trans (hk1 b o hb'.1 hb'.2 eo)
  have I1:Inv X pins σ H {s with heap:=h2,toks:=s.toks+1}:=I.turnedL (ch:=[e,it]) kk hf
  have fr:H s.heap.objs.size=none:=I.hok.fresh (JK _)
  have ft:FpOk X pins H s.heap.objs.size:=I.fpOk (JK _) fr
  have ht2:h2.get? s.heap.objs.size=some {cls:=.type "tuple",data:=.seq #[.int i s.toks,u]}:=(hs2'.2 _ (NW el)).trans ht1
  have I2:Inv X pins σ (upd H s.heap.objs.size (.tup [.int i,x])) {s with heap:=h2,toks:=s.toks+1}:=
   I1.adopt ft I.sz ⟨by show 2≤sizeLine;decide,[.int i s.toks,u], .cons ⟨_,rfl⟩ (.cons ru .nil),_,ht2,rfl,_,rfl⟩
  have hit2:h2.IsListIter it a (i+1):=hit1.extBut hs2'.extBut (Ne.symm hne)
  refine⟨.ref s.heap.objs.size,_,I2,rfl,⟨s.heap.objs.size,x,fr,rfl,rfl,fun ys hy=>by rw[hq] at hy;cases hy;exact hx⟩,⟨⟨u,?_⟩,hit2⟩,fun b hb=>?_⟩
  ·have e1:((i+1:Nat):Int)=(i:Int)+1:=rfl
   rw[e1]
   exact he2
  ·have hbl:b<s.heap.objs.size:=by
    have hb':b=e∨b=it:=by simpa using hb
    rcases hb' with rfl|rfl
    ·exact el
    ·obtain⟨o,eo,_⟩:=hit
     exact Heap.lt_size eo
   rw[kak (Nj hbl)]
   exact(hf b hb).1
 done:=by
  intro X hP hw hK hc i pins s σ H E I hf st hg
  subst hP hw hK
  obtain⟨⟨old,he⟩,hit⟩:=st
  obtain⟨xs,hq,hx⟩:=hg
  obtain⟨its,n,r,ho,hz⟩:=I.lst hq
  have hl:s.heap.IsList a its.toArray:=⟨_,ho,rfl,n,rfl⟩
  have hlen:=r.length
  obtain⟨f0,f1,f2,f3,f4,f5⟩:=hf it (by simp)
  exact wpAny_pyNext_enum_end (I.ok.hd hc) he hit hl (by simp;omega) fun h' eb=>⟨rfl,I.turned (t':=s.toks) (fun b o hb e=>eb b o hb e) f0 f1 f3 f4 f5⟩
 self:=fun _ _ _ _ _ st h=>let⟨_,he⟩:=st.1;wpAny_pyIter_enum he h
section
variable {X:Cx}
def iEnum(ta:TA):TI:=fun σ H R=>ta σ H fun vs H1=>∃a xs,vs=[.ref a]∧H1 a=some (.lst xs)∧R (Ite a) H1
theorem khG{es:List Expr}{k:Nat}{tpos:Pos}{e:Expr}{ta:TA}{p pos:Pos}(hg:Gl X "enumerate")(hm:X.mg "enumerate"=none)(ha:PA X [e] ta)(he:starEach [e] X.env=(false,eval e X.env)::starEach [] X.env:=by rfl)
  (hpl:(backTo pos (starEach [] X.env)).any (·.1)=false:=by rfl):PI X (.Tuple es k tpos) (.Call (.Name "enumerate" p) [e] [] pos) (iEnum ta):=by
 intro pins s σ H R I h
 refine Call_ (kdF I hg hm boot_enumerate (PyProof.Rows.callWith_type1 (thn (ha pos pins s σ H _ I h) fun us s1 ⟨vs,H1,I1,r1,q1⟩=>?_) he hpl))
 obtain⟨a,xs,rfl,hq,q⟩:=q1
 obtain⟨u,rfl,rx⟩:=vals1 r1
 cases rx
 obtain⟨its,n,r,ho,hz⟩:=I1.lst hq
 refine call_enumerate_1 ho fun h' he' hit' hsz hk=>wpAny_pyIter_enum he' ?_
 have I2:Inv X pins σ H1 {s1 with heap:=h'}:=I1.kept (t':=s1.toks) hk
 refine⟨s1.heap.objs.size+1,[s1.heap.objs.size+1,s1.heap.objs.size],_,_,H1,rfl,I2,kjr a (s1.heap.objs.size+1) s1.heap.objs.size (Nat.succ_ne_self _),⟨⟨_,he'⟩,hit'⟩,fun b hb=>?_,q⟩
 have hb':b=s1.heap.objs.size+1∨b=s1.heap.objs.size:=by simpa using hb
 have hle:s1.heap.objs.size≤b:=by rcases hb' with rfl|rfl <;> omega
 exact I1.fpOk hle (I1.hok.fresh hle)
end
theorem kiO{a:Addr}{xs:List V}{g:TG}{tb:TS}{D:Ends}{σ:St}{H:Hp}(Pv:Nat→St→Hp→Prop)(h0:Pv 0 σ H)(hl:∀i σ H,i≤xs.length→Pv i σ H→H a=some (.lst xs))
  (hs:∀i y t σ H,xs[i]?=some y→Pv i σ H→H t=none→g (.ref t) σ (upd H t (.tup [.int (i:Nat),y])) fun σ2 H2=>tb {D with nx:=Pv (i+1),ct:=Pv (i+1),bk:=D.nx} σ2 H2) (hd:∀σ H,Pv xs.length σ H→D.nx σ H):
  ∃W:Nat→Nat→St→Hp→Prop,(∃m,W 0 m σ H)∧∀i m σ H,W i m σ H→
   ((Ite a).stop i H∧D.nx σ H)∨((Ite a).go i H∧∃N:St→Hp→Prop,(∀σ' H',N σ' H'→∃m',m'<m∧W (i+1) m' σ' H')∧∀x H',(Ite a).yld i H x H'→g x σ H' fun σ2 H2=>tb {D with nx:=N,ct:=N,bk:=D.nx} σ2 H2):=by
 refine⟨fun i m σ H=>m=xs.length-i∧i≤xs.length∧Pv i σ H,⟨xs.length,by simp,Nr _,h0⟩,?_⟩
 rintro i m σ H ⟨rfl,hi,p⟩
 have q:=hl i σ H hi p
 by_cases hlt:i<xs.length
 ·refine .inr ⟨⟨xs,xs[i],q,by simp[hlt]⟩,Pv (i+1),fun σ' H' p'=>⟨xs.length-(i+1),by omega,rfl,hlt,p'⟩,fun x H' y=>?_⟩
  obtain⟨t,y,hn,rfl,rfl,hy⟩:=y
  exact hs i y t σ _ (hy xs q) p hn
 ·have e:i=xs.length:=by omega
  subst e
  exact .inl ⟨⟨xs,q,JK _⟩,hd σ H p⟩
section
variable {X:Cx}
end
section
variable {X:Cx}
theorem knx:OpR X (compareOp .Is) (fun x y H Q=>∃a b,x=.bl a∧y=.bl b∧Q (.bl (decide (a=b))) H):=by
 intro pins s σ H x y v u Q I rx ry h
 obtain⟨a,b,rfl,rfl,q⟩:=h
 cases rx
 cases ry
 refine wpAny_pure (show EP X pins σ Q (.bool (Value.bool a==Value.bool b)) s from⟨.bl (decide (a=b)),H,I,?_,q⟩)
 cases a <;> cases b <;> rfl
theorem kcX:OpR X (compareOp .IsNot) (fun x y H Q=>∃a b,x=.bl a∧y=.bl b∧Q (.bl (!decide (a=b))) H):=by
 intro pins s σ H x y v u Q I rx ry h
 obtain⟨a,b,rfl,rfl,q⟩:=h
 cases rx
 cases ry
 refine wpAny_pure (show EP X pins σ Q (.bool (!(Value.bool a==Value.bool b))) s from⟨.bl (!decide (a=b)),H,I,?_,q⟩)
 cases a <;> cases b <;> rfl
end
end L2
namespace L2
open PySem PySem.Spec PyProof.Rows
section
variable {prog:Program} {w:World} {A:Around} {E:Value→Shared→Prop} {s:Shared}
end
section
variable {X:Cx}
end
section
variable {X:Cx} {CX:CXT} {k:Nat} {f C:Addr} {fd:FuncData} {ps ks:List Str} {sp:Sp} {E:XK} {x:Str} {p pos:Pos} {e:Expr} {es:List Expr} {kws:List Keyword} {t tk:TA} {g:List Value→List Value→List Value} {gV:List V→List V→List V}
end
end L2
namespace L2
open PySem PySem.Spec PyProof.Rows
def kaJ(K:JL):List V→Hp→VK→Prop:=fun xs H Q=>∃p ys,xs=[.ref p]∧(SqL K H p ys∨SqT K H p ys)∧∀l,H l=none→Q (.ref l) (upd H l (.lst ys))
def kaK(K:JL):List V→Hp→VK→Prop:=fun xs H Q=>∃p ys,xs=[.ref p]∧(SqL K H p ys∨SqT K H p ys)∧Q (.int ys.length) H
def rSum(K:JL):List V→Hp→VK→Prop:=fun xs H Q=>∃(p:Addr)(ns:List Int),xs=[.ref p]∧SqL K H p (ns.map V.int)∧Q (.int ns.sum) H
def rIsi(K:JL):List V→Hp→VK→Prop:=fun xs H Q=>∃x c t b,xs=[x,c]∧((∃n,c=.ty n)∨∃a,c=.ref a)∧TyOf K H x t∧Nb K t (cV c)=some b∧Q (.bl b) H
section
variable {X:Cx} {K:JL} {pos:Pos}
theorem kaj{e:Expr}{ta:TE}{f:Str}(he:PE X e ta)(hb:attributeBase e f X.env (eval e X.env)=eval e X.env)(hK:X.K=K:=by rfl):PE X (.Attribute e f pos) (tFld K ta f):=by
 subst hK
 exact knu he hb
theorem kaE{tg l:Expr}{tl:TE}(hl:PE X l tl)(hK:X.K=K:=by rfl):PI X tg l (iList K tl):=by
 subst hK
 exact kmO hl
theorem kbb{es:List Expr}{k:Nat}{t:TGs}{n:Nat}(hc:X.calm=true)(h:PGs X es t)(hK:X.K=K:=by rfl)
  (hn:(assignEach es X.env).length=n:=by rfl) (hst:(assignEach es X.env).findIdx? (·.1)=none:=by rfl):PG X (.Tuple es k pos) (gTup K n t):=by
 subst hK
 exact kns hc h hn hst
end
end L2
namespace L2
open PySem PySem.Spec PyProof.Rows
inductive DEq (K:JL) (H:Hp):Nat→V→V→Prop
 |flat {n:Nat} {x y:V} (fx:flatV x=true) (fy:flatV y=true) (e:eqV x y=true):DEq K H n x y
 |same {n:Nat} (a:Addr):DEq K H n (.ref a) (.ref a)
 |lst {n:Nat} {a b:Addr} {xs ys:List V} (ha:SqL K H a xs) (hb:SqL K H b ys) (hl:xs.length=ys.length) (h:∀(i:Nat)(x y:V),xs[i]?=some x→ys[i]?=some y→DEq K H n x y):DEq K H (n+1) (.ref a) (.ref b)
 |tup {n:Nat} {a b:Addr} {xs ys:List V} (ha:SqT K H a xs) (hb:SqT K H b ys) (hl:xs.length=ys.length) (h:∀(i:Nat)(x y:V),xs[i]?=some x→ys[i]?=some y→DEq K H n x y):DEq K H (n+1) (.ref a) (.ref b)
def DEq.self{K:JL}{H:Hp}{n:Nat}{x:V}(h:flatV x=true):DEq K H n x x:=.flat h h (kiS h)
def DEq.int{K:JL}{H:Hp}{n:Nat}(i:Int):DEq K H n (.int i) (.int i):=.self rfl
section
variable {X:Cx}
theorem kkF{xs:List V}{us:List Value}(r:Vals xs us){j:Nat}(h:j<us.toArray.size):∃x,xs[j]?=some x∧RelV x us.toArray[j]:=by
 have h':j<us.length:=by simpa using h
 have l:=r.length
 obtain⟨u,e,ru⟩:=r.get (i:=j) (x:=xs[j]'(by omega)) (by simp[show j<xs.length by omega])
 refine⟨xs[j]'(by omega),by simp[show j<xs.length by omega],?_⟩
 have:us.toArray[j]=u:=by
  obtain⟨_,e'⟩:=JX.mp e
  simpa using e'
 rw[this]
 exact ru
end
def Itz(a b:Addr):It:=⟨fun i H=>∃xs ys x y,H a=some (.lst xs)∧H b=some (.lst ys)∧xs[i]?=some x∧ys[i]?=some y,
 fun i H v H'=>∃t x y,H t=none∧v=.ref t∧H'=upd H t (.tup [x,y])∧(∀xs,H a=some (.lst xs)→xs[i]?=some x)∧∀ys,H b=some (.lst ys)→ys[i]?=some y,
 fun i H=>∃xs ys,H a=some (.lst xs)∧H b=some (.lst ys)∧(xs.length≤i∨ys.length≤i)⟩
theorem kli{P:Program}{w:World}{K:JL}{es:List Expr}{k:Nat}{pos:Pos}(a b z TI TO i1 i2:Addr)(nd:[z,TI,TO,i1,i2].Nodup):
  Turn P w K (.Tuple es k pos) (Itz a b) [z,TI,TO,i1,i2] z (fun i h=>IsZip h z TI TO .none∧IsPair h TI (.ref i1) (.ref i2)∧(∃u v,IsPair h TO u v)∧h.IsListIter i1 a i∧h.IsListIter i2 b i) where
 mem:=by simp
 obj:=fun i h st b hb=>by
  obtain⟨hz,hI,⟨_,_,hO⟩,⟨o1,e1,_,d1⟩,⟨o2,e2,_,d2⟩⟩:=st
  simp only[Nc,Mn,or_false] at hb
  rcases hb with rfl|rfl|rfl|rfl|rfl
  ·exact⟨_,hz,fun v q=>by cases(show Data.fields _=Data.cell v from q)⟩
  ·exact⟨_,hI,fun v q=>by cases(show Data.seq _ _=Data.cell v from q)⟩
  ·exact⟨_,hO,fun v q=>by cases(show Data.seq _ _=Data.cell v from q)⟩
  ·exact⟨o1,e1,fun v q=>by rw[d1] at q;cases q⟩
  ·exact⟨o2,e2,fun v q=>by rw[d2] at q;cases q⟩
 keep:=fun i h h' st kk=>by
  obtain⟨hz,hI,⟨u,v,hO⟩,h1,h2⟩:=st
  exact⟨kk z (by simp) _ hz,kk TI (by simp) _ hI,⟨u,v,kk TO (by simp) _ hO⟩,h1.at fun o e=>kk i1 (by simp) o e,h2.at fun o e=>kk i2 (by simp) o e⟩
 item:=by
  intro X hP hw hK hc i pins s σ H E I hf st hg
  subst hP hw hK
  obtain⟨hz,hI,⟨u,v,hO⟩,h1,h2⟩:=st
  obtain⟨xs,ys,x,y,ha,hb,hx,hy⟩:=hg
  obtain⟨its1,n1,r1,ho1,_⟩:=I.lst ha
  obtain⟨its2,n2,r2,ho2,_⟩:=I.lst hb
  obtain⟨u1,g1,ru1⟩:=r1.get hx
  obtain⟨u2,g2,ru2⟩:=r2.get hy
  have L1:s.heap.IsList a its1.toArray:=⟨_,ho1,rfl,n1,rfl⟩
  have L2':s.heap.IsList b its2.toArray:=⟨_,ho2,rfl,n2,rfl⟩
  have off:∀{l:Addr}{zs:List V},H l=some (.lst zs)→l∉[z,TI,TO,i1,i2]:=fun {l zs} e m=>by
   have:=(hf l m).1
   rw[this] at e
   cases e
  have oa:=off ha
  have ob:=off hb
  have nd':=nd
  simp only[NR,Nc,Mn,or_false,not_or,M7,and_true,not_false_eq_true] at nd' oa ob
  obtain⟨⟨nzI,nzO,nz1,nz2⟩,⟨nIO,nI1,nI2⟩,⟨nO1,nO2⟩,n12⟩:=nd'
  have D:ZipApart z TI TO i1 i2 a b:=⟨Ne.symm nzI,Ne.symm nzO,Ne.symm nz1,Ne.symm nz2,nIO,nI1,nI2,nO1,nO2,n12,oa.1,oa.2.2.1,oa.2.2.2.1,oa.2.2.2.2,ob.1,ob.2.2.1,ob.2.2.2.1,ob.2.2.2.2⟩
  refine wpAny_pyNext_zip_item D hz hI hO h1 h2 L1 L2' (x:=u1) (y:=u2) (by simpa using g1) (by simpa using g2) fun h' a1 a2 a3 a4 a5 a6 a7=>?_
  refine⟨.ref s.heap.objs.size,rfl,wpAny_letOwnedTupleGo_zip a1 fun h2' z2 s2=>?_⟩
  have s2':Heap.SameBut z h' h2':=s2
  have zl:z<s.heap.objs.size:=Heap.lt_size hz
  have kk:∀b o,b∉[z,TI,TO,i1,i2]→s.heap.get? b=some o→h2'.get? b=some o:=fun b o hb eo=>by
   simp only[Nc,Mn,or_false,not_or] at hb
   exact(s2'.2 b hb.1).trans (a7 b o hb.1 hb.2.2.1 hb.2.2.2.1 hb.2.2.2.2 eo)
  have I1:Inv X pins σ H {s with heap:=h2',toks:=s.toks}:=I.turnedL (ch:=[z,TI,TO,i1,i2]) kk hf
  have fr:H s.heap.objs.size=none:=I.hok.fresh (JK _)
  have ft:FpOk X pins H s.heap.objs.size:=I.fpOk (JK _) fr
  have t2:h2'.get? s.heap.objs.size=some {cls:=.type "tuple",data:=.seq #[u1,u2]}:=(s2'.2 _ (NW zl)).trans a5
  have I2:Inv X pins σ (upd H s.heap.objs.size (.tup [x,y])) {s with heap:=h2',toks:=s.toks}:=
   I1.adopt ft I.sz ⟨by show 2≤sizeLine;decide,[u1,u2], .cons ru1 (.cons ru2 .nil),_,t2,rfl,_,rfl⟩
  have hI2:IsPair h2' TI (.ref i1) (.ref i2):=(s2'.2 _ (Ne.symm nzI)).trans (a7 TI _ (Ne.symm nzI) nIO nI1 nI2 hI)
  refine⟨.ref s.heap.objs.size,_,I2,rfl,⟨s.heap.objs.size,x,y,fr,rfl,rfl,fun ws e=>by rw[ha] at e;cases e;exact hx,fun ws e=>by rw[hb] at e;cases e;exact hy⟩,
   ⟨z2,hI2,⟨_,_,(s2'.2 _ (Ne.symm nzO)).trans a2⟩,a3.extBut s2'.extBut (Ne.symm nz1),a4.extBut s2'.extBut (Ne.symm nz2)⟩,fun b hb=>?_⟩
  have hbl:b<s.heap.objs.size:=by
   simp only[Nc,Mn,or_false] at hb
   rcases hb with rfl|rfl|rfl|rfl|rfl
   ·exact zl
   ·exact Heap.lt_size hI
   ·exact Heap.lt_size hO
   ·obtain⟨o,e,_⟩:=h1;exact Heap.lt_size e
   ·obtain⟨o,e,_⟩:=h2;exact Heap.lt_size e
  rw[kak (Nj hbl)]
  exact(hf b hb).1
 done:=by
  intro X hP hw hK hc i pins s σ H E I hf st hg
  subst hP hw hK
  obtain⟨hz,hI,⟨u,v,hO⟩,h1,h2⟩:=st
  obtain⟨xs,ys,ha,hb,hx⟩:=hg
  obtain⟨its1,n1,r1,ho1,_⟩:=I.lst ha
  obtain⟨its2,n2,r2,ho2,_⟩:=I.lst hb
  have L1:s.heap.IsList a its1.toArray:=⟨_,ho1,rfl,n1,rfl⟩
  have L2':s.heap.IsList b its2.toArray:=⟨_,ho2,rfl,n2,rfl⟩
  have hlen1:=r1.length
  have hlen2:=r2.length
  have off:∀{l:Addr}{zs:List V},H l=some (.lst zs)→l∉[z,TI,TO,i1,i2]:=fun {l zs} e m=>by
   have:=(hf l m).1
   rw[this] at e
   cases e
  have oa:=off ha
  have ob:=off hb
  have nd':=nd
  simp only[NR,Nc,Mn,or_false,not_or,M7,and_true,not_false_eq_true] at nd' oa ob
  obtain⟨⟨nzI,nzO,nz1,nz2⟩,⟨nIO,nI1,nI2⟩,⟨nO1,nO2⟩,n12⟩:=nd'
  have D:ZipApart z TI TO i1 i2 a b:=⟨Ne.symm nzI,Ne.symm nzO,Ne.symm nz1,Ne.symm nz2,nIO,nI1,nI2,nO1,nO2,n12,oa.1,oa.2.2.1,oa.2.2.2.1,oa.2.2.2.2,ob.1,ob.2.2.1,ob.2.2.2.1,ob.2.2.2.2⟩
  refine wpAny_pyNext_zip_end (I.ok.hd hc) D hz hI hO h1 h2 L1 L2' ?_ fun h' hk=>⟨rfl,?_⟩
  ·rcases hx with hx|hx
   ·exact .inl (by simp;omega)
   ·exact .inr (by simp;omega)
  ·refine I.turnedL (t':=s.toks) (ch:=[z,TI,TO,i1,i2]) (fun b o hb e=>?_) hf
   simp only[Nc,Mn,or_false,not_or] at hb
   exact hk b o hb.1 hb.2.2.1 hb.2.2.2.1 hb.2.2.2.2 e
 self:=fun _ _ _ _ _ st h=>wpAny_pyIter_zip st.1 h
def km7(n:Nat):([n+4,n+2,n+3,n,n+1]:List Nat).Nodup:=by
 simp only[NR,Nc,Mn,or_false,not_or,M7,and_true,not_false_eq_true]
 omega
def km8{n x:Nat}(h:x∈([n+4,n+2,n+3,n,n+1]:List Nat)):n≤x:=by
 simp only[Nc,Mn,or_false] at h
 omega
section
variable {X:Cx}
def iZip(ta:TA):TI:=fun σ H R=>ta σ H fun vs H1=>∃a b xs ys,vs=[.ref a, .ref b]∧H1 a=some (.lst xs)∧H1 b=some (.lst ys)∧R (Itz a b) H1
theorem knP:bootBuiltins "zip"=some (.type "zip"):=by decide +kernel
theorem kdX{es:List Expr}{k:Nat}{tpos:Pos}{e1 e2:Expr}{ta:TA}{p pos:Pos}(hg:Gl X "zip")(hm:X.mg "zip"=none)(ha:PA X [e1,e2] ta)(he:starEach [e1,e2] X.env=(false,eval e1 X.env)::starEach [e2] X.env:=by rfl)
  (hpl:(backTo pos (starEach [e2] X.env)).any (·.1)=false:=by rfl):PI X (.Tuple es k tpos) (.Call (.Name "zip" p) [e1,e2] [] pos) (iZip ta):=by
 intro pins s σ H R I h
 refine Call_ (kdF I hg hm knP (PyProof.Rows.callWith_type1 (thn (ha pos pins s σ H _ I h) fun us s1 ⟨vs,H1,I1,r1,q1⟩=>?_) he hpl))
 obtain⟨a,b,xs,ys,rfl,qa,qb,q⟩:=q1
 cases r1 with
 | cons ra rr=>
  cases rr with
  |cons rb rr=>
   cases rr
   cases ra
   cases rb
   obtain⟨its1,n1,_,ho1,_⟩:=I1.lst qa
   obtain⟨its2,n2,_,ho2,_⟩:=I1.lst qb
   refine call_zip_2 (xs:=its1.toArray) (ys:=its2.toArray) ⟨_,ho1,rfl,n1,rfl⟩ ⟨_,ho2,rfl,n2,rfl⟩ fun h' b1 b2 b3 b4 b5 _ hk=>wpAny_pyIter_zip b1 ?_
   have I2:Inv X pins σ H1 {s1 with heap:=h'}:=I1.kept (t':=s1.toks) hk
   refine⟨s1.heap.objs.size+4,[s1.heap.objs.size+4,s1.heap.objs.size+2,s1.heap.objs.size+3,s1.heap.objs.size,s1.heap.objs.size+1],_,_,H1,rfl,I2,kli a b _ _ _ _ _ (km7 _),⟨b1,b2,⟨_,_,b3⟩,b4,b5⟩,fun x hx=>?_,q⟩
   have hle:s1.heap.objs.size≤x:=km8 hx
   exact I1.fpOk hle (I1.hok.fresh hle)
end
theorem kgi{a b:Addr}{xs ys:List V}{g:TG}{tb:TS}{D:Ends}{σ:St}{H:Hp}(Pv:Nat→St→Hp→Prop)(h0:Pv 0 σ H)(hl:∀i σ H,i≤min xs.length ys.length→Pv i σ H→H a=some (.lst xs)∧H b=some (.lst ys))
  (hs:∀i x y t σ H,xs[i]?=some x→ys[i]?=some y→Pv i σ H→H t=none→g (.ref t) σ (upd H t (.tup [x,y])) fun σ2 H2=>tb {D with nx:=Pv (i+1),ct:=Pv (i+1),bk:=D.nx} σ2 H2) (hd:∀σ H,Pv (min xs.length ys.length) σ H→D.nx σ H):
  ∃W:Nat→Nat→St→Hp→Prop,(∃m,W 0 m σ H)∧∀i m σ H,W i m σ H→
   ((Itz a b).stop i H∧D.nx σ H)∨((Itz a b).go i H∧∃N:St→Hp→Prop,(∀σ' H',N σ' H'→∃m',m'<m∧W (i+1) m' σ' H')∧∀x H',(Itz a b).yld i H x H'→g x σ H' fun σ2 H2=>tb {D with nx:=N,ct:=N,bk:=D.nx} σ2 H2):=by
 refine⟨fun i m σ H=>m=min xs.length ys.length-i∧i≤min xs.length ys.length∧Pv i σ H,⟨min xs.length ys.length,by simp,Nr _,h0⟩,?_⟩
 rintro i m σ H ⟨rfl,hi,p⟩
 obtain⟨q1,q2⟩:=hl i σ H hi p
 by_cases hlt:i<min xs.length ys.length
 ·refine .inr ⟨⟨xs,ys,xs[i]'(by omega),ys[i]'(by omega),q1,q2,by simp[show i<xs.length by omega],by simp[show i<ys.length by omega]⟩,Pv (i+1),fun σ' H' p'=>⟨min xs.length ys.length-(i+1),by omega,rfl,hlt,p'⟩,fun x H' y=>?_⟩
  obtain⟨t,x,y,hn,rfl,rfl,h1,h2⟩:=y
  exact hs i x y t σ _ (h1 _ q1) (h2 _ q2) p hn
 ·have e:i=min xs.length ys.length:=by omega
  refine .inl ⟨⟨xs,ys,q1,q2,by omega⟩,?_⟩
  rw[e] at p
  exact hd σ H p
theorem kiW{a b:Addr}{xs ys:List V}{g:TG}{te:TE}{σ:St}{H:Hp}{R:List V→Hp→Addr→Prop}(Pv:Nat→St→List V→Hp→Prop)(h0:Pv 0 σ [] H)(hz:min xs.length ys.length≤sizeLine)(hl:∀i σ zs H,i≤min xs.length ys.length→Pv i σ zs H→H a=some (.lst xs)∧H b=some (.lst ys)∧zs.length=i)
  (hs:∀i x y t σ zs H,xs[i]?=some x→ys[i]?=some y→Pv i σ zs H→H t=none→g (.ref t) σ (upd H t (.tup [x,y])) fun σ2 H2=>te σ2 H2 fun z H3=>Pv (i+1) σ2 (zs++[z]) H3) (hd:∀σ zs H,Pv (min xs.length ys.length) σ zs H→∀D,H D=none→R zs H D):
  ∃ W:Nat→Nat→St→List V→Hp→Prop,(∃m,W 0 m σ [] H)∧∀i m σ' zs H',W i m σ' zs H'→
   ((Itz a b).stop i H'∧∀D,H' D=none→R zs H' D)∨((Itz a b).go i H'∧zs.length<sizeLine∧∃N:St→V→Hp→Prop,(∀σ2 y H4,N σ2 y H4→∃m',m'<m∧W (i+1) m' σ2 (zs++[y]) H4)∧
    ∀x H2,(Itz a b).yld i H' x H2→g x σ' H2 fun σ2 H3=>te σ2 H3 (N σ2)):=by
 refine⟨fun i m σ zs H=>m=min xs.length ys.length-i∧i≤min xs.length ys.length∧Pv i σ zs H,⟨min xs.length ys.length,by simp,Nr _,h0⟩,?_⟩
 rintro i m σ zs H ⟨rfl,hi,p⟩
 obtain⟨q1,q2,el⟩:=hl i σ zs H hi p
 by_cases hlt:i<min xs.length ys.length
 ·refine .inr ⟨⟨xs,ys,xs[i]'(by omega),ys[i]'(by omega),q1,q2,by simp[show i<xs.length by omega],by simp[show i<ys.length by omega]⟩,by omega,fun σ2 y H3=>Pv (i+1) σ2 (zs++[y]) H3,fun σ' y H' p'=>⟨min xs.length ys.length-(i+1),by omega,rfl,hlt,p'⟩,fun x H' yl=>?_⟩
  obtain⟨t,x,y,hn,rfl,rfl,h1,h2⟩:=yl
  exact hs i x y t σ zs _ (h1 _ q1) (h2 _ q2) p hn
 ·have e:i=min xs.length ys.length:=by omega
  refine .inl ⟨⟨xs,ys,q1,q2,by omega⟩,?_⟩
  rw[e] at p
  exact hd σ zs H p
end L2
namespace L2
open PySem PySem.Spec PyProof.Rows
section
variable {g:TG} {tt:TT} {te:TE} {σ:St} {H:Hp} {R:List V→Hp→Addr→Prop}
theorem kgm{J:It}{n:Nat}(Pv:Nat→St→List V→Hp→Prop)(h0:Pv 0 σ [] H)(hz:n≤sizeLine)(hl:∀i σ ys H,i≤n→Pv i σ ys H→ys.length≤i)(hgo:∀i σ ys H,i<n→Pv i σ ys H→J.go i H)(hst:∀σ ys H,Pv n σ ys H→J.stop n H)
  (hs:∀i σ ys H x H',i<n→Pv i σ ys H→J.yld i H x H'→g x σ H' fun σ2 H2=>tt σ2 H2 fun b H3=>if b=true then te σ2 H3 (fun y H4=>Pv (i+1) σ2 (ys++[y]) H4) else Pv (i+1) σ2 ys H3) (hd:∀σ ys H,Pv n σ ys H→∀D,H D=none→R ys H D):
  ∃ W:Nat→Nat→St→List V→Hp→Prop,(∃m,W 0 m σ [] H)∧∀i m σ' ys H',W i m σ' ys H'→
   (J.stop i H'∧∀D,H' D=none→R ys H' D)∨(J.go i H'∧ys.length<sizeLine∧∃(N:St→V→Hp→Prop)(N0:St→Hp→Prop),(∀σ2 y H4,N σ2 y H4→∃m',m'<m∧W (i+1) m' σ2 (ys++[y]) H4)∧(∀σ2 H4,N0 σ2 H4→∃m',m'<m∧W (i+1) m' σ2 ys H4)∧
    ∀x H2,J.yld i H' x H2→g x σ' H2 fun σ2 H3=>tt σ2 H3 fun b H4=>if b=true then te σ2 H4 (N σ2) else N0 σ2 H4):=by
 refine⟨fun i m σ ys H=>m=n-i∧i≤n∧Pv i σ ys H,⟨n,by simp,Nr _,h0⟩,?_⟩
 rintro i m σ ys H ⟨rfl,hi,p⟩
 have el:=hl i σ ys H hi p
 by_cases hlt:i<n
 ·refine .inr ⟨hgo i σ ys H hlt p,by omega,fun σ2 y H3=>Pv (i+1) σ2 (ys++[y]) H3,fun σ2 H3=>Pv (i+1) σ2 ys H3,fun σ' y H' p'=>⟨n-(i+1),by omega,rfl,hlt,p'⟩,fun σ' H' p'=>⟨n-(i+1),by omega,rfl,hlt,p'⟩,fun x H' yl=>?_⟩
  exact hs i σ ys H x H' hlt p yl
 ·have e:i=n:=by omega
  subst e
  exact .inl ⟨hst σ ys H p,hd σ ys H p⟩
theorem kji{K:JL}{a:Addr}{xs:List V}(Pv:Nat→St→List V→Hp→Prop)(h0:Pv 0 σ [] H)(hz:xs.length≤sizeLine)(hl:∀i σ ys H,i≤xs.length→Pv i σ ys H→SqL K H a xs∧ys.length≤i)
  (hs:∀i x σ ys H,xs[i]?=some x→Pv i σ ys H→g x σ H fun σ2 H2=>tt σ2 H2 fun b H3=>if b=true then te σ2 H3 (fun y H4=>Pv (i+1) σ2 (ys++[y]) H4) else Pv (i+1) σ2 ys H3) (hd:∀σ ys H,Pv xs.length σ ys H→∀D,H D=none→R ys H D):
  ∃ W:Nat→Nat→St→List V→Hp→Prop,(∃m,W 0 m σ [] H)∧∀i m σ' ys H',W i m σ' ys H'→
   ((Itl K a).stop i H'∧∀D,H' D=none→R ys H' D)∨((Itl K a).go i H'∧ys.length<sizeLine∧∃(N:St→V→Hp→Prop)(N0:St→Hp→Prop),(∀σ2 y H4,N σ2 y H4→∃m',m'<m∧W (i+1) m' σ2 (ys++[y]) H4)∧(∀σ2 H4,N0 σ2 H4→∃m',m'<m∧W (i+1) m' σ2 ys H4)∧
    ∀x H2,(Itl K a).yld i H' x H2→g x σ' H2 fun σ2 H3=>tt σ2 H3 fun b H4=>if b=true then te σ2 H4 (N σ2) else N0 σ2 H4):=
 kgm Pv h0 hz (fun i σ ys H hi p=>(hl i σ ys H hi p).2) (fun i σ ys H hi p=>⟨xs,xs[i],(hl i σ ys H (JY hi) p).1,by simp[hi]⟩) (fun σ ys H p=>⟨xs,(hl _ σ ys H (JK _) p).1,JK _⟩)
  (fun i σ ys H x H' hi p yl=>by
   obtain⟨e,q⟩:=yl
   subst e
   exact hs i x σ ys _ (q xs (hl i σ ys _ (JY hi) p).1) p) hd
theorem kfa{lo:Int}{n:Nat}(Pv:Nat→St→List V→Hp→Prop)(h0:Pv 0 σ [] H)(hz:n≤sizeLine)(hl:∀i σ ys H,i≤n→Pv i σ ys H→ys.length≤i)
  (hs:∀i σ ys H,i<n→Pv i σ ys H→g (.int (lo+i)) σ H fun σ2 H2=>tt σ2 H2 fun b H3=>if b=true then te σ2 H3 (fun y H4=>Pv (i+1) σ2 (ys++[y]) H4) else Pv (i+1) σ2 ys H3) (hd:∀σ ys H,Pv n σ ys H→∀D,H D=none→R ys H D):
  ∃ W:Nat→Nat→St→List V→Hp→Prop,(∃m,W 0 m σ [] H)∧∀i m σ' ys H',W i m σ' ys H'→
   ((Itr lo n).stop i H'∧∀D,H' D=none→R ys H' D)∨((Itr lo n).go i H'∧ys.length<sizeLine∧∃(N:St→V→Hp→Prop)(N0:St→Hp→Prop),(∀σ2 y H4,N σ2 y H4→∃m',m'<m∧W (i+1) m' σ2 (ys++[y]) H4)∧(∀σ2 H4,N0 σ2 H4→∃m',m'<m∧W (i+1) m' σ2 ys H4)∧
    ∀x H2,(Itr lo n).yld i H' x H2→g x σ' H2 fun σ2 H3=>tt σ2 H3 fun b H4=>if b=true then te σ2 H4 (N σ2) else N0 σ2 H4):=
 kgm Pv h0 hz hl (fun _ _ _ _ hi _=>hi) (fun _ _ _ _=>JK _) (fun i σ ys H x H' hi p yl=>by
  obtain⟨e,q⟩:=yl
  subst e q
  exact hs i σ ys _ hi p) hd
theorem kjj{a:Addr}{xs:List V}(Pv:Nat→St→List V→Hp→Prop)(h0:Pv 0 σ [] H)(hz:xs.length≤sizeLine)(hl:∀i σ ys H,i≤xs.length→Pv i σ ys H→H a=some (.lst xs)∧ys.length≤i)
  (hs:∀i y t σ ys H,xs[i]?=some y→Pv i σ ys H→H t=none→g (.ref t) σ (upd H t (.tup [.int (i:Nat),y])) fun σ2 H2=>tt σ2 H2 fun b H3=>if b=true then te σ2 H3 (fun y H4=>Pv (i+1) σ2 (ys++[y]) H4) else Pv (i+1) σ2 ys H3) (hd:∀σ ys H,Pv xs.length σ ys H→∀D,H D=none→R ys H D):
  ∃ W:Nat→Nat→St→List V→Hp→Prop,(∃m,W 0 m σ [] H)∧∀i m σ' ys H',W i m σ' ys H'→
   ((Ite a).stop i H'∧∀D,H' D=none→R ys H' D)∨((Ite a).go i H'∧ys.length<sizeLine∧∃(N:St→V→Hp→Prop)(N0:St→Hp→Prop),(∀σ2 y H4,N σ2 y H4→∃m',m'<m∧W (i+1) m' σ2 (ys++[y]) H4)∧(∀σ2 H4,N0 σ2 H4→∃m',m'<m∧W (i+1) m' σ2 ys H4)∧
    ∀x H2,(Ite a).yld i H' x H2→g x σ' H2 fun σ2 H3=>tt σ2 H3 fun b H4=>if b=true then te σ2 H4 (N σ2) else N0 σ2 H4):=
 kgm Pv h0 hz (fun i σ ys H hi p=>(hl i σ ys H hi p).2) (fun i σ ys H hi p=>⟨xs,xs[i],(hl i σ ys H (JY hi) p).1,by simp[hi]⟩) (fun σ ys H p=>⟨xs,(hl _ σ ys H (JK _) p).1,JK _⟩)
  (fun i σ ys H x H' hi p yl=>by
   obtain⟨t,y,hn,rfl,rfl,hy⟩:=yl
   exact hs i y t σ ys _ (hy xs (hl i σ ys _ (JY hi) p).1) p hn) hd
end
section
variable {X:Cx}
def isI(k:Int):Value→Bool
 | .int a _=>a==k
 |_=>false
theorem kg7:∀{ns:List Int}{us:List Value},Vals (ns.map V.int) us→∀(j:Nat)(n:Int),ns[j]?=some n→∃t,us[j]?=some (.int n t)
 |[],_,_,j,n,e=>by simp at e
 | m::ns,u::us, .cons r t,j,n,e=>by
  cases j with
  |zero=>
   have e':m=n:=by simpa using e
   subst e'
   obtain⟨t,rfl⟩:=r
   exact⟨t,rfl⟩
  |succ j=>
   obtain⟨q,h⟩:=kg7 t j n (by simpa using e)
   exact⟨q,by simpa using h⟩
end
end L2
namespace L2
open PySem PySem.Spec PyProof.Rows
structure BaseT (K:JL) (C:Addr) (m:Str) (f:Addr):Prop where
 rd:PySem.W.readsIn K C (.type "type")=true
 ga:MJ K (.ref C) "__getattribute__"=some (some (.builtin "type.__getattribute__"))
 fc:PySem.W.findCls K (.ref C) (.type "type") m=some (.val (.ref f))
section
variable {X:Cx} {CX:CXT} {k:Nat} {f C:Addr} {fd:FuncData} {ps:List Str} {sp:Sp} {dvs:List V} {ds:List Value} {E:XK} {x m:Str} {p pos apos:Pos} {e o:Expr} {es:List Expr} {ta:TE} {t:TA}
theorem keJ{pl:Sem Bool}(B:BaseT X.K C m f)(F:FnOk X.prog X.w X.K X.mg X.base CX k f fd ps sp)(hr:Room k X.A)(hg:Gl X x)(hm:X.mg x=some (.ref C))(hk:J7 X.K (.ref f)=true)(hb:Binds X.K fd ps ds)(hd:Vals dvs ds)(hx:kdO CX X E)
  (ha:PA X (e::es) t) (hdb:(x==("__debug__" :Str))=false:=by decide)
  (hst:starEach (e::es) X.env=(false,eval e X.env)::starEach es X.env:=by rfl) (hpl:(backTo pos (starEach es X.env)).any (·.1)=false:=by rfl)
  (ht:eval (.Call (.Attribute (.Name x p) m apos) (e::es) [] pos) X.env=(do
   let ov ←eval (.Name x p) X.env
   standAt apos.atName
   let(f,first) ←holding [ov] (getMethod ov m pl)
   callWith pos f first (backTo pos (starEach (e::es) X.env)) (backToKw pos (keywordEach [] X.env))):=by rfl):
  PE X (.Call (.Attribute (.Name x p) m apos) (e::es) [] pos) (tCall sp dvs E t):=by
 intro pins s σ H Q I h
 refine Ew (pl:=pl) (thn (kcv (v:=.ref C) hg hm rfl hdb pins s σ H (fun y H1=>y=.ref C∧H1=H) I ⟨rfl,rfl⟩) fun u s1 ⟨y,H1,I1,ry,ey,eH⟩=>?_) ht
 subst ey eH
 obtain rfl:u=Value.ref C:=ry
 refine PySem.W.method_cls I1.kIn B.ga (PySem.W.cls_value I1.kIn B.rd B.fc rfl ?_)
 have I2:=I1.tok (s1.toks+1)
 refine MZ (h₀:=X.base) I.ok.mod.kin hk (thn (ha pos pins _ σ H1 _ I2 h) fun us s2 ⟨vs,H2,I3,r,q2⟩=>⟨I3.kIn,?_⟩) hst hpl
 exact kiu F hr hb hd hx I3 r q2
end
def kgp:bootBuiltins "tuple"=some (.type "tuple"):=by decide +kernel
def kd4{n j:Nat}(h:j<n):ixN n (j:Int)=some j:=by
 unfold ixN
 rw[if_pos (by omega),if_pos (by omega)]
 simp
section
variable {X:Cx}
end
section
variable {X:Cx}
def knJ(ta:TA):TI:=fun σ H R=>ta σ H fun vs H1=>∃i j k:Int,vs=[.int i, .int j, .int k]∧(-(2 ^ 31)≤i∧i<2 ^ 31)∧(-(2 ^ 31)≤j∧j<2 ^ 31)∧0<k∧k<2 ^ 30∧R (Its i k (Builtin.Range.rangeSize i j k).toNat) H1
theorem ki7{tg a b c:Expr}{ta:TA}{p pos:Pos}(hg:Gl X "range")(hm:X.mg "range"=none)(ha:PA X [a,b,c] ta)(he:starEach [a,b,c] X.env=(false,eval a X.env)::starEach [b,c] X.env:=by rfl)
  (hpl:(backTo pos (starEach [b,c] X.env)).any (·.1)=false:=by rfl):PI X tg (.Call (.Name "range" p) [a,b,c] [] pos) (knJ ta):=by
 intro pins s σ H R I h
 refine Call_ (kdF I hg hm boot_range (PyProof.Rows.callWith_type1 (thn (ha pos pins s σ H _ I h) fun us s1 ⟨vs,H1,I1,r1,q1⟩=>?_) he hpl))
 obtain⟨i,j,k,e,hi,hj,hk,hk2,q⟩:=q1
 subst e
 cases r1 with
 | cons r rr=>
  cases rr with
  | cons r' rr=>
   cases rr with
   | cons r'' rr=>
    cases rr
    obtain⟨t,rfl⟩:=r
    obtain⟨t',rfl⟩:=r'
    obtain⟨t'',rfl⟩:=r''
    refine call_range_3 (by omega) ?_ (.inl (PyProof.noPylong_small (by omega)))
    refine wpAny_pyIter_range (IsRange.new ..) (ki3 hk hk2 hi hj) ?_
    have I2:Inv X pins σ H1 {s1 with heap:=s1.heap.push {cls:=.type "range",data:=.fields #[.int i t, .int j t', .int k t'']},toks:=s1.toks}:=I1.kept fun b o e=>Heap.get?_push_of_some _ e
    have hn:=kgF hk hi hj
    refine⟨(s1.heap.push {cls:=.type "range",data:=.fields #[.int i t, .int j t', .int k t'']}).objs.size,[(s1.heap.push {cls:=.type "range",data:=.fields #[.int i t, .int j t', .int k t'']}).objs.size],_,_,H1,rfl,
     I2.kept (t':=s1.toks) fun b o e=>Heap.get?_push_of_some _ e,kjp _ i k (Builtin.Range.rangeSize i j k).toNat,?_,fun b hb=>?_,q⟩
    ·have e1:i+((0:Nat):Int)*k=i:=by simp
     have e2:(((Builtin.Range.rangeSize i j k).toNat:Nat):Int)-((0:Nat):Int)=Builtin.Range.rangeSize i j k:=by omega
     show IsRangeIter _ _ (i+((0:Nat):Int)*k) ((((Builtin.Range.rangeSize i j k).toNat:Nat):Int)-((0:Nat):Int)) k
     rw[e1,e2]
     exact Heap.get?_push_size _ rfl
    ·have e:b=(s1.heap.push {cls:=.type "range",data:=.fields #[.int i t, .int j t', .int k t'']}).objs.size:=by simpa using hb
     subst e
     exact I2.fpOk (JK _) (I2.hok.fresh (JK _))
end
section
variable {g:TG} {te:TE} {σ:St} {H:Hp} {R:List V→Hp→Addr→Prop}
theorem kk2{lo st:Int}{n:Nat}(Pv:Nat→St→List V→Hp→Prop)(h0:Pv 0 σ [] H)(hz:n≤sizeLine)(hl:∀i σ ys H,i≤n→Pv i σ ys H→ys.length=i)
  (hs:∀i σ ys H,i<n→Pv i σ ys H→g (.int (lo+i*st)) σ H fun σ2 H2=>te σ2 H2 fun y H3=>Pv (i+1) σ2 (ys++[y]) H3) (hd:∀σ ys H,Pv n σ ys H→∀D,H D=none→R ys H D):
  ∃ W:Nat→Nat→St→List V→Hp→Prop,(∃m,W 0 m σ [] H)∧∀i m σ' ys H',W i m σ' ys H'→
   ((Its lo st n).stop i H'∧∀D,H' D=none→R ys H' D)∨((Its lo st n).go i H'∧ys.length<sizeLine∧∃N:St→V→Hp→Prop,(∀σ2 y H4,N σ2 y H4→∃m',m'<m∧W (i+1) m' σ2 (ys++[y]) H4)∧
    ∀x H2,(Its lo st n).yld i H' x H2→g x σ' H2 fun σ2 H3=>te σ2 H3 (N σ2)):=by
 refine⟨fun i m σ ys H=>m=n-i∧i≤n∧Pv i σ ys H,⟨n,by simp,Nr _,h0⟩,?_⟩
 rintro i m σ ys H ⟨rfl,hi,p⟩
 have el:=hl i σ ys H hi p
 by_cases hlt:i<n
 ·refine .inr ⟨hlt,by omega,fun σ2 y H3=>Pv (i+1) σ2 (ys++[y]) H3,fun σ' y H' p'=>⟨n-(i+1),by omega,rfl,hlt,p'⟩,fun x H' yl=>?_⟩
  obtain⟨e,yl⟩:=yl
  subst e yl
  exact hs i σ ys _ hlt p
 ·have e:i=n:=by omega
  subst e
  exact .inl ⟨JK _,hd σ ys H p⟩
end
def khu{L m:Nat}(hm:0<m):(Builtin.Range.rangeSize 0 ((L:Int)-(m:Int)+1) (m:Int)).toNat=L/m:=by
 unfold Builtin.Range.rangeSize
 rw[if_pos (by omega)]
 by_cases h:m≤L
 ·rw[if_pos (by omega),show(L:Int)-(m:Int)+1-0-1=((L-m:Nat):Int) by omega,←Int.natCast_ediv,Nat.div_eq_sub_div hm h]
  generalize (L-m)/m=q
  omega
 ·rw[if_neg (by omega),Nat.div_eq_of_lt (by omega)]
  rfl
end L2
namespace L2
open PySem PySem.Spec PyProof.Rows
inductive Src where
 |p (i:Nat)
 |k (j:Nat)
 |d (v:Value) (x:V)
def Src.val(us ws:List Value):Src→Value
 | .p i=>us.getD i .none
 | .k j=>ws.getD j .none
 | .d v _=>v
def Src.abs(vs zs:List V):Src→V
 | .p i=>vs.getD i .non
 | .k j=>zs.getD j .non
 | .d _ x=>x
def Src.Ok:Src→Prop
 | .d v x=>RelV x v
 |_=>True
def gk(nu nw:Nat)(ss:List Src)(us ws:List Value):List Value:=if us.length=nu∧ws.length=nw then ss.map (Src.val us ws) else []
section
variable {X:Cx} {CX:CXT} {k:Nat} {f C:Addr} {fd:FuncData} {ps ks:List Str} {sp:Sp} {E:XK} {x:Str} {p pos:Pos} {kws:List Keyword} {tk:TA} {g:List Value→List Value→List Value} {gV:List V→List V→List V}
end
end L2
namespace L2
open PySem PySem.Spec PyProof.Rows
def atK(kvs:List (Key×V))(k:Key):Option V:=(kvs.find? fun p=>decide (p.1=k)).map Prod.snd
theorem kh1:∀{kvs:List (Key×V)}{vs:List (Key×Value)},KV kvs vs→∀k,RelO (atK kvs k) (valueAt vs k)
 |_,_, .nil,_=>True.intro
 | p::ps,q::qs, .cons h t,k=>by
  obtain⟨h1,h2⟩:=h
  have ih:=kh1 t k
  unfold atK valueAt at *
  by_cases e:p.1=k
  ·have e':q.1=k:=h1.symm.trans e
   simp only[NZ,e,e',decide_true,Mf]
   exact h2
  ·have e':¬q.1=k:=fun z=>e (h1.trans z)
   simp only[NZ,e,e',decide_false]
   exact ih
theorem kvAny:∀{kvs:List (Key×V)}{vs:List (Key×Value)},KV kvs vs→∀k:Key,atK kvs k=none→(vs.any fun p=>decide (p.1=k))=false
 |_,_, .nil,_,_=>rfl
 | p::ps,q::qs, .cons h t,k,hn=>by
  obtain⟨h1,h2⟩:=h
  unfold atK at hn
  by_cases e:p.1=k
  ·simp[NZ,e] at hn
  ·have e':¬q.1=k:=fun z=>e (h1.trans z)
   rw[N6,decide_eq_false e',Bool.false_or]
   refine kvAny t k ?_
   unfold atK
   simpa[NZ,e] using hn
theorem kml:∀{kvs:List (Key×V)}{vs:List (Key×Value)},KV kvs vs→∀{k:Key}{y:V}{u:Value},RelV y u→KV (kvs++[(k,y)]) (vs++[(k,u)])
 |_,_, .nil,_,_,_,r=>.cons ⟨rfl,r⟩ .nil
 |_,_, .cons h t,_,_,_,r=>.cons h (kml t r)
theorem kvLen:∀{kvs:List (Key×V)}{vs:List (Key×Value)},KV kvs vs→kvs.length=vs.length
 |_,_, .nil=>rfl
 |_,_, .cons _ t=>by rw[Ny,Ny,kvLen t]
theorem kmk:∀{kvs:List (Key×V)}{vs:List (Key×Value)},KV kvs vs→Vals (kvs.map Prod.snd) (vs.map Prod.snd)
 |_,_, .nil=>.nil
 |_,_, .cons h t=>.cons h.2 (kmk t)
section
variable {X:Cx}
def knl:TE:=fun _ H Q=>∀p,H p=none→Q (.ref p) (upd H p (.dK []))
theorem klq{pos:Pos}:PE X (.Dict [] [] pos) knl:=fun pins s σ H Q I h=>
 have big:sysModules<s.heap.objs.size:=M5 (by decide) (show mainGlobals<s.heap.objs.size from(I.mod.glob.keeps I.bk).lt)
 wpAny_Dict_empty ⟨.ref s.heap.objs.size,_,I.laid (a:=s.heap.objs.size) (o:=.dK []) (t':=s.toks) (fun _ _ q=>Heap.get?_push_of_some _ q) (JK _)
  (show ObjOk X.prog X.w _ _ _ (.dK []) from⟨Nr _,beq_eq_false_iff_ne.mpr (Ne.symm (Nj big)),[], .nil,Heap.DictOf.new _⟩),rfl,h _ (I.hok.fresh (JK _))⟩
def rSetd:V→List V→Hp→VK→Prop:=fun x vs H Q=>∃(a:Addr)(kvs:List (Key×V))(i:Int)(y:V),x=.ref a∧vs=[.int i,y]∧H a=some (.dK kvs)∧kvs.length<sizeLine∧(∀v,atK kvs (.inl i)=some v→Q v H)∧(atK kvs (.inl i)=none→Q y (upd H a (.dK (kvs++[(.inl i,y)]))))
theorem kgb:MtM X "dict.setdefault" rSetd:=by
 intro pins s σ H x vs v us Q I rx rv h
 obtain⟨a,kvs,i,y,rfl,rfl,e,hz,h1,h2⟩:=h
 cases rx
 obtain⟨u1,u2,rfl,⟨t,rfl⟩,ru2⟩:=vals2 rv
 obtain⟨z,hd,ws,rel,dd⟩:=(show ObjOk X.prog X.w H s.heap a (.dK kvs) from I.hok a _ e)
 have key:(kbe X.prog X.w).is (Sum.inl i:Key) (.int i t)=true:=keU _ _ i t
 refine call_meetsIn ES dd.typeIs PySem.F.entry_dict_setdefault (PySem.F.args_dict_setdefault_3 _ _ _) (kt_meets_setdefault (kbe X.prog X.w) a key hd u2)
  ⟨ws,dd,by rw[←kvLen rel];exact z,fun v hv=>?_,fun hn h' dd' hs=>?_⟩
 ·have r:=kh1 rel (Sum.inl i)
  rw[hv] at r
  cases ea:atK kvs (Sum.inl i) with
  |none=>rw[ea] at r;exact(show False from r).elim
  |some w'=>
   rw[ea] at r
   exact⟨w',H,I.tok _,r,h1 w' ea⟩
 ·have r:=kh1 rel (Sum.inl i)
  rw[hn] at r
  have ea:atK kvs (Sum.inl i)=none:=by
   cases ea:atK kvs (Sum.inl i) with
   |none=>rfl
   |some w'=>rw[ea] at r;exact(show False from r).elim
  have est:stored ws (Sum.inl i:Key) u2=ws++[(Sum.inl i,u2)]:=by
   unfold stored
   rw[kvAny rel _ ea,if_neg JS]
  rw[est] at dd'
  have he:∃q,h'.get? a=some q:=let⟨q,_,_,hq,_⟩:=dd';⟨q,hq⟩
  refine⟨y,_,I.write (x:=a) (e:=a) (by rw[e];exact True.intro) (.inl rfl) (fun b q hb w'=>(hs.2 b hb).trans w') he ?_,ru2,h2 ea⟩
  exact(show ObjOk X.prog X.w _ h' a (.dK (kvs++[(.inl i,y)])) from⟨by rw[JW,Np];omega,hd,_,kml rel ru2,dd'⟩)
def kjs(te:TE):TE:=fun σ H Q=>te σ H fun v H1=>∃(a:Addr)(kvs:List (Key×V)),v=.ref a∧H1 a=some (.dK kvs)∧∀l,H1 l=none→Q (.ref l) (upd H1 l (.lst (kvs.map Prod.snd)))
theorem khH{e:Expr}{te:TE}{p1 pos1 apos cpos:Pos}(hc:X.calm=true)(h1:Gl X "list")(m1:X.mg "list"=none)(he:PE X e te)
  (hbase:attributeBase e "values" X.env (eval e X.env)=eval e X.env:=by rfl) (hline:(apos.endLine==cpos.line)=true:=by rfl)
  (s2:starEach [.Call (.Attribute e "values" apos) [] [] cpos] X.env=[(false,eval (.Call (.Attribute e "values" apos) [] [] cpos) X.env)]:=by rfl):PE X (.Call (.Name "list" p1) [.Call (.Attribute e "values" apos) [] [] cpos] [] pos1) (kjs te):=by
 intro pins s σ H Q I h
 refine wpAny_Call_Name_kw (kdF I h1 m1 kaU ?_ (by decide) (by decide))
 refine PyProof.Rows.callWith_type1 ?_ s2 rfl
 rw[s2]
 refine Calls.spliced_cons (wpAny_Call_method0_late hbase hline (thn (he pins s σ H _ I h) fun u s3 ⟨v,H1,I1,r1,a,kvs,ev,ea,q⟩=>?_))
 subst ev
 cases r1
 obtain⟨t1,t2⟩:=kl0 (T:="dict") (x:=.ref a) (v:=.ref a) I1 rfl (.inr (.inr (.inl ⟨rfl, .inl ⟨kvs,ea⟩⟩)))
 obtain⟨z,hd,ws,rel,dd⟩:=(show ObjOk X.prog X.w H1 s3.heap a (.dK kvs) from I1.hok a _ ea)
 obtain⟨ep,hat⟩:=dd.dictAt
 refine⟨"dict","dict.values",ET,EU,PySem.F.type_dict_values,t1,t2,Calls.callWith_builtin rfl (PySem.evalArgs_none ?_)⟩
 refine call_meetsIn EU dd.typeIs PySem.F.entry_dict_values (PySem.F.args_dict_values_1 _) (meets_dict_values (kbe X.prog X.w) a hd) ⟨⟨ws,dd⟩,Calls.spliced_nil ?_⟩
 refine PySem.W.kdl_call (PySem.W.kdl_values (knd:=kbe X.prog X.w) (kvs:=ws) (ep:=ep)) (I1.ok.hd hc) ⟨⟨_,Heap.get?_push_size _ rfl,rfl,rfl⟩,hat.push _⟩ (by rw[←kvLen rel];exact z) fun h' tk acc' c' hk hS hacc=>?_
 have hv:acc'.toList=ws.map (·.2):=PySem.W.kdl_vals_eq acc'.toList (by rw[My];exact hacc.1) fun j v' ej=>hacc.2 j v' (by rw[←Array.getElem?_toList];exact ej)
 generalize ho:({cls:=.type "dict_values",data:=.fields #[.ref a]}:Obj)=ob at *
 have hsz:(s3.heap.push ob).objs.size=s3.heap.objs.size+1:=Heap.size_push ..
 have rv:Vals (kvs.map Prod.snd) acc'.toList:=by rw[hv];exact kmk rel
 have I2:Inv X pins σ (upd H1 (s3.heap.push ob).objs.size (.lst (kvs.map Prod.snd))) {s3 with heap:=h',toks:=tk}:=
  I1.laid (fun b o e=>hk b o (Heap.get?_push_of_some _ e)) (by rw[hsz];exact Ms _) (show ObjOk X.prog X.w _ h' _ (.lst (kvs.map Prod.snd)) from⟨by rw[JJ];exact z,acc'.toList,c',rv,by simpa using hS⟩)
 exact⟨.ref _,_,I2,rfl,q _ (I1.hok.fresh (by rw[hsz];exact Ms _))⟩
end
end L2
namespace L2
open PySem PySem.Spec PyProof.Rows
section
variable {X:Cx}
def rCatS(K:JL):R2:=fun x y H Q=>∃(l b:Addr)(xs zs:List V),x=.ref l∧y=.ref b∧SqL K H l xs∧SqL K H b zs∧xs.length+zs.length≤sizeLine∧∀p,H p=none→Q (.ref p) (upd H p (.lst (xs++zs)))
theorem kmT:OpR X (binaryOp .Add) (rCatS X.K):=by
 intro pins s σ H x y v u Q I rx ry h
 obtain⟨l,b,xs,zs,rfl,rfl,hl,hb,hz,q⟩:=h
 cases rx
 cases ry
 obtain⟨us,r1,⟨⟨c1,d1,t1,f1⟩,n1,g1,z1,z2,z3⟩,_⟩:=I.list hl
 obtain⟨ws,r2,⟨⟨c2,d2,t2,f2⟩,n2,g2,y1,y2,y3⟩,_⟩:=I.list hb
 have lu:=r1.length
 have lw:=r2.length
 simp only at z1 z2 z3 y1 y2 y3
 subst z1 z2 z3 y1 y2 y3
 refine concat_meets ⟨_,g1,rfl⟩ ⟨_,g2,rfl⟩ noFill_list_add seq_list_add PySem.F.slot_list_add PySem.F.entry_list_add (PySem.F.args_list_add_2 _ _)
  (list_addW l b us.toArray ws.toArray n1 n2 none none f1 f2 (by rw[Nd,Nd];omega)) ⟨g1,g2,?_⟩
 have ea:us.toArray++ws.toArray=(us++ws).toArray:=by simp
 rw[ea]
 exact⟨.ref _,_,I.lnew (t':=s.toks) (r1.append r2) (by rw[JW];omega),rfl,q _ I.fresh⟩
end
end L2
namespace Stb
open PySem PyProof.Rows
def T(xs:Array Keyed)(i:Nat):Int:=match xs[i]? with
 |some p=>numOf p.2
 |none=>0
def T_at{xs ys:Array Keyed}{i j:Nat}(h:xs[i]?=ys[j]?):T xs i=T ys j:=by unfold T;rw[h]
def Lx(xs:Array Keyed)(i j:Nat):Prop:=K xs i<K xs j∨(K xs i=K xs j∧T xs i<T xs j)
def Lx.trans{xs:Array Keyed}{i j k:Nat}(h:Lx xs i j)(h':Lx xs j k):Lx xs i k:=by unfold Lx at *;omega
def Lx.le{xs:Array Keyed}{i j:Nat}(h:Lx xs i j):K xs i≤K xs j:=by unfold Lx at *;omega
def Up(xs:Array Keyed)(k:Nat):Prop:=∀i j,i<j→j<k→Lx xs i j
def Dn(xs:Array Keyed)(k:Nat):Prop:=∀i j,i<j→j<k→Lx xs j i
def Lat(a₀ xs:Array Keyed)(k:Nat):Prop:=∀i j,i<j→k≤j→j<a₀.size→T xs i<T xs j
def Lat.mono{a₀ xs:Array Keyed}{k k':Nat}(h:Lat a₀ xs k)(hk:k≤k'):Lat a₀ xs k':=fun i j h1 h2 h3=>h i j h1 (by omega) h3
theorem kiY{xs:Array Keyed}{src d:Nat}(hs:src<xs.size)(hd:d≤src)(k:Nat):
  ∃k',(K (bubble xs src d) k=K xs k'∧T (bubble xs src d) k=T xs k')∧k'=if k=src-d then src else if src-d<k∧k≤src then k-1 else k:=by
 refine⟨_,?_,rfl⟩
 have e:=getElem?_bubble hs d hd k
 have e':(bubble xs src d)[k]?=xs[if k=src-d then src else if src-d<k∧k≤src then k-1 else k]?:=by
  rw[e]
  split
  ·rfl
  ·split <;> rfl
 exact⟨K_congr e',T_at e'⟩
theorem kcQ{xs:Array Keyed}{i j:Nat}(hj:j≤xs.size)(k:Nat):
  ∃k',(K (mirror xs i j ((j-i)/2)) k=K xs k'∧T (mirror xs i j ((j-i)/2)) k=T xs k')∧k'=if i≤k∧k<j then i+j-1-k else k:=by
 refine⟨_,?_,rfl⟩
 have e:=getElem?_mirror_all (i:=i) hj k
 have e':(mirror xs i j ((j-i)/2))[k]?=xs[if i≤k∧k<j then i+j-1-k else k]?:=by
  rw[e]
  split <;> rfl
 exact⟨K_congr e',T_at e'⟩
def khQ{a₀ xs:Array Keyed}{i j k:Nat}(hj:j≤xs.size)(hk:j≤k)(h:Lat a₀ xs k):Lat a₀ (mirror xs i j ((j-i)/2)) k:=by
 intro a b hab hkb hb
 obtain⟨a',⟨_,ea⟩,ha⟩:=kcQ (i:=i) hj a
 obtain⟨b',⟨_,eb⟩,hb'⟩:=kcQ (i:=i) hj b
 rw[ea,eb]
 rw[if_neg (by omega)] at hb'
 subst hb'
 refine h _ _ ?_ hkb hb
 rw[ha]
 split <;> omega
section
variable {prog:Program} {w:World} {A:Around} {E:Value→Shared→Prop} {s:Shared} {a₀:Array Keyed}
theorem asc{st:SortSt}{a nrem:Nat}{Q:AscSt→SortSt→Prop}(h0:IntKeys a₀)(hn:nrem≤a₀.size)(ha:1≤a)(han:a≤nrem)(hB:SBase a₀ st)(hs:Up (arrOf st) a)(hl:Lat a₀ (arrOf st) a)
  (h:∀n,a≤n→n≤nrem→Up (arrOf st) n→(n=nrem∨K (arrOf st) n<K (arrOf st) (n-1))→Q (none,n) st):wpS (model prog w) A E s (ascLoop a nrem) Q st:=by
 unfold ascLoop
 refine wpS_forRange (I:=fun x c st'=>st'=st∧c=(none,x)∧Up (arrOf st) x) ?turn ?over ⟨rfl,rfl,hs⟩
 case over=>
  rintro c st' ⟨rfl,rfl,u⟩
  rw[show max a nrem=nrem by omega] at u⊢
  exact h nrem han (JK _) u (.inl rfl)
 case turn=>
  rintro x c st' hax hxn ⟨rfl,rfl,u⟩
  dsimp only
  refine wpS_bind (wpS_ltK hB h0 (by omega) (by omega) ?_)
  by_cases c1:K (arrOf st') x<K (arrOf st') (x-1)
  ·simp only[c1,decide_true,if_true]
   exact wpS_pure (h x hax (by omega) u (.inr c1))
  ·simp only[c1,decide_false,NM,if_false]
   refine wpS_pure ⟨rfl,rfl,fun i j hij hj=>?_⟩
   by_cases hjx:j<x
   ·exact u i j hij hjx
   ·have e:j=x:=by omega
    subst e
    have t1:=hl (j-1) j (by omega) hax (by omega)
    have l1:Lx (arrOf st') (j-1) j:=by unfold Lx;omega
    by_cases e2:i=j-1
    ·rw[e2];exact l1
    ·exact(u i (j-1) (by omega) (by omega)).trans l1
theorem tail{st:SortSt}{n nrem:Nat}{Q:Option Nat→SortSt→Prop}(h0:IntKeys a₀)(hn:nrem≤a₀.size)(h1:1≤n)(hnn:n≤nrem)(hB:SBase a₀ st)(hs:Dn (arrOf st) n)(hl:Lat a₀ (arrOf st) n)
  (h:∀m st',SBase a₀ st'→1≤m→m≤nrem→Up (arrOf st') m→Lat a₀ (arrOf st') m→Q (some m) st'):wpS (model prog w) A E s (tail3 n nrem) Q st:=by
 unfold tail3
 have sz:n≤(arrOf st).size:=by rw[hB.size];omega
 refine wpS_bind (wpS_reverse ?_)
 have hB2:SBase a₀ (setArr st (mirror (arrOf st) 0 n ((n-0)/2))):=hB.setArr (mirror_perm _ _ _ _)
 have hl2:Lat a₀ (mirror (arrOf st) 0 n ((n-0)/2)) n:=khQ sz (JK _) hl
 refine wpS_bind (asc h0 hn h1 hnn hB2 ?_ hl2 fun m hm1 hm2 hu _=>wpS_pure (h m _ hB2 (by omega) hm2 hu (hl2.mono hm1)))
 intro i j hij hj
 show Lx (mirror (arrOf st) 0 n ((n-0)/2)) i j
 obtain⟨i',⟨k1,t1⟩,e1⟩:=kcQ (i:=0) sz i
 obtain⟨j',⟨k2,t2⟩,e2⟩:=kcQ (i:=0) sz j
 rw[if_pos (by omega)] at e1 e2
 have:=hs j' i' (by omega) (by omega)
 unfold Lx at this⊢
 rw[k1,k2,t1,t2]
 exact this
structure Fl (a₀ xs:Array Keyed) (x neq:Nat):Prop where
 few:neq+1≤x
 hd:Dn xs (x-(neq+1))
 cr:∀i j,i<x-(neq+1)→x-(neq+1)≤j→j<x→K xs j<K xs i
 tl:∀i j,x-(neq+1)≤i→i<j→j<x→K xs i=K xs j∧T xs i<T xs j
 lat:Lat a₀ xs x
theorem Fl.turned{xs:Array Keyed}{x neq:Nat}(h:Fl a₀ xs x neq)(hx:x≤xs.size):Dn (mirror xs (x-(neq+1)) x ((x-(x-(neq+1)))/2)) x∧(∀i,i<x→K xs (x-1)≤K (mirror xs (x-(neq+1)) x ((x-(x-(neq+1)))/2)) i)∧Lat a₀ (mirror xs (x-(neq+1)) x ((x-(x-(neq+1)))/2)) x∧
  ∀k,x≤k→K (mirror xs (x-(neq+1)) x ((x-(x-(neq+1)))/2)) k=K xs k:=by
 have hf:=h.few
 refine⟨fun i j hij hj=>?_,fun i hi=>?_,khQ hx (JK _) h.lat,fun k hk=>?_⟩
 ·obtain⟨i',⟨k1,t1⟩,e1⟩:=kcQ (i:=x-(neq+1)) hx i
  obtain⟨j',⟨k2,t2⟩,e2⟩:=kcQ (i:=x-(neq+1)) hx j
  unfold Lx
  rw[k1,k2,t1,t2]
  by_cases c1:j<x-(neq+1)
  ·rw[if_neg (by omega)] at e1 e2
   subst e1 e2
   exact h.hd i' j' hij c1
  ·rw[if_pos (by omega)] at e2
   by_cases c2:i<x-(neq+1)
   ·rw[if_neg (by omega)] at e1
    subst e1
    exact .inl (h.cr i' j' c2 (by omega) (by omega))
   ·rw[if_pos (by omega)] at e1
    have:=h.tl j' i' (by omega) (by omega) (by omega)
    omega
 ·obtain⟨i',⟨k1,_⟩,e1⟩:=kcQ (i:=x-(neq+1)) hx i
  rw[k1]
  by_cases c2:i<x-(neq+1)
  ·rw[if_neg (by omega)] at e1
   subst e1
   have:=h.cr i' (x-1) c2 (by omega) (by omega)
   omega
  ·rw[if_pos (by omega)] at e1
   by_cases c3:i'=x-1
   ·rw[c3];exact Int.le_refl _
   ·have:=h.tl i' (x-1) (by omega) (by omega) (by omega)
    omega
 ·obtain⟨k',⟨k1,_⟩,e1⟩:=kcQ (i:=x-(neq+1)) hx k
  rw[if_neg (by omega)] at e1
  rw[k1,e1]
theorem Fl.plain{xs:Array Keyed}{x:Nat}(h:Fl a₀ xs x 0):Dn xs x∧(∀i,i<x→K xs (x-1)≤K xs i):=by
 have hf:=h.few
 refine⟨fun i j hij hj=>?_,fun i hi=>?_⟩
 ·by_cases c1:j<x-(0+1)
  ·exact h.hd i j hij c1
  ·exact .inl (h.cr i j (by omega) (by omega) hj)
 ·by_cases c3:i=x-1
  ·rw[c3];exact Int.le_refl _
  ·have:=h.cr i (x-1) (by omega) (by omega) (by omega)
   omega
theorem Fl.next{xs:Array Keyed}{x:Nat}(hd:Dn xs x)(hk:∀i,i<x→K xs x<K xs i)(hl:Lat a₀ xs x):Fl a₀ xs (x+1) 0:=
 ⟨by omega,fun i j h1 h2=>hd i j h1 (by omega),fun i j h1 h2 h3=>by
  have e:j=x:=by omega
  subst e
  exact hk i (by omega),fun i j h1 h2 h3=>by omega,hl.mono (by omega)⟩
theorem desc{st:SortSt}{n nrem:Nat}{Q:DescSt→SortSt→Prop}(h0:IntKeys a₀)(hn:nrem≤a₀.size)(hnn:n≤nrem)(hB:SBase a₀ st)(hs:Fl a₀ (arrOf st) n 0)
  (h:∀m neq st',SBase a₀ st'→n≤m→m≤nrem→Fl a₀ (arrOf st') m neq→Q (none,m,neq) st'):wpS (model prog w) A E s (descLoop n nrem) Q st:=by
 unfold descLoop
 refine wpS_forRange (I:=fun x c st'=>∃neq,c=(none,x,neq)∧SBase a₀ st'∧Fl a₀ (arrOf st') x neq) ?turn ?over ⟨0,rfl,hB,hs⟩
 case over=>
  rintro c st' ⟨neq,rfl,hB',f⟩
  rw[show max n nrem=nrem by omega] at f⊢
  exact h nrem neq st' hB' hnn (JK _) f
 case turn=>
  rintro x c st' hax hxn ⟨neq,rfl,hB',f⟩
  dsimp only
  have few:=f.few
  have sz:x≤(arrOf st').size:=by rw[hB'.size];omega
  refine wpS_bind (wpS_ltK hB' h0 (by omega) (by omega) ?_)
  by_cases c1:K (arrOf st') x<K (arrOf st') (x-1)
  ·simp only[c1,decide_true,if_true]
   by_cases c2:neq > 0
   ·rw[if_pos c2]
    obtain⟨d1,d2,d3,d4⟩:=f.turned sz
    refine wpS_bind (wpS_reverse (wpS_pure ⟨0,rfl,hB'.setArr (mirror_perm _ _ _ _),Fl.next d1 (fun i hi=>?_) d3⟩))
    have:=d2 i hi
    have e:=d4 x (JK _)
    show K (mirror (arrOf st') _ _ _) x<K (mirror (arrOf st') _ _ _) i
    omega
   ·rw[if_neg c2]
    have e:neq=0:=by omega
    subst e
    obtain⟨d1,d2⟩:=f.plain
    exact wpS_pure ⟨0,rfl,hB',Fl.next d1 (fun i hi=>by have:=d2 i hi;omega) f.lat⟩
  ·simp only[c1,decide_false,NM,if_false]
   refine wpS_bind (wpS_ltK hB' h0 (by omega) (by omega) ?_)
   by_cases c2:K (arrOf st') (x-1)<K (arrOf st') x
   ·simp only[c2,decide_true,if_true]
    exact wpS_pure (h x neq st' hB' hax (by omega) f)
   ·simp only[c2,decide_false,NM,if_false]
    have ek:K (arrOf st') x=K (arrOf st') (x-1):=by omega
    refine wpS_pure ⟨neq+1,rfl,hB',⟨by omega,?_,?_,?_,f.lat.mono (by omega)⟩⟩
    ·rw[show x+1-(neq+1+1)=x-(neq+1) by omega]
     exact f.hd
    ·rw[show x+1-(neq+1+1)=x-(neq+1) by omega]
     intro i j h1 h2 h3
     by_cases c3:j<x
     ·exact f.cr i j h1 h2 c3
     ·have e:j=x:=by omega
      subst e
      rw[ek]
      exact f.cr i (j-1) h1 (by omega) (by omega)
    ·rw[show x+1-(neq+1+1)=x-(neq+1) by omega]
     intro i j h1 h2 h3
     by_cases c3:j<x
     ·exact f.tl i j h1 h2 c3
     ·have e:j=x:=by omega
      subst e
      refine⟨?_,f.lat i j h2 (JK _) (by omega)⟩
      rw[ek]
      by_cases c4:i=j-1
      ·rw[c4]
      ·exact(f.tl i (j-1) h1 (by omega) (by omega)).1
theorem falls{st:SortSt}{n nrem:Nat}{Q:Option Nat→SortSt→Prop}(h0:IntKeys a₀)(hn:nrem≤a₀.size)(hnn:n+1≤nrem)(hB:SBase a₀ st)(hs:Fl a₀ (arrOf st) (n+1) 0)
  (h:∀m st',SBase a₀ st'→1≤m→m≤nrem→Up (arrOf st') m→Lat a₀ (arrOf st') m→Q (some m) st'):wpS (model prog w) A E s (descPart n nrem) Q st:=by
 unfold descPart
 refine wpS_bind (wpS_lift (wpAny_rule ⟨rfl,?_⟩))
 refine wpS_bind (desc h0 hn hnn hB hs fun m neq st' hB' hm1 hm2 f=>?_)
 dsimp only
 have sz:m≤(arrOf st').size:=by rw[hB'.size];omega
 by_cases c2:neq > 0
 ·rw[if_pos c2]
  obtain⟨d1,_,d3,_⟩:=f.turned sz
  exact wpS_bind (wpS_reverse (tail h0 hn (by omega) hm2 (hB'.setArr (mirror_perm _ _ _ _)) d1 d3 h))
 ·rw[if_neg c2]
  have e:neq=0:=by omega
  subst e
  exact tail h0 hn (by omega) hm2 hB' f.plain.1 f.lat h
theorem count{st:SortSt}{nrem:Nat}{Q:Option Nat→SortSt→Prop}(h0:IntKeys a₀)(hn:nrem≤a₀.size)(h1:1≤nrem)(hB:SBase a₀ st)(hl:Lat a₀ (arrOf st) 1)
  (h:∀m st',SBase a₀ st'→1≤m→m≤nrem→Up (arrOf st') m→Lat a₀ (arrOf st') m→Q (some m) st'):wpS (model prog w) A E s (countRun' 0 nrem) Q st:=by
 rw[countRun0_eq]
 refine wpS_bind (asc h0 hn (JK 1) h1 hB (fun i j hij hj=>by omega) hl fun n hn1 hn2 hu hor=>?_)
 dsimp only
 by_cases c1:n=nrem
 ·rw[if_pos (by simpa using c1)]
  exact wpS_pure (h n st hB hn1 hn2 hu (hl.mono hn1))
 ·rw [if_neg (by simpa using c1)]
  have lt:K (arrOf st) n<K (arrOf st) (n-1):=hor.resolve_left c1
  by_cases c2:n > 1
  ·rw [if_pos c2]
   refine wpS_bind (wpS_ltK hB h0 (by omega) (by omega) ?_)
   by_cases c3:K (arrOf st) 0<K (arrOf st) (n-1)
   ·simp only[c3,decide_true,if_true]
    exact wpS_pure (h n st hB hn1 hn2 hu (hl.mono hn1))
   ·simp only[c3,decide_false,NM,if_false]
    have sz:n≤(arrOf st).size:=by rw[hB.size];omega
    have same:∀i,i<n→K (arrOf st) i=K (arrOf st) (n-1):=fun i hi=>by
     by_cases z:i=0
     ·subst z
      have:=(hu 0 (n-1) (by omega) (by omega)).le
      omega
     ·have a1:=(hu 0 i (by omega) hi).le
      by_cases z2:i=n-1
      ·rw[z2]
      ·have a2:=(hu i (n-1) (by omega) (by omega)).le
       omega
    refine wpS_bind (wpS_reverse (falls h0 hn (by omega) (hB.setArr (mirror_perm _ _ _ _)) (Fl.next (fun i j hij hj=>?_) (fun i hi=>?_) (khQ sz (JK _) (hl.mono hn1))) h))
    ·show Lx (mirror (arrOf st) 0 n ((n-0)/2)) j i
     obtain⟨i',⟨k1,t1⟩,e1⟩:=kcQ (i:=0) sz i
     obtain⟨j',⟨k2,t2⟩,e2⟩:=kcQ (i:=0) sz j
     rw[if_pos (by omega)] at e1 e2
     have:=hu j' i' (by omega) (by omega)
     unfold Lx at this⊢
     rw[k1,k2,t1,t2]
     exact this
    ·show K (mirror (arrOf st) 0 n ((n-0)/2)) n<K (mirror (arrOf st) 0 n ((n-0)/2)) i
     obtain⟨i',⟨k1,_⟩,e1⟩:=kcQ (i:=0) sz i
     obtain⟨n',⟨k2,_⟩,e2⟩:=kcQ (i:=0) sz n
     rw[if_pos (by omega)] at e1
     rw[if_neg (by omega)] at e2
     subst e2
     rw[k1,k2,same i' (by omega)]
     exact lt
  ·rw[if_neg c2]
   have e:n=1:=by omega
   subst e
   refine falls h0 hn (by omega) hB (Fl.next (fun i j hij hj=>by omega) (fun i hi=>?_) hl) h
   have z:i=0:=by omega
   subst z
   exact lt
theorem insert{st:SortSt}{n ok:Nat}{Q:Bool→SortSt→Prop}(h0:IntKeys a₀)(hn:n≤a₀.size)(h1:1≤ok)(hok:ok≤n)(hB:SBase a₀ st)(hs:Up (arrOf st) ok)(hl:Lat a₀ (arrOf st) ok)
  (h:∀st',SBase a₀ st'→Up (arrOf st') n→Q true st'):wpS (model prog w) A E s (binarySort' 0 n ok) Q st:=by
 rw[binarySort'_eq]
 simp only[Nat.zero_add]
 refine wpS_bind (wpS_mono (wpS_forRange (I:=fun k c st'=>c=(none,())∧SBase a₀ st'∧Up (arrOf st') (min k n)∧Lat a₀ (arrOf st') (min k n)) (Q:=fun c st'=>c=(none,())∧SBase a₀ st'∧Up (arrOf st') n) ?turn ?over ?begin) ?behind)
 case behind=>
  rintro c st' ⟨rfl,hB',hu⟩
  exact wpS_pure (h st' hB' hu)
 case begin=>
  rw[show max ok 1=ok by omega,show min ok n=ok by omega]
  exact⟨rfl,hB,hs,hl⟩
 case over=>
  rintro c st' ⟨hc,hB',hu,_⟩
  refine⟨hc,hB',?_⟩
  rwa [show min (max (max ok 1) n) n=n by omega] at hu
 case turn=>
  rintro k c st' hak hkn ⟨rfl,hB',hu,hla⟩
  rw[show min k n=k by omega] at hu hla
  have hk:k<a₀.size:=by omega
  refine wpS_bind (wpS_mono (wpS_forRange (I:=fun x c st''=>st''=st'∧∃l r,c=(none,l,r)∧l≤r∧r≤k∧r-l≤k-x∧(∀i,i<l→K (arrOf st') i≤K (arrOf st') k)∧(∀i,r≤i→i<k→K (arrOf st') k<K (arrOf st') i))
   (Q:=fun c st''=>st''=st'∧∃l r,c=(none,l,r)∧l≤k∧(∀i,i<l→K (arrOf st') i≤K (arrOf st') k)∧(∀i,l≤i→i<k→K (arrOf st') k<K (arrOf st') i)) ?turn2 ?over2 ?begin2) ?behind2)
  case begin2=>exact⟨rfl,0,k,rfl,by omega,by omega,by omega,fun i hi=>by omega,fun i a b=>by omega⟩
  case over2=>
   rintro c st'' ⟨rfl,l,r,rfl,hlr,hrk,hm,lo,hi⟩
   have e:l=r:=by omega
   subst e
   exact⟨rfl,l,l,rfl,hrk,lo,hi⟩
  case turn2=>
   rintro x c st'' _ hxk ⟨rfl,l,r,rfl,hlr,hrk,hm,lo,hi⟩
   dsimp only
   by_cases c1:l≥r
   ·rw[if_pos c1]
    have e:l=r:=by omega
    subst e
    exact wpS_pure ⟨rfl,l,l,rfl,hrk,lo,hi⟩
   ·rw[if_neg c1]
    refine wpS_bind (wpS_ltK hB' h0 hk (by omega) ?_)
    by_cases c2:K (arrOf st'') k<K (arrOf st'') ((l+r)/2)
    ·simp only[c2,decide_true,if_true]
     refine wpS_pure ⟨rfl,l,(l+r)/2,rfl,by omega,by omega,by omega,lo,fun i a b=>?_⟩
     by_cases z:i=(l+r)/2
     ·rw[z];exact c2
     ·exact Int.lt_of_lt_of_le c2 (hu _ _ (by omega) b).le
    ·simp only[c2,decide_false,NM,if_false]
     refine wpS_pure ⟨rfl,(l+r)/2+1,r,rfl,by omega,by omega,by omega,fun i a=>?_,hi⟩
     by_cases z:i=(l+r)/2
     ·rw[z];omega
     ·exact Int.le_trans (hu i ((l+r)/2) (by omega) (by omega)).le (Int.not_lt.mp c2)
  case behind2=>
   rintro c st'' ⟨rfl,l,r,rfl,hlk,lo,hi⟩
   show wpS _ _ _ _ (do moveDown' k l;pure (ForInStep.yield (none,()))) _ _
   rw[moveDown'_eq]
   have hks:k<(arrOf st'').size:=by rw[hB'.size];exact hk
   refine wpS_bind (wpS_modify (wpS_pure ⟨rfl,hB'.setArr (bubble_perm _ _ _),?_,?_⟩))
   ·rw [show min (k+1) n=k+1 by omega]
    intro i j hij hj
    show Lx (bubble (arrOf st'') k (k-l)) i j
    obtain⟨i',⟨k1,t1⟩,e1⟩:=kiY hks (show k-l≤k by omega) i
    obtain⟨j',⟨k2,t2⟩,e2⟩:=kiY hks (show k-l≤k by omega) j
    rw[show k-(k-l)=l by omega] at e1 e2
    unfold Lx
    rw[k1,k2,t1,t2]
    by_cases z1:i=l
    ·rw[if_pos z1] at e1
     rw[if_neg (by omega),if_pos (by omega)] at e2
     subst e1
     exact .inl (hi j' (by omega) (by omega))
    ·rw[if_neg z1] at e1
     by_cases z2:j=l
     ·rw[if_pos z2] at e2
      rw[if_neg (by omega)] at e1
      subst e2
      have a1:=lo i' (by omega)
      have a2:=hla i' j' (by omega) (JK _) hk
      omega
     ·rw[if_neg z2] at e2
      refine hu i' j' ?_ ?_
      ·rw[e1,e2]
       repeat' split
       all_goals omega
      ·rw[e2]
       split <;> omega
   ·rw[show min (k+1) n=k+1 by omega]
    intro a b hab hkb hb
    show T (bubble (arrOf st'') k (k-l)) a<T (bubble (arrOf st'') k (k-l)) b
    obtain⟨a',⟨_,t1⟩,e1⟩:=kiY hks (show k-l≤k by omega) a
    obtain⟨b',⟨_,t2⟩,e2⟩:=kiY hks (show k-l≤k by omega) b
    rw[show k-(k-l)=l by omega] at e1 e2
    rw[if_neg (by omega),if_neg (by omega)] at e2
    subst e2
    rw[t1,t2]
    refine hla a' b' ?_ (by omega) hb
    rw[e1]
    repeat' split
    all_goals omega
def Done(a₀:Array Keyed)(st:SortSt):Prop:=(arrOf st).Perm a₀∧failedOf st=none∧pendingOf st= #[(0,a₀.size,0)]∧Up (arrOf st) a₀.size
theorem done{st:SortSt}(hB:SBase a₀ st)(hu:Up (arrOf st) a₀.size):Done a₀ (setPending st ((pendingOf st).push (0,a₀.size,0))):=⟨hB.perm,hB.failed,by show(pendingOf st).push _=_;rw[hB.pend];rfl,hu⟩
theorem runs{st:SortSt}{Q:Unit→SortSt→Prop}(h0:IntKeys a₀)(hB:SBase a₀ st)(h2:2≤a₀.size)(h64:a₀.size<64)(hl:Lat a₀ (arrOf st) 1)
  (h:∀st',(arrOf st').Perm a₀→failedOf st'=none→Up (arrOf st') a₀.size→Q () st'):wpS (model prog w) A E s sortRuns' Q st:=by
 rw[sortRuns'_eq]
 refine wpS_bind (wpS_get ?_)
 dsimp only
 have mr:minRun' a₀.size a₀.size 0=a₀.size:=by
  obtain⟨f,hf⟩:∃f,a₀.size=f+1:=⟨a₀.size-1,by omega⟩
  have z:minRun' (f+1) a₀.size 0=a₀.size:=by rw[minRun'_succ,if_pos h64];rfl
  rwa [←hf] at z
 simp only[hB.size,mr]
 refine wpS_bind (wpS_mono (wpS_forRange (I:=fun x c st'=>(x=0∧c=(none,0)∧st'=st)∨(1≤x∧c=(none,a₀.size)∧Done a₀ st')) (Q:=fun c st'=>c=(none,a₀.size)∧Done a₀ st') ?turn ?over (.inl ⟨rfl,rfl,rfl⟩)) ?behind)
 case over=>
  rintro c st' (⟨hx,_,_⟩|⟨_,hc,hD⟩)
  ·omega
  ·exact⟨hc,hD⟩
 case turn=>
  rintro x c st' _ hx (⟨rfl,rfl,rfl⟩|⟨hx1,rfl,hD⟩)
  ·dsimp only
   rw[if_neg (by omega)]
   simp only[Nat.sub_zero,Mt,Nat.zero_add]
   refine wpS_bind (count h0 (JK _) (by omega) hB hl fun m st2 hB2 hm1 hm2 hu2 hl2=>?_)
   dsimp only
   by_cases c1:m<a₀.size
   ·rw[if_pos c1]
    refine wpS_bind (wpS_lift (wpAny_rule ⟨rfl,?_⟩))
    refine wpS_bind (insert h0 (JK _) hm1 hm2 hB2 hu2 hl2 fun st3 hB3 hu3=>?_)
    simp only[Bool.not_true,NM,if_false]
    refine wpS_bind (wpS_get ?_)
    have hb:(pendingOf st3).back?=none:=by rw[hB3.pend];rfl
    rw[hb]
    dsimp only
    exact wpS_bind (wpS_modify (wpS_pure (.inr ⟨by omega,rfl,done hB3 hu3⟩)))
   ·rw[if_neg c1]
    have e:m=a₀.size:=by omega
    subst e
    refine wpS_bind (wpS_get ?_)
    have hb:(pendingOf st2).back?=none:=by rw[hB2.pend];rfl
    rw[hb]
    dsimp only
    exact wpS_bind (wpS_modify (wpS_pure (.inr ⟨by omega,rfl,done hB2 hu2⟩)))
  ·dsimp only
   rw[if_pos (JK _)]
   exact wpS_pure ⟨rfl,hD⟩
 case behind=>
  rintro c st' ⟨rfl,hD⟩
  dsimp only
  refine wpS_bind (wpS_mono (wpS_forRange (I:=fun _ c st''=>st''=st'∧c=(none,())) (Q:=fun c st''=>st''=st'∧c=(none,())) ?_ (fun _ _ z=>z) ⟨rfl,rfl⟩) ?_)
  ·rintro x c st'' _ _ ⟨rfl,rfl⟩
   refine wpS_bind (wpS_get ?_)
   rw[if_pos (by rw[hD.2.2.1];exact JK 1)]
   exact wpS_pure ⟨rfl,rfl⟩
  ·rintro c st'' ⟨rfl,rfl⟩
   exact wpS_pure (h _ hD.1 hD.2.1 hD.2.2.2)
end
end Stb
namespace Stb
open PySem PyProof.Rows
structure SJ (J:Shared→Prop) (n0:Nat):Prop where
 sz:∀s,J s→n0≤s.heap.objs.size
 push:∀s c xs n,J s→J {s with heap:=s.heap.push (seqObj c xs n)}
 upd:∀s b g,J s→n0≤b→J {s with heap:=s.heap.update b (Obj.mapSeq g)}
def Tells(J:Shared→Prop)(n0:Nat)(k:Int)(s:Shared)(v:Value)(s':Shared):Prop:=(∃t,v=.int k t)∧J s'∧∀b o,n0≤b→s.heap.get? b=some o→s'.heap.get? b=some o
def Rows(keys:Array Value)(vs:List Value)(out:Array Value):Prop:=∃xs:Array Keyed,xs.Perm (keys.zip vs.toArray)∧Up xs xs.size∧out=xs.map (·.2)
section
variable {prog:Program} {w:World} {A:Around} {E:Value→Shared→Prop} {s:Shared} {J:Shared→Prop} {n0:Nat} {a kS:Addr} {vs:List Value} {kz:List Int} {keys:Array Value} {e e1:Nat} {P:PySem.Fin→Shared→Prop}
theorem tailK(S:SJ J n0)(hJ:J s)(hk:s.heap.get? kS=some (seqObj "list" keys e))(ha:s.heap.get? a=some (seqObj "list" #[] e1))(ne:kS≠a)(nk:n0≤kS)(na:n0≤a){st:SortSt}(hz:keys.size≤64)(hp:(arrOf st).Perm (keys.zip vs.toArray))(hu:Up (arrOf st) (arrOf st).size)
  (hf:failedOf st=none) (hv:vs.length≤64) (h:∀h' out c,J {s with heap:=h'}→h'.get? a=some (seqObj "list" out c)→Rows keys vs out→P (.done (.ret .none)) {s with heap:=h'}):wpAny (model prog w) A (ksk_tail a false e1 (.ref kS) st) P E s:=by
 have sz2:(arrOf st).size≤64:=by
  have hvs:vs.toArray.size=vs.length:=by simp
  rw[hp.size_eq,M8]
  omega
 have q1:=Heap.SameBut.update s.heap kS (Obj.mapSeq fun _=>(#[]:Array Value))
 have g1:(s.heap.update kS (Obj.mapSeq fun _=>(#[]:Array Value))).get? a=some (seqObj "list" #[] e1):=(q1.2 a ne.symm).trans ha
 have J1:=S.upd s kS (fun _=>#[]) hJ nk
 have J2:=S.upd _ a (fun _=>(arrOf st).map (·.2)) J1 na
 unfold ksk_tail
 try dsimp only
 refine wpAny_bind (listUpdate_at hk rfl ?_ (by rw[sizeLine_eq];omega) (Nr _))
 refine wpAny_bind (wpAny_letGo ?_)
 refine wpAny_bind (seqEpoch_at g1 rfl ?_)
 refine wpAny_bind (listUpdate_at g1 rfl ?_ (Nr _) (by simp only[NM,if_false,Array.size_map];rw[sizeLine_eq];omega))
 rw[hf]
 simp only[bne_self_eq_false,NM,if_false]
 exact wpAny_pure (h _ _ _ J2 (get?_update_seq g1 fun _=>(arrOf st).map (·.2)) ⟨arrOf st,hp,hu,rfl⟩)
theorem zip_T{keys:Array Value}{vs:List Value}{i:Nat}(hl:keys.size=vs.length):T (keys.zip vs.toArray) i=match vs[i]? with|some v=>numOf v|none=>0:=by
 unfold T
 have hvs:vs.toArray.size=vs.length:=by simp
 cases ev:vs[i]? with
 |none=>
  have hi:vs.length≤i:=List.getElem?_eq_none_iff.mp ev
  have e:(keys.zip vs.toArray)[i]?=none:=Array.getElem?_eq_none (by rw[M8];omega)
  rw[e]
 | some v=>
  have hi:i<vs.length:=(JX.mp ev).1
  have hz:i<(keys.zip vs.toArray).size:=by rw[M8];omega
  have ev':vs[i]=v:=by
   rw[N1 hi] at ev
   exact Option.some.inj ev
  have e:(keys.zip vs.toArray)[i]?=some (keys[i]'(by omega),vs[i]):=by
   rw[EA hz]
   simp
  rw[e,ev']
theorem endK(S:SJ J n0)(hJ:J s)(hk:s.heap.get? kS=some (seqObj "list" keys e))(ha:s.heap.get? a=some (seqObj "list" #[] e1))(ne:kS≠a)(nk:n0≤kS)(na:n0≤a)(hi:IntsAre keys.toList kz)(hl:keys.size=vs.length)(h64:vs.length<64)
  (up:∀(i j:Nat)(x y:Value),i<j→vs[i]?=some x→vs[j]?=some y→numOf x<numOf y)
  (h:∀h' out c,J {s with heap:=h'}→h'.get? a=some (seqObj "list" out c)→Rows keys vs out→P (.done (.ret .none)) {s with heap:=h'}):wpAny (model prog w) A (ksk_end a false vs.toArray e1 (.ref kS) keys) P E s:=by
 have hvs:vs.toArray.size=vs.length:=by simp
 have zs:(keys.zip vs.toArray).size=vs.length:=by rw[M8];omega
 unfold ksk_end
 try dsimp only
 simp only[NM,if_false]
 by_cases h2:vs.toArray.size<2
 ·rw[if_pos h2,if_pos h2]
  refine wpAny_bind (wpAny_pure ?_)
  rw[StateT.run_pure]
  refine wpAny_bind (wpAny_pure ?_)
  try dsimp only
  refine tailK (st:=SortSt.mk' general' (keys.zip vs.toArray) #[] 7 none) S hJ hk ha ne nk na (by omega) (Array.Perm.refl _) ?_ rfl (by omega) h
  intro i j hij hj
  have hj2:j<(keys.zip vs.toArray).size:=hj
  rw[zs] at hj2
  rw[Nd] at h2
  omega
 ·rw[if_neg h2,if_neg h2]
  rw[Nd] at h2
  rw[ksk_kind hi (by rw[hl];omega)]
  refine wpAny_bind (wpAny_pure ?_)
  have lat:Lat (keys.zip vs.toArray) (keys.zip vs.toArray) 1:=fun i j hij _ hj=>by
   rw[zs] at hj
   rw[zip_T hl,zip_T hl,N1 (show i<vs.length by omega),N1 hj]
   exact up i j _ _ hij (N1 (show i<vs.length by omega)) (N1 hj)
  refine wpAny_bind (wpAny_mono (runs (a₀:=keys.zip vs.toArray) (st:=SortSt.mk' oneType' (keys.zip vs.toArray) #[] 7 none) (Q:=fun _ st'=>(arrOf st').Perm (keys.zip vs.toArray)∧failedOf st'=none∧Up (arrOf st') (keys.zip vs.toArray).size)
   (ksk_intKeys hi) ⟨Array.Perm.refl _,rfl,rfl,rfl⟩ (by rw[zs];omega) (by rw[zs];exact h64) lat fun st' b1 b2 b3=>⟨b1,b2,b3⟩) ?_ fun _ _ z=>z)
  rintro⟨⟨⟩,st'⟩ s' ⟨rfl,b1,b2,b3⟩
  try dsimp only
  exact tailK S hJ hk ha ne nk na (by omega) b1 (by rw[b1.size_eq];exact b3) b2 (by omega) h
theorem restK{f:Value}(S:SJ J n0)(hJ:J s)(hk:s.heap.get? kS=some (seqObj "list" #[] 0))(ha:s.heap.get? a=some (seqObj "list" #[] e1))(ne:kS≠a)(nk:n0≤kS)(na:n0≤a)(hl:kz.length=vs.length)(h64:vs.length<64)
  (up:∀(i j:Nat)(x y:Value),i<j→vs[i]?=some x→vs[j]?=some y→numOf x<numOf y)
  (turn:∀(i:Nat)(v:Value)(k:Int),vs[i]?=some v→kz[i]?=some k→∀s',J s'→wpAny (model prog w) A (call f [v]) (Tells J n0 k s') (fun _ _=>False) s')
  (h:∀s' keys out c,J s'→s'.heap.get? a=some (seqObj "list" out c)→IntsAre keys.toList kz→keys.size=vs.length→Rows keys vs out→P (.done (.ret .none)) s'):wpAny (model prog w) A (ksk_rest a f false vs.toArray e1 (.ref kS)) P E s:=by
 unfold ksk_rest
 refine wpAny_bind (wpAny_rule ?_)
 first
  |rw[List.forIn_toArray]
  |rw[←Array.forIn_toList]
 refine wpAny_bind (ksk_fold (fun i s'=>J s'∧∃kA e,s'.heap.get? kS=some (seqObj "list" kA e)∧s'.heap.get? a=some (seqObj "list" #[] e1)∧IntsAre kA.toList (kz.take i)) vs 0 s ⟨hJ,#[],0,hk,ha,by simpa using IntsAre.nil⟩ ?turnP ?doneP)
 case turnP=>
  rintro j x s' hx ⟨J',kA,e,g1,g2,hi⟩
  simp only[Nat.zero_add] at hi⊢
  have hj:j<vs.length:=(JX.mp hx).1
  obtain⟨k,ek⟩:∃k,kz[j]?=some k:=⟨_,N1 (by omega)⟩
  have lz:kA.size≤vs.length:=by
   have h1:=hi.length
   rw[My,Na] at h1
   omega
  refine wpAny_bind (wpAny_attempt (wpAny_mono (turn j x k hx ek s' J') (fun v s'' hT=>?_) fun _ _ z=>z.elim))
  obtain⟨⟨t,rfl⟩,J2,kp⟩:=hT
  try dsimp only
  have g1':=kp _ _ nk g1
  have g2':=kp _ _ na g2
  have q1:=Heap.SameBut.update s''.heap kS (Obj.mapSeq (·.push (.int k t)))
  refine wpAny_bind (listUpdate_at g1' rfl ?_ (by rw[sizeLine_eq];omega) (JN (MX (Array.size_push ..)) (by rw[sizeLine_eq];omega)))
  have et:kz.take (j+1)=kz.take j++[k]:=by rw[N8,ek];simp
  have ep:(kA.push (Value.int k t)).toList=kA.toList++[Value.int k t]:=by simp
  exact wpAny_pure ⟨rfl,S.upd _ kS _ J2 nk,kA.push (.int k t),_,get?_update_seq g1' (·.push (.int k t)),(q1.2 a ne.symm).trans g2',by rw[ep,et];exact ksk_snoc hi⟩
 case doneP=>
  rintro s' ⟨J',kA,e,g1,g2,hi⟩
  have e3:kz.take (0+vs.length)=kz:=Md (by omega)
  rw[e3] at hi
  have lk:kA.size=vs.length:=by
   have:=hi.length
   rw[My] at this
   omega
  try dsimp only
  refine wpAny_bind (listItems_at g1 rfl ?_)
  exact endK S J' g1 g2 ne nk na hi lk h64 up fun h' out c z1 z2 z3=>h _ kA out c z1 z2 hi lk z3
theorem sortK{f:Value}{n:Nat}(S:SJ J n0)(hJ:J s)(ho:s.heap.get? a=some (seqObj "list" vs.toArray n))(na:n0≤a)(hl:kz.length=vs.length)(h64:vs.length<64)
  (up:∀(i j:Nat)(x y:Value),i<j→vs[i]?=some x→vs[j]?=some y→numOf x<numOf y)
  (turn:∀(i:Nat)(v:Value)(k:Int),vs[i]?=some v→kz[i]?=some k→∀s',J s'→wpAny (model prog w) A (call f [v]) (Tells J n0 k s') (fun _ _=>False) s')
  (h:∀s' keys out c,J s'→s'.heap.get? a=some (seqObj "list" out c)→IntsAre keys.toList kz→keys.size=vs.length→Rows keys vs out→P (.done (.ret .none)) s'):wpAny (model prog w) A (ksk_tree a f false) P E s:=by
 have la:a<s.heap.objs.size:=Heap.lt_size ho
 have J1:=S.upd s a (fun _=>#[]) hJ na
 have J2:=S.push _ "tuple" vs.toArray 0 J1
 have J3:=S.push _ "list" #[] 0 J2
 obtain⟨e1,g1⟩:∃e1,(s.heap.update a (Obj.mapSeq fun _=>(#[]:Array Value))).get? a=some (seqObj "list" #[] e1):=⟨_,get?_update_seq ho fun _=>#[]⟩
 have sz:((s.heap.update a (Obj.mapSeq fun _=>(#[]:Array Value))).push (seqObj "tuple" vs.toArray 0)).objs.size=s.heap.objs.size+1:=by rw[size_push',Heap.size_update]
 have n0s:=S.sz s hJ
 unfold ksk_tree
 refine wpAny_bind (listItems_at ho rfl ?_)
 refine wpAny_bind (listUpdate_at ho rfl ?_ (by rw[Nd,sizeLine_eq];omega) (Nr _))
 refine wpAny_bind (seqEpoch_at g1 rfl ?_)
 refine wpAny_bind (wpAny_newTuple ?_ (by show vs.length≤_;rw[sizeLine_eq];omega))
 refine wpAny_bind (wpAny_newList ?_ (Nr _))
 refine wpAny_holding ?_
 refine restK (s:={s with heap:=((s.heap.update a (Obj.mapSeq fun _=>(#[]:Array Value))).push (seqObj "tuple" vs.toArray 0)).push (seqObj "list" #[] 0)}) (kS:=((s.heap.update a (Obj.mapSeq fun _=>(#[]:Array Value))).push (seqObj "tuple" vs.toArray 0)).objs.size)
  S J3 (Heap.get?_push_size _ rfl) (Heap.get?_push_of_some _ (Heap.get?_push_of_some _ g1)) (by rw[sz];exact NW (Nat.lt_succ_of_lt la)) (by rw[sz];omega) na hl h64 up turn h
end
section
variable {prog:Program} {w:World} {A:Around} {E:Value→Shared→Prop} {s:Shared} {J:Shared→Prop} {n0:Nat} {vs:List Value} {kz:List Int} {Q:Value→Shared→Prop}
theorem sortedK{l f:Addr}(S:SJ J n0)(hJ:J s)(hL:s.heap.IsList l vs.toArray)(hl:kz.length=vs.length)(h64:vs.length<64)
  (up:∀(i j:Nat)(x y:Value),i<j→vs[i]?=some x→vs[j]?=some y→numOf x<numOf y)
  (turn:∀(i:Nat)(v:Value)(k:Int),vs[i]?=some v→kz[i]?=some k→∀s',J s'→wpAny (model prog w) A.in1.in1 (call (.ref f) [v]) (Tells J n0 k s') (fun _ _=>False) s')
  (h:∀s' D keys out c,n0≤D→J s'→s'.heap.get? D=some (seqObj "list" out c)→IntsAre keys.toList kz→keys.size=vs.length→Rows keys vs out→Q (.ref D) s'):wpAny (model prog w) A (call (.builtin "sorted") [.ref l] [(Str.ofString "key", .ref f)]) Q E s:=by
 refine call_function_entry_kw kind_sorted plain_sorted entry_sorted (ksk_s1 _ _) ?_
 unfold Builtin.«sorted»
 refine wpAny_bind (m:=checkCount "sorted" 1 1 _) (wpAny_pure ?_)
 refine wpAny_bind (collect_list hL ?_ (by rw[sizeLine_eq];omega))
 refine wpAny_bind (wpAny_newList ?_ (by rw[sizeLine_eq];omega))
 have n0s:=S.sz s hJ
 have J1:=S.push s "list" #[] 0 hJ
 have J2:=S.upd _ s.heap.objs.size (· ++vs.toArray) J1 n0s
 have J3:=S.push _ "list" vs.toArray 0 J2
 have sz:((s.heap.push (seqObj "list" #[] 0)).update s.heap.objs.size (Obj.mapSeq (· ++vs.toArray))).objs.size=s.heap.objs.size+1:=by rw[Heap.size_update,size_push']
 have g1:(((s.heap.push (seqObj "list" #[] 0)).update s.heap.objs.size (Obj.mapSeq (· ++vs.toArray))).push (seqObj "list" vs.toArray 0)).get? (s.heap.objs.size+1)=some (seqObj "list" vs.toArray 0):=by
  rw[←sz]
  exact Heap.get?_push_size _ rfl
 show wpAny _ _ _ _ _ {s with heap:=((s.heap.push (seqObj "list" #[] 0)).update s.heap.objs.size (Obj.mapSeq (· ++vs.toArray))).push (seqObj "list" vs.toArray 0)}
 rw[sz]
 refine wpAny_bind (wpAny_holding (wpAny_call_entry_kw slot_list_sort ⟨_,g1,rfl⟩ entry_list_sort ?inner (ksk_l1 _ _)))
 case inner=>
  show wpAny (model prog w) A.in1.in1 (Builtin.«list.sort» ⟨[.ref (s.heap.objs.size+1)],[(Str.ofString "key", .ref f)]⟩) _ _ _
  rw[ksk_t1]
  refine sortK (s:={s with heap:=((s.heap.push (seqObj "list" #[] 0)).update s.heap.objs.size (Obj.mapSeq (· ++vs.toArray))).push (seqObj "list" vs.toArray 0)}) S J3 g1 (by omega) hl h64 up turn fun s' keys out c z1 z2 z3 z4 z5=>⟨_,rfl,?_⟩
  exact wpAny_pure ⟨_,rfl,h s' _ keys out c (by omega) z1 z2 z3 z4 z5⟩
end
end Stb
namespace L2
open PySem PySem.Spec PyProof.Rows
structure kdP (X:Cx) (scope:Scope) (x:Str) (N:List Str) (cap:List (Option Nat)):Prop where
 S:CompScope X scope N (none::cap)
 hd:N[0]?=some x
 par:scope.names.lookup x=some .local
 co:scope.isCoroutine=false
 gen:scope.isGenerator=false
 nocell:∀y∈scope.names,y.2≠.cell
abbrev kky(X:Cx)(scope:Scope)(qual:Str)(L f c:Addr):Env:=PySem.W.envX qual scope L f (.ref c) (closL X.env.cells scope.names [])
def cxL(X:Cx)(A:Around)(scope:Scope)(N:List Str)(qual:Str)(f c:Addr)(s:Shared)(H:Hp):Cx:=
 {X with A:=A.deeper (kky X scope qual s.heap.objs.size f c),N:=N,s₀:=s,H₀:=H,env:=kky X scope qual s.heap.objs.size f c,outer:=X.stack,stack:=kky X scope qual s.heap.objs.size f c::X.stack,ex:=[],fn:=fun _=>false,calm:=true,pn:=[],xe:=fun _ _=>False}
section
variable {X:Cx} {A:Around} {scope:Scope} {x:Str} {N:List Str} {cap:List (Option Nat)} {pins:List (Addr×Obj)} {σ:St} {H:Hp} {s s1:Shared} {qual:Str} {f c:Addr}
theorem kc2(S:kdP X scope x N cap)(I:Inv X pins σ H s){y:Str}{a:Addr}(h:(closL X.env.cells scope.names []).lookup y=some a):X.env.cells.lookup y=some a:=by
 rcases kex _ _ h with⟨h1,h2⟩|h1
 ·obtain⟨a',ea⟩:=I.ok.has y (S.S.free _ h1 rfl)
  rw[ea] at h2
  rw[h2]
  exact ea
 ·cases h1
theorem km4(S:kdP X scope x N cap)(I:Inv X pins σ H s)(hfr:A.frames=some X.stack)(hh:A.handled=none){v:V}{u:Value}(r:RelV v u){h1:Heap}{t:Nat}(hns:h1.Ns s.heap.objs.size fun y=>[(x,u)].reverse.lookup y)(hk:∀b o,s.heap.get? b=some o→h1.get? b=some o):
  Inv (cxL X A scope N qual f c s H) [] (some v::capσ cap σ) H {s with heap:=h1,toks:=t}:=by
 have noA:∀b:Addr,b∉(cxL X A scope N qual f c s H).ex:=fun b z=>absurd (show b∈([]:List Addr) from z) (by simp)
 have od:∀{y:Str}{a:Addr},X.env.cells.lookup y=some a→a<s.heap.objs.size:=fun {y a} h=>let⟨_,q⟩:=I.cell y a h;q.lt
 refine⟨⟨I.ok.mod,S.S.kind,rfl,rfl,JK _,fun y z a e1 e2=>I.ok.inj y z a (kc2 S I e1) (kc2 S I e2),fun y hy=>?_,fun y a e1 _=>?_,fun _=>hh,Around.frames_deeper hfr, .inr ⟨rfl,rfl⟩,fun b z=>absurd z (noA b),I.bs,JN I.ok.bsz I.sz,fun b _ _=>noA b,fun b z=>absurd z (noA b),I.stack,I.stkFree⟩,
  rfl,I.bare,Un.kept hk,⟨_,hns,fun j y w e1 e2 e3=>?_⟩,fun y a e=>?_,I.hok.fresh (JK _),fun y a e=>I.freeC y a (kc2 S I e),fun p hp=>absurd (show p∈([]:List (Addr×Obj)) from hp) (by simp),I.hok.kept hk,?_⟩
 ·have hy':scope.names.lookup y=some .cell∨scope.names.lookup y=some .free:=hy
  rcases hy' with q|q
  ·exact absurd rfl (S.nocell _ (PySem.mem_of_lookup q))
  ·exact kc5 (cells:=X.env.cells) scope.names [] (.inl (PySem.mem_of_lookup q))
 ·cases(show false=true from e1)
 ·cases j with
  | zero=>
   have ex:y=x:=by
    have e1':N[0]?=some y:=e1
    rw[S.hd] at e1'
    exact(Option.some.inj e1').symm
   have ev:w=v:=by
    have e2':some (some v)=some (some w):=e2
    exact(Option.some.inj (Option.some.inj e2')).symm
   subst ex ev
   refine⟨u,r, .inl ⟨S.par,?_⟩⟩
   simp
  | succ j=>
   have e2':(capσ cap σ)[j]?=some (some w):=by simpa using e2
   have e2'':(cap.map fun o=>match o with|some i=>(σ[i]?).getD none|none=>none)[j]?=some (some w):=e2'
   rw[JU] at e2''
   cases ec:cap[j]? with
   |none=>rw[ec] at e2'';cases e2''
   | some oi=>
    rw[ec] at e2''
    cases oi with
    |none=>cases e2''
    | some i=>
     have e4:(σ[i]?).getD none=some w:=Option.some.inj e2''
     have e5: σ[i]?=some (some w):=by
      cases q: σ[i]? with
      |none=>rw[q] at e4;cases e4
      |some w'=>rw[q] at e4;exact congrArg some e4
     obtain⟨q1,hf,_⟩:=S.S.cap (j+1) i y (by simpa using ec) e1
     have hm:=PySem.mem_of_lookup hf
     have q2:=S.S.free _ hm rfl
     obtain⟨mo,_,hl⟩:=I.loc
     obtain⟨u',ru,lk⟩:=hl i y w q1 e5 (.inr q2)
     refine⟨u',ru, .inr ⟨.inr hf,?_⟩⟩
     rcases lk with⟨k1,_⟩|⟨_,a,ea,z⟩
     ·have k1':X.env.scope.names.lookup y=some .local:=k1
      rcases q2 with q2|q2 <;> rw[q2] at k1' <;> cases k1'
     ·obtain⟨a',ea2⟩:=kc5 (cells:=X.env.cells) scope.names [] (.inl hm)
      have e6:=kc2 S I ea2
      rw[ea] at e6
      have e7:a=a':=Option.some.inj e6
      subst e7
      obtain⟨oc,ho,hd⟩:=z
      exact⟨a,ea2,oc,hk _ _ ho,hd⟩
 ·obtain⟨w,oc,ho,hd⟩:=I.cell y a (kc2 S I e)
  exact⟨w,oc,hk _ _ ho,hd⟩
 ·have:=S.S.len
  show(some v::capσ cap σ).length=N.length
  rw[←this,Ny,Ny]
  unfold capσ
  rw[JJ]
theorem klH{name:Str}{params:Arguments}{body:Expr}{pm ctv:Value}{te:TE}{v:V}{u:Value}{Q:VK}(S:kdP X scope x N cap)(I:Inv X pins σ H s)(hfr:A.frames=some X.stack)(hh:A.handled=none)(hdp:A.depth<recursionLimit)
  (ho:s.heap.get? f=some (M9 name qual params body scope (closL X.env.cells scope.names []) pm c ctv)) (hcd:s.heap.CodeRec (.ref c) qual)
  (hbind:bindArgs (PySem.W.kla_fn name qual params body scope (closL X.env.cells scope.names []) pm (.ref c) ctv) ⟨[u],[]⟩=pure [(x,u)]) (r:RelV v u) (he:PE (cxL X A scope N qual f c s H) body te) (hq:te (some v::capσ cap σ) H Q):
  wpAny (model X.prog X.w) A (call (.ref f) [u]) (fun w' s'=>∃v' H',Inv X pins σ H' s'∧RelV v' w'∧Q v' H'∧Un (frs X.stack) [] H H' s.heap s'.heap∧s.heap.objs.size≤s'.heap.objs.size) (fun _ _=>False) s:=by
 refine wpAny_call (PySem.W.kla_callFunE hdp ho rfl S.co S.gen rfl hcd ?_)
 rw[hbind]
 refine wpAny_pure (wpAny_newFunctionEnv S.nocell (fun y hy=>?_) (fun h1 hns hsb=>⟨I.nolimit.fresh _ hsb,?_⟩) S.S.kind)
 ·rw[NT] at hy
  subst hy
  exact S.par
 have hk:∀b o,s.heap.get? b=some o→h1.get? b=some o:=fun b o e=>hsb.extBut b o (Nj (Heap.lt_size e)) (Heap.get?_push_of_some _ e)
 have J:=km4 (A:=A) (qual:=qual) (f:=f) (c:=c) (t:=s.toks+1) S I hfr hh r hns hk
 refine PySem.W.kla_codeExpr (wpAny_mono (he [] _ _ _ Q J hq) (fun w' s' hw=>?_) fun _ _ z=>z.elim)
 obtain⟨v',H',J',rv,qv⟩:=hw
 exact⟨v',H',I.call' (ch:=[]) J'.os J'.base J'.hok J'.bare (fun b hb=>by simp at hb),rv,qv,J'.base,J'.sz⟩
end
end L2
namespace L2
open PySem PySem.Spec PyProof.Rows
def CodeO(c:Addr)(qual:Str):HO:=.ext fun h=>h.CodeRec (.ref c) qual
def lamQ:Str:="falling_groups.<locals>.<lambda>"
def TbAt(P:Addr)(H:Hp):Prop:=∃ps:Array Value,H P=some (.tbl ps)∧TriplesOk ps.toList∧∀pos c,codeAmong pos ps.toList=some c→∃c',c=.ref c'∧H c'=some (CodeO c' lamQ)
structure Grew (P:Addr) (H H':Hp):Prop where
 kp:∀b o,b≠P→H b=some o→H' b=some o
 tb:TbAt P H'
theorem kld{pos:Pos}{a b:Int}{c:Value}(l:List Value)(h:TriplesOk l){x:Value}(e:codeAmong pos (l++[rawInt a,rawInt b,c])=some x):codeAmong pos l=some x∨x=c:=by
 fun_induction TriplesOk l with
 |case1=>
  right
  unfold rawInt codeAmong at e
  simp only[NH] at e
  split at e
  ·exact(Option.some.inj e).symm
  ·simp[codeAmong] at e
 | case2 n t m u d rest ih=>
  simp only[MO,codeAmong] at e⊢
  split at e
  ·left
   rename_i hc
   rw[if_pos hc]
   exact e
  ·rename_i hc
   rw[if_neg hc]
   exact ih h e
 |case3=>exact h.elim
def CodeK(K:JL)(c P:Addr):Prop:=
 ∃o vs file tf flags tg inF text tt,K.lookup c=some o∧o.cls=.type "code"∧o.data=.fields vs∧vs[11]?=some (.ref P)∧vs.getD 11 .none=.ref P∧vs.getD 18 .none=.str file tf∧vs.getD 7 .none=.int flags tg∧vs.getD 9 .none=.bool inF∧vs.getD 10 .none=.int text tt∧c≠P
def CodeK.hd{K:JL}{c P:Addr}{h:Heap}(x:CodeK K c P)(X:K.In h):PySem.W.CodeHd h c P:=by
 obtain⟨o,vs,file,tf,flags,tg,inF,text,tt,e,r⟩:=x
 exact⟨o,vs,file,tf,flags,tg,inF,text,tt,X _ _ e,r⟩
def BltM(mg:Str→Option Value)(base:Heap):Prop:=∃bm ob,mg "__builtins__"=some (.ref bm)∧bm≠builtinsNs∧base.get? bm=some ob∧ob.cls=.type "module"∧ob.dict=some builtinsNs∧ob.data=.plain
section
variable {X:Cx} {scope:Scope} {x:Str} {N:List Str} {cap:List (Option Nat)} {pins:List (Addr×Obj)} {σ:St} {H:Hp} {s:Shared} {c0 P:Addr} {params:Arguments} {body:Expr} {lpos:Pos}
theorem klG{E:Value→Shared→Prop}{Q:Value→Shared→Prop}(S:kdP X scope x N cap)(I:Inv X pins σ H s)(hcode:X.env.code=.ref c0)(CK:CodeK X.K c0 P)(hB:BltM X.mg X.base)(TB:TbAt P H)(hq:X.env.qual++ "<lambda>"=lamQ)(hdef:defaultsOf params X.env=([],[]))
  (h:∀(s':Shared)(H':Hp)(f c:Addr)(pm ctv:Value),Inv X pins σ H' s'→Grew P H H'→s'.heap.get? f=some (M9 "<lambda>" lamQ params body scope (closL X.env.cells scope.names []) pm c ctv)→H' f=none→s.heap.objs.size≤f→(∀b,s.heap.objs.size≤b→s'.heap.objs.size≤b→H' b=none)→H' c=some (CodeO c lamQ)→Q (.ref f) s'):
  wpAny (model X.prog X.w) X.A (eval (.Lambda params body scope lpos) X.env) Q E s:=by
 obtain⟨ps,eP,ht,hor⟩:=TB
 have hP:s.heap.get? P=some (Ea ps):=(show ObjOk X.prog X.w H s.heap P (.tbl ps) from I.hok P _ eP)
 have hg:=I.mod.glob.keeps I.bk
 have nbP:∀b o,X.base.get? b=some o→b≠P:=fun b o e z=>by
  have:=(I.bs b o e).2
  rw[z,eP] at this
  cases this
 have hgP:mainGlobals≠P:=by
  obtain⟨o,_,_,e,_⟩:=I.mod.glob
  exact nbP _ o e
 have hb:s.heap.BuiltinsAt X.mg P:=by
  obtain⟨bm,ob,b1,b2,b3,b4,b5,b6⟩:=hB
  refine⟨bm,ob,b1,b2,fun z=>?_,nbP _ ob b3,I.bk _ _ b3,b4,b5,b6⟩
  obtain⟨o,es,ep,e,hd,_⟩:=I.mod.glob
  rw[←z,b3] at e
  cases e
  rw[b6] at hd
  cases hd
 have CH:=CK.hd I.kIn
 refine PySem.W.kla_eval hdef ?_
 rw[hq]
 cases hor':codeAmong lpos ps.toList with
 | none=>
  have hnf:=hor'
  refine PySem.W.kla_makeFunction (mg:=X.mg) (kc4 S.S I) I.ok.glob hg hcode CH hP ht hnf hgP hb fun c' ctv h' tk hx hge hlt hrec htb=>?_
  have hc0:H c'=none:=I.hok.fresh hge
  have nPc:P≠c':=kai eP hc0
  have szP:P<s.heap.objs.size:=Heap.lt_size hP
  generalize hob:M9 "<lambda>" lamQ params body scope (closL X.env.cells scope.names []) ((X.mg "__name__").getD .none) c' ctv=ob
  have k2:∀b o,b≠P→s.heap.get? b=some o→(h'.push ob).get? b=some o:=fun b o hbp e=>Heap.get?_push_of_some _ (hx b o hbp e)
  have nN:∀{b:Addr},H b=none→b≠P:=fun {b} n z=>by rw[z,eP] at n;cases n
  have at2:∀{b:Addr},b≠P→b≠c'→(upd (upd H P (.tbl (ps++ #[rawInt lpos.line,rawInt lpos.col, .ref c']))) c' (CodeO c' lamQ)) b=H b:=fun {b} h1 h2=>by rw[kak h2,kak h1]
  have eP2:(upd (upd H P (.tbl (ps++ #[rawInt lpos.line,rawInt lpos.col, .ref c']))) c' (CodeO c' lamQ)) P=some (.tbl (ps++ #[rawInt lpos.line,rawInt lpos.col, .ref c'])):=by rw[kak nPc,kae]
  have ec2:(upd (upd H P (.tbl (ps++ #[rawInt lpos.line,rawInt lpos.col, .ref c']))) c' (CodeO c' lamQ)) c'=some (CodeO c' lamQ):=kae
  have fresh2:∀b,s.heap.objs.size≤b→(h'.push ob).objs.size≤b→(upd (upd H P (.tbl (ps++ #[rawInt lpos.line,rawInt lpos.col, .ref c']))) c' (CodeO c' lamQ)) b=none:=fun b h1 h2=>by
   rw[Heap.size_push] at h2
   rw[at2 (NW (Ng szP h1)) (NW (Ng hlt (Nat.le_of_succ_le h2)))]
   exact I.hok.fresh h1
  have ff:(upd (upd H P (.tbl (ps++ #[rawInt lpos.line,rawInt lpos.col, .ref c']))) c' (CodeO c' lamQ)) h'.objs.size=none:=by
   have h1:s.heap.objs.size≤h'.objs.size:=JN hge (JY hlt)
   rw[at2 (NW (Ng szP h1)) (NW hlt)]
   exact I.hok.fresh h1
  generalize upd (upd H P (.tbl (ps++ #[rawInt lpos.line,rawInt lpos.col, .ref c']))) c' (CodeO c' lamQ)=H2 at *
  have un:Un X.fs [] H H2 s.heap (h'.push ob):=by
   refine⟨fun b o e n _ _=>k2 b o (nN n) e,fun b o e n _ _=>⟨o.slots,k2 b o (nN n) e⟩,fun b o e n _=>?_,fun b o e _=>?_,fun b xs e=>?_,fun b o u e=>?_,fun b qs e=>?_⟩
   ·rw[at2 (nN n) (Nj (Ng (Heap.lt_size e) hge))]
    exact n
   ·by_cases hbp:b=P
    ·subst hbp
     exact⟨_,Heap.get?_push_of_some _ htb⟩
    ·exact⟨o,k2 b o hbp e⟩
   ·rw[at2 (ne_of e eP (by intro z;cases z)) (kai e hc0)]
    exact e
   ·rw[at2 (ne_of e eP (by intro z;cases z)) (kai e hc0)]
    exact e
   ·by_cases hbp:b=P
    ·subst hbp
     rw[eP] at e
     cases e
     exact⟨_,eP2⟩
    ·refine⟨#[],?_⟩
     rw[at2 hbp (kai e hc0),e]
     simp
  have hok2:HOk X.prog X.w H2 (h'.push ob):=fun b u e=>by
   by_cases hbp:b=P
   ·subst hbp
    rw[eP2] at e
    cases e
    exact(show(h'.push ob).get? b=some _ from Heap.get?_push_of_some _ htb)
   ·by_cases hbc:b=c'
    ·subst hbc
     rw[ec2] at e
     cases e
     obtain⟨cc,oc,vs,t,e1,e2,e3,e4⟩:=hrec
     cases e1
     refine(show ObjOk X.prog X.w H2 (h'.push ob) b (CodeO b lamQ) from⟨⟨b,oc,vs,t,rfl,Heap.get?_push_of_some _ e2,e3,e4⟩,⟨oc,Heap.get?_push_of_some _ e2⟩,fun h1 h2 q k=>?_⟩)
     obtain⟨c3,o3,vs3,t3,z1,z2,z3,z4⟩:=q
     cases z1
     exact⟨b,o3,vs3,t3,rfl,k _ z2,z3,z4⟩
    ·rw[at2 hbp hbc] at e
     have nown:∀d y,H d=some (.own y)→d≠P∧d≠c':=fun d y r=>⟨ne_of r eP (by intro z;cases z),kai r hc0⟩
     refine(I.hok b u e).stay (fun d v hd r=>k2 d v ?_ r) (fun d r=>by rw[at2 (nown d b r).1 (nown d b r).2];exact r) fun d xs r=>by rw[at2 (ne_of r eP (by intro z;cases z)) (kai r hc0)];exact r
     rcases hd with rfl|hd
     ·exact hbp
     ·exact(nown d b hd).1
  subst hob
  refine h _ H2 h'.objs.size c' _ ctv (I.un (t':=tk) un hok2) ⟨fun b o hbp e=>by rw[at2 hbp (kai e hc0)];exact e,_,eP2,?_,fun pos d ed=>?_⟩ (Heap.get?_push_size _ rfl) ff (JN hge (JY hlt)) fresh2 ec2
  ·have:=TriplesOk_snoc lpos.line lpos.col (.ref c') ps.toList ht
   simpa using this
  ·have ed':codeAmong pos (ps.toList++[rawInt lpos.line,rawInt lpos.col, .ref c'])=some d:=by simpa using ed
   rcases kld ps.toList ht ed' with z|z
   ·obtain⟨d',rfl,ed2⟩:=hor pos d z
    exact⟨d',rfl,by rw[at2 (ne_of ed2 eP (by intro z;cases z)) (kai ed2 hc0)];exact ed2⟩
   ·exact⟨c',z,ec2⟩
 |some cv=>
  have hf:=hor'
  obtain⟨c',rfl,ec'⟩:=hor lpos cv hf
  refine PySem.W.kla_makeFunctionHit (mg:=X.mg) (kc4 S.S I) I.ok.glob hg hcode CH hP ht hf hb fun ctv h' tk hk hsz=>?_
  have k2:∀b o,s.heap.get? b=some o→(h'.push (M9 "<lambda>" lamQ params body scope (closL X.env.cells scope.names []) ((X.mg "__name__").getD .none) c' ctv)).get? b=some o:=fun b o e=>Heap.get?_push_of_some _ (hk b o e)
  exact h _ H h'.objs.size c' _ ctv (I.kept (t':=tk) k2) ⟨fun b o _ e=>e,ps,eP,ht,hor⟩ (Heap.get?_push_size _ rfl) (I.hok.fresh hsz) hsz (fun b h1 _=>I.hok.fresh h1) ec'
end
end L2
namespace L2
open PySem PySem.Spec PyProof.Rows
theorem kiN:∀{ns:List Int}{us:List Value},Vals (ns.map V.int) us→IntsAre us ns
 |[],_, .nil=>.nil
 |n::ns,_, .cons h t=>by
  obtain⟨tk,rfl⟩:=h
  exact .cons n tk (kiN t)
theorem kh6:∀{us:List Value}{ns:List Int},IntsAre us ns→Vals (ns.map V.int) us
 |_,_, .nil=>.nil
 |_,_, .cons n t h=>.cons ⟨t,rfl⟩ (kh6 h)
theorem kll{ns:List Int}{key:Int→Int}{keys:Array Value}{us:List Value}{out:Array Value}(hu:IntsAre us ns)(hk:IntsAre keys.toList (ns.map key))(hl:keys.size=us.length)(h:Stb.Rows keys us out):
  ∃ms:List Int,IntsAre out.toList ms∧ms.Perm ns∧ms.Pairwise fun a b=>key a<key b∨(key a=key b∧a<b):=by
 obtain⟨xs,hp,hup,rfl⟩:=h
 have pl:xs.toList.Perm (keys.toList.zip us):=by
  rw[←ksk_zip]
  exact Array.perm_iff_toList_perm.mp hp
 have mem:∀p∈keys.toList.zip us,p.2∈us∧numOf p.1=key (numOf p.2):=fun p hp=>by
  obtain⟨i,hi,rfl⟩:=List.mem_iff_getElem.mp hp
  have l1:i<keys.toList.length:=by
   rw[List.length_zip] at hi
   omega
  have l2:i<us.length:=by
   rw[List.length_zip] at hi
   omega
  rw[List.getElem_zip]
  refine⟨M3 l2,?_⟩
  have e1:(keys.toList.map numOf)[i]?=(ns.map key)[i]?:=by rw[hk.nums]
  have e2:(us.map numOf)[i]?=ns[i]?:=by rw[hu.nums]
  rw[JU,N1 l1,JU] at e1
  rw[JU,N1 l2] at e2
  rw[←e2] at e1
  exact Option.some.inj e1
 have memx:∀p∈xs.toList,p.2∈us∧numOf p.1=key (numOf p.2):=fun p hp=>mem p (pl.mem_iff.mp hp)
 refine⟨xs.toList.map fun p=>numOf p.2,?_,?_,?_⟩
 ·have e:(xs.map (·.2)).toList=xs.toList.map (·.2):=by simp
  rw[e]
  have:=intsAre_map (xs.toList.map (·.2)) fun v hv=>by
   obtain⟨p,hp',rfl⟩:=J4.mp hv
   exact hu.all _ (memx p hp').1
  rw[J8] at this
  exact this
 ·have h1:=pl.map (fun p:Keyed=>numOf p.2)
  have e2:(keys.toList.zip us).map (fun p:Keyed=>numOf p.2)=ns:=by
   have e3:(keys.toList.zip us).map (fun p:Keyed=>numOf p.2)=((keys.toList.zip us).map Prod.snd).map numOf:=by rw[J8];rfl
   rw[e3,List.map_snd_zip (by have e:=My (xs:=keys);omega),hu.nums]
  rw[e2] at h1
  exact h1
 ·rw[Mo]
  intro i j hi hj hij
  have hi':i<xs.size:=by simpa using hi
  have hj':j<xs.size:=by simpa using hj
  have q:=hup i j hij hj'
  have ki:=(memx xs[i] (by simp)).2
  have kj:=(memx xs[j] (by simp)).2
  unfold Stb.Lx Stb.T at q
  rw[K_eq hi',K_eq hj',EA hi',EA hj'] at q
  simp only[MP,Array.getElem_toList]
  rw[←ki,←kj]
  exact q
section
variable {X:Cx} {scope:Scope} {x:Str} {N:List Str} {cap:List (Option Nat)} {pins:List (Addr×Obj)} {σ:St} {H:Hp} {s1:Shared} {f:Addr} {fo:Obj}
def Held(X:Cx)(pins:List (Addr×Obj))(σ:St)(H:Hp)(n0:Nat)(f:Addr)(fo:Obj)(s:Shared):Prop:=Inv X pins σ H s∧n0≤s.heap.objs.size∧s.heap.get? f=some fo
theorem km5(I:Inv X pins σ H s1)(hf:f<s1.heap.objs.size):Stb.SJ (Held X pins σ H s1.heap.objs.size f fo) s1.heap.objs.size where
 sz:=fun s h=>h.2.1
 push:=fun s c xs n h=>⟨h.1.kept (t':=s.toks) fun b o e=>Heap.get?_push_of_some _ e,JN h.2.1 (by rw[Heap.size_push];exact Ms _),Heap.get?_push_of_some _ h.2.2⟩
 upd:=fun s b g h hb=>by
  obtain⟨q1,q2,q3,q4,q5,q6⟩:=I.fpOk hb (I.hok.fresh hb)
  have sb:=Heap.SameBut.update s.heap b (Obj.mapSeq g)
  exact⟨h.1.turned (t':=s.toks) (it:=b) (fun d o hd e=>(sb.2 d hd).trans e) q1 q2 q4 q5 q6,by rw[Heap.size_update];exact h.2.1,(sb.2 f (Nj (Ng hf hb))).trans h.2.2⟩
def klj(K:JL)(P:Addr)(tl:TE)(cap:List (Option Nat))(te:TE):TE:=fun σ H Q=>tl σ H fun v H1=>∃(a:Addr)(ns:List Int)(key:Int→Int),v=.ref a∧SqL K H1 a (ns.map V.int)∧ns.length<64∧ns.Pairwise (· < ·)∧TbAt P H1∧a≠P∧
 (∀H2,Grew P H1 H2→∀n∈ns,te (some (.int n)::capσ cap σ) H2 fun v H3=>v=.int (key n)∧H3=H2)∧
 ∀(H2:Hp)(l:Addr)(ms:List Int),Grew P H1 H2→H1 l=none→H2 l=none→ms.Perm ns→(ms.Pairwise fun a b=>key a<key b∨(key a=key b∧a<b))→Q (.ref l) (upd H2 l (.lst (ms.map V.int)))
theorem klW:bootBuiltins "sorted"=some (.builtin "sorted"):=by decide +kernel
theorem Grew.seq{K:JL}{P:Addr}{H H':Hp}{a:Addr}{xs:List V}(g:Grew P H H')(ha:a≠P)(h:SqL K H a xs):SqL K H' a xs:=by
 rcases h with(h|⟨o,h⟩)|h
 ·exact .inl (.inl (g.kp _ _ ha h))
 ·exact .inl (.inr ⟨o,g.kp _ _ ha h⟩)
 ·exact .inr h
theorem ki8{l:Expr}{tl te:TE}{c0 P:Addr}{params:Arguments}{body:Expr}{lpos p pos kpos:Pos}(hl:PE X l tl)(S:kdP X scope x N cap)(hc:X.calm=true)(hdp:X.A.depth<recursionLimit)(hcode:X.env.code=.ref c0)(CK:CodeK X.K c0 P)(hB:BltM X.mg X.base)
  (hg:Gl X "sorted") (hm:X.mg "sorted"=none) (hbind:∀(cl:List (Str×Addr))(pm:Value)(c:Addr)(ctv u:Value),bindArgs (PySem.W.kla_fn "<lambda>" lamQ params body scope cl pm (.ref c) ctv) ⟨[u],[]⟩=pure [(x,u)])
  (he:∀A f c s H,PE (cxL X A scope N lamQ f c s H) body te) (hq:X.env.qual++ "<lambda>"=lamQ) (hdef:defaultsOf params X.env=([],[]):=by rfl) (s1:starEach [l] X.env=[(false,eval l X.env)]:=by rfl):
  PE X (.Call (.Name "sorted" p) [l] [⟨some "key", .Lambda params body scope lpos,kpos⟩] pos) (klj X.K P tl cap te):=by
 intro pins s σ H Q I h
 refine wpAny_Call_Name_kw (kdF I hg hm klW ?_ (by decide) (by decide))
 refine callWith_kw ?_ (by rw[s1];rfl) (by rw[s1];rfl)
 rw[s1]
 refine Calls.spliced_cons (thn (hl pins s σ H _ I h) fun u s3 ⟨v,H1,I1,r1,a,ns,key,ev,hS,h64,hup,TB,haP,hte,q⟩=>Calls.spliced_nil ?_)
 subst ev
 cases r1
 show wpAny _ _ (evalAll ((do let v ←eval (.Lambda params body scope lpos) X.env;standAt pos;pure v):: [])) _ _ s3
 refine wpAny_evalAll_cons (wpAny_bind (klG S I1 hcode CK hB TB hq hdef fun s4 H4 lf c pm ctv I4 G ef ff hsf hfr ec=>wpAny_bind (wpAny_standAt (wpAny_pure (wpAny_evalAll_nil ?_)))))
 show wpAny _ _ (call (.builtin "sorted") [.ref a] [(Str.ofString "key", .ref lf)]) _ _ s4
 obtain⟨its,rv,pl,hz⟩:=I4.list (G.seq haP hS)
 have hi:=kiN rv
 have lu:=hi.length
 have lf4:lf<s4.heap.objs.size:=Heap.lt_size ef
 have rising:∀(i j:Nat)(y z:Value),i<j→its[i]?=some y→its[j]?=some z→numOf y<numOf z:=fun i j y z hij ey ez=>by
  have e1:ns[i]?=some (numOf y):=by rw[←hi.nums,JU,ey];rfl
  have e2:ns[j]?=some (numOf z):=by rw[←hi.nums,JU,ez];rfl
  obtain⟨l1,q1⟩:=JX.mp e1
  obtain⟨l2,q2⟩:=JX.mp e2
  have:=Mo.mp hup i j l1 l2 hij
  rw[q1,q2] at this
  exact this
 refine Stb.sortedK (kz:=ns.map key) (J:=Held X pins σ H4 s4.heap.objs.size lf _) (km5 I4 lf4) ⟨I4,JK _,ef⟩ pl.isList (by rw[JJ,lu]) (by omega) rising (fun i v k ev ek s5 hJ=>?_) fun s5 D keys out cc hD hJ eD hk hkl hR=>?_
 ·have en:ns[i]?=some (numOf v):=by rw[←hi.nums,JU,ev];rfl
  have ek':k=key (numOf v):=by
   rw[JU,en] at ek
   exact(Option.some.inj ek).symm
  subst ek'
  obtain⟨n,t,rfl⟩:=hi.all v (JO ev)
  have hcr:s5.heap.CodeRec (.ref c) lamQ:=(show ObjOk X.prog X.w H4 s5.heap c (CodeO c lamQ) from hJ.1.hok c _ ec).1
  refine wpAny_mono (klH (A:=X.A.in1.in1) (v:=.int n) (u:=.int n t) S hJ.1 I.ok.frames (I.ok.hd hc) hdp hJ.2.2 hcr (hbind _ _ _ _ _) ⟨t,rfl⟩ (he _ _ _ _ _) (hte H4 G n (JO en))) (fun w' s6 hw=>?_) fun _ _ z=>z
  obtain⟨v',H6,I6,rv',⟨e1,e2⟩,un,sz6⟩:=hw
  subst e1 e2
  have nst:∀b,s3.heap.objs.size≤b→b∉frs X.stack:=fun b hb z=>absurd (kjx I1 z) (M6.mpr hb)
  have s34:s3.heap.objs.size≤s4.heap.objs.size:=JY (N7 hsf lf4)
  have kp:∀b o,s3.heap.objs.size≤b→H6 b=none→s5.heap.get? b=some o→s6.heap.get? b=some o:=fun b o hb hn e=>un.keep b o e hn (nst b hb) (by simp)
  refine⟨rv',⟨I6,?_,kp lf _ hsf ff hJ.2.2⟩,fun b o hb e=>kp b o (JN s34 hb) (I4.hok.fresh hb) e⟩
  exact JN hJ.2.1 sz6
 ·obtain⟨ms,m1,m2,m3⟩:=kll hi hk (by omega) hR
  have hn:H4 D=none:=I4.hok.fresh hD
  have fp:=I4.fpOk hD hn
  have h10:H1 D=none:=I1.hok.fresh (JN (JY (N7 hsf lf4)) hD)
  have vm:=kh6 m1
  have lz:(ms.map V.int).length≤sizeLine:=by
   rw[JJ,m2.length_eq,sizeLine_eq]
   omega
  refine⟨.ref D,_,hJ.1.adopt (a:=D) (o:=.lst (ms.map V.int)) fp ?_ ?_,rfl,q H4 D ms G h10 hn m2 m3⟩
  ·exact JN I4.sz hD
  ·exact(show ObjOk X.prog X.w _ s5.heap D (.lst (ms.map V.int)) from⟨lz,out.toList,cc,vm,by simpa using eD⟩)
end
end L2
namespace L2
open PySem PySem.W PyProof.Rows
section
variable {X:Cx}
def knq:V→List V→Hp→VK→Prop:=fun x vs H Q=>∃(l:Addr)(ns:List Int)(k:Int),x=.ref l∧vs=[.int k]∧H l=some (.lst (ns.map V.int))∧Q (.int (ns.count k:Nat)) H
theorem ke9:∀{ns:List Int}{us:List Value}(k:Int),Vals (ns.map V.int) us→us.countP (isI k)=ns.count k
 |[],_,_, .nil=>rfl
 |m::ns,_::us,k, .cons r t=>by
  obtain⟨tk,rfl⟩:=r
  rw[List.countP_cons,EB,ke9 k t]
  rfl
theorem kiG:MtM X "list.count" knq:=by
 intro pins s σ H x vs v us Q I rx rv h
 obtain⟨l,ns,k,rfl,rfl,hH,q⟩:=h
 cases rx
 obtain⟨u,rfl,ru⟩:=rv.one
 obtain⟨t,rfl⟩:=ru
 obtain⟨z,its,n,r,hl,e⟩:=I.lstM hH
 refine call_meets F.slot_list_count ⟨_,e,rfl⟩ F.entry_list_count (F.args_list_count_2 _ _)
  (MeetsSeq.list_count l its.toArray n (.int k t) (isI k) (fun y hy=>?_)) ⟨e,?_⟩
 ·obtain⟨j,hj',rfl⟩:=Array.mem_iff_getElem.mp hy
  have hjl:j<its.length:=by simpa using hj'
  have hln:its.length=ns.length:=by rw[←hl,JJ]
  obtain⟨tk,et⟩:=kg7 r j ns[j] (by simp)
  obtain⟨_,e'⟩:=JX.mp et
  have e2:its.toArray[j]=.int ns[j] tk:=by simpa using e'
  rw[e2]
  exact MeetsSeq.EqGives.int _ k tk t
 ·refine⟨.int (ns.count k:Nat),H,I.tok _,⟨s.toks,?_⟩,q⟩
  rw[List.toList_toArray,ke9 k r]
end
end L2
namespace L2
open PySem PySem.W PyProof.Rows
section
variable {X:Cx} {pins:List (Addr×Obj)} {σ:St} {H:Hp} {s:Shared} {A:Around} {E:Value→Shared→Prop} {Q:Value→Shared→Prop}
end
end L2
namespace L2
open PySem PySem.W PyProof.Rows
section
variable {X:Cx}
theorem klO:PGet X (rIxL X.K):=by
 intro pins s σ H o i ov iv Q I ro ri h
 obtain⟨p,xs,i,z,rfl,rfl,hq,he,q⟩:=h
 cases ro
 obtain⟨t,rfl⟩:=ri
 obtain⟨its,r,pl,hz⟩:=I.list hq
 obtain⟨j,h1,h2,h3,h4,h5⟩:=kh2 he
 obtain⟨w,ew,rw'⟩:=r.get h2
 have hl:=r.length
 have hn:=kg4
 have fin:EP X pins σ Q w s:=⟨z,H,I,rw',q⟩
 by_cases h0:0≤i
 ·have hj:i.toNat=j:=by
   rw[seqIndex_of h0 h5] at h1
   exact Option.some.inj h1
  exact wpAny_getItem_list pl.isList h0 (by omega) (by rw[hj];simpa using ew) fin
 ·have hj:(i+(its.toArray.size:Int)).toNat=j:=by
   rw[seqIndex_neg (by omega) h4] at h1
   rw[Nd,←hl]
   exact Option.some.inj h1
  exact wpAny_getItem_list_neg pl.isList (by omega) (by rw[Nd] <;> omega) (by omega) (by rw[hj];simpa using ew) fin
end
end L2
namespace L2
open PySem PySem.Spec PyProof.Rows
section
variable {prog:Program} {w:World} {A:Around} {E:Value→Shared→Prop} {s:Shared}
end
end L2
namespace L2
open PySem PySem.Spec PyProof.Rows
section
variable {prog:Program} {w:World} {A:Around} {E:Value→Shared→Prop} {s:Shared}
end
section
variable {X:Cx}
end
end L2
namespace L2
open PySem PySem.Spec PyProof.Rows
section
variable {X:Cx}
end
end L2
namespace L2
open PySem PySem.Spec PyProof.Rows
section
variable {κ:Type} [DecidableEq κ]
def valV(kvs:List (κ×V))(k: κ):Option V:=(kvs.find? fun kv=>decide (kv.1=k)).map (·.2)
def putK(kvs:List (κ×V))(k: κ)(v:V):List (κ×V):=
 if(kvs.any fun kv=>decide (kv.1=k))=true then kvs.map (fun kv=>if kv.1=k then(kv.1,v) else kv) else kvs++[(k,v)]
theorem kbv{p: κ×V}{r:List (κ×V)}{k: κ}(e:p.1=k):valV (p::r) k=some p.2:=by simp[valV,NZ,e]
theorem kbw{p: κ×V}{r:List (κ×V)}{k: κ}(e:¬p.1=k):valV (p::r) k=valV r k:=by simp[valV,NZ,e]
theorem ker(k: κ):∀kvs:List (κ×V),(kvs.any fun kv=>decide (kv.1=k))=(valV kvs k).isSome
 |[]=>rfl
 |p::r=>by
  rw[N6]
  by_cases e:p.1=k
  ·simp only[kbv e,decide_eq_true e,Bool.true_or,Option.isSome_some]
  ·rw[kbw e,decide_eq_false e,Bool.false_or];exact ker k r
theorem kh8(k j: κ)(y:V):∀kvs:List (κ×V),valV (kvs.map fun kv=>if kv.1=k then(kv.1,y) else kv) j=(valV kvs j).map fun x=>if j=k then y else x
 |[]=>rfl
 | p::r=>by
  have ih:=kh8 k j y r
  rw[JV]
  by_cases h:p.1=k
  ·rw[if_pos h]
   by_cases e:p.1=j
   ·rw[kbv (p:=(p.1,y)) e,kbv e,Mf,if_pos (e.symm.trans h)]
   ·rw[kbw (p:=(p.1,y)) e,kbw e,ih]
  ·rw[if_neg h]
   by_cases e:p.1=j
   ·rw[kbv (p:=p) e,kbv e,Mf,if_neg (fun z=>h (e.trans z))]
   ·rw[kbw (p:=p) e,kbw e,ih]
theorem kgt(k j: κ)(y:V):∀kvs:List (κ×V),valV kvs k=none→valV (kvs++[(k,y)]) j=if j=k then some y else valV kvs j
 |[],_=>by
  by_cases e:k=j
  ·rw[if_pos e.symm];exact kbv (p:=(k,y)) e
  ·rw[if_neg (fun z=>e z.symm)];exact kbw (p:=(k,y)) e
 |p::r,hn=>by
  rw[MO]
  have hk:¬p.1=k:=fun z=>by rw[kbv z] at hn;cases hn
  rw[kbw hk] at hn
  have ih:=kgt k j y r hn
  by_cases e:p.1=j
  ·rw[kbv e,kbv e,if_neg (fun z=>hk (e.trans z))]
  ·rw[kbw e,kbw e,ih]
theorem kh7(kvs:List (κ×V))(k j: κ)(y:V):valV (putK kvs k y) j=if j=k then some y else valV kvs j:=by
 unfold putK
 by_cases a:(kvs.any fun kv=>decide (kv.1=k))=true
 ·rw[if_pos a,kh8]
  rw[ker] at a
  by_cases e:j=k
  ·obtain⟨x,hx⟩:=EO.mp a
   rw[if_pos e,e,hx,Mf,if_pos rfl]
  ·rw[if_neg e]
   cases valV kvs j with
   |none=>rfl
   |some x=>rw[Mf,if_neg e]
 ·rw[if_neg a]
  refine kgt k j y kvs ?_
  rw[ker] at a
  cases q:valV kvs k with
  |none=>rfl
  |some x=>rw[q] at a;exact(a rfl).elim
theorem kcI(kvs:List (κ×V))(k: κ)(v:V):(putK kvs k v).length≤kvs.length+1:=by
 unfold putK
 split
 ·rw[JJ];omega
 ·rw[JW,Ny,MQ];omega
theorem RelO.isSome_eq{o:Option V}{u:Option Value}(r:RelO o u):o.isSome=u.isSome:=by
 cases o with
 |none=>cases u with
  |none=>rfl
  |some _=>exact(show False from r).elim
 |some _=>cases u with
  |none=>exact(show False from r).elim
  |some _=>rfl
theorem KV.val{kvs:List (κ×V)}{vs:List (κ×Value)}(r:KV kvs vs)(k: κ):RelO (valV kvs k) (valueAt vs k):=by
 unfold KV at r
 induction r with
 |nil=>exact True.intro
 | @cons p q ps qs h t ih=>
  obtain⟨h1,h2⟩:=h
  by_cases e:p.1=k
  ·have e':q.1=k:=h1.symm.trans e
   have b:valueAt (q::qs) k=some q.2:=by simp[valueAt,NZ,e']
   rw[kbv e,b];exact h2
  ·have e':¬q.1=k:=fun z=>e (h1.trans z)
   have b:valueAt (q::qs) k=valueAt qs k:=by simp[valueAt,NZ,e']
   rw[kbw e,b];exact ih
theorem KV.any{kvs:List (κ×V)}{vs:List (κ×Value)}(r:KV kvs vs)(k: κ):(kvs.any fun kv=>decide (kv.1=k))=vs.any fun kv=>decide (kv.1=k):=by
 unfold KV at r
 induction r with
 |nil=>rfl
 |cons h t ih=>rw[N6,N6,ih,h.1]
theorem KV.repl{kvs:List (κ×V)}{vs:List (κ×Value)}(r:KV kvs vs)(k: κ){y:V}{u:Value}(ry:RelV y u):
  KV (kvs.map fun kv=>if kv.1=k then(kv.1,y) else kv) (vs.map fun kv=>if kv.1=k then(kv.1,u) else kv):=by
 unfold KV at r⊢
 induction r with
 |nil=>exact .nil
 | @cons p q ps qs h t ih=>
  rw[JV,JV]
  refine .cons ?_ ih
  obtain⟨h1,h2⟩:=h
  by_cases e:p.1=k
  ·rw[if_pos e,if_pos (h1.symm.trans e)];exact⟨h1,ry⟩
  ·rw[if_neg e,if_neg (fun z=>e (h1.trans z))];exact⟨h1,h2⟩
theorem KV.put{kvs:List (κ×V)}{vs:List (κ×Value)}(r:KV kvs vs)(k: κ){y:V}{u:Value}(ry:RelV y u):KV (putK kvs k y) (stored vs k u):=by
 unfold putK stored
 rw[r.any k]
 by_cases e:(vs.any fun kv=>decide (kv.1=k))=true
 ·rw[if_pos e,if_pos e];exact r.repl k ry
 ·rw[if_neg e,if_neg e];exact Paired.snoc r ⟨rfl,ry⟩
theorem KV.length{kvs:List (κ×V)}{vs:List (κ×Value)}(r:KV kvs vs):kvs.length=vs.length:=Paired.length r
end
theorem kV_is{P:Program}{w:World}{k:Key}{u:Value}(r:RelV (kV k) u):(kbe P w).is k u=true:=by
 cases k with
 |inl i=>obtain⟨t,e⟩:=(show ∃t,u=Value.int i t from r);subst e;exact keU P w i t
 |inr x=>obtain⟨t,e⟩:=(show ∃t,u=Value.str x t from r);subst e;exact khL P w x t
theorem kg6{P:Program}{w:World}:∀{ks:List Key}{us:List Value},Vals (ks.map kV) us→ItemsAre (kbe P w) ks us
 |[],_,r=>by rw[NS] at r;cases r;exact .nil
 |k::ks,_,r=>by
  rw[JV] at r
  cases r with
  |cons h t=>exact .cons (kV_is h) (kg6 t)
abbrev KT(H:Hp):List (List Key×V)→List (List Key×Addr×Value)→Prop:=Paired fun p q=>p.1=q.1∧H q.2.1=some (.tup (p.1.map kV))∧RelV p.2 q.2.2
theorem KT.val{H:Hp}{kvs:List (List Key×V)}{xs:List (List Key×Addr×Value)}(r:KT H kvs xs)(k:List Key):RelO (valV kvs k) ((atKey xs k).map (·.2)):=by
 induction r with
 |nil=>exact True.intro
 | @cons p q ps qs h t ih=>
  obtain⟨h1,_,h2⟩:=h
  by_cases e:p.1=k
  ·have e':q.1=k:=h1.symm.trans e
   have b:atKey (q::qs) k=some q.2:=by simp[atKey,NZ,e']
   rw[kbv e,b];exact h2
  ·have e':¬q.1=k:=fun z=>e (h1.trans z)
   have b:atKey (q::qs) k=atKey qs k:=by simp[atKey,NZ,e']
   rw[kbw e,b];exact ih
theorem KT.repl{H:Hp}{kvs:List (List Key×V)}{xs:List (List Key×Addr×Value)}(r:KT H kvs xs)(k:List Key){y:V}{u:Value}(ry:RelV y u):
  KT H (kvs.map fun kv=>if kv.1=k then(kv.1,y) else kv) (xs.map (putAt k u)):=by
 induction r with
 |nil=>exact .nil
 | @cons p q ps qs h t ih=>
  rw[JV,JV]
  refine .cons ?_ ih
  obtain⟨h1,h2,h3⟩:=h
  unfold putAt
  by_cases e:p.1=k
  ·rw[if_pos e,if_pos (h1.symm.trans e)];exact⟨h1,h2,ry⟩
  ·rw[if_neg e,if_neg (fun z=>e (h1.trans z))];exact⟨h1,h2,h3⟩
theorem KT.put{H:Hp}{kvs:List (List Key×V)}{xs:List (List Key×Addr×Value)}(r:KT H kvs xs)(k:List Key){b:Addr}{y:V}{u:Value}(hb:H b=some (.tup (k.map kV)))(ry:RelV y u):
  KT H (putK kvs k y) (storedH xs k b u):=by
 have e:(kvs.any fun kv=>decide (kv.1=k))=(atKey xs k).isSome:=by
  rw[ker,(r.val k).isSome_eq,Option.isSome_map]
 unfold putK storedH
 rw[e]
 by_cases q:(atKey xs k).isSome=true
 ·rw[if_pos q,if_pos q];exact r.repl k ry
 ·rw[if_neg q,if_neg q];exact Paired.snoc r ⟨rfl,hb,ry⟩
def KT.keeps{H H':Hp}{kvs:List (List Key×V)}{xs:List (List Key×Addr×Value)}(r:KT H kvs xs)(ht:∀b ys,H b=some (.tup ys)→H' b=some (.tup ys)):KT H' kvs xs:=
 Paired.mapP r fun _ _ z=>⟨z.1,ht _ _ z.2.1,z.2.2⟩
section
variable {P:Program} {w:World} {H:Hp} {h:Heap} {a:Addr}
theorem rd_of{u:HO}(ok:HOk P w H h)(e:Rd H a u):ObjOk P w H h a u:=e.ok ok
theorem dk_rd{kvs:List (Key×V)}(ok:HOk P w H h)(e:Rd H a (.dK kvs)):kvs.length≤sizeLine∧(a==sysModules)=false∧∃vs,KV kvs vs∧h.DictOf (kbe P w) a vs:=
 show ObjOk P w H h a (.dK kvs) from rd_of ok e
theorem dk_of{kvs:List (Key×V)}(ok:HOk P w H h)(e:H a=some (.dK kvs)):kvs.length≤sizeLine∧(a==sysModules)=false∧∃vs,KV kvs vs∧h.DictOf (kbe P w) a vs:=dk_rd ok (.inl e)
theorem kiM{ks:List Key}(ok:HOk P w H h)(e:H a=some (.tup (ks.map kV))):(tupleKind (kbe P w)).is h ks a:=by
 obtain⟨_,its,r,o,h1,h2,n,h3⟩:=(show ObjOk P w H h a (.tup (ks.map kV)) from ok a _ e)
 exact⟨o,its.toArray,n,h1,h2,h3,by simpa using kg6 r⟩
theorem dt_rd{kvs:List (List Key×V)}(ok:HOk P w H h)(e:Rd H a (.dT kvs)):kvs.length≤sizeLine∧(a==sysModules)=false∧
  ∃xs,KT H kvs xs∧h.DictOfH (tupleKind (kbe P w)) a xs:=by
 obtain⟨z,y,xs,r,o,es,ep,h1,h2,h3,h4,h5⟩:=(show ObjOk P w H h a (.dT kvs) from rd_of ok e)
 refine⟨z,y,xs,r,o,es,ep,h1,h2,h3,h4,fun x hx=>?_,h5⟩
 have all:∀{l:List (List Key×V)}{m:List (List Key×Addr×Value)},KT H l m→∀x∈m,(tupleKind (kbe P w)).is h x.1 x.2.1:=by
  intro l m q
  induction q with
  |nil=>intro x hx;exact nomatch hx
  | @cons p q ps qs hq t ih=>
   intro x hx
   rcases Nc.mp hx with e|hx
   ·subst e
    exact kiM ok (by rw[←hq.1];exact hq.2.1)
   ·exact ih x hx
 exact all r x hx
theorem dt_of{kvs:List (List Key×V)}(ok:HOk P w H h)(e:H a=some (.dT kvs)):kvs.length≤sizeLine∧(a==sysModules)=false∧
  ∃xs,KT H kvs xs∧h.DictOfH (tupleKind (kbe P w)) a xs:=dt_rd ok (.inl e)
end
def DGet(H:Hp)(a:Addr)(y:V)(r:Option V):Prop:=
 (∃kvs k,Rd H a (.dK kvs)∧y=kV k∧r=valV kvs k)∨∃kvs k b,Rd H a (.dT kvs)∧y=.ref b∧H b=some (.tup (k.map kV))∧r=valV kvs k
noncomputable def DPut(H:Hp)(a:Addr)(y v:V)(H':Hp):Prop:=
 (∃kvs k,H a=some (.dK kvs)∧y=kV k∧kvs.length<sizeLine∧H'=upd H a (.dK (putK kvs k v)))∨
 ∃kvs k b,H a=some (.dT kvs)∧y=.ref b∧H b=some (.tup (k.map kV))∧kvs.length<sizeLine∧H'=upd H a (.dT (putK kvs k v))
def DGet.t{H:Hp}{a b:Addr}{kvs:List (List Key×V)}{k:List Key}(e:H a=some (.dT kvs))(eb:H b=some (.tup (k.map kV))):DGet H a (.ref b) (valV kvs k):=.inr ⟨kvs,k,b, .inl e,rfl,eb,rfl⟩
theorem DPut.t{H:Hp}{a b:Addr}{kvs:List (List Key×V)}{k:List Key}{v:V}(e:H a=some (.dT kvs))(eb:H b=some (.tup (k.map kV)))(hl:kvs.length<sizeLine):
  DPut H a (.ref b) v (upd H a (.dT (putK kvs k v))):=.inr ⟨kvs,k,b,e,rfl,eb,hl,rfl⟩
section
variable {X:Cx} {pins:List (Addr×Obj)} {σ:St} {H:Hp} {s:Shared} {a:Addr} {y v:V} {u r:Value} {o:Option V} {A:Around} {E:Value→Shared→Prop}
theorem Inv.big(I:Inv X pins σ H s):sysModules<s.heap.objs.size:=by
 have h:mainGlobals<s.heap.objs.size:=(I.mod.glob.keeps I.bk).lt
 exact M5 (by decide) h
theorem kk1{Q:Value→Shared→Prop}(hu:A.units+1<cLine)(I:Inv X pins σ H s)(g:DGet H a y (some v))(ry:RelV y u)(h:∀w' s',Inv X pins σ H s'→RelV v w'→Q w' s'):
  wpAny (model X.prog X.w) A (getItem (.ref a) u) Q E s:=by
 rcases g with⟨kvs,k,e,ey,l⟩|⟨kvs,k,b,e,ey,eb,l⟩
 ·subst ey
  obtain⟨z,hd,vs,rel,dd⟩:=dk_rd I.hok e
  obtain⟨w',hw,rw'⟩:=RelO.some_of (v:=v) (o:=valueAt vs k) (by rw[l];exact rel.val k)
  exact wpAny_getItem_of (kV_is ry) dd.mapOf hw (h w' _ (I.tok _) rw')
 ·subst ey
  cases(show u=Value.ref b from ry)
  obtain⟨z,hd,xs,rel,dd⟩:=dt_rd I.hok e
  obtain⟨w',hw,rw'⟩:=RelO.some_of (v:=v) (o:=(atKey xs k).map (·.2)) (by rw[l];exact rel.val k)
  obtain⟨p,hp,hp2⟩:=Option.map_eq_some_iff.mp hw
  refine wpAny_getItem_heap (tupleKind_room_in1 hu) (kiM I.hok eb) dd hp ?_
  rw[hp2]
  exact h w' _ (I.tok _) rw'
theorem kne{Q:Value→Shared→Prop}(hu:A.units+1<cLine)(I:Inv X pins σ H s)(g:DGet H a y o)(ry:RelV y u)(h:∀s',Inv X pins σ H s'→Q (.bool (!o.isSome)) s'):
  wpAny (model X.prog X.w) A (compareOp .NotIn u (.ref a)) Q E s:=by
 rcases g with⟨kvs,k,e,ey,l⟩|⟨kvs,k,b,e,ey,eb,l⟩
 ·subst ey
  obtain⟨z,hd,vs,rel,dd⟩:=dk_rd I.hok e
  refine wpAny_notIn_of (kV_is ry) hd dd.mapOf ?_
  rw[←(rel.val k).isSome_eq,←l]
  exact h _ (I.tok _)
 ·subst ey
  cases(show u=Value.ref b from ry)
  obtain⟨z,hd,xs,rel,dd⟩:=dt_rd I.hok e
  refine wpAny_notIn_heap (tupleKind_room_in1 hu) (kiM I.hok eb) hd dd ?_
  have q:=(rel.val k).isSome_eq
  rw[Option.isSome_map] at q
  rw[←q,←l]
  exact h _ (I.tok _)
theorem kkZ{h':Heap}{t':Nat}{ob:HO}(I:Inv X pins σ H s)(mu:Mut (H a))(hs:Heap.SameBut a s.heap h')(he:∃q,h'.get? a=some q)(new:ObjOk X.prog X.w (upd H a ob) h' a ob):
  Inv X pins σ (upd H a ob) {s with heap:=h',toks:=t'}:=
 I.write (x:=a) (e:=a) mu (.inl rfl) (fun b q hb z=>(hs.2 b hb).trans z) he new
theorem knO{P:Program}{w:World}{H':Hp}{h':Heap}{kvs:List (Key×V)}{vs:List (Key×Value)}(z:kvs.length≤sizeLine)(hd:(a==sysModules)=false)(rel:KV kvs vs)(dd:h'.DictOf (kbe P w) a vs):
  ObjOk P w H' h' a (.dK kvs):=⟨z,hd,vs,rel,dd⟩
theorem kk0{H':Hp}{Q:Unit→Shared→Prop}(hu:A.units+1<cLine)(I:Inv X pins σ H s)(g:DPut H a y v H')(ry:RelV y u)(rv:RelV v r)(h:∀s',Inv X pins σ H' s'→Q () s'):
  wpAny (model X.prog X.w) A (setItem (.ref a) u r) Q E s:=by
 rcases g with⟨kvs,k,e,ey,l,eH⟩|⟨kvs,k,b,e,ey,eb,l,eH⟩
 ·subst ey eH
  obtain⟨z,hd,vs,rel,dd⟩:=dk_of I.hok e
  have hz:vs.length≤sizeLine:=by rw[←rel.length];exact z
  have hl:(putK kvs k v).length≤sizeLine:=by have:=kcI kvs k v;omega
  refine wpAny_setItem_pairs (hsz:=hz) (kV_is ry) dd fun h' dd' hs=>h _ ?_
  have he:∃q,h'.get? a=some q:=let⟨q,_,_,hq,_⟩:=dd';⟨q,hq⟩
  exact kkZ I (by rw[e];exact True.intro) hs he (knO hl hd (rel.put k rv) dd')
 ·subst ey eH
  cases(show u=Value.ref b from ry)
  obtain⟨z,hd,xs,rel,dd⟩:=dt_of I.hok e
  have hz:xs.length≤sizeLine:=by rw[←Paired.length rel];exact z
  have hl:(putK kvs k v).length≤sizeLine:=by have:=kcI kvs k v;omega
  refine wpAny_setItem_heap (hsz:=hz) (tupleKind_room_in1 hu) (kiM I.hok eb) dd fun h' dd' hs=>h _ ?_
  obtain⟨q,es,ep,hq,h2,h3,h4,_,h5⟩:=dd'
  refine kkZ I (by rw[e];exact True.intro) hs ⟨q,hq⟩ ⟨hl,hd,_,(rel.put k eb rv).keeps fun c ys ec=>?_,q,es,ep,hq,h2,h3,h4,h5⟩
  rw[kak (ne_of ec e (fun z=>nomatch z))]
  exact ec
end
section
variable {X:Cx} {pins:List (Addr×Obj)} {σ:St} {H:Hp} {s:Shared} {a:Addr} {kvs:List (Key×V)} {k:Key} {u:Value} {A:Around} {E:Value→Shared→Prop}
end
noncomputable def NoSl(i:Expr):Prop:=∀ov iv,subscripted i false ov iv=operate [ov,iv] (getItem ov iv)
theorem kmE{prog:Program}{w:World}{A:Around}{E:Value→Shared→Prop}{s:Shared}{env:Env}{value slice:Expr}{pos:Pos}{T id:String}{Q:Value→Shared→Prop}
  (hl:typeLookup (.type T) "__getitem__"=pure (some (.builtin id))) (hs:NoSl slice)
  (h:wpAny (model prog w) A (eval value env) (fun o s₁=>wpAny (model prog w) A (eval slice env) (fun i s₂=>s₂.TypeIs o T∧wpAny (model prog w) A (getItem o i) Q E s₂) E s₁) E s):
  wpAny (model prog w) A (eval (.Subscript value slice pos) env) Q E s:=by
 refine Subscript_ (wpAny_mono h (fun o s₁ h₁=>wpAny_mono h₁ (fun i s₂ h₂=>?_) fun _ _ x=>x) fun _ _ x=>x)
 obtain⟨hT,h₂⟩:=h₂
 unfold subscriptTail
 refine wpAny_bind ?_
 rw[getitemInPython_of_ne hT.not_modules]
 refine wpAny_bind (wpAny_specialOf hT hl ?_)
 have fin:wpAny (model prog w) A (subscripted slice false o i) (fun r s₃=>wpAny (model prog w) A (letTemporaryGo value o r >>= fun _=>pure r) Q E s₃) E s₂:=by
  rw[hs o i]
  exact wpAny_operating (wpAny_mono h₂ (fun r s₃ h₃=>wpAny_bind (wpAny_letTemporaryGo (wpAny_pure h₃))) fun _ _ x=>x)
 first
  |exact wpAny_pure (wpAny_bind fin)
  |exact wpAny_bind (wpAny_pure (wpAny_bind fin))
  |exact wpAny_bind fin
def khX{X:Cx}{pins:List (Addr×Obj)}{σ:St}{H:Hp}{s:Shared}{a:Addr}{y:V}{o:Option V}(I:Inv X pins σ H s)(g:DGet H a y o):s.TypeIs (.ref a) "dict":=by
 rcases g with⟨kvs,k,e,_,_⟩|⟨kvs,k,b,e,_,_,_⟩
 ·obtain⟨_,_,vs,_,dd⟩:=dk_rd I.hok e
  exact dd.typeIs
 ·obtain⟨_,_,xs,_,dd⟩:=dt_rd I.hok e
  exact dd.typeIs
noncomputable def tDGet(td ty:TE):TE:=fun σ H Q=>td σ H fun x H1=>ty σ H1 fun y H2=>∃a v,x=.ref a∧DGet H2 a y (some v)∧Q v H2
noncomputable def kmC(ty td:TE):TE:=fun σ H Q=>ty σ H fun y H1=>td σ H1 fun x H2=>∃a o,x=.ref a∧DGet H2 a y o∧Q (.bl (!o.isSome)) H2
noncomputable def sDPut(td ty tv:TE):TS:=fun D σ H=>tv σ H fun v H1=>td σ H1 fun x H2=>ty σ H2 fun y H3=>∃a H4,x=.ref a∧DPut H3 a y v H4∧D.nx σ H4
section
variable {X:Cx} {o i e value:Expr} {pos pos' tpos:Pos} {td ty tv:TE}
theorem kmQ(hu:X.A.units+1<cLine)(ho:PE X o td)(hi:PE X i ty)(hs:NoSl i):PE X (.Subscript o i pos) (tDGet td ty):=by
 intro pins s σ H Q I h
 refine kmE PySem.F.slot_dict_getitem.lookup hs (thn (ho pins s σ H _ I h) fun u s1 ⟨x,H1,I1,rx,q1⟩=>thn (hi pins s1 σ H1 _ I1 q1) fun iv s2 ⟨y,H2,I2,ry,a,v,ex,g,q2⟩=>?_)
 subst ex
 obtain rfl:u=Value.ref a:=rx
 exact⟨khX I2 g,kk1 hu I2 g ry fun w' s3 I3 rw'=>⟨v,H2,I3,rw',q2⟩⟩
theorem kgO(hu:X.A.units+1<cLine)(hi:PE X i ty)(ho:PE X o td):PC X .NotIn i o (kmC ty td):=by
 intro pins s σ H Q I h
 refine thn (hi pins s σ H _ I h) fun iv s1 ⟨y,H1,I1,ry,q1⟩=>thn (ho pins s1 σ H1 _ I1 q1) fun u s2 ⟨x,H2,I2,rx,a,ov,ex,g,q2⟩=>?_
 subst ex
 obtain rfl:u=Value.ref a:=rx
 exact kne hu I2 g ry fun s3 I3=>⟨.bl (!ov.isSome),H2,I3,rfl,q2⟩
theorem kj5(hu:X.A.units+1<cLine)(ho:PE X o td)(hi:PE X i ty)(hv:PE X value tv)(hs:swapsWith value (some (.Subscript o i pos')) pos.line X.env=pure false):
  PS X (.Assign [.Subscript o i pos'] value pos) (sDPut td ty tv):=by
 intro pins s σ H D I h
 refine wpAny_Assign_Subscript (thn (hv pins s σ H _ I h) fun r s1 ⟨v,H1,I1,rv,q1⟩=>thn (ho pins s1 σ H1 _ I1 q1) fun u s2 ⟨x,H2,I2,rx,q2⟩=>thn (hi pins s2 σ H2 _ I2 q2) fun iv s3 ⟨y,H3,I3,ry,a,H4,ex,g,q3⟩=>?_) hs
 subst ex
 obtain rfl:u=Value.ref a:=rx
 exact kk0 hu I3 g ry rv fun s4 I4=>⟨σ,H4,I4,q3⟩
end
def klR{P:Program}{w:World}{H:Hp}(h:Heap)(hb:sysModules<h.objs.size):ObjOk P w H (h.push {cls:=.type "dict",data:=.dict #[]}) h.objs.size (.dT []):=
 ⟨Nr _,beq_eq_false_iff_ne.mpr (Ne.symm (Nj hb)),[], .nil,_,#[],0,Heap.get?_push_size _ rfl,⟨rfl,rfl,rfl⟩,rfl,rfl,M7⟩
noncomputable def knm:TE:=fun _ H Q=>∀p,H p=none→Q (.ref p) (upd H p (.dT []))
section
variable {X:Cx} {pos:Pos}
theorem kiB:PE X (.Dict [] [] pos) knm:=fun pins s σ H Q I h=>
 wpAny_Dict_empty ⟨.ref s.heap.objs.size,_,I.laid (a:=s.heap.objs.size) (o:=.dT []) (t':=s.toks) (fun _ _ q=>Heap.get?_push_of_some _ q) (JK _) (klR s.heap I.big),rfl,h _ (I.hok.fresh (JK _))⟩
end
end L2
namespace PySem.SeqAt
open AutoSeq1 (wpAny_loadPart')
open MeetsSeq MeetsSeq2 MeetsSeq3
noncomputable def lexL:List Int→List Int→Bool
 |[],[]=>false
 |[],_::_=>true
 |_::_,[]=>false
 |x::xs,y::ys=>if x=y then lexL xs ys else decide (x<y)
noncomputable def IntsAt(items:Array Value)(xs:List Int):Prop:=items.size=xs.length∧∀(j:Nat)(h:j<items.size)(h':j<xs.length),∃t,items[j]=Value.int xs[j] t
theorem kkm(l b:Addr)(items items2:Array Value)(n n2:Nat)(dd dd2:Option Addr)(sl sl2:Array (Option Value))(xs ys:List Int)(hx:IntsAt items xs)(hy:IntsAt items2 ys)(k:Nat):
  ∀ i:Nat,items.size-i=k→i≤items.size→i≤items2.size→Meets (Builtin.«list.__eq__.loop» ⟨[.ref l, .ref b,rawInt i,rawInt 0],[]⟩)
   (fun A R s=>s.heap.get? l=some {cls:=.type "list",dict:=dd,data:=.seq items n,slots:=sl}∧s.heap.get? b=some {cls:=.type "list",dict:=dd2,data:=.seq items2 n2,slots:=sl2}∧
    (∀j (h1:j<items.size) (h2:j<items2.size),EqAt A.in1 s items[j] items2[j] (decide (xs.getD j 0=ys.getD j 0)))∧
    R (.ok (.ret (.bool (lexL (xs.drop i) (ys.drop i))))) s):=by
 induction k with
 | zero=>
  intro i hk hi hi' prog w A R s h
  obtain⟨hp,g,d,tk,os⟩:=s;obtain⟨hl,hb,he,h⟩:=h
  wp_walk using wpAny_loadPart' hl,wpAny_loadPart' hb
  have hi1:items[((i:Nat):Int).toNat]?=none:=by simp;omega
  have hd:xs.drop i=[]:=by have:=hx.1;simp;omega
  rw[hd] at h
  rw[hi1]
  wp_walk using wpAny_loadPart' hl,wpAny_loadPart' hb
  show R (.ok (.ret (.bool (decide (items.size<items2.size))))) _
  have e:decide (items.size<items2.size)=lexL [] (ys.drop i):=by
   have hs:=hy.1
   cases hz:ys.drop i with
   |nil=>
    have:=congrArg NA hz
    rw[N5,MQ] at this
    exact decide_eq_false (by omega)
   |cons z zs=>
    have:=congrArg NA hz
    rw[N5,Ny] at this
    exact decide_eq_true (by omega)
  rw[e]
  exact h
 | succ k ih=>
  intro i hk hi hi' prog w A R s h
  obtain⟨hp,g,d,tk,os⟩:=s;obtain⟨hl,hb,he,h⟩:=h
  wp_walk using wpAny_loadPart' hl,wpAny_loadPart' hb
  have hlt:i<items.size:=by omega
  have hxl:i<xs.length:=by have:=hx.1;omega
  have hi1:items[((i:Nat):Int).toNat]?=some items[i]:=by simp[hlt]
  have hdx:xs.drop i=xs[i]::xs.drop (i+1):=EC hxl
  have hc:((i:Int)+1)=((i+1:Nat):Int):=by push_cast;rfl
  rw[hdx] at h
  rw[hi1]
  by_cases hlt2:i<items2.size
  ·have hyl:i<ys.length:=by have:=hy.1;omega
   have hi2:items2[((i:Nat):Int).toNat]?=some items2[i]:=by simp[hlt2]
   have hdy:ys.drop i=ys[i]::ys.drop (i+1):=EC hyl
   rw[hdy] at h
   rw[hi2]
   refine wpAny_bind (he i hlt hlt2 prog w _ _ ?_)
   have g1:xs.getD i 0=xs[i]:=by simp[hxl]
   have g2:ys.getD i 0=ys[i]:=by simp[hyl]
   rw[g1,g2]
   unfold lexL at h
   by_cases c:xs[i]=ys[i]
   ·rw[if_pos c] at h
    rw[decide_eq_true c]
    wp_walk
    rw[hc]
    exact⟨plainId_quiet plain_eq_loop _,codeAny_builtin entry_eq_loop (by
     rw[Around.under_plainId plain_eq_loop _]
     exact ih (i+1) (by omega) (by omega) (by omega) prog w A R _ ⟨hl,hb,he,h⟩)⟩
   ·rw[if_neg c] at h
    rw[decide_eq_false c]
    wp_walk using wpAny_loadPart' hl,wpAny_loadPart' hb
    rw[hi1,hi2]
    obtain⟨t,e1⟩:=hx.2 i hlt hxl
    obtain⟨u,e2⟩:=hy.2 i hlt2 hyl
    rw[e1,e2]
    refine wpAny_bind (wpAny_lt_int ?_)
    wp_walk
    exact h
  ·have hi2:items2[((i:Nat):Int).toNat]?=none:=by simp;omega
   have hdy:ys.drop i=[]:=by have:=hy.1;simp;omega
   rw[hdy] at h
   rw[hi2]
   wp_walk using wpAny_loadPart' hl,wpAny_loadPart' hb
   show R (.ok (.ret (.bool (decide (items.size<items2.size))))) _
   rw[decide_eq_false (by omega)]
   exact h
theorem kkq(l b:Addr)(items items2:Array Value)(n n2:Nat)(dd dd2:Option Addr)(sl sl2:Array (Option Value))(xs ys:List Int)(hx:IntsAt items xs)(hy:IntsAt items2 ys):
  Meets (Builtin.«list.__lt__» ⟨[.ref l, .ref b],[]⟩)
   (fun A R s=>s.heap.get? l=some {cls:=.type "list",dict:=dd,data:=.seq items n,slots:=sl}∧s.heap.get? b=some {cls:=.type "list",dict:=dd2,data:=.seq items2 n2,slots:=sl2}∧
    (∀j (h1:j<items.size) (h2:j<items2.size),EqAt A.in1 s items[j] items2[j] (decide (xs.getD j 0=ys.getD j 0)))∧
    R (.ok (.ret (.bool (lexL xs ys)))) s):=by
 intro prog w A R s h
 obtain⟨hp,g,d,tk,os⟩:=s;obtain⟨hl,hb,he,h⟩:=h
 have f3:=AutoSeq1.sub_list_list
 wp_walk using wpAny_loadPart' hl,wpAny_loadPart' hb
 exact⟨plainId_quiet plain_eq_loop _,codeAny_builtin entry_eq_loop (by
  rw[Around.under_plainId plain_eq_loop _]
  exact kkm l b items items2 n n2 dd dd2 sl sl2 xs ys hx hy _ 0 rfl (Nr _) (Nr _) prog w A R _ ⟨hl,hb,he,by simpa using h⟩)⟩
theorem lt_lists{A:Around}{s:Shared}{l b:Addr}{items items2:Array Value}{xs ys:List Int}(hl:s.heap.IsList l items)(hb:s.heap.IsList b items2)(hx:IntsAt items xs)(hy:IntsAt items2 ys)(hu:A.units<cLine)
  (he:∀j (h1:j<items.size) (h2:j<items2.size),EqAt A.in1 s items[j] items2[j] (decide (xs.getD j 0=ys.getD j 0))) (prog:Program) (w:World) (E:Value→Shared→Prop) (Q:Value→Shared→Prop) (h:Q (.bool (lexL xs ys)) s):
  wpAny (model prog w) A (richCompare .Lt (.ref l) (.ref b)) Q E s:=by
 obtain⟨⟨cls,dd,data,sl⟩,ho,hc,n,hd⟩:=id hl
 obtain⟨⟨cls2,dd2,data2,sl2⟩,ho2,hc2,n2,hd2⟩:=id hb
 simp only at hc hd hc2 hd2
 subst hc hd hc2 hd2
 exact richCompare_meets_room (op:=.Lt) ⟨_,ho,rfl⟩ ⟨_,ho2,rfl⟩ F.slot_list_lt F.entry_list_lt (F.args_list_lt_2 _ _) (kkq l b items items2 n n2 dd dd2 sl sl2 xs ys hx hy)
  ⟨ho,ho2,he,show Value.bool (lexL xs ys)≠Value.notImplemented∧Q (.bool (lexL xs ys)) s from⟨(fun x=>nomatch x),h⟩⟩ hu
end PySem.SeqAt
namespace L2
open PySem PySem.Spec PyProof.Rows
section
variable {X:Cx}
theorem kkJ{xs:List Int}{us:List Value}(r:Vals (xs.map V.int) us):SeqAt.IntsAt us.toArray xs:=by
 have l:=r.length
 rw[JJ] at l
 refine⟨by simp;omega,fun j h h'=>?_⟩
 obtain⟨u,e,ru⟩:=r.get (i:=j) (x:=V.int xs[j]) (by simp[h'])
 have:us.toArray[j]=u:=by
  obtain⟨_,e'⟩:=JX.mp e
  simpa using e'
 rw[this]
 obtain⟨t,et⟩:=ru
 exact⟨t,et⟩
noncomputable def kgL(K:JL):List V→Hp→VK→Prop:=fun xs H Q=>∃(p:Addr)(ys:List V),xs=[.ref p]∧SqL K H p ys∧∀l,H l=none→Q (.ref l) (upd H l (.tup ys))
theorem kdN:CallR X (.type "tuple") (kgL X.K):=by
 intro pins s σ H xs us Q I r h
 obtain⟨p,ys,e,hq,q⟩:=h
 exact kgo pins s σ H xs us Q I r ⟨p,ys,e, .inl ⟨hq,q⟩⟩
end
end L2
namespace PySem.SeqAt
open AutoSeq1 (wpAny_loadPart')
open MeetsSeq MeetsSeq2 MeetsSeq3
noncomputable def LtAt(A:Around)(s:Shared)(u v:Value)(k:Bool):Prop:=∀(prog:Program)(w:World)(E:Value→Shared→Prop)(Q:Value→Shared→Prop),Q (.bool k) s→wpAny (model prog w) A (richCompare .Lt u v) Q E s
theorem kkb(l b:Addr)(a0 a1 b0 b1:Value)(n n2:Nat)(dd dd2:Option Addr)(sl sl2:Array (Option Value))(e0 l0 e1 l1:Bool):
  Meets (Builtin.«tuple.__lt__» ⟨[.ref l, .ref b],[]⟩)
   (fun A R s=>s.heap.get? l=some {cls:=.type "tuple",dict:=dd,data:=.seq #[a0,a1] n,slots:=sl}∧s.heap.get? b=some {cls:=.type "tuple",dict:=dd2,data:=.seq #[b0,b1] n2,slots:=sl2}∧
    EqAt A.in1 s a0 b0 e0∧LtAt A.in1 s a0 b0 l0∧EqAt A.in1 s a1 b1 e1∧LtAt A.in1 s a1 b1 l1∧
    R (.ok (.ret (.bool (if e0 then(if e1 then false else l1) else l0)))) s):=
 .of_wp fun prog w A R s h=>by
  obtain⟨hp,g,d,tk,os⟩:=s;obtain⟨hl,hb,he0,hl0,he1,hl1,h⟩:=h
  have f2:=AutoSeq1.sub_tuple_tuple
  wp_walk using wpAny_loadPart' hl,wpAny_loadPart' hb,wpAny_forIn_list _ (fun rest z s'=>z.1=none∧s'=⟨hp,g,d,tk,os⟩∧(rest=[(a0,b0),(a1,b1)]∨(e0=true∧rest=[(a1,b1)])∨(e0=true∧e1=true∧rest=[]))) _
  case turn=>
   rintro⟨y,x⟩ rest z s' ⟨hz,rfl,hr⟩
   rcases hr with hr|⟨c0,hr⟩|⟨c0,c1,hr⟩
   ·injection hr with p q
    injection p with p1 p2
    subst p1 p2 q
    refine wpAny_bind (he0 prog w _ _ ?_)
    cases c:e0 with
    |true=>
     wp_walk
     exact⟨rfl,rfl, .inr (.inl ⟨rfl,rfl⟩)⟩
    |false=>
     rw[c] at h
     simp only[Bool.not_false,if_true]
     refine wpAny_bind (wpAny_rule (wpAny_bind (hl0 prog w _ _ ?_)))
     wp_walk
     exact⟨_,rfl,by simpa using h⟩
   ·injection hr with p q
    injection p with p1 p2
    subst p1 p2 q
    refine wpAny_bind (he1 prog w _ _ ?_)
    cases c:e1 with
    |true=>
     wp_walk
     exact⟨rfl,rfl, .inr (.inr ⟨c0,rfl,rfl⟩)⟩
    |false=>
     rw[c0,c] at h
     simp only[Bool.not_false,if_true]
     refine wpAny_bind (wpAny_rule (wpAny_bind (hl1 prog w _ _ ?_)))
     wp_walk
     exact⟨_,rfl,by simpa using h⟩
   ·cases hr
  case fin=>
   rintro⟨z1,z2⟩ s' ⟨hz,rfl,hr⟩
   simp only at hz
   subst hz
   rcases hr with hr|⟨c0,hr⟩|⟨c0,c1,hr⟩
   ·cases hr
   ·cases hr
   ·rw[c0,c1] at h
    wp_walk
    exact⟨_,rfl,by simpa[Builtin.Tuple.tupleCompareSizes] using h⟩
  case h=>
   exact⟨rfl,rfl, .inl rfl⟩
theorem lt_pairs{A:Around}{s:Shared}{l b:Addr}{a0 a1 b0 b1:Value}{e0 l0 e1 l1:Bool}(hl:s.heap.IsTuple l #[a0,a1])(hb:s.heap.IsTuple b #[b0,b1])(hu:A.units<cLine)
  (he0:EqAt A.in1 s a0 b0 e0) (hl0:LtAt A.in1 s a0 b0 l0) (he1:EqAt A.in1 s a1 b1 e1) (hl1:LtAt A.in1 s a1 b1 l1):LtAt A s (.ref l) (.ref b) (if e0 then(if e1 then false else l1) else l0):=fun prog w E Q h=>by
 obtain⟨⟨cls,dd,data,sl⟩,ho,hc,n,hd⟩:=id hl
 obtain⟨⟨cls2,dd2,data2,sl2⟩,ho2,hc2,n2,hd2⟩:=id hb
 simp only at hc hd hc2 hd2
 subst hc hd hc2 hd2
 exact richCompare_meets_room (op:=.Lt) ⟨_,ho,rfl⟩ ⟨_,ho2,rfl⟩ F.slot_tuple_lt F.entry_tuple_lt (F.args_tuple_lt_2 _ _) (kkb l b a0 a1 b0 b1 n n2 dd dd2 sl sl2 e0 l0 e1 l1)
  ⟨ho,ho2,he0,hl0,he1,hl1,show Value.bool (if e0 then(if e1 then false else l1) else l0)≠Value.notImplemented∧Q (.bool (if e0 then(if e1 then false else l1) else l0)) s from⟨(fun x=>nomatch x),h⟩⟩ hu
end PySem.SeqAt
namespace PySem
noncomputable def Has(h0 h:Heap):Prop:=∀b o,h0.get? b=some o→h.get? b=some o
def Has.go{h0 h h':Heap}{wr:List Addr}(z:∀b∈wr,h0.get? b=none)(p:Has h0 h)(q:∀b o,b∉wr→h.get? b=some o→h'.get? b=some o):Has h0 h':=fun b o e=>q b o (fun m=>by rw[z b m] at e;cases e) (p b o e)
def Has.one{h0 h h':Heap}{S:Addr}(z:h0.get? S=none)(p:Has h0 h)(q:∀b o,b≠S→h.get? b=some o→h'.get? b=some o):Has h0 h':=fun b o e=>q b o (fun m=>by rw[m,z] at e;cases e) (p b o e)
section
variable {prog:Program} {w:World} {A:Around} {R:Result→Shared→Prop} {J:Addr} {fp wr:List Addr} {m:Nat} {P:Nat→Value→Prop} {St:Nat→Heap→Prop}
theorem nmin:(toString "min" ++toString ".loop" :String)="min.loop":=by decide
theorem minK(Wk:Walks prog w A.in1 J fp wr m P St)(h0:Heap)(z0:∀b∈wr,h0.get? b=none)(bt:Nat→Nat→Bool)
  (hc:∀i j x y (s:Shared) (Q:Value→Shared→Prop) (E:Value→Shared→Prop),Has h0 s.heap→P i x→P j y→Q (.bool (bt i j)) s→wpAny (model prog w) A.in1 (richCompare .Lt x y) Q E s)
  (Z:Addr) (zZ:h0.get? Z=none) (fZ:Z∉fp):∀(k j:Nat)(s:Shared)(x:Value)(c:Nat),m-(j+1)=k→j+1≤m→St (j+1) s.heap→Has h0 s.heap→P (argBest bt j) x→
  s.heap.get? Z=some {cls:=.type "list",dict:=none,data:=.seq #[x,x] c,slots:=#[]}→
  (∀v h' tk,P (argBest bt (m-1)) v→Has h0 h'→R (.ok (.ret v)) {s with heap:=h',toks:=tk})→
  codeAny (model prog w) A (.builtin "min.loop" ⟨[.ref J, .none, .ref Z],[]⟩) R s
 |0,j,s,x,c,hk,hj,st,hh,px,hz,fin=>by
  have wZ:Z∉wr:=fun q=>fZ (Wk.sub _ q)
  have ej:j+1=m:=by omega
  refine codeAny_builtin F.entry_min_loop ?_
  rw[Around.under_plainId F.plain_min_loop _]
  show wpAny _ A.in1 (seqItems? (.ref Z) >>= _) _ _ s
  refine wpAny_bind (wpAny_seqItems hz rfl ?_)
  show wpAny _ A.in1 (tryCatch (pyNext (.ref J)) _ >>= _) _ _ s
  refine wpAny_bind (wpAny_tryCatch (Wk.done s _ _ (ej▸st) fun h1 tk f1=>?_))
  have hz1:=f1 Z _ wZ hz
  show wpAny _ A.in1 (updateSeq Z (fun _=>#[]) >>= _) _ _ _
  refine wpAny_bind (wpAny_updateSeq hz1 rfl (wpAny_bind (wpAny_letGo (wpAny_pure ?_))))
  exact fin x _ tk (by rw[←ej];exact px) ((hh.go z0 f1).one zZ fun b o nb e=>(Heap.get?_update_other _ _ (Ne.symm nb)).trans e)
 | k+1,j,s,x,c,hk,hj,st,hh,px,hz,fin=>by
  have wZ:Z∉wr:=fun q=>fZ (Wk.sub _ q)
  refine codeAny_builtin F.entry_min_loop ?_
  rw[Around.under_plainId F.plain_min_loop _]
  show wpAny _ A.in1 (seqItems? (.ref Z) >>= _) _ _ s
  refine wpAny_bind (wpAny_seqItems hz rfl ?_)
  show wpAny _ A.in1 (tryCatch (pyNext (.ref J)) _ >>= _) _ _ s
  refine wpAny_bind (wpAny_tryCatch (Wk.item (j+1) s _ _ (by omega) st fun v h1 tk pv st1 f1=>?_))
  have hz1:=f1 Z _ wZ hz
  have hh1:=hh.go z0 f1
  show wpAny _ A.in1 (tryCatch (holding [v,v] (richCompare .Lt v x >>= _)) _ >>= _) _ _ _
  refine wpAny_bind (wpAny_tryCatch (wpAny_holding (wpAny_bind (hc (j+1) (argBest bt j) v x _ _ _ hh1 pv px ?_))))
  refine wpAny_bind (wpAny_holding (wpAny_truthy_bool ?_))
  refine wpAny_bind (wpAny_letGo (wpAny_pure ?_))
  cases eb:bt (j+1) (argBest bt j) with
  |true=>
   simp only[if_true]
   refine wpAny_bind (wpAny_updateSeq hz1 rfl (wpAny_bind (wpAny_letGo ?_)))
   rw[nmin]
   refine wpAny_pure ⟨plainId_quiet F.plain_min_loop _,minK Wk h0 z0 bt hc Z zZ fZ k (j+1) _ v _ (by omega) (by omega) (Wk.frame _ _ _ st1 fun b fb o e=>?_) (hh1.one zZ fun b o nb e=>(Heap.get?_update_other _ _ (Ne.symm nb)).trans e) (by simp only[argBest,eb,if_true];exact pv) (Heap.get?_update_self _ hz1 rfl) fun v' h2 tk2 p2 f2=>fin v' h2 tk2 p2 f2⟩
   exact(Heap.get?_update_other _ _ (fun q:Z=b=>fZ (by rw[q];exact fb))).trans e
  |false=>
   simp only[NM,if_false]
   refine wpAny_bind (wpAny_letGo ?_)
   rw[nmin]
   exact wpAny_pure ⟨plainId_quiet F.plain_min_loop _,minK Wk h0 z0 bt hc Z zZ fZ k (j+1) _ x c (by omega) (by omega) st1 hh1 (by simp only[argBest,eb,NM,if_false];exact px) hz1 fun v' h2 tk2 p2 f2=>fin v' h2 tk2 p2 f2⟩
theorem minK0(Wk:Walks prog w A.in1 J fp wr m P St)(h0:Heap)(z0:∀b∈wr,h0.get? b=none)(bt:Nat→Nat→Bool)
  (hc:∀i j x y (s:Shared) (Q:Value→Shared→Prop) (E:Value→Shared→Prop),Has h0 s.heap→P i x→P j y→Q (.bool (bt i j)) s→wpAny (model prog w) A.in1 (richCompare .Lt x y) Q E s)
  (Z:Addr) (zZ:h0.get? Z=none) (fZ:Z∉fp) (pos:0<m) {s:Shared} {c:Nat} (st:St 0 s.heap) (hh:Has h0 s.heap) (hz:s.heap.get? Z=some {cls:=.type "list",dict:=none,data:=.seq #[] c,slots:=#[]})
  (fin:∀v h' tk,P (argBest bt (m-1)) v→Has h0 h'→R (.ok (.ret v)) {s with heap:=h',toks:=tk}):
  codeAny (model prog w) A (.builtin "min.loop" ⟨[.ref J, .none, .ref Z],[]⟩) R s:=by
 have wZ:Z∉wr:=fun q=>fZ (Wk.sub _ q)
 refine codeAny_builtin F.entry_min_loop ?_
 rw[Around.under_plainId F.plain_min_loop _]
 show wpAny _ A.in1 (seqItems? (.ref Z) >>= _) _ _ s
 refine wpAny_bind (wpAny_seqItems hz rfl ?_)
 show wpAny _ A.in1 (tryCatch (pyNext (.ref J)) _ >>= _) _ _ s
 refine wpAny_bind (wpAny_tryCatch (Wk.item 0 s _ _ pos st fun v h1 tk pv st1 f1=>?_))
 have hz1:=f1 Z _ wZ hz
 have hh1:=hh.go z0 f1
 show wpAny _ A.in1 (updateSeq Z (fun _=>#[v,v]) >>= _) _ _ _
 refine wpAny_bind (wpAny_updateSeq hz1 rfl ?_)
 rw[nmin]
 refine wpAny_pure ⟨plainId_quiet F.plain_min_loop _,minK Wk h0 z0 bt hc Z zZ fZ _ 0 _ v _ rfl pos (Wk.frame _ _ _ st1 fun b fb o e=>?_) (hh1.one zZ fun b o nb e=>(Heap.get?_update_other _ _ (Ne.symm nb)).trans e) pv (Heap.get?_update_self _ hz1 rfl) fun v' h2 tk2 p2 f2=>fin v' h2 tk2 p2 f2⟩
 exact(Heap.get?_update_other _ _ (fun q:Z=b=>fZ (by rw[q];exact fb))).trans e
end
theorem knA{prog:Program}{w:World}{A:Around}{E:Value→Shared→Prop}{s:Shared}{l:Addr}{vs:Array Value}{Q:Value→Shared→Prop}(hd:A.handled=none)(hl:s.heap.IsList l vs)(pos:0<vs.size)(bt:Nat→Nat→Bool)
  (hc:∀i j x y (s':Shared) (Q:Value→Shared→Prop) (E:Value→Shared→Prop),Has s.heap s'.heap→vs[i]?=some x→vs[j]?=some y→Q (.bool (bt i j)) s'→wpAny (model prog w) A.in1 (richCompare .Lt x y) Q E s')
  (fin:∀v h' tk,vs[argBest bt (vs.size-1)]?=some v→Has s.heap h'→Q v {s with heap:=h',toks:=tk}):wpAny (model prog w) A (call (.builtin "min") [.ref l]) Q E s:=by
 have lt:l<s.heap.objs.size:=by obtain⟨_,e,_⟩:=hl;exact Heap.lt_size e
 refine call_function_tree F.kind_min F.plain_min F.entry_min (F.args_min1 _) ?_
 show wpAny _ A.in1 (Builtin.Builtins.bindParams "min" ["key","default"] 0 ⟨[],[]⟩ >>= _) _ _ s
 refine wpAny_bind (wpAny_of_eq (show Builtin.Builtins.bindParams "min" ["key","default"] 0 ⟨[],[]⟩=pure [none,none] from rfl) ?_)
 refine wpAny_bind (wpAny_pure ?_)
 refine wpAny_bind (wpAny_pyIter_list hl ?_)
 refine wpAny_bind (wpAny_newObj_type ?_)
 rw[nmin]
 have old:∀(b:Addr),s.heap.objs.size≤b→s.heap.get? b=none:=fun b hb=>by
  cases e:s.heap.get? b with
  |none=>rfl
  |some o=>exact absurd (Heap.lt_size e) (M6.mpr hb)
 generalize hp:s.heap.push {cls:=.type "list_iterator",data:=.fields #[.ref l, .int 0 0]}=h1
 have sz:h1.objs.size=s.heap.objs.size+1:=by rw[←hp,Heap.size_push]
 have has1:Has s.heap h1:=fun b o e=>by rw[←hp];exact Heap.get?_push_of_some _ e
 have st1:h1.IsListIter s.heap.objs.size l 0∧h1.IsList l vs:=by
  rw[←hp]
  exact⟨⟨_,Heap.get?_push_size _ rfl,rfl,rfl⟩,hl.push _⟩
 have Wk:=Walks.list (prog:=prog) (w:=w) (A:=A.in1) hd s.heap.objs.size l (Nj lt) vs
 refine wpAny_pure ⟨plainId_quiet F.plain_min_loop _,minK0 Wk s.heap (fun b hb=>?_) bt hc h1.objs.size (old _ (by rw[sz];exact Ms _)) (fun hm=>?_) pos (Wk.frame 0 _ _ st1 fun b _ o e=>Heap.get?_push_of_some _ e) (fun b o e=>Heap.get?_push_of_some _ (has1 b o e)) (Heap.get?_push_size _ rfl) fun v h' tk p f=>fin v h' tk p f⟩
 ·rw[NT.mp hb]
  exact old _ (JK _)
 ·rcases Nc.mp hm with e|hm
  ·rw[sz] at e
   exact absurd e (Nat.succ_ne_self _)
  ·have e:=NT.mp hm
   rw[sz] at e
   exact absurd lt (by rw[←e];exact M6.mpr (Ms _))
end PySem
namespace L2
open PySem PySem.Spec PyProof.Rows
section
variable {X:Cx}
inductive DB (H:Hp):V→V→Bool→Prop
 |flat {x y:V} (fx:flatV x=true) (fy:flatV y=true):DB H x y (eqV x y)
 |lst {a b:Addr} {xs ys:List V} (ha:H a=some (.lst xs)) (hb:H b=some (.lst ys)) (fx:xs.all flatV=true) (fy:ys.all flatV=true):DB H (.ref a) (.ref b) (eqVs xs ys)
theorem kfM{A:Around}{s:Shared}{a b:Addr}{xs ys:List V}{us ws:List Value}(q1:Vals xs us)(q2:Vals ys ws)(p1:s.heap.IsList a us.toArray)(p2:s.heap.IsList b ws.toArray)(hab:a=b→xs=ys)(fx:xs.all flatV=true)(fy:ys.all flatV=true)(hu:A.units<cLine):SeqAt.EqAt A s (.ref a) (.ref b) (eqVs xs ys):=by
 by_cases e:a=b
 ·rw[←hab e,ke5 fx,e]
  exact SeqAt.EqAt.same _
 have l1:=q1.length
 have l2:=q2.length
 by_cases hl:xs.length=ys.length
 ·have key:=SeqAt.RcAt.lists (A:=A) p1 p2 (by simp;omega) hu (khW q1 q2 fx fy)
  have e2:us.toArray.size=xs.length:=by simp[l1]
  rw[e2,kdW xs ys hl] at key
  exact SeqAt.EqAt.of_refs e key
 ·have key:=SeqAt.RcAt.lists_lengths (A:=A) p1 p2 (by simp;omega) hu
  rw[kgk hl]
  exact SeqAt.EqAt.of_refs e key
theorem knb{pins:List (Addr×Obj)}{σ:St}{H:Hp}{s:Shared}(I:Inv X pins σ H s){x y:V}{k:Bool}(h:DB H x y k){A:Around}{u w:Value}(hu:A.units<cLine)(r1:RelV x u)(r2:RelV y w):SeqAt.EqAt A s u w k:=by
 cases h with
 |flat fx fy=>exact kiT r1 r2 fx fy
 | @lst a b xs ys ha hb fx fy=>
  cases r1
  cases r2
  obtain⟨us,q1,p1,z1⟩:=I.list (SqL.of ha)
  obtain⟨ws,q2,p2,z2⟩:=I.list (SqL.of hb)
  exact kfM q1 q2 p1.isList p2.isList (fun e=>by subst e;rw[ha] at hb;cases hb;rfl) fx fy hu
noncomputable def rEqTD(K:JL):R2:=fun x y H Q=>∃(a b:Addr)(xs ys:List V)(e:Nat→Bool),x=.ref a∧y=.ref b∧SqT K H a xs∧SqT K H b ys∧xs.length=ys.length∧(∀j x y,xs[j]?=some x→ys[j]?=some y→DB H x y (e j))∧Q (.bl ((JP xs.length).all e)) H
theorem kkd(hu:X.A.units+64<cLine):OpR X (compareOp .Eq) (rEqTD X.K):=by
 intro pins s σ H x y v u Q I rx ry h
 obtain⟨a,b,xs,ys,e,rfl,rfl,hx,hy,hl,he,q⟩:=h
 cases rx
 cases ry
 obtain⟨us,r1,p1,z1⟩:=I.tuple hx
 obtain⟨ws,r2,p2,z2⟩:=I.tuple hy
 have l1:=r1.length
 have l2:=r2.length
 refine SeqAt.eq_tupleAt (e:=e) p1 p2 (by omega) (fun j h1 h2=>?_) ⟨.bl ((JP xs.length).all e),H,I,?_,q⟩
 ·obtain⟨x,e1,g1⟩:=kkF r1 h1
  obtain⟨y,e2,g2⟩:=kkF r2 h2
  exact knb I (he j x y e1 e2) (by show X.A.units+1<cLine;omega) g1 g2
 ·have e1:us.toArray.size=xs.length:=by simp[l1]
  have e2:ws.toArray.size=xs.length:=by simp;omega
  rw[e1,e2,Mt]
  simp[RelV]
noncomputable abbrev PrI:=Addr×Int×Addr×List Int
noncomputable def ltP(p q:PrI):Bool:=if p.2.1=q.2.1 then SeqAt.lexL p.2.2.2 q.2.2.2 else decide (p.2.1<q.2.1)
noncomputable def ltQ(ps:List PrI)(i j:Nat):Bool:=match ps[i]?,ps[j]? with
 |some p,some q=>ltP p q
 |_,_=>false
theorem kcH:∀(u:List Int),SeqAt.lexL u u=false
 |[]=>rfl
 |x::u=>by
  show(if x=x then SeqAt.lexL u u else _)=false
  rw[if_pos rfl]
  exact kcH u
noncomputable def rMinP(K:JL):List V→Hp→VK→Prop:=fun xs H Q=>∃(a:Addr)(ps:List PrI),xs=[.ref a]∧SqL K H a (ps.map fun p=>V.ref p.1)∧(∀p∈ps,H p.1=some (.tup [.int p.2.1, .ref p.2.2.1])∧H p.2.2.1=some (.lst (p.2.2.2.map V.int)))∧0<ps.length∧∀p,ps[argBest (ltQ ps) (ps.length-1)]?=some p→Q (.ref p.1) H
theorem kk6(hc:X.calm=true)(hu:X.A.units+64<cLine):CallR X (.builtin "min") (rMinP X.K):=by
 intro pins s σ H xs us Q I r h
 obtain⟨a,ps,rfl,hx,hp,pos,q⟩:=h
 obtain⟨u,rfl,r1⟩:=vals1 r
 cases r1
 obtain⟨us,r2,p2,z2⟩:=I.list hx
 have l2:=r2.length
 rw[JJ] at l2
 have hat:∀(i:Nat)(x:Value),us.toArray[i]?=some x→∃p,ps[i]?=some p∧x=.ref p.1:=fun i x hx'=>by
  obtain⟨hi,ex⟩:=Array.getElem?_eq_some_iff.mp hx'
  obtain⟨y,e1,g1⟩:=kkF r2 hi
  rw[JU] at e1
  cases ep:ps[i]? with
  |none=>rw[ep] at e1;cases e1
  |some p=>
   rw[ep] at e1
   cases e1
   rw[ex] at g1
   cases g1
   exact⟨p,rfl,rfl⟩
 refine knA (I.ok.hd hc) p2.isList (by simp;omega) (ltQ ps) (fun i j x y s' Q' E' has hx' hy' q'=>?_) fun v h' tk hv has=>?_
 ·obtain⟨p,ep,rfl⟩:=hat i x hx'
  obtain⟨p',ep',rfl⟩:=hat j y hy'
  obtain⟨t1,l1⟩:=hp p (JO ep)
  obtain⟨t1',l1'⟩:=hp p' (JO ep')
  obtain⟨uT,rT,pT,_⟩:=I.tuple (SqT.of (K:=X.K) t1)
  obtain⟨uT',rT',pT',_⟩:=I.tuple (SqT.of (K:=X.K) t1')
  obtain⟨uL,rL,pL,_⟩:=I.list (SqL.of (K:=X.K) l1)
  obtain⟨uL',rL',pL',_⟩:=I.list (SqL.of (K:=X.K) l1')
  obtain⟨x0,x1,rfl,⟨t0,rfl⟩,g1⟩:=vals2 rT
  obtain⟨y0,y1,rfl,⟨t0',rfl⟩,g1'⟩:=vals2 rT'
  cases g1
  cases g1'
  have pL2:=pL.isList.at (h':=s'.heap) fun o e=>has _ o e
  have pL2':=pL'.isList.at (h':=s'.heap) fun o e=>has _ o e
  have pT2:s'.heap.IsTuple p.1 #[.int p.2.1 t0, .ref p.2.2.1]:=by
   obtain⟨o,e,r⟩:=pT
   exact⟨o,has _ _ e,r⟩
  have pT2':s'.heap.IsTuple p'.1 #[.int p'.2.1 t0', .ref p'.2.2.1]:=by
   obtain⟨o,e,r⟩:=pT'
   exact⟨o,has _ _ e,r⟩
  have u2:X.A.in1.in1.units<cLine:=by show X.A.units+1+1<cLine;omega
  have key:=SeqAt.lt_pairs (A:=X.A.in1) (s:=s') pT2 pT2' (by show X.A.units+1<cLine;omega)
   (kiT (show RelV (.int p.2.1) (.int p.2.1 t0) from⟨t0,rfl⟩) (show RelV (.int p'.2.1) (.int p'.2.1 t0') from⟨t0',rfl⟩) rfl rfl) (l0:=decide (p.2.1<p'.2.1)) (fun prog w E Q h=>wpAny_lt_int h)
   (kfM rL rL' pL2 pL2' (fun e=>by rw[e,l1'] at l1;injection l1 with l1;injection l1 with l1;exact l1.symm) (kdI _) (kdI _) u2) (l1:=SeqAt.lexL p.2.2.2 p'.2.2.2) (fun prog w E Q h=>SeqAt.lt_lists pL2 pL2' (kkJ rL) (kkJ rL') u2 (fun m h1 h2=>?_) prog w E Q h)
  ·have e:(if eqV (.int p.2.1) (.int p'.2.1) then(if eqVs (p.2.2.2.map V.int) (p'.2.2.2.map V.int) then false else SeqAt.lexL p.2.2.2 p'.2.2.2) else decide (p.2.1<p'.2.1))=ltQ ps i j:=by
    unfold ltQ
    rw[ep,ep',ke7]
    show(if(p.2.1==p'.2.1)=true then _ else _)=ltP p p'
    unfold ltP
    by_cases c:p.2.1=p'.2.1
    ·rw[if_pos (beq_iff_eq.mpr c),if_pos c]
     by_cases c2:p.2.2.2=p'.2.2.2
     ·rw[decide_eq_true c2,if_pos rfl,c2,kcH]
     ·rw[decide_eq_false c2,if_neg JS]
    ·rw[if_neg (fun z=>c (beq_iff_eq.mp z)),if_neg c]
   rw[e] at key
   exact key _ _ _ _ q'
  ·have key:=khW (A:=X.A.in1.in1.in1) (s:=s') rL rL' (kdI _) (kdI _) m h1 h2
   have n1:=rL.length
   have n2:=rL'.length
   rw[JJ] at n1 n2
   have k1:m<p.2.2.2.length:=by simp at h1;omega
   have k2:m<p'.2.2.2.length:=by simp at h2;omega
   have e:eqV ((p.2.2.2.map V.int).getD m .non) ((p'.2.2.2.map V.int).getD m .non)=decide (p.2.2.2.getD m 0=p'.2.2.2.getD m 0):=by
    simp[k1,k2,eqV]
    exact MI.mpr (by rw[beq_iff_eq,decide_eq_true_iff])
   rw[e] at key
   exact key
 ·obtain⟨p,ep,rfl⟩:=hat _ v hv
  have sz:us.toArray.size=ps.length:=by simp;omega
  rw[sz] at ep
  exact⟨.ref p.1,H,I.kept has,rfl,q p ep⟩
end
end L2
namespace L2
open PySem PySem.Spec PyProof.Rows
noncomputable def nxo:HO→Bool
 | .ext _=>false
 |_=>true
noncomputable def NX(H:Hp)(p:Addr):Prop:=∀φ,H p≠some (.ext φ)
def nx{H:Hp}{p:Addr}{o:HO}(h:H p=some o)(n:nxo o=true:=by rfl):NX H p:=fun φ z=>by
 rw[h] at z
 cases z
 cases n
def nx0{H:Hp}{p:Addr}(h:H p=none):NX H p:=fun φ z=>by
 rw[h] at z
 cases z
def kdh{H:Hp}{p q:Addr}{o:HO}(h:NX H p)(n:nxo o=true:=by rfl):NX (upd H q o) p:=fun φ z=>by
 by_cases e:p=q
 ·subst e
  rw[kae] at z
  cases z
  cases n
 ·rw[kak e] at z
  exact h φ z
noncomputable abbrev Ev(H H':Hp)(b:Addr)(o:HO):Prop:=match o with
 | .tbl _=>(∃ps,H' b=some (.tbl ps))∧(TbAt b H→TbAt b H')
 |o=>H' b=some o
def ev_eq{H H':Hp}{b:Addr}{o:HO}(e:H' b=some o)(t:TbAt b H→TbAt b H'):Ev H H' b o:=by
 cases o <;> first|exact e|exact⟨⟨_,e⟩,t⟩
def khV{H H':Hp}{b:Addr}{o:HO}(e:Ev H H' b o):∃o',H' b=some o':=by
 cases o <;> first|exact⟨_,e⟩|exact⟨_,e.1.choose_spec⟩
theorem kbL{H H1 H2:Hp}{b:Addr}{o:HO}(e:Ev H H1 b o)(k:∀o,H1 b=some o→Ev H1 H2 b o):Ev H H2 b o:=by
 cases o with
 |tbl ps=>
  obtain⟨⟨ps1,e1⟩,t1⟩:=e
  obtain⟨e2,t2⟩:=(show Ev H1 H2 b (.tbl ps1) from k _ e1)
  exact⟨e2,fun h=>t2 (t1 h)⟩
 |_=>exact k _ e
def kd8{b p:Addr}{H:Hp}{o:HO}(h:TbAt b H)(n:b≠p)(hx:NX H p):TbAt b (upd H p o):=by
 obtain⟨ps,e,t,hor⟩:=h
 refine⟨ps,by rw[kak n];exact e,t,fun pos d ed=>?_⟩
 obtain⟨c,rfl,z2⟩:=hor pos d ed
 have hc:c≠p:=fun e=>by
  subst e
  exact hx _ z2
 exact⟨c,rfl,by rw[kak hc];exact z2⟩
noncomputable def Same(H H':Hp):Prop:=∀b o,H b=some o→Ev H H' b o
def Same.refl(H:Hp):Same H H:=fun _ _ h=>ev_eq h fun t=>t
def Same.trans{H H1 H2:Hp}(a:Same H H1)(b:Same H1 H2):Same H H2:=fun c o h=>kbL (a c o h) fun o' e=>b c o' e
theorem Same.free{H H':Hp}(e:Same H H'){l:Addr}(h:H' l=Option.none):H l=Option.none:=by
 cases q:H l with
 |none=>rfl
 |some o=>
  obtain⟨o',e'⟩:=khV (e l o q)
  rw[e'] at h
  cases h
def Same.seq{K:JL}{H H':Hp}{a:Addr}{xs:List V}(e:Same H H')(h:SqL K H a xs):SqL K H' a xs:=by
 rcases h with(h|⟨o,h⟩)|h
 ·exact .inl (.inl (e _ _ h))
 ·exact .inl (.inr ⟨o,e _ _ h⟩)
 ·exact .inr h
def Same.tb{H H':Hp}(s:Same H H'){b:Addr}(h:TbAt b H):TbAt b H':=by
 obtain⟨ps,e,r⟩:=id h
 exact(show Ev H H' b (.tbl ps) from s b _ e).2 h
def Grew.same{P:Addr}{H H':Hp}(g:Grew P H H')(TB:TbAt P H):Same H H':=fun b o e=>by
 obtain⟨ps,eP,ht,hor⟩:=TB
 by_cases h:b=P
 ·subst h
  rw[eP] at e
  cases e
  obtain⟨qs,e1,_⟩:=id g.tb
  exact⟨⟨qs,e1⟩,fun _=>g.tb⟩
 ·refine ev_eq (g.kp b o h e) fun t=>?_
  obtain⟨qs,e1,t1,h1⟩:=t
  refine⟨qs,g.kp b _ h e1,t1,fun pos d ed=>?_⟩
  obtain⟨c,rfl,z⟩:=h1 pos d ed
  exact⟨c,rfl,g.kp c _ (ne_of z eP (by intro z;cases z)) z⟩
end L2
namespace L2
open PySem PySem.Spec PyProof.Rows
noncomputable def kgA(K:JL)(tP:Addr):Sp:=fun vs H Q _=>∃(a:Addr)(ns:List Int),vs=[.ref a]∧SqL K H a (ns.map V.int)∧ns.length≤63∧TbAt tP H∧∀H',Q (.bl true) H'
theorem kkv{P:Program}{w:World}{K:JL}{mg mb:Str→Option Value}{k:Nat}{fa a tP c0:Addr}{fd:FuncData}{x:Str}{s₁:Shared}{vs:List Value}{ns:List Int}
  (KX:K.In s₁.heap) (hns:s₁.heap.Ns mainGlobals mg) (hb:s₁.heap.Ns builtinsNs mb) (hbb:∀x:Str,x≠"__name__"→mb x=bootBuiltins x) (hlim:s₁.heap.NoLimit) (hg:s₁.gens= #[])
  (ha:s₁.heap.get? a=some {cls:=.type "list",data:=.seq vs.toArray}) (hi:IntsAre vs ns) (hl:ns.length≤63) (hr:Room k callerA) (hT:s₁.heap.get? tP=some (Ea #[])) (CK:CodeK K c0 tP) (kT:K.lookup tP=none) (hBM:BltM mg s₁.heap)
  (F:∀base:Heap,K.In base→base.Ns mainGlobals mg→BltM mg base→FnOk P w K mg base CX0 k fa fd [x] (kgA K tP)) (hbind:∀(s:Shared)(u:Value),BindsTo s fd ⟨[u],[]⟩ [(x,u)]):
  codeAny (model P w) callerA (.call (.ref fa) ⟨[.ref a],[]⟩) (fun r s'=>r=.ok (.ret (.bool true))∧OldK s₁.heap s'.heap∧s'.os=s₁.os∧AllBare s'.gens) s₁:=by
 have rv:=kgs hi
 have lenV:=hi.length
 have hlz:ns.length≤sizeLine:=JN hl (by decide)
 have nTa:tP≠a:=fun e=>by
  rw[e,ha] at hT
  have:=Option.some.inj hT
  injection this with z
  cases z
 have core:∀H:Hp,SqL K H a (ns.map V.int)→HOk P w H s₁.heap→H tP=some (.tbl #[])→(∀b,b≠tP→H b=none∨(b=a∧∃o xs,H b=some (.frz o (.lst xs))))→(H a≠none→K.lookup a=none)→
   codeAny (model P w) callerA (.call (.ref fa) ⟨[.ref a],[]⟩) (fun r s'=>r=.ok (.ret (.bool true))∧OldK s₁.heap s'.heap∧s'.os=s₁.os∧AllBare s'.gens) s₁:=by
  intro H hS hok eT hO hK
  have base_of:∀{b:Addr}{o:Obj},s₁.heap.get? b=some o→H b=none→(hidT s₁.heap H).get? b=some o:=fun e n=>klK e n
  have noT:∀{b:Addr}{o:Obj},s₁.heap.get? b=some o→o.cls≠.none→(∀us n,o.data≠.seq us n)→H b=none:=fun {b o} e hc hd=>by
   by_cases hbT:b=tP
   ·rw[hbT,hT] at e
    cases e
    exact absurd rfl hc
   ·rcases hO b hbT with z|⟨z,_⟩
    ·exact z
    ·rw[z,ha] at e
     cases e
     exact absurd rfl (hd _ _)
  have noA:∀{b:Addr}{o:Obj}{es:Array DictEntry}{ep:Nat},s₁.heap.get? b=some o→o.data=.dict es ep→H b=none:=fun {b o es ep} e d=>by
   by_cases hbT:b=tP
   ·rw[hbT,hT] at e
    cases e
    cases d
   ·rcases hO b hbT with z|⟨z,_⟩
    ·exact z
    ·rw[z,ha] at e
     cases e
     cases d
  have nsK:∀{b:Addr}{m:Str→Option Value},s₁.heap.Ns b m→(hidT s₁.heap H).Ns b m:=fun {b m} ⟨o,es,ep,e,d,r⟩=>⟨o,es,ep,base_of e (noA e d),d,r⟩
  have hKb:K.In (hidT s₁.heap H):=fun b o e=>base_of (KX b o e) (by
   by_cases hbT:b=tP
   ·rw[hbT,kT] at e
    cases e
   ·rcases hO b hbT with z|⟨z,o',xs,z2⟩
    ·exact z
    ·subst z
     rw[hK (by rw[z2];simp)] at e
     cases e)
  have hM:Mod K mg (hidT s₁.heap H):=⟨hKb,nsK hns,⟨mb,nsK hb,hbb⟩,let⟨mc,h1,h2⟩:=hlim;⟨mc,nsK h1,h2⟩⟩
  have hBb:BltM mg (hidT s₁.heap H):=by
   obtain⟨bm,ob,b1,b2,b3,b4,b5,b6⟩:=hBM
   exact⟨bm,ob,b1,b2,base_of b3 (noT b3 (by rw[b4];intro z;cases z) (fun us n z=>by rw[b6] at z;cases z)),b4,b5,b6⟩
  have e0:Env0 P w K mg (hidT s₁.heap H) callerA [] s₁ H:=⟨rfl,hM,fun b o e=>kmW e,MX (kkL _ _),trivial,fun b hb=>absurd (show b∈([]:List Addr) from hb) (by simp),hok, .of_eq hg⟩
  have hsp:kgA K tP [.ref a] H (fun v _=>v=.bl true) fun _ _ _=>False:=⟨a,ns,rfl,hS,hl,⟨#[],eT,by trivial,fun pos c e=>by cases e⟩,fun _=>rfl⟩
  refine codeAny_mono ((F _ hKb (nsK hns) hBb).run callerA [] s₁ H ⟨[.ref a],[]⟩ [.ref a] [.ref a] _ _ hr e0 (hbind s₁ (.ref a)) (.cons rfl .nil) hsp) fun r s' h=>?_
  cases r with
  |error e=>exact(show False from h).elim
  | ok fl=>
   cases fl with
   |next=>exact False.elim h
   |brk=>exact False.elim h
   |cont=>exact False.elim h
   | ret u=>
    obtain⟨v,H',os,bare,un,hok',r',q⟩:=h
    have q':v=.bl true:=q
    subst q'
    obtain rfl:u=Value.bool true:=r'
    have kp:∀b o,b≠tP→s₁.heap.get? b=some o→s'.heap.get? b=some o:=fun b o hbT e=>by
     rcases hO b hbT with z|⟨z,o',xs,z2⟩
     ·exact un.keep b o e z (fun z=>absurd (show b∈([]:List Addr) from z) (by simp)) (by simp)
     ·have z3:=un.frzs b o' _ z2
      obtain⟨e1,_⟩:=hok b _ z2
      obtain⟨e2,_⟩:=hok' b _ z3
      rw[e] at e1
      cases e1
      exact e2
    obtain⟨more,eM⟩:=un.tbls tP #[] eT
    have tM:s'.heap.get? tP=some (Ea (#[]++more)):=(show ObjOk P w H' s'.heap tP (.tbl (#[]++more)) from hok' tP _ eM)
    refine⟨rfl,⟨fun b o e=>?_,fun b o e=>?_⟩,os,bare⟩
    ·by_cases hbT:b=tP
     ·subst hbT
      rw[hT] at e
      cases e
      obtain⟨oc,us,_,_,_,_,_,_,_,c1,c2,c3,c4,_⟩:=CK
      exact .inr (.inl ⟨⟨c0,oc,us,KX _ _ c1,c2,c3,c4⟩,rfl,#[],more,rfl,tM⟩)
     ·exact .inl (kp b o hbT e)
    ·by_cases hbT:b=tP
     ·subst hbT
      exact⟨_,tM⟩
     ·exact⟨o,kp b o hbT e⟩
 cases hk:K.lookup a with
 | some o=>
  have e:=KX a o hk
  rw[ha] at e
  cases e
  refine core (fun b=>if b=tP then some (.tbl #[]) else none) (.inr ⟨_,vs.toArray,_,hk,rfl,rfl,rfl,by rw[Nd,lenV];exact hlz,by simpa using rv⟩) (fun b u z=>?_) (if_pos rfl) (fun b hbT=>.inl (if_neg hbT)) fun z=>absurd (if_neg nTa.symm) z
  by_cases hbT:b=tP
  ·have z':=(if_pos hbT).symm.trans z
   cases z'
   subst hbT
   exact(show s₁.heap.get? b=some _ from hT)
  ·have z':=(if_neg hbT).symm.trans z
   cases z'
 | none=>
  refine core (fun b=>if b=tP then some (.tbl #[]) else if b=a then some (.frz {cls:=.type "list",data:=.seq vs.toArray} (.lst (ns.map V.int))) else none) (.inl (.inr ⟨{cls:=.type "list",data:=.seq vs.toArray},by show(if a=tP then _ else _)=_;rw[if_neg nTa.symm,if_pos rfl]⟩)) (fun b u z=>?_) (if_pos rfl) (fun b hbT=>?_) fun _=>hk
  ·by_cases hbT:b=tP
   ·have z':=(if_pos hbT).symm.trans z
    cases z'
    subst hbT
    exact(show s₁.heap.get? b=some _ from hT)
   ·have z1:=(if_neg hbT).symm.trans z
    by_cases hb2:b=a
    ·have z':=(if_pos hb2).symm.trans z1
     cases z'
     subst hb2
     exact⟨ha,by rw[JJ];exact hlz,vs,_,rv,ha⟩
    ·have z':=(if_neg hb2).symm.trans z1
     cases z'
  ·by_cases hb2:b=a
   ·exact .inr ⟨hb2,_,_,by show(if b=tP then _ else _)=_;rw[if_neg hbT,if_pos hb2]⟩
   ·exact .inl (by show(if b=tP then _ else _)=_;rw[if_neg hbT,if_neg hb2])
theorem walkT_of{l:PySem.W.OpenLaw}{k:Nat}{q:Program}{loose:List Str}{XP:(Str→Option Value)→Heap→Prop}{YP:World→Heap→Prop}{d:DefRec}{K:Params→JL}{ts:List Addr}{x:Str}
  (hn:l.most=some 63) (hdf:d.params.defaults=[]) (hr:Room k callerA) (hY:∀(w:World)(h:Heap),YP w h→(K w.params).In h) (hTs:∀(w:World)(h:Heap),YP w h→∀P∈ts,h.get? P=some (Ea #[]))
  (F:∀(w:World)(mg:Str→Option Value)(fa:Addr)(h:Heap),(K w.params).In h→h.Ns mainGlobals mg→mg d.name=some (.ref fa)→
   ∃(fd:FuncData)(tP c0:Addr),tP∈ts∧CodeK (K w.params) c0 tP∧(K w.params).lookup tP=none∧(∀(s:Shared)(u:Value),BindsTo s fd ⟨[u],[]⟩ [(x,u)])∧
    ∀base:Heap,(K w.params).In base→base.Ns mainGlobals mg→BltM mg base→FnOk l.prog w (K w.params) mg base CX0 k fa fd [x] (kgA (K w.params) tP)):
  PySem.W.WalkO q loose XP YP l.row.toRowW d [] (fun f vs=>PySem.call f vs):=by
 refine Att.attach_call hn hdf fun w s₀ s₁ mg mb fa o pm cd doc a vs ns G Y ho hd hcd hmg hobj hints hlen hg=>?_
 have KX:=hY w _ Y
 obtain⟨fd,tP,c0,hm,CK,kT,hb,hF⟩:=F w mg fa _ KX G.T.g hmg
 obtain⟨bm,ob,b1,b2,b3,b4,b5,b6⟩:=G.T.bmain
 exact kkv KX G.T.g G.T.b G.T.builtins G.T.nolimit hg hobj hints hlen hr (hTs w _ Y tP hm) CK kT ⟨bm,ob,b1,b2,b3,b4,b5,b6⟩ hF hb
end L2
namespace L2
open PySem PySem.Spec PyProof.Rows
def nd1(x:Str):([x]:List Str).Nodup:=by simp
noncomputable def But(x:Addr)(H H':Hp):Prop:=∀b o,b≠x→H b=some o→Ev H H' b o
def But.trans{x:Addr}{H H1 H2:Hp}(a:But x H H1)(b:But x H1 H2):But x H H2:=fun c o n h=>kbL (a c o n h) fun o' e=>b c o' n e
def But.same{x:Addr}{H H1 H2:Hp}(a:But x H H1)(b:Same H1 H2):But x H H2:=fun c o n h=>kbL (a c o n h) fun o' e=>b c o' e
def But.of_same{x:Addr}{H H1:Hp}(b:Same H H1):But x H H1:=fun c o _ h=>b c o h
def But.refl{x:Addr}{H:Hp}:But x H H:=fun b o _ h=>Same.refl H b o h
def kaB{x:Addr}{H:Hp}{o:HO}(hx:NX H x:=by first|exact nx kae|exact nx (by assumption)|exact nx0 (by assumption)|exact kdh (nx kae) rfl|exact kdh (nx (by assumption)) rfl):But x H (upd H x o):=fun b u n e=>ev_eq (by rw[kak n];exact e) fun t=>kd8 t n hx
def kan{H:Hp}{p:Addr}{o:HO}(hp:H p=none):Same H (upd H p o):=fun b u e=>ev_eq (by rw[kak (kai e hp)];exact e) fun t=>kd8 t (kai e hp) (nx0 hp)
def kaw{H H':Hp}{p:Addr}{o:HO}(hp:H p=none)(s:Same H H')(hx:NX H' p:=by first|exact nx (by assumption)|exact nx kae|exact kdh (nx (by assumption)) rfl|exact kdh (nx kae) rfl|exact kdh (nx0 (by assumption)) rfl|exact kdh (kdh (nx (by assumption)) rfl) rfl):Same H (upd H' p o):=fun b u e=>
 kbL (s b u e) fun u' e'=>ev_eq (by rw[kak (kai e hp)];exact e') fun t=>kd8 t (kai e hp) hx
def kbh{H:Hp}{x dx C:Addr}(hx:H x=none)(nd:H dx=none):Same H (upd (upd H dx (.own x)) x (.ins C dx [])):=fun b u e=>by
 have n1:=kai e hx
 have n2:=kai e nd
 exact ev_eq (by rw[kak n1,kak n2];exact e) fun t=>kd8 (kd8 t n2 (nx0 nd)) n1 (kdh (nx0 hx) rfl)
def kbN{H H':Hp}{x dx C:Addr}(hx:H x=none)(nd:H dx=none)(k:But x (upd (upd H dx (.own x)) x (.ins C dx [])) H'):Same H H':=fun b o e=>kbL (kbh (C:=C) hx nd b o e) fun o' e'=>k b o' (kai e hx) e'
def kdE{H:Hp}{x dx C y:Addr}(h:(upd (upd H dx (.own x)) x (.ins C dx [])) y=none):H y=none:=by
 by_cases e1:y=x
 ·subst e1
  rw[kae] at h
  cases h
 ·rw[kak e1] at h
  by_cases e2:y=dx
  ·subst e2
   rw[kae] at h
   cases h
  ·rw[kak e2] at h
   exact h
def kg3{H:Hp}{x dx C y:Addr}{o:HO}(nx:H x=none)(nd:H dx=none)(h:H y=some o):(upd (upd H dx (.own x)) x (.ins C dx [])) y=some o:=by
 rw[kak (kai h nx),kak (kai h nd)]
 exact h
theorem kal{f:Str}{v:V}:∀{fs:List (Str×V)}{n:Nat},fs.length≤n→(putF f v fs).length≤n+1
 |[],n,_=>by
  show 1≤n+1
  omega
 | (g,x)::r,n,h=>by
  show(if g=f then(g,v)::r else(g,x)::putF f v r).length≤n+1
  have h':r.length+1≤n:=h
  split
  ·show r.length+1≤n+1
   omega
  ·show(putF f v r).length+1≤n+1
   have:=kal (f:=f) (v:=v) (fs:=r) (n:=n-1) (by omega)
   omega
def few{fs:List (Str×V)}(h:fs.length≤20):fs.length<1000:=by omega
theorem kbj{ns:List Addr}{i:Nat}{x:V}(h:(ns.map V.ref)[i]?=some x):∃z,ns[i]?=some z∧x=V.ref z:=by
 rw[JU] at h
 cases e:ns[i]? with
 |none=>rw[e] at h;cases h
 |some z=>rw[e] at h;exact⟨z,rfl,(Option.some.inj h).symm⟩
theorem kbC{α:Type}{g: α→V}{ns:List α}{i:Nat}{x:V}(h:(ns.map g)[i]?=some x):∃z,ns[i]?=some z∧x=g z:=by
 rw[JU] at h
 cases e:ns[i]? with
 |none=>rw[e] at h;cases h
 |some z=>rw[e] at h;exact⟨z,rfl,(Option.some.inj h).symm⟩
def at_lt{α:Type}{xs:List α}{i:Nat}{x: α}(h:xs[i]?=some x):i<xs.length:=(JX.mp h).1
def at_of{α:Type}{xs:List α}{i:Nat}(h:i<xs.length):∃x,xs[i]?=some x:=⟨xs[i],by simp[h]⟩
def kck{α:Type}{rs:List α}{i:Nat}{r: α}(h:rs[i]?=some r):rs.take (i+1)=rs.take i++[r]:=by
 rw[N8,h]
 rfl
inductive P2 {α β:Type} (R: α→β→Prop):List α→List β→Prop
 |nil:P2 R [] []
 |cons {a: α} {b: β} {as:List α} {bs:List β} (h:R a b) (t:P2 R as bs):P2 R (a::as) (b::bs)
section
variable {α β:Type} {R R': α→β→Prop} {as as':List α} {bs bs':List β}
theorem P2.of(hl:as.length=bs.length)(h:∀(i:Nat)(a: α)(b: β),as[i]?=some a→bs[i]?=some b→R a b):P2 R as bs:=by
 induction as generalizing bs with
 |nil=>
  cases bs with
  |nil=>exact .nil
  |cons b bs=>cases hl
 |cons a as ih=>
  cases bs with
  |nil=>cases hl
  |cons b bs=>exact .cons (h 0 a b rfl rfl) (ih (by simpa using hl) fun i x y e1 e2=>h (i+1) x y (by simpa using e1) (by simpa using e2))
theorem P2.len(h:P2 R as bs):as.length=bs.length:=by
 induction h with
 |nil=>rfl
 |cons r t ih=>simp[ih]
theorem P2.get(h:P2 R as bs){i:Nat}{a: α}{b: β}(e1:as[i]?=some a)(e2:bs[i]?=some b):R a b:=by
 induction h generalizing i with
 |nil=>simp at e1
 | cons r t ih=>
  cases i with
  |zero=>
   simp at e1 e2
   subst e1 e2
   exact r
  |succ i=>exact ih (by simpa using e1) (by simpa using e2)
theorem P2.at(h:P2 R as bs){i:Nat}{a: α}(e1:as[i]?=some a):∃b,bs[i]?=some b∧R a b:=by
 obtain⟨b,e2⟩:=at_of (xs:=bs) (i:=i) (by rw[←h.len];exact at_lt e1)
 exact⟨b,e2,h.get e1 e2⟩
theorem P2.mono(h:P2 R as bs)(k:∀a b,R a b→R' a b):P2 R' as bs:=by
 induction h with
 |nil=>exact .nil
 |cons r t ih=>exact .cons (k _ _ r) ih
theorem P2.append(h:P2 R as bs)(h':P2 R as' bs'):P2 R (as++as') (bs++bs'):=by
 induction h with
 |nil=>exact h'
 |cons r t ih=>exact .cons r ih
theorem P2.snoc(h:P2 R as bs){a: α}{b: β}(r:R a b):P2 R (as++[a]) (bs++[b]):=h.append (.cons r .nil)
theorem P2.take(h:P2 R as bs)(k:Nat):P2 R (as.take k) (bs.take k):=by
 induction h generalizing k with
 |nil=>simpa using P2.nil
 |cons r t ih=>
  cases k with
  |zero=>exact .nil
  |succ k=>exact .cons r (ih k)
theorem P2.drop(h:P2 R as bs)(k:Nat):P2 R (as.drop k) (bs.drop k):=by
 induction h generalizing k with
 |nil=>simpa using P2.nil
 |cons r t ih=>
  cases k with
  |zero=>exact .cons r t
  |succ k=>exact ih k
theorem P2.reverse(h:P2 R as bs):P2 R as.reverse bs.reverse:=by
 induction h with
 |nil=>exact .nil
 |cons r t ih=>
  rw[List.reverse_cons,List.reverse_cons]
  exact ih.append (.cons r .nil)
end
theorem rep1(n:Nat)(v:V):(JR n [v]).flatten=JR n v:=by
 induction n with
 |zero=>rfl
 |succ n ih=>rw[Mc,Ni,ih,Mc];rfl
def kj0(n:Nat)(z:Int):JR n (V.int z)=(JR n z).map V.int:=by simp
def kmh(k:Int):(!decide (V.int k=V.non))=true:=by simp
def kmg:(!decide (V.non=V.non))=false:=by simp
noncomputable def oV:Option Int→V
 |none=>.non
 |some z=>.int z
structure TxtB (mg:Str→Option Value):Prop where
 range:mg "range"=none
 len:mg "len"=none
 min:mg "min"=none
 max:mg "max"=none
 isi:mg "isinstance"=none
 bool:mg "bool"=none
 int:mg "int"=none
 list:mg "list"=none
 sum:mg "sum"=none
 enum:mg "enumerate"=none
 any:mg "any"=none
 all:mg "all"=none
 rev:mg "reversed"=none
 zip:mg "zip"=none
 abs:mg "abs"=none
 sorted:mg "sorted"=none
 tuple:mg "tuple"=none
 str:mg "str"=none
structure FunD (K:JL) (x qual:Str) (st:Stmt) (f:Addr) (fd:FuncData):Prop where
 ex:∃(oc:Value)(od:Option Addr)(dV kV doc pm:Value)(an:Option Addr)(cdv ct:Value)(osl:Array (Option Value)),
  fd=J6 x qual (kaH st) (kaF st) (kah st) dV kV doc pm an cdv ct∧K.lookup f=some ⟨oc,od, .func fd,osl⟩∧Nu K cdv qual=true
 kp:J7 K (.ref f)=true
theorem FunD.ok{P:Program}{w:World}{K:JL}{mg:Str→Option Value}{base:Heap}{x qual:Str}{st:Stmt}{f:Addr}{fd:FuncData}{N ps:List Str}{k:Nat}{sp:Sp}(F:FunD K x qual st f fd)(S:kas N ps (kah st))(len:∀vs H Q E,sp vs H Q E→vs.length=ps.length)
  (hbody:∀(cdv:Value)(A:Around)(outer:List Env)(s:Shared)(H:Hp)(vs:List V)(Q:VK)(E:XK),Room k (A.deeper (PyProof.Rows.envOfC qual (kah st) s.heap.objs.size f cdv))→sp vs H Q E→
   ∃t,PSs (cxOf CX0 P w K mg base N qual (kah st) f cdv A outer s H E).nox (kaF st) t∧t {nx:=fun _ H'=>Q .non H',rt:=Q} (start N vs) H):FnOk P w K mg base CX0 (k+1) f fd ps sp:=by
 obtain⟨oc,od,dV,kV,doc,pm,an,cdv,ct,osl,rfl,lk,hcd⟩:=F.ex
 refine fn_of lk hcd S len fun A outer s H vs Q E hr hsp=>?_
 obtain⟨t,h,q⟩:=hbody cdv A outer s H vs Q E hr hsp
 exact⟨t,h.nox,q⟩
theorem FunD.okC{P:Program}{w:World}{K:JL}{mg:Str→Option Value}{base:Heap}{x qual:Str}{st:Stmt}{f:Addr}{fd:FuncData}{N ps:List Str}{k:Nat}{sp:Sp}(F:FunD K x qual st f fd)(S:kas N ps (kah st))(len:∀vs H Q E,sp vs H Q E→vs.length=ps.length)
  (hbody:∀(A:Around)(outer:List Env)(s:Shared)(H:Hp)(vs:List V)(Q:VK)(E:XK),Room k (A.deeper (PyProof.Rows.envOfC qual (kah st) s.heap.objs.size f fd.code))→sp vs H Q E→
   ∃t,PSs (cxOf CX0 P w K mg base N qual (kah st) f fd.code A outer s H E).nox (kaF st) t∧t {nx:=fun _ H'=>Q .non H',rt:=Q} (start N vs) H):FnOk P w K mg base CX0 (k+1) f fd ps sp:=by
 obtain⟨oc,od,dV,kV,doc,pm,an,cdv,ct,osl,rfl,lk,hcd⟩:=F.ex
 refine fn_of lk hcd S len fun A outer s H vs Q E hr hsp=>?_
 obtain⟨t,h,q⟩:=hbody A outer s H vs Q E hr hsp
 exact⟨t,h.nox,q⟩
theorem kbA{K:JL}{x qual:Str}{st:Stmt}{f:Addr}{oc:Value}{od an:Option Addr}{osl:Array (Option Value)}{dV kV doc pm cdv ct:Value}(l:K.lookup f=some ⟨oc,od, .func (J6 x qual (kaH st) (kaF st) (kah st) dV kV doc pm an cdv ct),osl⟩)
  (c:Nu K cdv qual=true) (k:J7 K (.ref f)=true):FunD K x qual st f (J6 x qual (kaH st) (kaF st) (kah st) dV kV doc pm an cdv ct):=⟨⟨oc,od,dV,kV,doc,pm,an,cdv,ct,osl,rfl,l,c⟩,k⟩
structure Dn (K:JL) (mg:Str→Option Value) (x:Str) (st:Stmt) (ps:List Str) (f:Addr) (fd:FuncData):Prop where
 F:FunD K x x st f fd
 b:Binds K fd ps []
 m:mg x=some (.ref f)
structure Isi (K:JL) (C:Addr):Prop where
 ha:JM K (.ref C) "__class__"=some (some (.builtin "object.__class__"))
 hn:MJ K (.builtin "object.__class__") "__get__"=some (some (.builtin "getset_descriptor.__get__"))
 ht:Eu K (.builtin "object.__class__")=some true
 hm:JT K C (.type "object")=some true
def kaN{K:JL}{A B:Addr}{b:Bool}(mA:JT K A (.ref B)=some b)(ob:JT K B (.type "object")=some true)(ty:Nz K (.ref B)=some (.type "type"))(ne:A≠B):Nb K (.ref A) (.ref B)=some b:=by
 have e:(Value.ref A==Value.ref B)=false:=beq_eq_false_iff_ne.mpr fun z=>ne (by injection z)
 obtain⟨cd,a,_⟩:=Option.bind_eq_some_iff.mp ob
 unfold Nb PySem.W.kitCls PySem.W.subIn
 rw[e,if_neg JS]
 show(if((PySem.W.clsIn K B).isSome&&Nz K (.ref B)==some (.type "type"))=true then JT K A (.ref B) else none)=some b
 rw[a,ty,mA,if_pos (by simp)]
def kbu{K:JL}{A B:Addr}(h:JT K A (.ref B)=some false)(hA:JT K A (.ref A)=some true):A≠B:=fun e=>by
 rw[←e,hA] at h
 cases h
structure ClsT (K:JL) (mg:Str→Option Value) (nm:Str) (C:Addr):Prop where
 cl:Cls K C
 m:mg nm=some (.ref C)
 isi:Isi K C
 self:JT K C (.ref C)=some true
 ty:Nz K (.ref C)=some (.type "type")
 makes:NG K C=true
 kp:J7 K (.ref C)=true
structure MthT (K:JL) (C:Addr) (m qual:Str) (st:Stmt) (ps:List Str) (f:Addr) (fd:FuncData):Prop where
 at_:JM K (.ref C) m=some (some (.ref f))
 fn:NI K (.ref f)=true
 F:FunD K m qual st f fd
 b:Binds K fd ps []
def MthT.me{K:JL}{C:Addr}{m qual:Str}{st:Stmt}{ps:List Str}{f:Addr}{fd:FuncData}(h:MthT K C m qual st ps f fd):Meth K C m f:=⟨h.at_,h.fn,h.F.kp⟩
def MthT.mk'{K:JL}{mg:Str→Option Value}{C:Addr}{nm qual:Str}{st:Stmt}{ps:List Str}{f:Addr}{fd:FuncData}(h:MthT K C "__init__" qual st ps f fd)(c:ClsT K mg nm C):Mk K C f:=⟨c.makes,h.at_,h.fn,c.kp⟩
end L2
namespace L2
open PySem PySem.Spec PyProof.Rows
section
variable {X:Cx}
theorem pcl{k:Nat}{f:Addr}{fd:FuncData}{ps:List Str}{sp:Sp}{x:Str}{st:Stmt}{e:Expr}{es:List Expr}{t:TA}{p pos:Pos}(F:FnOk X.prog X.w X.K X.mg X.base CX0 k f fd ps sp)(hr:Room k X.A)(D:Dn X.K X.mg x st ps f fd)(ha:PA X (e::es) t)
  (hg:Gl X x:=by rfl) (hdb:(x==("__debug__" :Str))=false:=by decide) (he:starEach (e::es) X.env=(false,eval e X.env)::starEach es X.env:=by rfl) (hpl:(backTo pos (starEach es X.env)).any (·.1)=false:=by rfl):
  PE X (.Call (.Name x p) (e::es) [] pos) (tCall sp [] E0 t):=kmR F hr hg D.m D.F.kp D.b .nil pass0 ha hdb he hpl
theorem psl{i:Nat}{x:Str}{e:Expr}{te:TE}{pos pos':Pos}(hN:X.N.Nodup)(he:PE X e te)(hi:X.N[i]?=some x:=by rfl)(hx:Loc X.env.scope x:=by first|exact Or.inl rfl|exact Or.inr rfl)(hs:swapsWith e (some (.Name x pos')) pos.line X.env=pure false:=by rfl)(hf:X.fn x=true∨X.env.scope.names.lookup x=some .local:=by first|exact .inl rfl|exact .inr rfl|assumption):
  PS X (.Assign [.Name x pos'] e pos) (tAsg te (gName i)):=knr hN hi hx he hs hf
theorem pgn{i:Nat}{x:Str}{pos:Pos}(hN:X.N.Nodup)(hi:X.N[i]?=some x:=by rfl)(hx:Loc X.env.scope x:=by first|exact Or.inl rfl|exact Or.inr rfl)(hf:X.fn x=true∨X.env.scope.names.lookup x=some .local:=by first|exact .inl rfl|exact .inr rfl|assumption):PG X (.Name x pos) (gName i):=kmP hN hi hx hf
end
end L2
namespace War
structure Row where
 kd:Int
 pr:Int
 mn:Int
 ex:Option Int
structure Row.Ok (r:Row):Prop where
 pr0:0≤r.pr
 pr1:r.pr≤1000000000000
 mn0:0≤r.mn
 mn1:r.mn≤60
 ex0:∀z,r.ex=some z→0≤z∧z≤1000000000000
noncomputable def prc(m:Bool)(r:Row):Int:=if m=true then r.ex.getD r.pr else r.pr
noncomputable def own(rs:List Row):List Int:=(rs.zipIdx.map fun p=>JR p.1.mn.toNat (p.2:Int)).flatten
noncomputable def prs(m:Bool)(rs:List Row):List Int:=(rs.map fun r=>JR r.mn.toNat (prc m r)).flatten
def klr(rs:List Row)(r:Row):own (rs++[r])=own rs++JR r.mn.toNat (rs.length:Int):=by
 unfold own
 rw[List.zipIdx_append,JQ,Eb]
 simp
def klo(m:Bool)(rs:List Row)(r:Row):prs m (rs++[r])=prs m rs++JR r.mn.toNat (prc m r):=by
 unfold prs
 rw[JQ,Eb]
 simp
theorem kiC:∀(rs:List Row)(k:Nat),(∀r∈rs,r.Ok)→((rs.zipIdx k).map fun p=>JR p.1.mn.toNat (p.2:Int)).flatten.length≤60*rs.length
 |[],_,_=>by simp
 |r::rs,k,h=>by
  have h1:=kiC rs (k+1) fun x hx=>h x (JZ _ hx)
  have h2:=(h r J0).mn1
  rw[ED,JV,Ni,JW,Ml,Ny]
  show r.mn.toNat+_≤_
  omega
def kkc(rs:List Row)(h:∀r∈rs,r.Ok):(own rs).length≤60*rs.length:=kiC rs 0 h
theorem kj6(m:Bool):∀(rs:List Row),(∀r∈rs,r.Ok)→(prs m rs).length≤60*rs.length
 |[],_=>by simp[prs]
 |r::rs,h=>by
  have h1:=kj6 m rs fun x hx=>h x (JZ _ hx)
  have h2:=(h r J0).mn1
  unfold prs at h1⊢
  rw[JV,Ni,JW,Ml,Ny]
  omega
def kmb{m:Bool}{r:Row}(h:r.Ok):0≤prc m r∧prc m r≤1000000000000:=by
 unfold prc
 split
 ·cases e:r.ex with
  |none=>exact⟨h.pr0,h.pr1⟩
  |some z=>exact h.ex0 z e
 ·exact⟨h.pr0,h.pr1⟩
def take_snoc{α:Type}{rs:List α}{i:Nat}{r: α}(h:rs[i]?=some r):rs.take (i+1)=rs.take i++[r]:=by
 rw[N8,h]
 rfl
end War
namespace Kin
noncomputable def Good(ps:List (Option Nat)):Prop:=∀(i k:Nat),ps[i]?=some (some k)→k<i
noncomputable def anc(ps:List (Option Nat)):Nat→Nat→List Nat
 |0,_=>[]
 |f+1,i=>i::(match ps[i]? with|some (some k)=>anc ps f k|_=>[])
noncomputable def up(ps:List (Option Nat))(i:Nat):List Nat:=anc ps (i+1) i
theorem klY{ps:List (Option Nat)}(g:Good ps):∀(f f' i:Nat),i<f→i<f'→anc ps f i=anc ps f' i:=by
 intro f
 induction f with
 |zero=>intro f' i h;omega
 | succ f ih=>
  intro f' i h h'
  cases f' with
  |zero=>omega
  | succ f'=>
   show i::_=i::_
   congr 1
   cases e:ps[i]? with
   |none=>rfl
   | some o=>
    cases o with
    |none=>rfl
    |some k=>
     have hk:=g i k e
     exact ih f' k (by omega) (by omega)
def kmz{ps:List (Option Nat)}(g:Good ps){i k:Nat}(e:ps[i]?=some (some k)):up ps i=i::up ps k:=by
 have hk:=g i k e
 show i::_=_
 rw[e]
 show i::anc ps i k=i::up ps k
 rw[klY g i (k+1) k hk (by omega)]
 rfl
def kmA{ps:List (Option Nat)}{i:Nat}(e:ps[i]?=some none):up ps i=[i]:=by
 show i::_=_
 rw[e]
noncomputable def rest(ps:List (Option Nat)):Option Nat→List Nat
 |none=>[]
 |some k=>up ps k
noncomputable def left:Option Nat→Nat
 |none=>0
 |some k=>k+1
theorem up_eq{ps:List (Option Nat)}(g:Good ps){i:Nat}{o:Option Nat}(e:ps[i]?=some o):up ps i=i::rest ps o:=by
 cases o with
 |none=>exact kmA e
 |some k=>exact kmz g e
def klM:Good []:=fun i k e=>by simp at e
def kkP{ps:List (Option Nat)}(g:Good ps){o:Option Nat}(h:∀k,o=some k→k<ps.length):Good (ps++[o]):=by
 intro i k e
 rcases Nat.lt_trichotomy i ps.length with hi|hi|hi
 ·rw[MK hi] at e
  exact g i k e
 ·subst hi
  rw[Mz (JK _)] at e
  simp at e
  exact h k e
 ·rw[Mz (by omega)] at e
  have:(i-ps.length)≠0:=by omega
  cases q:i-ps.length with
  |zero=>omega
  |succ n=>rw[q] at e;simp at e
end Kin
namespace Kin
end Kin
namespace Deal
noncomputable def pre(ws:List Int)(k:Nat):Int:=(ws.take k).sum
noncomputable def part(c:Int)(ws:List Int)(j:Nat):Int:=c*pre ws (j+1)/ws.sum-c*pre ws j/ws.sum
noncomputable def dl(c:Int)(ws:List Int):List Int:=if ws.sum=0 then ws.map (fun _=>0) else(JP ws.length).map (part c ws)
def kiz(ws:List Int):pre ws 0=0:=by simp[pre]
def khF(ws:List Int):pre ws ws.length=ws.sum:=by simp[pre]
def ket{ws:List Int}{i:Nat}{w:Int}(h:ws[i]?=some w):pre ws (i+1)=pre ws i+w:=by
 unfold pre
 rw[N8,h]
 simp
def ke8(c:Int)(ws:List Int):(dl c ws).length=ws.length:=by
 unfold dl
 split <;> simp
theorem kgv(c:Int)(ws:List Int):∀k,((JP k).map (part c ws)).sum=c*pre ws k/ws.sum
 |0=>by simp[kiz]
 |k+1=>by
  rw[NC,JQ,NP,kgv c ws k]
  simp[part]
  omega
def kno{c:Int}{ws:List Int}(h:0<ws.sum):(dl c ws).sum=c:=by
 unfold dl
 rw[if_neg (by omega),kgv,khF,Int.mul_ediv_cancel _ (by omega)]
theorem kmD{c:Int}{ws:List Int}(h:ws.sum=0):(dl c ws).sum=0:=by
 unfold dl
 rw[if_pos h]
 clear h
 induction ws with
 |nil=>rfl
 |cons w ws ih=>simpa using ih
def dl_at{c:Int}{ws:List Int}(h:¬ws.sum=0){j:Nat}(hj:j<ws.length):(dl c ws)[j]?=some (part c ws j):=by
 unfold dl
 rw[if_neg h]
 simp[hj]
def kkU{c:Int}{ws:List Int}(h:ws.sum=0){j:Nat}(hj:j<ws.length):(dl c ws)[j]?=some 0:=by
 unfold dl
 rw[if_pos h]
 simp[hj]
noncomputable def Nn(ws:List Int):Prop:=∀w∈ws,0≤w
theorem kbi:∀{ws:List Int},Nn ws→0≤ws.sum
 |[],_=>by simp
 |w::ws,h=>by
  have:=kbi (ws:=ws) fun x hx=>h x (JZ _ hx)
  have h1:=h w J0
  simp
  omega
theorem kka{c s A w:Int}(hs:0<s)(hc:0≤c)(hcs:c≤s)(hw:0≤w):0≤c*(A+w)/s-c*A/s∧c*(A+w)/s-c*A/s≤w∧
  (c*(A+w)/s-c*A/s)*s-c*w<s∧-s<(c*(A+w)/s-c*A/s)*s-c*w:=by
 have e:c*(A+w)=c*A+c*w:=Int.mul_add ..
 rw[e]
 generalize hx:c*A=x
 have h1:0≤c*w:=Int.mul_nonneg hc hw
 have h2:c*w≤w*s:=by
  rw[Int.mul_comm w s]
  exact Int.mul_le_mul_of_nonneg_right hcs hw
 generalize hy:c*w=y at h1 h2
 have m1:x/s≤(x+y)/s:=Int.ediv_le_ediv hs (by omega)
 have m2:(x+y)/s≤(x+w*s)/s:=Int.ediv_le_ediv hs (by omega)
 rw[Int.add_mul_ediv_right _ _ (by omega)] at m2
 have d1:=Int.emod_add_mul_ediv x s
 have d2:=Int.emod_add_mul_ediv (x+y) s
 have r1:=Int.emod_nonneg x (show s≠0 by omega)
 have r2:=Int.emod_lt_of_pos x hs
 have r3:=Int.emod_nonneg (x+y) (show s≠0 by omega)
 have r4:=Int.emod_lt_of_pos (x+y) hs
 have e3:((x+y)/s-x/s)*s=s*((x+y)/s)-s*(x/s):=by
  rw[Int.sub_mul,Int.mul_comm,Int.mul_comm (x/s)]
 rw[e3]
 refine⟨by omega,by omega,by omega,by omega⟩
end Deal
namespace Vs
open Kin Deal
structure Mks where
 kind:Option Nat
 needs:Int
 most:Option Int
 member:Bool
 once:Bool
 lone:Bool
inductive Srt
 |off (a:Int)
 |share (s:Int) (b:Bool)
 |cheap (n:Int)
 |bund (n p:Int)
 |carr
structure Vch where
 so:Srt
 ms:Mks
structure Stnd where
 ow:List Nat
 pr:List Int
 cg:Int
 mkd:List Bool
noncomputable def kHit(ps:List (Option Nat))(kind:Option Nat)(kd:Nat):Bool:=match kind with
 |none=>true
 |some k=>decide (k∈up ps kd)
noncomputable def hits(ps:List (Option Nat))(kds:List Nat)(kind:Option Nat)(lone:Bool)(mkd:List Bool)(l:Nat):Bool:=
 kHit ps kind (kds.getD l 0)&&(!lone|| !(mkd.getD l false))
noncomputable def abt(ps:List (Option Nat))(kds:List Nat)(kind:Option Nat)(lone:Bool)(S:Stnd):List Nat:=
 (JP S.ow.length).filter fun i=>hits ps kds kind lone S.mkd (S.ow.getD i 0)
def kfP{ps:List (Option Nat)}{kds:List Nat}{kind:Option Nat}{lone:Bool}{S:Stnd}{i:Nat}(h:i∈abt ps kds kind lone S):i<S.ow.length:=by
 have:=(Nh.mp h).1
 simpa using this
def kff(ps:List (Option Nat))(kds:List Nat)(kind:Option Nat)(lone:Bool)(S:Stnd):(abt ps kds kind lone S).Nodup:=NO.filter _ Mu
def kd6(ps:List (Option Nat))(kds:List Nat)(kind:Option Nat)(lone:Bool)(S:Stnd):(abt ps kds kind lone S).length≤S.ow.length:=by
 have:=MC (fun i=>hits ps kds kind lone S.mkd (S.ow.getD i 0)) (JP S.ow.length)
 simpa[abt] using this
noncomputable def qs(pr:List Int)(is:List Nat):List Int:=is.map fun i=>pr.getD i 0
def kbs(pr:List Int)(is:List Nat):(qs pr is).length=is.length:=by simp[qs]
noncomputable def spr(n:Nat)(is:List Nat)(vs:List Int):List Int:=(JP n).map fun i=>((is.zip vs).lookup i).getD 0
def kdj(n:Nat)(is:List Nat)(vs:List Int):(spr n is vs).length=n:=by simp[spr]
def kjA(n:Nat)(vs:List Int):spr n [] vs=JR n 0:=by
 unfold spr
 apply Mp
 ·simp
 ·intro i h1 h2
  simp
theorem khN{l:List (Nat×Int)}{i j:Nat}{v:Int}(h:∀p∈l,p.1≠i):(l++[(i,v)]).lookup j=if j=i then some v else l.lookup j:=by
 induction l with
 | nil=>
  simp only[NH,NB,List.lookup_nil]
  by_cases e:j=i
  ·subst e;simp
  ·have:(j==i)=false:=beq_eq_false_iff_ne.mpr e
   simp[this,e]
 | cons p l ih=>
  obtain⟨k,w⟩:=p
  have ih':=ih fun q hq=>h q (JZ _ hq)
  have hk:k≠i:=h (k,w) J0
  simp only[MO,NB]
  by_cases e:j=k
  ·subst e
   simp[hk]
  ·have:(j==k)=false:=beq_eq_false_iff_ne.mpr e
   simp only[this]
   exact ih'
theorem kjz{n:Nat}{is:List Nat}{vs:List Int}(hn:is.Nodup){k i:Nat}{v:Int}(h1:is[k]?=some i)(h2:vs[k]?=some v)(hi:i<n):
  (spr n (is.take k) (vs.take k)).set i v=spr n (is.take (k+1)) (vs.take (k+1)):=by
 have e1:is.take (k+1)=is.take k++[i]:=by rw[N8,h1];rfl
 have e2:vs.take (k+1)=vs.take k++[v]:=by rw[N8,h2];rfl
 have hk1:k<is.length:=(JX.mp h1).1
 have hk2:k<vs.length:=(JX.mp h2).1
 have ez:(is.take (k+1)).zip (vs.take (k+1))=(is.take k).zip (vs.take k)++[(i,v)]:=by
  rw[e1,e2,List.zip_append (by simp;omega)]
  rfl
 have hne:∀p∈(is.take k).zip (vs.take k),p.1≠i:=fun p hp e=>by
  have hm:p.1∈is.take k:=(Mj hp).1
  rw[e] at hm
  obtain⟨j,hj,ej⟩:=List.getElem_of_mem hm
  rw[Na] at hj
  rw[List.getElem_take] at ej
  have e3:is[k]=i:=by
   obtain⟨_,q⟩:=JX.mp h1
   exact q
  exact Mo.mp hn j k (by omega) hk1 (by omega) (by rw[ej,e3])
 apply Mp
 ·simp[spr]
 ·intro j h3 h4
  have hj:j<n:=by simpa[spr] using h4
  rw[List.getElem_set]
  simp only[spr,MP,Ec]
  rw[ez,khN hne]
  by_cases e:i=j
  ·subst e;simp
  ·have:¬j=i:=fun z=>e z.symm
   simp[e,this]
noncomputable def bef(q:List Int)(a b:Nat):Prop:=q.getD b 0<q.getD a 0∨(q.getD a 0=q.getD b 0∧a<b)
noncomputable def Fall(q:List Int)(r:List Nat):Prop:=r.Perm (JP q.length)∧r.Pairwise (bef q)
def knR{q:List Int}{a b:Nat}(h:bef q a b)(h':bef q b a):False:=by
 unfold bef at h h'
 omega
theorem kgN{R:Nat→Nat→Prop}(asym:∀a b,R a b→R b a→False):∀{l l':List Nat},l.Perm l'→l.Pairwise R→l'.Pairwise R→l=l'
 |[],l',p,_,_=>(List.nil_perm.mp p).symm
 | a ::l,l',p,h,h'=>by
  cases l' with
  |nil=>exact absurd p.length_eq (by simp)
  | cons b l'=>
   have hab:a=b:=by
    rcases Classical.em (a=b) with e|e
    ·exact e
    ·have ha:a∈b::l':=p.mem_iff.mp J0
     have hb:b∈a::l:=p.mem_iff.mpr J0
     rcases Nc.mp ha with e1|ha
     ·exact absurd e1 e
     ·rcases Nc.mp hb with e2|hb
      ·exact absurd e2.symm e
      ·exact(asym a b ((Mv.mp h).1 b hb) ((Mv.mp h').1 a ha)).elim
   subst hab
   congr 1
   exact kgN asym (List.Perm.cons_inv p) (Mv.mp h).2 (Mv.mp h').2
noncomputable def grp(n:Nat)(r:List Nat):List (List Nat):=(JP (r.length/n)).map fun g=>(r.drop (g*n)).take n
end Vs
namespace Vs
open Kin Deal
noncomputable def Le2(xs ys:List Int):Prop:=xs.length=ys.length∧∀(j:Nat)(v w:Int),xs[j]?=some v→ys[j]?=some w→0≤v∧v≤w
def Le2.nil:Le2 [] []:=⟨rfl,fun j v w e=>by simp at e⟩
def Le2.self{xs:List Int}(h:Nn xs):Le2 xs xs:=⟨rfl,fun j v w e1 e2=>by
 rw[e1] at e2
 cases e2
 exact⟨h v (JO e1),Int.le_refl _⟩⟩
def Le2.nn{xs ys:List Int}(h:Le2 xs ys):Nn xs:=fun v hv=>by
 obtain⟨j,hj,e⟩:=List.getElem_of_mem hv
 exact(h.2 j v (ys[j]'(by rw[←h.1];exact hj)) (by simp[hj,e]) (by simp[show j<ys.length by rw[←h.1];exact hj])).1
def Le2.trans{xs ys zs:List Int}(h:Le2 xs ys)(h':Le2 ys zs):Le2 xs zs:=⟨h.1.trans h'.1,fun j v w e1 e2=>by
 have hj:j<xs.length:=(JX.mp e1).1
 have e3:ys[j]?=some (ys[j]'(by rw[←h.1];exact hj)):=by simp[show j<ys.length by rw[←h.1];exact hj]
 have a:=h.2 j v _ e1 e3
 have b:=h'.2 j _ w e3 e2
 omega⟩
def Le2.append{xs ys xs' ys':List Int}(h:Le2 xs ys)(h':Le2 xs' ys'):Le2 (xs++xs') (ys++ys'):=by
 refine⟨by simp[h.1,h'.1],fun j v w e1 e2=>?_⟩
 have hl:=h.1
 rcases Nat.lt_or_ge j xs.length with hj|hj
 ·rw[MK hj] at e1
  rw[MK (by omega)] at e2
  exact h.2 j v w e1 e2
 ·rw[Mz hj] at e1
  rw[Mz (by omega),←hl] at e2
  exact h'.2 _ v w e1 e2
theorem Le2.sum:∀{xs ys:List Int},Le2 xs ys→0≤xs.sum∧xs.sum≤ys.sum
 |[],[],_=>by simp
 |[],_::_,h=>by have:=h.1;simp at this
 |_::_,[],h=>by have:=h.1;simp at this
 |x::xs,y::ys,h=>by
  have h0:=h.2 0 x y rfl rfl
  have h1:Le2 xs ys:=⟨by simpa using h.1,fun j v w e1 e2=>h.2 (j+1) v w (by simpa using e1) (by simpa using e2)⟩
  have h2:=Le2.sum h1
  simp
  omega
def dl_le{c:Int}{ws:List Int}(hn:Nn ws)(h0:0≤c)(h1:c≤ws.sum):Le2 (dl c ws) ws:=by
 refine⟨ke8 c ws,fun j v w e1 e2=>?_⟩
 have hj:j<ws.length:=(JX.mp e2).1
 have hw:=hn w (JO e2)
 by_cases hs:ws.sum=0
 ·rw[kkU hs hj] at e1
  cases e1
  exact⟨Int.le_refl _,hw⟩
 ·rw[dl_at hs hj] at e1
  cases e1
  have hp:0<ws.sum:=by
   have:=kbi hn
   omega
  have q:=kka (A:=pre ws j) hp h0 h1 hw
  unfold part
  rw[ket e2]
  exact⟨q.1,q.2.1⟩
theorem kc9{is:List Nat}{vs:List Int}{i:Nat}{v:Int}(h:(is.zip vs).lookup i=some v):∃k:Nat,is[k]?=some i∧vs[k]?=some v:=by
 induction is generalizing vs with
 |nil=>simp at h
 | cons a is ih=>
  cases vs with
  |nil=>simp at h
  | cons b vs=>
   simp only[List.zip_cons_cons,NB] at h
   by_cases e:i=a
   ·subst e
    simp at h
    exact⟨0,rfl,by simp[h]⟩
   ·have:(i==a)=false:=beq_eq_false_iff_ne.mpr e
    rw[this] at h
    obtain⟨k,h1,h2⟩:=ih h
    exact⟨k+1,by simpa using h1,by simpa using h2⟩
theorem kfx{pr:List Int}{is:List Nat}{vs:List Int}(hn:Nn pr)(hv:Le2 vs (qs pr is)):Le2 (spr pr.length is vs) pr:=by
 refine⟨kdj _ _ _,fun j v w e1 e2=>?_⟩
 have hj:j<pr.length:=(JX.mp e2).1
 have hw:=hn w (JO e2)
 have e3:v=((is.zip vs).lookup j).getD 0:=by
  simp[spr,hj] at e1
  exact e1.symm
 cases e4:(is.zip vs).lookup j with
 |none=>
  rw[e4] at e3
  subst e3
  exact⟨Int.le_refl _,hw⟩
 |some u=>
  rw[e4] at e3
  have e3':v=u:=e3
  subst e3'
  obtain⟨k,h1,h2⟩:=kc9 e4
  refine hv.2 k v w h2 ?_
  simp only[qs,JU,h1,Mf]
  rw[J5,e2]
  rfl
theorem qs_nn{pr:List Int}(hn:Nn pr)(is:List Nat):Nn (qs pr is):=fun v hv=>by
 obtain⟨i,_,rfl⟩:=J4.mp hv
 rw[J5]
 cases e:pr[i]? with
 |none=>exact Int.le_refl _
 |some w=>exact hn w (JO e)
noncomputable def leQ(q:List Int)(a b:Nat):Bool:=decide (q.getD b 0<q.getD a 0∨(q.getD a 0=q.getD b 0∧a≤b))
noncomputable def ordQ(q:List Int):List Nat:=(JP q.length).mergeSort (leQ q)
def kcW(q:List Int):(ordQ q).Perm (JP q.length):=List.mergeSort_perm _ _
def keM(q:List Int):Fall q (ordQ q):=by
 refine⟨kcW q,?_⟩
 have h1:(ordQ q).Pairwise (fun a b=>leQ q a b=true):=List.pairwise_mergeSort (le:=leQ q) (fun a b c h h'=>by simp only[leQ,decide_eq_true_eq] at *;omega) (fun a b=>by simp only[leQ,Ez,decide_eq_true_eq];omega) _
 have h2:(ordQ q).Nodup:=(kcW q).nodup_iff.mpr Mu
 refine(h1.and h2).imp fun {a b} h=>?_
 have h3:=h.1
 have h4:a≠b:=h.2
 simp only[leQ,decide_eq_true_eq] at h3
 unfold bef
 omega
noncomputable def gdl(cut:Int→Int)(gs:List (List Nat))(q:List Int):List Int:=spr q.length gs.flatten ((gs.map fun g=>dl (cut (qs q g).sum) (qs q g)).flatten)
def kgM(q:List Int)(a b:List Nat):qs q (a++b)=qs q a++qs q b:=by simp[qs]
theorem kmn{cut:Int→Int}{gs:List (List Nat)}{q:List Int}(hn:Nn q)(hc:∀s,0≤s→0≤cut s∧cut s≤s):Le2 (gdl cut gs q) q:=by
 refine kfx hn ?_
 induction gs with
 |nil=>exact Le2.nil
 |cons g gs ih=>
  rw[JV,Ni,Ni,kgM]
  have h:=hc _ (kbi (qs_nn hn g))
  exact(dl_le (qs_nn hn g) h.1 h.2).append ih
noncomputable def kbk(n:Nat)(lines:List Nat):List (List Nat):=(JP n).map fun l=>(JP lines.length).filter fun k=>lines.getD k 0==l
noncomputable def lasts(gs:List (List Nat)):List Nat:=gs.map fun g=>g.getLastD 0
noncomputable def want(so:Srt)(n:Nat)(lines:List Nat)(q:List Int):List Int:=match so with
 | .off a=>dl (min a q.sum) q
 | .share s false=>dl (q.sum*s/1000) q
 | .share s true=>gdl (fun z=>z*s/1000) (kbk n lines) q
 | .cheap m=>spr q.length (lasts (grp m.toNat (ordQ q))) (qs q (lasts (grp m.toNat (ordQ q))))
 | .bund m p=>gdl (fun z=>max 0 (z-p)) (grp m.toNat (ordQ q)) q
 | .carr=>JR q.length 0
noncomputable def fee(so:Srt)(cg:Int):Int:=match so with
 | .carr=>cg
 |_=>0
noncomputable def SrtOk:Srt→Prop
 | .off a=>0≤a∧a≤1000000000000
 | .share s _=>1≤s∧s≤1000
 | .cheap n=>2≤n∧n≤20
 | .bund n p=>2≤n∧n≤20∧0≤p∧p≤1000000000000
 | .carr=>True
def kdr{z s:Int}(hz:0≤z)(h1:1≤s)(h2:s≤1000):0≤z*s/1000∧z*s/1000≤z:=by
 have a:0≤z*s:=Int.mul_nonneg hz (by omega)
 have b:z*s≤z*1000:=Int.mul_le_mul_of_nonneg_left h2 hz
 omega
def knp{q:List Int}(hn:Nn q):Le2 (JR q.length 0) q:=by
 refine⟨by simp,fun j v w e1 e2=>?_⟩
 have:v=0:=by
  rw[Ex] at e1
  split at e1
  ·exact(Option.some.inj e1).symm
  ·cases e1
 subst this
 exact⟨Int.le_refl _,hn w (JO e2)⟩
def khl{a:Int}{n:Nat}{lines:List Nat}{q:List Int}(hn:Nn q)(h0:0≤a):Le2 (want (.off a) n lines q) q:=by
 have hs:=kbi hn
 show Le2 (dl (min a q.sum) q) q
 exact dl_le hn (by omega) (by omega)
theorem kfQ{s:Int}{e:Bool}{n:Nat}{lines:List Nat}{q:List Int}(hn:Nn q)(h1:1≤s)(h2:s≤1000):Le2 (want (.share s e) n lines q) q:=by
 have hs:=kbi hn
 cases e with
 |false=>
  show Le2 (dl (q.sum*s/1000) q) q
  have h:=kdr hs h1 h2
  exact dl_le hn h.1 h.2
 |true=>
  show Le2 (gdl (fun z=>z*s/1000) (kbk n lines) q) q
  exact kmn hn fun z hz=>kdr hz h1 h2
def kd7{m p:Int}{n:Nat}{lines:List Nat}{q:List Int}(hn:Nn q)(h0:0≤p):Le2 (want (.bund m p) n lines q) q:=by
 show Le2 (gdl (fun z=>max 0 (z-p)) (grp m.toNat (ordQ q)) q) q
 exact kmn hn fun z hz=>⟨by show 0≤max 0 (z-p);omega,by show max 0 (z-p)≤z;omega⟩
def kfR{m:Int}{n:Nat}{lines:List Nat}{q:List Int}(hn:Nn q):Le2 (want (.cheap m) n lines q) q:=by
 show Le2 (spr q.length _ (qs q _)) q
 exact kfx hn (Le2.self (qs_nn hn _))
def kgq{n:Nat}{lines:List Nat}{q:List Int}(hn:Nn q):Le2 (want .carr n lines q) q:=knp hn
theorem khm{so:Srt}{n:Nat}{lines:List Nat}{q:List Int}(hn:Nn q)(ho:SrtOk so):Le2 (want so n lines q) q:=by
 cases so with
 |off a=>exact khl hn ho.1
 |share s e=>exact kfQ hn ho.1 ho.2
 |cheap m=>exact kfR hn
 |bund m p=>exact kd7 hn ho.2.2.1
 |carr=>exact kgq hn
noncomputable def cap(most:Option Int)(w:List Int)(f:Int):List Int×Int:=match most with
 |none=>(w,f)
 |some m=>if m<w.sum+f then(dl (min m w.sum) w,min f m) else(w,f)
theorem kmt{most:Option Int}{w q:List Int}{f cg:Int}(h:Le2 w q)(hf:0≤f∧f≤cg)(hm:∀m,most=some m→0≤m):Le2 (cap most w f).1 q∧0≤(cap most w f).2∧(cap most w f).2≤cg:=by
 unfold cap
 cases most with
 |none=>exact⟨h,hf⟩
 |some m=>
  have h0:=hm m rfl
  have hs:=kbi h.nn
  simp only
  split
  ·exact⟨(dl_le h.nn (by omega) (by omega)).trans h,by simp only;omega,by simp only;omega⟩
  ·exact⟨h,hf⟩
noncomputable def cutM(V:Vch)(ps:List (Option Nat))(kk:List Nat)(S:Stnd):List Int×Int:=
 let is:=abt ps kk V.ms.kind V.ms.lone S
 let c:=cap V.ms.most (want V.so S.mkd.length (is.map fun i=>S.ow.getD i 0) (qs S.pr is)) (fee V.so S.cg)
 (spr S.pr.length is c.1,c.2)
def kiU{V:Vch}{ps:List (Option Nat)}{kk:List Nat}{S:Stnd}(hn:Nn S.pr)(hc:0≤S.cg)(ho:SrtOk V.so)(hm:∀m,V.ms.most=some m→0≤m):Le2 (cutM V ps kk S).1 S.pr∧0≤(cutM V ps kk S).2∧(cutM V ps kk S).2≤S.cg:=by
 have hf:0≤fee V.so S.cg∧fee V.so S.cg≤S.cg:=by
  unfold fee
  split <;> omega
 have h:=kmt (most:=V.ms.most) (khm (n:=S.mkd.length) (lines:=(abt ps kk V.ms.kind V.ms.lone S).map fun i=>S.ow.getD i 0) (qs_nn hn (abt ps kk V.ms.kind V.ms.lone S)) ho) hf hm
 exact⟨kfx hn h.1,h.2⟩
noncomputable def kdL(ow:List Nat)(c:List Int)(l:Nat):Bool:=(JP ow.length).any fun i=>ow.getD i 0==l&&decide (0<c.getD i 0)
noncomputable def aftM(V:Vch)(ps:List (Option Nat))(kk:List Nat)(S:Stnd):Stnd:=
 ⟨S.ow,ND (· - ·) S.pr (cutM V ps kk S).1,S.cg-(cutM V ps kk S).2,(JP S.mkd.length).map fun l=>S.mkd.getD l false||(V.ms.lone&&kdL S.ow (cutM V ps kk S).1 l)⟩
def kmv{V:Vch}{ps:List (Option Nat)}{kk:List Nat}{S:Stnd}(hn:Nn S.pr)(hc:0≤S.cg)(ho:SrtOk V.so)(hm:∀m,V.ms.most=some m→0≤m):Le2 (aftM V ps kk S).pr S.pr∧0≤(aftM V ps kk S).cg∧(aftM V ps kk S).cg≤S.cg:=by
 have h:=kiU (ps:=ps) (kk:=kk) hn hc ho hm
 refine⟨⟨?_,fun j v w e1 e2=>?_⟩,?_,?_⟩
 ·show(ND _ _ _).length=_
  rw[Ed,h.1.1]
  omega
 ·have hj:j<S.pr.length:=(JX.mp e2).1
  have hj2:j<(cutM V ps kk S).1.length:=by rw[h.1.1];exact hj
  have e3:(cutM V ps kk S).1[j]?=some ((cutM V ps kk S).1[j]):=by simp[hj2]
  have b:=h.1.2 j _ w e3 e2
  have e4:(ND (· - ·) S.pr (cutM V ps kk S).1)[j]?=some (w-(cutM V ps kk S).1[j]):=by
   rw[Ee,e2,e3]
  have e1':(ND (· - ·) S.pr (cutM V ps kk S).1)[j]?=some v:=e1
  rw[e4] at e1'
  cases e1'
  omega
 ·show 0≤S.cg-_
  have:=h.2
  omega
 ·show S.cg-_≤S.cg
  have:=h.2
  omega
end Vs
namespace Vs
open Kin Deal
structure Sel (q:List Int) (row left:List Nat):Prop where
 pm:(row++left).Perm (JP q.length)
 inc:left.Pairwise (· < ·)
 pw:row.Pairwise (bef q)
 cr:∀r∈row,∀l∈left,bef q r l
end Vs
namespace Vs
open Kin Deal
def kg9{m:Nat}{r:List Nat}{i:Nat}{g:List Nat}(h:(grp m r)[i]?=some g):i*m+m≤r.length∧g.length=m∧∀j,j<m→g[j]?=r[i*m+j]?:=by
 unfold grp at h
 rw[JU] at h
 have hi:i<r.length/m:=by
  rcases Nat.lt_or_ge i (r.length/m) with q|q
  ·exact q
  ·rw[MD (by simpa using q)] at h
   cases h
 rw[ME hi] at h
 cases h
 have hle:i*m+m≤r.length:=by
  have h1:(i+1)*m≤r.length/m*m:=EE m hi
  have h2:=Nat.div_mul_le_self r.length m
  rw[Ef,Eg] at h1
  omega
 refine⟨hle,by rw[Na,N5];omega,fun j hj=>?_⟩
 rw[ML hj,Eh]
theorem keY{m:Nat}{r:List Nat}{i:Nat}{g:List Nat}(hm:0<m)(h:(grp m r)[i]?=some g):r[i*m+(m-1)]?=some (g.getLastD 0):=by
 obtain⟨hle,hl,hg⟩:=kg9 h
 rw[←hg (m-1) (by omega)]
 cases g with
 |nil=>simp at hl;omega
 |cons x xs=>
  have e:(x::xs).getLastD 0=(x::xs).getLast (by simp):=by simp[List.getLastD]
  rw[e,List.getLast_eq_getElem,JX]
  refine⟨by omega,?_⟩
  congr 1
  omega
def kiJ{gs:List (List Nat)}{i:Nat}{g:List Nat}(h:gs[i]?=some g):(lasts gs)[i]?=some (g.getLastD 0):=by
 unfold lasts
 rw[JU,h]
 rfl
def kdG(gs:List (List Nat)):(lasts gs).length=gs.length:=by simp[lasts]
def keX{m:Nat}{r:List Nat}(hm:0<m)(hr:r.Nodup):(lasts (grp m r)).Nodup:=by
 refine Mo.mpr fun i j hi hj hij e=>?_
 rw[kdG] at hi hj
 have e1:(grp m r)[i]?=some (grp m r)[i]:=by simp[hi]
 have e2:(grp m r)[j]?=some (grp m r)[j]:=by simp[hj]
 have a1:=keY hm e1
 have a2:=keY hm e2
 have b1:=kiJ e1
 have b2:=kiJ e2
 obtain⟨_,c1⟩:=JX.mp b1
 obtain⟨_,c2⟩:=JX.mp b2
 rw[c1,c2] at e
 rw[e] at a1
 obtain⟨l1,d1⟩:=JX.mp a1
 obtain⟨l2,d2⟩:=JX.mp a2
 have hlt:i*m+(m-1)<j*m+(m-1):=by
  have:=Nat.mul_lt_mul_of_pos_right hij hm
  omega
 exact Mo.mp hr _ _ l1 l2 hlt (by rw[d1,d2])
def kfE(q:List Int):(ordQ q).Nodup:=(kcW q).nodup_iff.mpr Mu
def khI{q:List Int}{i:Nat}(h:i∈ordQ q):i<q.length:=by
 have:=(kcW q).mem_iff.mp h
 simpa using this
end Vs
namespace Vs
open Kin Deal
def klk{n:Nat}{is:List Nat}{vs:List Int}{i:Nat}{v:Int}(hl:is.length=vs.length)(hn:(is++[i]).Nodup)(hi:i<n):(spr n is vs).set i v=spr n (is++[i]) (vs++[v]):=by
 have h:=kjz (n:=n) (is:=is++[i]) (vs:=vs++[v]) hn (k:=is.length) (i:=i) (v:=v) (by simp) (by rw[hl];simp) hi
 rw[List.take_left' rfl,List.take_left' hl.symm,Md (by simp),Md (by simp[hl])] at h
 exact h
def keA{gs:List (List Nat)}(h:gs.flatten.Nodup){i k a:Nat}{g:List Nat}(hg:gs[i]?=some g)(hk:g[k]?=some a):((gs.take i).flatten++g.take k++[a]).Nodup:=by
 have e:gs=gs.take i++g::gs.drop (i+1):=by
  obtain⟨hi,eg⟩:=JX.mp hg
  rw[←eg,EV hi,MR]
 have e2:g=(g.take k++[a])++g.drop (k+1):=by
  obtain⟨hk',ek⟩:=JX.mp hk
  rw[Nm,EW,←ek,EV hk',MR]
 rw[e,Eb,Ni] at h
 rw[Nm]
 refine h.sublist (List.Sublist.append_left ?_ _)
 refine List.Sublist.trans ?_ (EX g _)
 conv=>rhs;rw[e2]
 exact EX _ _
theorem klL{m:Nat}(r:List Nat):(grp m r).flatten=r.take (r.length/m*m):=by
 unfold grp
 have hle:r.length/m*m≤r.length:=Nat.div_mul_le_self _ _
 generalize r.length/m=c at *
 induction c with
 |zero=>simp
 |succ c ih=>
  have h1:c*m+m≤r.length:=by rw[←Nat.succ_mul];exact hle
  rw[NC,JQ,Eb,ih (by omega)]
  simp only[JV,NS,Ni,List.flatten_nil,Nl]
  rw[show(c+1)*m=c*m+m by rw[Ef,Eg],List.take_add]
def kg8{m:Nat}{r:List Nat}(h:r.Nodup):(grp m r).flatten.Nodup:=by
 rw[klL]
 exact h.sublist (List.take_sublist _ _)
end Vs
namespace Vs
open Kin Deal
theorem kdi{is:List Nat}(hn:is.Nodup){k i:Nat}(hk:is[k]?=some i):∀(l:List (Nat×Int)),(∀p∈l,p.1<is.length)→(l.map fun p=>(is.getD p.1 0,p.2)).lookup i=l.lookup k
 |[],_=>rfl
 | (j,v)::l,h=>by
  have ih:=kdi hn hk l fun p hp=>h p (JZ _ hp)
  have hj:j<is.length:=h (j,v) J0
  obtain⟨hk',ek⟩:=JX.mp hk
  have e:is.getD j 0=is[j]:=by rw[J5];simp[hj]
  simp only[JV,NB,e]
  by_cases q:k=j
  ·subst q
   simp[ek]
  ·have h1:(k==j)=false:=by simp[q]
   have h2:(i==is[j])=false:=by
    refine beq_eq_false_iff_ne.mpr fun z=>q ?_
    exact(Er hn).mp (by rw[ek,z])
   rw[h1,h2]
   exact ih
theorem lookup_none{is:List Nat}{i:Nat}(hi:∀k:Nat,is[k]?≠some i):∀(l:List (Nat×Int)),(∀p∈l,p.1<is.length)→(l.map fun p=>(is.getD p.1 0,p.2)).lookup i=none
 |[],_=>rfl
 |(j,v)::l,h=>by
  have ih:=lookup_none hi l fun p hp=>h p (JZ _ hp)
  have hj:j<is.length:=h (j,v) J0
  have e:is.getD j 0=is[j]:=by rw[J5];simp[hj]
  have h2:(i==is[j])=false:=beq_eq_false_iff_ne.mpr fun z=>hi j (by rw[z];simp[hj])
  simp only[JV,NB,e,h2]
  exact ih
theorem keV{is:List Nat}(hn:is.Nodup){k i:Nat}(hk:is[k]?=some i):∀{vs:List Int},is.length=vs.length→(is.zip vs).lookup i=vs[k]?:=by
 induction is generalizing k with
 |nil=>simp at hk
 | cons a is ih=>
  intro vs hl
  cases vs with
  |nil=>simp at hl
  | cons v vs=>
   rw[List.zip_cons_cons,NB]
   cases k with
   |zero=>
    have:a=i:=by simpa using hk
    subst this
    simp
   |succ k=>
    have hk':is[k]?=some i:=by simpa using hk
    have hh:=NR.mp hn
    have hne:(i==a)=false:=beq_eq_false_iff_ne.mpr fun z=>hh.1 (z▸JO hk')
    rw[hne]
    simpa using ih hh.2 hk' (by simpa using hl)
def kho{n:Nat}{is js:List Nat}{vs:List Int}(hn:is.Nodup)(hj:∀j∈js,j<is.length):spr n is (spr is.length js vs)=spr n (js.map fun j=>is.getD j 0) vs:=by
 apply Mp
 ·simp[spr]
 intro i h1 h2
 have ez:(js.map fun j=>is.getD j 0).zip vs=(js.zip vs).map fun p=>(is.getD p.1 0,p.2):=by rw[List.zip_map_left];rfl
 have hp:∀p∈js.zip vs,p.1<is.length:=fun p hp=>hj _ (Mj hp).1
 simp only[spr,MP,Ec]
 rw[ez]
 by_cases hk:∃k:Nat,is[k]?=some i
 ·obtain⟨k,hk⟩:=hk
  have hkl:=(JX.mp hk).1
  rw[kdi hn hk _ hp,keV hn hk (by simp)]
  simp[hkl]
 ·rw[lookup_none (fun k e=>hk ⟨k,e⟩) _ hp]
  have:((is.zip ((JP is.length).map fun i=>((js.zip vs).lookup i).getD 0)).lookup i)=none:=by
   rw[List.lookup_eq_none_iff]
   intro p hp'
   have:=(Mj hp').1
   obtain⟨k,ek⟩:=N9.mp this
   have hne:i≠p.1:=fun z=>hk ⟨k,by rw[ek,←z]⟩
   simpa using hne
  rw[this]
noncomputable def owns(n:Nat)(ow:List Nat)(is:List Nat):List (List Nat):=(JP n).map fun l=>is.filter fun i=>ow.getD i 0==l
def kfc(n:Nat)(ow is:List Nat):(kbk n (is.map fun i=>ow.getD i 0)).map (fun g=>g.map fun j=>is.getD j 0)=owns n ow is:=by
 unfold kbk owns
 rw[J8]
 refine NN fun l _=>?_
 show(((JP _).filter _).map fun j=>is.getD j 0)=_
 have e:is=(JP is.length).map fun j=>is.getD j 0:=by
  apply Mp
  ·simp
  ·intro j h1 h2
   simp[J5,h1]
 conv=>rhs;rw[e]
 rw[List.filter_map,JJ]
 congr 1
 refine List.filter_congr fun k hk=>?_
 have hk':k<is.length:=by simpa using hk
 simp[J5,hk']
def qs_qs{pr:List Int}{ab g:List Nat}(h:∀j∈g,j<ab.length):qs (qs pr ab) g=qs pr (g.map fun j=>ab.getD j 0):=by
 unfold qs
 rw[J8]
 refine NN fun j hj=>?_
 have:=h j hj
 simp[J5,this]
def kfd{n:Nat}{lines:List Nat}{g:List Nat}(hg:g∈kbk n lines){j:Nat}(hj:j∈g):j<lines.length:=by
 obtain⟨l,_,rfl⟩:=J4.mp hg
 have:=(Nh.mp hj).1
 simpa using this
def kh0{n N:Nat}{ow ab:List Nat}{pr:List Int}(cut:Int→Int)(hn:ab.Nodup):spr n ab (gdl cut (kbk N (ab.map fun i=>ow.getD i 0)) (qs pr ab))=spr n (owns N ow ab).flatten ((owns N ow ab).map fun o=>dl (cut (qs pr o).sum) (qs pr o)).flatten:=by
 unfold gdl
 rw[kbs,kho hn fun j hj=>?_,List.map_flatten,kfc]
 ·congr 2
  rw[←kfc,J8]
  refine NN fun g hg=>?_
  have e:=qs_qs (pr:=pr) (ab:=ab) (g:=g) fun j hj=>by simpa using kfd hg hj
  show dl (cut (qs (qs pr ab) g).sum) (qs (qs pr ab) g)=dl (cut (qs pr (g.map fun j=>ab.getD j 0)).sum) (qs pr (g.map fun j=>ab.getD j 0))
  rw[e]
 ·obtain⟨g,hg,hj'⟩:=N2.mp hj
  simpa using kfd hg hj'
end Vs
namespace Vs
open Kin Deal
section
variable {p:Nat→Bool} {n:Nat} {w:List Int}
noncomputable def cnt(p:Nat→Bool)(j:Nat):Nat:=((JP j).filter p).length
theorem kk3{j:Nat}(h:p j=true):cnt p (j+1)=cnt p j+1:=by
 unfold cnt
 rw[NC,Mq,JW]
 simp[h]
theorem kmr{j:Nat}(h:p j=false):cnt p (j+1)=cnt p j:=by
 unfold cnt
 rw[NC,Mq,JW]
 simp[h]
theorem kc3:∀{n j:Nat},j<n→p j=true→((JP n).filter p)[cnt p j]?=some j
 |0,j,h,_=>by omega
 | n+1,j,h,hp=>by
  rw[NC,Mq]
  by_cases hj:j<n
  ·have ih:=kc3 hj hp
   rw[MK (JX.mp ih).1]
   exact ih
  ·have e:j=n:=by omega
   subst e
   unfold cnt
   rw[Mz (JK _)]
   simp[hp]
theorem kl2(hl:w.length=cnt p n){j:Nat}(hj:j<n):(spr n ((JP n).filter p) w)[j]?=some (if p j=true then w.getD (cnt p j) 0 else 0):=by
 unfold spr
 rw[JU,ME hj]
 show some _=some _
 congr 1
 show(NQ j (((JP n).filter p).zip w)).getD 0=_
 cases hp:p j with
 |true=>
  rw[keV (NO.filter _ Mu) (kc3 hj hp) hl.symm,if_pos rfl,J5]
 | false=>
  rw[if_neg JS]
  cases e:(((JP n).filter p).zip w).lookup j with
  |none=>rw[Ey]
  |some v=>
   obtain⟨k,hk,_⟩:=kc9 e
   have:=(Nh.mp (JO hk)).2
   rw[hp] at this
   cases this
theorem kf4(hl:w.length=cnt p n):∀j,j≤n→pre (spr n ((JP n).filter p) w) j=pre w (cnt p j)
 |0,_=>by simp[pre,cnt]
 | j+1,h=>by
  have ih:=kf4 hl j (by omega)
  rw[ket (kl2 hl (show j<n by omega)),ih]
  cases hp:p j with
  |true=>
   have hk:=(JX.mp (kc3 (show j<n by omega) hp)).1
   have hk':cnt p j<w.length:=by rw[hl];exact hk
   rw[if_pos rfl,kk3 hp,ket (w:=w.getD (cnt p j) 0) (by rw[J5,N1 hk'];rfl)]
  |false=>rw[if_neg JS,kmr hp,Int.add_zero]
theorem kjt(hl:w.length=cnt p n):(spr n ((JP n).filter p) w).sum=w.sum:=by
 have h:=kf4 hl n (JK _)
 rw[←hl,khF] at h
 have e:pre (spr n ((JP n).filter p) w) n=(spr n ((JP n).filter p) w).sum:=by
  have:=khF (spr n ((JP n).filter p) w)
  rw[kdj] at this
  exact this
 rw[←e,h]
theorem knM(m:Int)(hl:w.length=cnt p n):dl m (spr n ((JP n).filter p) w)=spr n ((JP n).filter p) (dl m w):=by
 have hl2:(dl m w).length=cnt p n:=by rw[ke8,hl]
 have hs:=kjt hl
 apply List.ext_getElem?
 intro j
 by_cases hj:j<n
 ·rw[kl2 hl2 hj]
  have hjF:j<(spr n ((JP n).filter p) w).length:=by rw[kdj];exact hj
  by_cases h0:w.sum=0
  ·rw[kkU (hs.trans h0) hjF]
   cases hp:p j with
   |false=>rw[if_neg JS]
   |true=>
    have hk:=(JX.mp (kc3 hj hp)).1
    rw[if_pos rfl,J5,kkU h0 (by rw[hl];exact hk)]
    rfl
  ·rw[dl_at (by rw[hs];exact h0) hjF]
   unfold part
   rw[hs,kf4 hl j (by omega),kf4 hl (j+1) (by omega)]
   cases hp:p j with
   |false=>rw[if_neg JS,kmr hp,Int.sub_self]
   |true=>
    have hk:=(JX.mp (kc3 hj hp)).1
    rw[if_pos rfl,J5,dl_at h0 (by rw[hl];exact hk),kk3 hp]
    rfl
 ·rw[MD (by rw[ke8,kdj];omega),MD (by rw[kdj];omega)]
end
def knc{c:Int}{n:Nat}:dl c (JR n 0)=JR n 0:=by
 have e:(JR n (0:Int)).sum=0:=by simp
 unfold dl
 rw[if_pos e]
 simp
theorem klT{V:Vch}{ps:List (Option Nat)}{kk:List Nat}{S:Stnd}(e:V.ms.most=none):
  (cutM V ps kk S).1=spr S.pr.length (abt ps kk V.ms.kind V.ms.lone S) (want V.so S.mkd.length ((abt ps kk V.ms.kind V.ms.lone S).map fun i=>S.ow.getD i 0) (qs S.pr (abt ps kk V.ms.kind V.ms.lone S))):=by
 unfold cutM cap
 rw[e]
theorem klS{V:Vch}{ps:List (Option Nat)}{kk:List Nat}{S:Stnd}(hl:S.pr.length=S.ow.length)
  (hw:Le2 (want V.so S.mkd.length ((abt ps kk V.ms.kind V.ms.lone S).map fun i=>S.ow.getD i 0) (qs S.pr (abt ps kk V.ms.kind V.ms.lone S))) (qs S.pr (abt ps kk V.ms.kind V.ms.lone S))) {m:Int} (e:V.ms.most=some m) (h0:0≤m):
  (cutM V ps kk S).1=if(spr S.pr.length (abt ps kk V.ms.kind V.ms.lone S) (want V.so S.mkd.length ((abt ps kk V.ms.kind V.ms.lone S).map fun i=>S.ow.getD i 0) (qs S.pr (abt ps kk V.ms.kind V.ms.lone S)))).sum > m
   then dl m (spr S.pr.length (abt ps kk V.ms.kind V.ms.lone S) (want V.so S.mkd.length ((abt ps kk V.ms.kind V.ms.lone S).map fun i=>S.ow.getD i 0) (qs S.pr (abt ps kk V.ms.kind V.ms.lone S))))
   else spr S.pr.length (abt ps kk V.ms.kind V.ms.lone S) (want V.so S.mkd.length ((abt ps kk V.ms.kind V.ms.lone S).map fun i=>S.ow.getD i 0) (qs S.pr (abt ps kk V.ms.kind V.ms.lone S))):=by
 have hwl:=hw.1
 rw[kbs] at hwl
 have ea:abt ps kk V.ms.kind V.ms.lone S=(JP S.pr.length).filter fun i=>hits ps kk V.ms.kind V.ms.lone S.mkd (S.ow.getD i 0):=by rw[hl];rfl
 have ez:V.so=.carr→(want V.so S.mkd.length ((abt ps kk V.ms.kind V.ms.lone S).map fun i=>S.ow.getD i 0) (qs S.pr (abt ps kk V.ms.kind V.ms.lone S)))=JR (qs S.pr (abt ps kk V.ms.kind V.ms.lone S)).length 0:=fun z=>by rw[z];rfl
 unfold cutM cap
 rw[e]
 simp only
 generalize want V.so S.mkd.length ((abt ps kk V.ms.kind V.ms.lone S).map fun i=>S.ow.getD i 0) (qs S.pr (abt ps kk V.ms.kind V.ms.lone S))=w at *
 rw[ea] at hwl⊢
 rw[kjt hwl,knM m hwl]
 by_cases hc:V.so=.carr
 ·have hz:=ez hc
  have hs:w.sum=0:=by rw[hz];simp
  rw[if_neg (by omega:¬w.sum > m)]
  split
  ·simp only
   rw[hz,knc]
  ·rfl
 ·have hf:fee V.so S.cg=0:=by
   unfold fee
   split
   ·rename_i z
    exact absurd z hc
   ·rfl
  rw[hf,Int.add_zero]
  by_cases hm:m<w.sum
  ·rw[if_pos hm,if_pos hm]
   simp only
   rw[Int.min_eq_left (by omega)]
  ·rw[if_neg hm,if_neg hm]
end Vs
namespace Vs
open Kin Deal
noncomputable def ins:List (Nat×List Nat)→Nat→Nat→List (Nat×List Nat)
 |[],o,a=>[(o,[a])]
 |(l,g)::G,o,a=>if l=o then(l,g++[a])::G else(l,g)::ins G o a
noncomputable def parted(f:Nat→Nat)(is:List Nat):List (Nat×List Nat):=is.foldl (fun G a=>ins G (f a) a) []
def keL(f:Nat→Nat)(is:List Nat)(a:Nat):parted f (is++[a])=ins (parted f is) (f a) a:=by
 unfold parted
 rw[Mw]
 rfl
theorem kew:∀(G:List (Nat×List Nat))(o a:Nat),(ins G o a).map Prod.fst=if o∈G.map Prod.fst then G.map Prod.fst else G.map Prod.fst++[o]
 |[],o,a=>by simp[ins]
 | (l,g)::G,o,a=>by
  unfold ins
  by_cases h:l=o
  ·subst h
   simp
  ·rw[if_neg h,JV,kew G o a]
   show _=if o∈l::G.map Prod.fst then l::G.map Prod.fst else(l::G.map Prod.fst)++[o]
   have h':¬o=l:=fun z=>h z.symm
   by_cases hm:o∈G.map Prod.fst
   ·rw[if_pos hm,if_pos (JZ _ hm)]
   ·rw[if_neg hm,if_neg (by rw[Nc,not_or];exact⟨h',hm⟩)]
    rfl
theorem kkK:∀{G:List (Nat×List Nat)}{o a l:Nat}{g:List Nat},(G.map Prod.fst).Nodup→(l,g)∈ins G o a→(l≠o∧(l,g)∈G)∨(l=o∧((∃g',(o,g')∈G∧g=g'++[a])∨(o∉G.map Prod.fst∧g=[a])))
 |[],o,a,l,g,_,h=>by
  unfold ins at h
  rw[NT] at h
  cases h
  exact .inr ⟨rfl, .inr ⟨by simp,rfl⟩⟩
 | (k,g0)::G,o,a,l,g,hn,h=>by
  unfold ins at h
  rw[JV,NR] at hn
  by_cases e:k=o
  ·rw[if_pos e] at h
   subst e
   rcases Nc.mp h with z|z
   ·cases z
    exact .inr ⟨rfl, .inl ⟨g0,J0,rfl⟩⟩
   ·refine .inl ⟨fun w=>?_,JZ _ z⟩
    subst w
    exact hn.1 (J4.mpr ⟨(l,g),z,rfl⟩)
  ·rw[if_neg e] at h
   rcases Nc.mp h with z|z
   ·cases z
    exact .inl ⟨e,J0⟩
   ·rcases kkK hn.2 z with⟨w1,w2⟩|⟨w1,⟨g',w2,w3⟩|⟨w2,w3⟩⟩
    ·exact .inl ⟨w1,JZ _ w2⟩
    ·exact .inr ⟨w1, .inl ⟨g',JZ _ w2,w3⟩⟩
    ·refine .inr ⟨w1, .inr ⟨?_,w3⟩⟩
     rw[JV,Nc,not_or]
     exact⟨fun z=>e z.symm,w2⟩
structure PtOk (f:Nat→Nat) (is:List Nat) (G:List (Nat×List Nat)):Prop where
 nd:(G.map Prod.fst).Nodup
 gs:∀l g,(l,g)∈G→g=is.filter fun i=>f i==l
 all:∀i∈is,f i∈G.map Prod.fst
theorem kfC(f:Nat→Nat):∀(n:Nat)(is:List Nat),is.length=n→PtOk f is (parted f is)
 |0,is,h=>by
  have e:is=[]:=List.eq_nil_of_length_eq_zero h
  subst e
  exact⟨by simp[parted],fun l g hg=>by simp[parted] at hg,fun i hi=>by simp at hi⟩
 | n +1,is,h=>by
  have hne:is≠[]:=by
   intro z
   subst z
   cases h
  obtain⟨is',a,rfl⟩:∃is' a,is=is'++[a]:=⟨is.dropLast,is.getLast hne,(List.dropLast_concat_getLast hne).symm⟩
  have ih:=kfC f n is' (by simpa using h)
  rw[keL]
  refine⟨?_,fun l g hg=>?_,fun i hi=>?_⟩
  ·rw[kew]
   split
   ·exact ih.nd
   ·rename_i hm
    exact EF.mpr ⟨ih.nd,by simp,fun x hx y hy=>by
     rw[NT] at hy
     subst hy
     exact fun z=>hm (by rw[←z];exact hx)⟩
  ·rw[Mq]
   rcases kkK ih.nd hg with⟨w1,w2⟩|⟨w1,⟨g',w2,w3⟩|⟨w2,w3⟩⟩
   ·rw[ih.gs l g w2]
    have:(f a==l)=false:=by simpa using fun z=>w1 z.symm
    simp[this]
   ·subst w1 w3
    rw[ih.gs _ g' w2]
    simp
   ·subst w1 w3
    have e:is'.filter (fun i=>f i==f a)=[]:=by
     rw[List.filter_eq_nil_iff]
     intro i hi z
     have z':f i=f a:=by simpa using z
     exact w2 (by rw[←z'];exact ih.all i hi)
    rw[e]
    simp
  ·rw[kew]
   rcases Nk.mp hi with hi|hi
   ·have:=ih.all i hi
    split
    ·exact this
    ·exact MU _ this
   ·rw[NT] at hi
    subst hi
    split
    ·assumption
    ·exact Nw _ (by simp)
def kcV(f:Nat→Nat)(is:List Nat):PtOk f is (parted f is):=kfC f is.length is rfl
def PtOk.snds{f:Nat→Nat}{is:List Nat}{G:List (Nat×List Nat)}(h:PtOk f is G):G.map Prod.snd=(G.map Prod.fst).map fun l=>is.filter fun i=>f i==l:=by
 rw[J8]
 refine NN fun p hp=>?_
 exact h.gs p.1 p.2 hp
theorem kje{l l':List (Nat×Int)}{i:Nat}:(l++l').lookup i=(l.lookup i).or (l'.lookup i):=by
 induction l with
 |nil=>simp
 |cons p l ih=>
  obtain⟨a,b⟩:=p
  rw[MO,NB,NB,ih]
  split <;> rfl
theorem kfI{l:List (Nat×Int)}{i:Nat}(h:∀p∈l,p.1≠i):l.lookup i=none:=by
 induction l with
 |nil=>rfl
 | cons p l ih=>
  obtain⟨a,b⟩:=p
  have h1:(i==a)=false:=by
   have:=h (a,b) J0
   simpa using fun z=>this z.symm
  rw[NB,h1]
  exact ih fun q hq=>h q (JZ _ hq)
section
variable {f:Nat→Nat} {is:List Nat} {D:List Nat→List Int}
theorem kmw{l i:Nat}{vs:List Int}(h:f i≠l):((is.filter fun i=>f i==l).zip vs).lookup i=none:=
 kfI fun p hp=>by
  have h1:=(Mj (show(p.1,p.2)∈_ from hp)).1
  have h2:f p.1=l:=by simpa using(Nh.mp h1).2
  intro z
  rw[z] at h2
  exact h h2
theorem kec(hD:∀g,(D g).length=g.length)(i:Nat):∀(ks:List Nat),ks.Nodup→
  (((ks.map fun l=>is.filter fun i=>f i==l).flatten).zip ((ks.map fun l=>D (is.filter fun i=>f i==l)).flatten)).lookup i=if f i∈ks then((is.filter fun j=>f j==f i).zip (D (is.filter fun j=>f j==f i))).lookup i else none
 |[],_=>by simp
 | l::ks,hn=>by
  rw[NR] at hn
  have ih:=kec hD i ks hn.2
  rw[JV,JV,Ni,Ni,List.zip_append (hD _).symm,kje,ih]
  by_cases h:f i=l
  ·subst h
   rw[if_neg hn.1,if_pos J0,Option.or_none]
  ·rw[kmw h,Option.none_or]
   by_cases hm:f i∈ks
   ·rw[if_pos hm,if_pos (JZ _ hm)]
   ·rw[if_neg hm,if_neg (by rw[Nc,not_or];exact⟨h,hm⟩)]
theorem ki9(hD:∀g,(D g).length=g.length){n:Nat}{ks ks':List Nat}(hn:ks.Nodup)(hn':ks'.Nodup)(h:∀i∈is,f i∈ks)(h':∀i∈is,f i∈ks'):
  spr n (ks.map fun l=>is.filter fun i=>f i==l).flatten (ks.map fun l=>D (is.filter fun i=>f i==l)).flatten=spr n (ks'.map fun l=>is.filter fun i=>f i==l).flatten (ks'.map fun l=>D (is.filter fun i=>f i==l)).flatten:=by
 unfold spr
 refine NN fun i _=>?_
 have key:∀ks:List Nat,ks.Nodup→(∀i∈is,f i∈ks)→(((ks.map fun l=>is.filter fun i=>f i==l).flatten).zip ((ks.map fun l=>D (is.filter fun i=>f i==l)).flatten)).lookup i=((is.filter fun j=>f j==f i).zip (D (is.filter fun j=>f j==f i))).lookup i:=fun ks hn hk=>by
  rw[kec hD i ks hn]
  by_cases hm:f i∈ks
  ·rw[if_pos hm]
  ·rw[if_neg hm,kfI fun p hp=>?_]
   have h1:=(Mj (show(p.1,p.2)∈_ from hp)).1
   obtain⟨h2,h3⟩:=Nh.mp h1
   exact fun _=>hm (by rw[←(show f p.1=f i by simpa using h3)];exact hk _ h2)
 rw[key ks hn h,key ks' hn' h']
theorem keK(hi:is.Nodup):∀{ks:List Nat},ks.Nodup→(ks.map fun l=>is.filter fun i=>f i==l).flatten.Nodup
 |[],_=>by simp
 |l::ks,hn=>by
  rw[NR] at hn
  rw[JV,Ni]
  refine EF.mpr ⟨hi.filter _,keK hi hn.2,fun x hx y hy z=>?_⟩
  subst z
  have h1:f x=l:=by simpa using(Nh.mp hx).2
  obtain⟨g,hg,hy⟩:=N2.mp hy
  obtain⟨l',hl',rfl⟩:=J4.mp hg
  have h2:f x=l':=by simpa using(Nh.mp hy).2
  exact hn.1 (by rw[←h1,h2];exact hl')
end
theorem kja{n N:Nat}{ow ab:List Nat}{pr:List Int}(cut:Int→Int)(hn:ab.Nodup)(hN:∀i∈ab,ow.getD i 0<N):
  spr n ((parted (fun i=>ow.getD i 0) ab).map Prod.snd).flatten (((parted (fun i=>ow.getD i 0) ab).map Prod.snd).map fun g=>dl (cut (qs pr g).sum) (qs pr g)).flatten=spr n ab (gdl cut (kbk N (ab.map fun i=>ow.getD i 0)) (qs pr ab)):=by
 have ok:=kcV (fun i=>ow.getD i 0) ab
 rw[kh0 cut hn,ok.snds]
 generalize hks:(parted (fun i=>ow.getD i 0) ab).map Prod.fst=ks at *
 have nd:ks.Nodup:=by rw[←hks];exact ok.nd
 have al:∀i∈ab,ow.getD i 0∈ks:=by rw[←hks];exact ok.all
 unfold owns
 rw[J8,J8]
 exact ki9 (f:=fun i=>ow.getD i 0) (is:=ab) (D:=fun g=>dl (cut (qs pr g).sum) (qs pr g)) (fun g=>by rw[ke8,kbs]) nd Mu al fun i hi=>by simpa using hN i hi
def kfD(f:Nat→Nat):∀(is:List Nat),(parted f is).length≤is.length:=by
 intro is
 have key:∀(is:List Nat)(G:List (Nat×List Nat)),(is.foldl (fun G a=>ins G (f a) a) G).length≤G.length+is.length:=by
  intro is
  induction is with
  |nil=>intro G;simp
  | cons a is ih=>
   intro G
   have h1:=ih (ins G (f a) a)
   have h2:(ins G (f a) a).length≤G.length+1:=by
    have:=congrArg NA (kew G (f a) a)
    rw[JJ] at this
    rw[this]
    split <;> simp
   rw[MA,Ny]
   omega
 simpa[parted] using key is []
end Vs
namespace Vs
open Kin Deal
noncomputable def fallP(pr:List Int)(is:List Nat):List Nat:=(ordQ (qs pr is)).map fun j=>is.getD j 0
def range_getD(is:List Nat):(JP is.length).map (fun j=>is.getD j 0)=is:=by
 apply Mp
 ·simp
 ·intro j h1 h2
  simp[J5,h2]
def kbJ(pr:List Int)(is:List Nat):(fallP pr is).Perm is:=by
 have h:=(kcW (qs pr is)).map fun j=>is.getD j 0
 rw[kbs,range_getD] at h
 exact h
noncomputable def befP(pr:List Int)(a b:Nat):Prop:=pr.getD b 0<pr.getD a 0∨(pr.getD a 0=pr.getD b 0∧a<b)
def klP{pr:List Int}{is:List Nat}(hs:is.Pairwise (· < ·)):(fallP pr is).Pairwise (befP pr):=by
 have h:=(keM (qs pr is)).2
 have hm:=(keM (qs pr is)).1
 unfold fallP
 rw[Ei]
 refine h.imp_of_mem fun {a b} ha hb hab=>?_
 have la:a<is.length:=by simpa[kbs] using hm.mem_iff.mp ha
 have lb:b<is.length:=by simpa[kbs] using hm.mem_iff.mp hb
 have ea:(qs pr is).getD a 0=pr.getD (is.getD a 0) 0:=by simp[qs,J5,la]
 have eb:(qs pr is).getD b 0=pr.getD (is.getD b 0) 0:=by simp[qs,J5,lb]
 unfold bef at hab
 unfold befP
 rw[ea,eb] at hab
 rcases hab with z|⟨z1,z2⟩
 ·exact .inl z
 ·refine .inr ⟨z1,?_⟩
  have:=Mo.mp hs a b la lb z2
  simpa[J5,la,lb] using this
def kjh{pr:List Int}{is ks:List Nat}(hs:is.Pairwise (· < ·))(hp:ks.Perm is)(hk:ks.Pairwise (befP pr)):ks=fallP pr is:=
 kgN (R:=befP pr) (fun a b h h'=>by unfold befP at h h';omega) (hp.trans (kbJ pr is).symm) hk (klP hs)
def kkN(m:Nat)(f:Nat→Nat)(r:List Nat):grp m (r.map f)=(grp m r).map fun g=>g.map f:=by
 unfold grp
 rw[JJ,J8]
 refine NN fun g _=>?_
 show((r.map f).drop _).take _=((r.drop _).take _).map f
 rw[Me,MB]
def khS{m:Nat}{r g:List Nat}(h:g∈grp m r):∀j∈g,j∈r:=fun j hj=>by
 obtain⟨i,_,rfl⟩:=J4.mp h
 exact EG (Mx hj)
theorem kkO{n:Nat}{ab:List Nat}{pr:List Int}(cut:Int→Int)(hn:ab.Nodup)(gs:List (List Nat))(hg:∀g∈gs,∀j∈g,j<ab.length):
  spr n ab (gdl cut gs (qs pr ab))=spr n (gs.map fun g=>g.map fun j=>ab.getD j 0).flatten ((gs.map fun g=>g.map fun j=>ab.getD j 0).map fun o=>dl (cut (qs pr o).sum) (qs pr o)).flatten:=by
 unfold gdl
 rw[kbs,kho hn fun j hj=>?_,List.map_flatten,J8]
 ·congr 2
  refine NN fun g hg'=>?_
  have e:=qs_qs (pr:=pr) (ab:=ab) (g:=g) (hg g hg')
  show dl (cut (qs (qs pr ab) g).sum) (qs (qs pr ab) g)=dl (cut (qs pr (g.map fun j=>ab.getD j 0)).sum) (qs pr (g.map fun j=>ab.getD j 0))
  rw[e]
 ·obtain⟨g,hg',hj'⟩:=N2.mp hj
  exact hg g hg' j hj'
def kme{pr:List Int}{is:List Nat}{m:Nat}{g:List Nat}(h:g∈grp m (ordQ (qs pr is))):∀j∈g,j<is.length:=fun j hj=>by
 have:=khI (khS h j hj)
 rwa [kbs] at this
theorem klV{n m:Nat}{is:List Nat}{pr:List Int}(cut:Int→Int)(hn:is.Nodup):
  spr n is (gdl cut (grp m (ordQ (qs pr is))) (qs pr is))=spr n (grp m (fallP pr is)).flatten ((grp m (fallP pr is)).map fun o=>dl (cut (qs pr o).sum) (qs pr o)).flatten:=by
 rw[kkO cut hn _ fun g hg=>kme hg]
 unfold fallP
 rw[kkN]
def kkx{f:Nat→Nat}{gs:List (List Nat)}(h:∀g∈gs,g≠[]):lasts (gs.map fun g=>g.map f)=(lasts gs).map f:=by
 unfold lasts
 rw[J8,J8]
 refine NN fun g hg=>?_
 show(g.map f).getLastD 0=f (g.getLastD 0)
 have hne:=h g hg
 rw[EH,EH,List.getLast?_map,EY hne]
 rfl
def knN(c:Int):dl c [c]=[c]:=by
 unfold dl
 by_cases h:[c].sum=0
 ·rw[if_pos h]
  have:c=0:=by simpa using h
  simp[this]
 ·rw[if_neg h]
  have hc:c≠0:=by simpa using h
  have e:part c [c] 0=c:=by
   unfold part pre
   simp[Int.mul_ediv_cancel _ hc]
  simp[NC,e]
theorem kjV(f:Nat→Int):∀(l:List Nat),(l.map fun i=>[i]).flatten=l∧(l.map fun i=>[f i]).flatten=l.map f
 |[]=>⟨rfl,rfl⟩
 |a::l=>by
  obtain⟨h1,h2⟩:=kjV f l
  simp[h1,h2]
theorem kk5{n m:Nat}{is:List Nat}{pr:List Int}(hm:0<m)(hn:is.Nodup):
  spr n is (spr (qs pr is).length (lasts (grp m (ordQ (qs pr is)))) (qs (qs pr is) (lasts (grp m (ordQ (qs pr is))))))=spr n (lasts (grp m (fallP pr is))) ((lasts (grp m (fallP pr is))).map fun i=>pr.getD i 0):=by
 have ne:∀g∈grp m (ordQ (qs pr is)),g≠[]:=fun g hg z=>by
  obtain⟨i,hi⟩:=N9.mp hg
  have:=(kg9 hi).2.1
  rw[z] at this
  simp at this
  omega
 have hl:∀j∈lasts (grp m (ordQ (qs pr is))),j<is.length:=fun j hj=>by
  obtain⟨g,hg,rfl⟩:=J4.mp hj
  refine kme hg _ ?_
  rw[EH,EY (ne g hg)]
  exact List.getLast_mem _
 rw[kbs,kho hn hl,qs_qs hl]
 have e:lasts (grp m (fallP pr is))=(lasts (grp m (ordQ (qs pr is)))).map fun j=>is.getD j 0:=by
  unfold fallP
  rw[kkN,kkx ne]
 rw[e]
 rfl
def spr_zero{n k:Nat}{is:List Nat}:spr n is (JR k 0)=JR n 0:=by
 unfold spr
 apply Mp
 ·simp
 ·intro j h1 h2
  simp only[MP,Ec,List.getElem_replicate]
  cases e:(is.zip (JR k (0:Int))).lookup j with
  |none=>rfl
  |some v=>
   obtain⟨i,_,hv⟩:=kc9 e
   have:=List.eq_of_mem_replicate (JO hv)
   rw[this]
   rfl
def ke4{pr:List Int}{is:List Nat}(hn:is.Nodup):(fallP pr is).Nodup:=(kbJ pr is).nodup_iff.mpr hn
def khT(m:Nat)(r:List Nat):(grp m r).length≤r.length:=by
 unfold grp
 rw[JJ,List.length_range]
 exact Nat.div_le_self _ _
end Vs
namespace Vs
open Kin Deal
noncomputable def atMost(m:Option Int)(n:Int):Int:=match m with
 |none=>n
 |some z=>min z n
noncomputable def rwm(so:Srt)(cg s:Int):Int:=match so with
 | .off a=>min a s
 | .share h _=>s*h/1000
 | .cheap m=>s/m
 | .bund _ _=>s
 | .carr=>cg
noncomputable def kbZ(V:Vch)(ps:List (Option Nat))(kk:List Nat)(S:Stnd):Int:=
 atMost V.ms.most (rwm V.so S.cg (qs S.pr (abt ps kk V.ms.kind V.ms.lone S)).sum)
theorem sum_set:∀{l:List Int}{i:Nat}{u v:Int},l[i]?=some u→(l.set i v).sum=l.sum-u+v
 |[],i,u,v,h=>by simp at h
 |a::l,0,u,v,h=>by
  have e:a=u:=by simpa using h
  subst e
  simp only[List.set_cons_zero,Nf]
  omega
 |a::l,i+1,u,v,h=>by
  have e:l[i]?=some u:=by simpa using h
  simp only[EI,Nf]
  rw[sum_set e]
  omega
def kc7{n:Nat}{is:List Nat}(hn:is.Nodup)(hl:∀i∈is,i<n){vs:List Int}(he:is.length=vs.length):(spr n is vs).sum=vs.sum:=by
 have h:∀k,k≤is.length→(spr n (is.take k) (vs.take k)).sum=(vs.take k).sum:=by
  intro k
  induction k with
  |zero=>intro _;rw[EJ,EJ,kjA];simp
  | succ k ih=>
   intro hk
   obtain⟨i,ei⟩:∃i,is[k]?=some i:=⟨is[k]'(by omega),by simp⟩
   obtain⟨v,ev⟩:∃v,vs[k]?=some v:=⟨vs[k]'(by omega),by simp⟩
   have hi:=hl i (JO ei)
   rw[←kjz hn ei ev hi]
   have e0:(spr n (is.take k) (vs.take k))[i]?=some 0:=by
    unfold spr
    rw[JU,ME hi]
    show some _=some _
    congr 1
    cases e:((is.take k).zip (vs.take k)).lookup i with
    |none=>simp only[e];rfl
    | some w=>
     obtain⟨j,h1,_⟩:=kc9 e
     rw[EK] at h1
     split at h1
     ·rename_i hj
      have a1:=JX.mp h1
      have a2:=JX.mp ei
      exact absurd ((Er hn).mp (a1.2.trans a2.2.symm)) (by omega)
     ·cases h1
   rw[sum_set e0,ih (by omega),N8,ev,NP]
   simp
 have e:=h is.length (JK _)
 rw[Nt,he,Nt] at e
 exact e
def kj2{q:List Int}(hq:Nn q){is:List Nat}(hn:is.Nodup)(hl:∀i∈is,i<q.length):(qs q is).sum≤q.sum:=by
 have h:=(kfx hq (Le2.self (qs_nn hq is))).sum
 rw[kc7 hn hl (kbs _ _).symm] at h
 exact h.2
theorem kfT:∀(xs:List (List Int)),xs.flatten.sum=(xs.map List.sum).sum
 |[]=>rfl
 |x::xs=>by simp only[Ni,NP,JV,Nf];rw[kfT xs]
theorem kj3(q:List Int):∀(gs:List (List Nat)),qs q gs.flatten=(gs.map fun g=>qs q g).flatten
 |[]=>rfl
 |g::gs=>by rw[Ni,kgM,JV,Ni,kj3 q gs]
def kdK{c:Int}{ws:List Int}(h0:0≤c)(hn:Nn ws):(dl c ws).sum≤c:=by
 have hs:=kbi hn
 by_cases e:ws.sum=0
 ·rw[kmD e];exact h0
 ·rw[kno (by omega)];exact Int.le_refl _
theorem km6{cut:Int→Int}{gs:List (List Nat)}{q:List Int}(hg:gs.flatten.Nodup)(hl:∀i∈gs.flatten,i<q.length):
  (gdl cut gs q).sum=(gs.map fun g=>(dl (cut (qs q g).sum) (qs q g)).sum).sum:=by
 unfold gdl
 rw[kc7 hg hl ?_,kfT,J8]
 ·rfl
 ·clear hg hl
  induction gs with
  |nil=>rfl
  |cons g gs ih=>rw[JV,Ni,Ni,JW,JW,ke8,kbs,ih]
def kfK{gs:List (List Nat)}{q:List Int}(hq:Nn q)(hg:gs.flatten.Nodup)(hl:∀i∈gs.flatten,i<q.length):(gs.map fun g=>(qs q g).sum).sum≤q.sum:=by
 have h:=kj2 hq hg hl
 rw[kj3,kfT,J8] at h
 exact h
theorem kdQ{α:Type}{f g: α→Int}:∀{l:List α},(∀x∈l,f x≤g x)→(l.map f).sum≤(l.map g).sum
 |[],_=>Int.le_refl _
 |a::l,h=>by
  have h1:=h a J0
  have h2:=kdQ (l:=l) fun x hx=>h x (JZ _ hx)
  simp only[JV,Nf]
  omega
theorem kgG{s:Int}(h0:0≤s):∀{xs:List Int},Nn xs→(xs.map fun z=>z*s/1000).sum≤xs.sum*s/1000
 |[],_=>by simp
 |x::xs,hn=>by
  have ih:=kgG h0 (xs:=xs) fun w hw=>hn w (JZ _ hw)
  simp only[JV,Nf]
  have e:(x+xs.sum)*s=x*s+xs.sum*s:=Int.add_mul _ _ _
  rw[e]
  generalize x*s=u at *
  generalize xs.sum*s=v at *
  omega
def kcA{n:Nat}{lines:List Nat}:(kbk n lines).flatten.Nodup:=by
 refine List.pairwise_flatten.mpr ⟨fun l hl=>?_,?_⟩
 ·obtain⟨k,_,rfl⟩:=J4.mp hl
  exact NO.filter _ Mu
 ·unfold kbk
  refine Ei.mpr (Ej.imp fun {p q} hlt x hx y hy e=>?_)
  have h1:=(Nh.mp hx).2
  have h2:=(Nh.mp hy).2
  subst e
  have h1':lines.getD x 0=p:=by simpa using h1
  have h2':lines.getD x 0=q:=by simpa using h2
  omega
def kfv{n:Nat}{lines:List Nat}:∀i∈(kbk n lines).flatten,i<lines.length:=fun i hi=>by
 obtain⟨g,hg,h⟩:=N2.mp hi
 exact kfd hg h
def khU{m:Nat}{q:List Int}:∀i∈(grp m (ordQ q)).flatten,i<q.length:=fun i hi=>by
 obtain⟨g,hg,h⟩:=N2.mp hi
 exact khI (khS hg i h)
theorem least_le{c:Int}:∀{l:List Int},(∀z∈l,c≤z)→c*(l.length:Int)≤l.sum
 |[],_=>by simp
 |a::l,h=>by
  have h1:=h a J0
  have h2:=least_le (l:=l) fun x hx=>h x (JZ _ hx)
  rw[Nf,Ny]
  have e:c*((l.length+1:Nat):Int)=c*l.length+c:=by rw[Int.natCast_add,Int.mul_add];simp
  omega
def kjf{m:Nat}(hm:0<m){q:List Int}{g:List Nat}(hg:g∈grp m (ordQ q)):q.getD (g.getLastD 0) 0*(m:Int)≤(qs q g).sum:=by
 obtain⟨i,ei⟩:=N9.mp hg
 obtain⟨h1,h2,h3⟩:=kg9 ei
 have h4:=keY hm ei
 have hpw:=(keM q).2
 have key:∀z∈qs q g,q.getD (g.getLastD 0) 0≤z:=fun z hz=>by
  obtain⟨a,ha,rfl⟩:=J4.mp hz
  obtain⟨j,ej⟩:=N9.mp ha
  have hj:j<m:=by
   have:=(JX.mp ej).1
   omega
  rw[h3 j hj] at ej
  by_cases e:j=m-1
  ·subst e
   rw[ej] at h4
   cases h4
   exact Int.le_refl _
  ·have a1:=JX.mp ej
   have a2:=JX.mp h4
   have hb:=Mo.mp hpw (i*m+j) (i*m+(m-1)) a1.1 a2.1 (by omega)
   rw[a1.2,a2.2] at hb
   unfold bef at hb
   show q.getD (g.getLastD 0) 0≤q.getD a 0
   omega
 have:=least_le key
 rw[kbs,h2] at this
 exact this
theorem klh{so:Srt}{n:Nat}{lines:List Nat}{q:List Int}{cg:Int}(hn:Nn q)(ho:SrtOk so)(hll:lines.length=q.length)(hc:0≤cg):(want so n lines q).sum+fee so cg≤rwm so cg q.sum:=by
 have hs:=kbi hn
 cases so with
 |off a=>
  have ho:0≤a∧_:=ho
  show(dl (min a q.sum) q).sum+0≤min a q.sum
  have:=kdK (c:=min a q.sum) (ws:=q) (by omega) hn
  omega
 | share s e=>
  have ho:1≤s∧s≤1000:=ho
  have hsh:=kdr hs ho.1 ho.2
  cases e with
  |false=>
   show(dl (q.sum*s/1000) q).sum+0≤q.sum*s/1000
   have:=kdK (c:=q.sum*s/1000) (ws:=q) hsh.1 hn
   omega
  | true=>
   show(gdl (fun z=>z*s/1000) (kbk n lines) q).sum+0≤q.sum*s/1000
   have hlt:∀i∈(kbk n lines).flatten,i<q.length:=fun i hi=>by rw[←hll];exact kfv i hi
   rw[km6 kcA hlt]
   have h1:((kbk n lines).map fun g=>(dl ((qs q g).sum*s/1000) (qs q g)).sum).sum≤((kbk n lines).map fun g=>(qs q g).sum*s/1000).sum:=
    kdQ fun g _=>kdK (kdr (kbi (qs_nn hn g)) ho.1 ho.2).1 (qs_nn hn g)
   have h2:=kgG (s:=s) (by omega) (xs:=(kbk n lines).map fun g=>(qs q g).sum) fun z hz=>by
    obtain⟨g,_,rfl⟩:=J4.mp hz
    exact kbi (qs_nn hn g)
   rw[J8] at h2
   have h3:=kfK hn kcA hlt
   have h4:((kbk n lines).map fun g=>(qs q g).sum).sum*s≤q.sum*s:=Int.mul_le_mul_of_nonneg_right h3 (by omega)
   have h5:((kbk n lines).map ((fun z=>z*s/1000)∘fun g=>(qs q g).sum))=(kbk n lines).map fun g=>(qs q g).sum*s/1000:=rfl
   rw[h5] at h2
   show((kbk n lines).map fun g=>(dl ((qs q g).sum*s/1000) (qs q g)).sum).sum+0≤_
   generalize ((kbk n lines).map fun g=>(dl ((qs q g).sum*s/1000) (qs q g)).sum).sum=A at *
   generalize ((kbk n lines).map fun g=>(qs q g).sum*s/1000).sum=B at *
   generalize ((kbk n lines).map fun g=>(qs q g).sum).sum*s=C at *
   generalize q.sum*s=D at *
   omega
 | cheap m=>
  have ho:2≤m∧m≤20:=ho
  show(spr q.length (lasts (grp m.toNat (ordQ q))) (qs q (lasts (grp m.toNat (ordQ q))))).sum+0≤q.sum/m
  obtain⟨k,rfl⟩:∃k:Nat,m=(k:Int):=⟨m.toNat,by omega⟩
  rw[Int.toNat_natCast]
  have hk:0<k:=by omega
  have hlt:∀i∈lasts (grp k (ordQ q)),i<q.length:=fun i hi=>by
   obtain⟨g,hg,rfl⟩:=J4.mp hi
   obtain⟨j,ej⟩:=N9.mp hg
   exact khI (JO (keY hk ej))
  rw[kc7 (keX hk (kfE q)) hlt (kbs _ _).symm]
  have e:qs q (lasts (grp k (ordQ q)))=(grp k (ordQ q)).map fun g=>q.getD (g.getLastD 0) 0:=by
   unfold qs lasts
   rw[J8]
   rfl
  rw[e]
  have h1:((grp k (ordQ q)).map fun g=>q.getD (g.getLastD 0) 0*(k:Int)).sum≤((grp k (ordQ q)).map fun g=>(qs q g).sum).sum:=kdQ fun g hg=>kjf hk hg
  have h2:=kfK hn (kg8 (kfE q)) (khU (m:=k))
  have h3:∀(l:List (List Nat)),(l.map fun g=>q.getD (g.getLastD 0) 0*(k:Int)).sum=(l.map fun g=>q.getD (g.getLastD 0) 0).sum*(k:Int):=by
   intro l
   induction l with
   |nil=>simp
   |cons a l ih=>simp only[JV,Nf];rw[ih,Int.add_mul]
  rw[h3] at h1
  rw[Int.add_zero]
  exact(Int.le_ediv_iff_mul_le (by omega)).mpr (by omega)
 |bund m p=>
  have ho:2≤m∧m≤20∧0≤p∧_:=ho
  show(gdl (fun z=>max 0 (z-p)) (grp m.toNat (ordQ q)) q).sum+0≤q.sum
  have:=(kd7 (m:=m) (p:=p) (n:=n) (lines:=lines) hn ho.2.2.1).sum
  have e:want (.bund m p) n lines q=gdl (fun z=>max 0 (z-p)) (grp m.toNat (ordQ q)) q:=rfl
  rw[e] at this
  omega
 |carr=>
  show(JR q.length (0:Int)).sum+cg≤cg
  simp
theorem kng{most:Option Int}{w:List Int}{f:Int}(hw:Nn w)(hf:0≤f)(hm:∀m,most=some m→0≤m)(hz:f=0∨w.sum=0):(cap most w f).1.sum+(cap most w f).2≤atMost most (w.sum+f):=by
 have hs:=kbi hw
 unfold cap atMost
 cases most with
 |none=>exact Int.le_refl _
 | some m=>
  have h0:=hm m rfl
  simp only
  split
  ·have:=kdK (c:=min m w.sum) (ws:=w) (by omega) hw
   simp only
   omega
  ·simp only
   omega
theorem khd{V:Vch}{ps:List (Option Nat)}{kk:List Nat}{S:Stnd}(hl:S.pr.length=S.ow.length)(hn:Nn S.pr)(hc:0≤S.cg)(ho:SrtOk V.so)(hm:∀m,V.ms.most=some m→0≤m):(cutM V ps kk S).1.sum+(cutM V ps kk S).2≤kbZ V ps kk S:=by
 have hnn:=qs_nn hn (abt ps kk V.ms.kind V.ms.lone S)
 have hw:=khm (n:=S.mkd.length) (lines:=(abt ps kk V.ms.kind V.ms.lone S).map fun i=>S.ow.getD i 0) hnn ho
 have hws:=klh (n:=S.mkd.length) (lines:=(abt ps kk V.ms.kind V.ms.lone S).map fun i=>S.ow.getD i 0) (cg:=S.cg) hnn ho (by rw[JJ,kbs]) hc
 have hf:0≤fee V.so S.cg:=by unfold fee;split <;> omega
 have hz:fee V.so S.cg=0∨(want V.so S.mkd.length ((abt ps kk V.ms.kind V.ms.lone S).map fun i=>S.ow.getD i 0) (qs S.pr (abt ps kk V.ms.kind V.ms.lone S))).sum=0:=by
  cases e:V.so with
  |carr=>
   right
   show(JR _ (0:Int)).sum=0
   simp
  |_=>left;rfl
 have hcs:=kng hw.nn hf hm hz
 have hcl:=(kmt (cg:=fee V.so S.cg) hw ⟨hf,Int.le_refl _⟩ hm).1.1
 show(spr S.pr.length (abt ps kk V.ms.kind V.ms.lone S) (cap V.ms.most (want V.so S.mkd.length ((abt ps kk V.ms.kind V.ms.lone S).map fun i=>S.ow.getD i 0) (qs S.pr (abt ps kk V.ms.kind V.ms.lone S))) (fee V.so S.cg)).1).sum+(cap V.ms.most (want V.so S.mkd.length ((abt ps kk V.ms.kind V.ms.lone S).map fun i=>S.ow.getD i 0) (qs S.pr (abt ps kk V.ms.kind V.ms.lone S))) (fee V.so S.cg)).2≤_
 rw[kc7 (kff _ _ _ _ _) (fun i hi=>by rw[hl];exact kfP hi) (by rw[hcl,kbs])]
 refine Int.le_trans hcs ?_
 unfold kbZ atMost
 cases V.ms.most with
 |none=>exact hws
 |some m=>simp only;omega
structure Later (S S':Stnd):Prop where
 ow:S'.ow=S.ow
 pr:Le2 S'.pr S.pr
 cg:0≤S'.cg∧S'.cg≤S.cg
 mg:∀l,S.mkd.getD l false=true→S'.mkd.getD l false=true
def Later.refl{S:Stnd}(hn:Nn S.pr)(hc:0≤S.cg):Later S S:=⟨rfl,Le2.self hn,⟨hc,Int.le_refl _⟩,fun _ h=>h⟩
def Later.trans{S S' S'':Stnd}(h:Later S S')(h':Later S' S''):Later S S'':=⟨h'.ow.trans h.ow,h'.pr.trans h.pr,⟨h'.cg.1,Int.le_trans h'.cg.2 h.cg.2⟩,fun l e=>h'.mg l (h.mg l e)⟩
def Later.aft{V:Vch}{ps:List (Option Nat)}{kk:List Nat}{S:Stnd}(hn:Nn S.pr)(hc:0≤S.cg)(ho:SrtOk V.so)(hm:∀m,V.ms.most=some m→0≤m):Later S (aftM V ps kk S):=by
 have h:=kmv (V:=V) (ps:=ps) (kk:=kk) hn hc ho hm
 refine⟨rfl,h.1,h.2,fun l e=>?_⟩
 unfold aftM
 simp only
 by_cases hl:l<S.mkd.length
 ·rw[J5] at e⊢
  rw[JU,ME hl]
  show(S.mkd.getD l false||_)=true
  rw[J5,e]
  rfl
 ·rw[J5,MD (by omega)] at e
  cases e
theorem kdp{f f':Nat→Int}{p p':Nat→Bool}:∀{l:List Nat},(∀i∈l,p' i=true→p i=true)→(∀i∈l,0≤f' i∧f' i≤f i)→((l.filter p').map f').sum≤((l.filter p).map f).sum
 |[],_,_=>Int.le_refl _
 | a::l,h1,h2=>by
  have ih:=kdp (l:=l) (fun i hi=>h1 i (JZ _ hi)) (fun i hi=>h2 i (JZ _ hi))
  have g1:=h1 a J0
  have g2:=h2 a J0
  rw[Mr,Mr]
  cases e':p' a with
  |true=>
   rw[g1 e',if_pos rfl,if_pos rfl]
   simp only[JV,Nf]
   omega
  | false=>
   rw[if_neg JS]
   split
   ·simp only[JV,Nf]
    omega
   ·exact ih
def kkw{ps:List (Option Nat)}{kk:List Nat}{kind:Option Nat}{lone:Bool}{S S':Stnd}(h:Later S S'):(qs S'.pr (abt ps kk kind lone S')).sum≤(qs S.pr (abt ps kk kind lone S)).sum:=by
 unfold qs abt
 rw[h.ow]
 refine kdp (fun i _ e=>?_) (fun i _=>?_)
 ·unfold hits at e⊢
  rw[NL] at e⊢
  refine⟨e.1,?_⟩
  cases hl:lone with
  |false=>rfl
  |true=>
   rw[hl] at e
   have e2:(!S'.mkd.getD (S.ow.getD i 0) false)=true:=by simpa using e.2
   cases hm:S.mkd.getD (S.ow.getD i 0) false with
   |false=>rfl
   |true=>rw[h.mg _ hm] at e2;cases e2
 ·have hl:=h.pr.1
  rw[J5,J5]
  by_cases hi:i<S.pr.length
  ·have e1:S'.pr[i]?=some (S'.pr[i]'(by omega)):=by simp
   have e2:S.pr[i]?=some S.pr[i]:=by simp
   have:=h.pr.2 i _ _ e1 e2
   rw[e1,e2]
   exact this
  ·rw[MD (by omega),MD (by omega)]
   exact⟨Int.le_refl _,Int.le_refl _⟩
theorem khP{V:Vch}{ps:List (Option Nat)}{kk:List Nat}{S S':Stnd}(h:Later S S')(hn:Nn S'.pr)(ho:SrtOk V.so):kbZ V ps kk S'≤kbZ V ps kk S:=by
 have hs:=kkw (ps:=ps) (kk:=kk) (kind:=V.ms.kind) (lone:=V.ms.lone) h
 have h0:=kbi (qs_nn hn (abt ps kk V.ms.kind V.ms.lone S'))
 have hr:rwm V.so S'.cg (qs S'.pr (abt ps kk V.ms.kind V.ms.lone S')).sum≤rwm V.so S.cg (qs S.pr (abt ps kk V.ms.kind V.ms.lone S)).sum:=by
  generalize (qs S'.pr (abt ps kk V.ms.kind V.ms.lone S')).sum=s' at *
  generalize (qs S.pr (abt ps kk V.ms.kind V.ms.lone S)).sum=s at *
  unfold rwm
  revert ho
  cases V.so with
  |off a=>intro ho;simp only;omega
  |share t e=>
   intro ho
   have ho:1≤t∧t≤1000:=ho
   have:s'*t≤s*t:=Int.mul_le_mul_of_nonneg_right hs (by omega)
   simp only
   generalize s'*t=u at *
   generalize s*t=v at *
   omega
  |cheap m=>
   intro ho
   have ho:2≤m∧m≤20:=ho
   exact Int.ediv_le_ediv (by omega) hs
  |bund m p=>intro _;exact hs
  |carr=>intro _;exact h.cg.2
 unfold kbZ atMost
 cases V.ms.most with
 |none=>exact hr
 |some m=>simp only;omega
end Vs
namespace Vs
open PySem L2
noncomputable def top(i:Nat):Stmt:=PySem.Challenge.pw_voucherstack_k32_spoilt_papers.main.body.getD i (.Pass ⟨0,0,0,0⟩)
noncomputable abbrev khB:Stmt:=top 1
noncomputable abbrev khy:Stmt:=top 3
noncomputable abbrev kbS:Stmt:=top 15
noncomputable abbrev keG:Stmt:=top 18
noncomputable abbrev kjX:Stmt:=top 19
noncomputable abbrev kdk:Stmt:=top 20
noncomputable abbrev khC:Stmt:=top 21
noncomputable abbrev khz:Stmt:=top 22
noncomputable abbrev kbl:Stmt:=top 23
noncomputable abbrev kbV:Stmt:=top 24
noncomputable abbrev kbF:Stmt:=top 25
noncomputable abbrev kbg:Stmt:=top 26
noncomputable abbrev kbT:Stmt:=top 27
noncomputable abbrev kaG:Stmt:=top 28
noncomputable abbrev kb7:Stmt:=top 29
noncomputable abbrev kcB:Stmt:=top 30
noncomputable abbrev kb6:Stmt:=top 31
noncomputable abbrev keF:Stmt:=top 32
noncomputable abbrev khA:Stmt:=top 35
noncomputable abbrev kfY:Stmt:=top 36
noncomputable abbrev kb5:Stmt:=top 37
noncomputable abbrev kcn:Stmt:=top 38
noncomputable abbrev kco:Stmt:=top 39
noncomputable abbrev kbD:Stmt:=top 40
noncomputable abbrev kjY:Stmt:=top 42
noncomputable abbrev kcm:Stmt:=top 44
noncomputable abbrev kcl:Stmt:=top 45
noncomputable abbrev kfZ:Stmt:=top 47
noncomputable abbrev kcC:Stmt:=top 48
noncomputable abbrev kbE:Stmt:=top 49
noncomputable abbrev kbU:Stmt:=top 50
noncomputable abbrev kbo:Stmt:=top 51
noncomputable abbrev kct:Stmt:=top 56
noncomputable abbrev kdU:Stmt:=top 57
noncomputable abbrev kcs:Stmt:=top 58
noncomputable abbrev kcr:Stmt:=top 59
noncomputable abbrev kcp:Stmt:=top 60
noncomputable abbrev kb9:Stmt:=top 61
noncomputable abbrev kbG:Stmt:=top 62
noncomputable abbrev kbH:Stmt:=top 63
noncomputable abbrev kcq:Stmt:=top 64
noncomputable abbrev kb8:Stmt:=top 65
noncomputable abbrev kb4:Stmt:=top 66
noncomputable abbrev kcT:Stmt:=top 67
noncomputable abbrev kcD:Stmt:=top 68
noncomputable abbrev kcE:Stmt:=top 69
noncomputable abbrev s_law:Stmt:=top 70
noncomputable abbrev ka4:Stmt:=inClass (top 5) 0
noncomputable abbrev kaQ:Stmt:=inClass (top 6) 0
noncomputable abbrev kbr:Stmt:=inClass (top 7) 0
noncomputable abbrev ka3:Stmt:=inClass (top 8) 0
noncomputable abbrev kaL:Stmt:=inClass (top 9) 0
noncomputable abbrev kaW:Stmt:=inClass (top 10) 0
noncomputable abbrev kaM:Stmt:=inClass (top 11) 0
noncomputable abbrev ka9:Stmt:=inClass (top 13) 0
noncomputable abbrev kaX:Stmt:=inClass (top 14) 0
noncomputable abbrev kcb:Stmt:=inClass (top 16) 0
noncomputable abbrev kbW:Stmt:=inClass (top 16) 1
noncomputable abbrev kdV:Stmt:=inClass (top 34) 0
noncomputable abbrev kcu:Stmt:=inClass (top 34) 1
noncomputable abbrev kcU:Stmt:=inClass (top 34) 2
noncomputable abbrev kbx:Stmt:=inClass (top 34) 3
noncomputable abbrev kca:Stmt:=inClass (top 34) 4
noncomputable abbrev kcG:Stmt:=inClass (top 43) 0
noncomputable abbrev kcF:Stmt:=inClass (top 43) 1
noncomputable abbrev ka8:Stmt:=inClass (top 53) 0
set_option genInjectivity false
set_option genSizeOf false
structure D where
 XA:Addr
 XB:FuncData
 XC:Addr
 XD:FuncData
 XE:Addr
 XF:FuncData
 XG:Addr
 XH:FuncData
 XI:Addr
 XJ:FuncData
 XM:Addr
 XO:FuncData
 XQ:Addr
 XR:FuncData
 XS:Addr
 XT:FuncData
 XU:Addr
 XW:FuncData
 XX:Addr
 XY:FuncData
 XZ:Addr
 X0:FuncData
 X1:Addr
 X2:FuncData
 X3:Addr
 X4:FuncData
 X5:Addr
 QK:FuncData
 X6:Addr
 X7:FuncData
 X8:Addr
 X9:FuncData
 Ya:Addr
 Yb:FuncData
 Yc:Addr
 Yd:FuncData
 Ye:Addr
 Yf:FuncData
 Yg:Addr
 Yh:FuncData
 Yi:Addr
 Yj:FuncData
 Yk:Addr
 Yl:FuncData
 Ym:Addr
 Yn:FuncData
 Yo:Addr
 Yp:FuncData
 Yq:Addr
 Yr:FuncData
 Ys:Addr
 Yt:FuncData
 Yu:Addr
 Yv:FuncData
 Yw:Addr
 Yx:FuncData
 Yy:Addr
 Yz:FuncData
 YA:Addr
 YB:FuncData
 YC:Addr
 YD:FuncData
 YE:Addr
 YF:FuncData
 YG:Addr
 YH:FuncData
 YI:Addr
 YJ:FuncData
 YK:Addr
 YL:FuncData
 YM:Addr
 YN:FuncData
 YO:Addr
 YQ:FuncData
 YR:Addr
 YS:FuncData
 YT:Addr
 YU:FuncData
 YV:Addr
 YW:FuncData
 YX:Addr
 YY:FuncData
 YZ:Addr
 Y0:FuncData
 Y1:Addr
 Y2:FuncData
 Y3:Addr
 Y5:FuncData
 Y7:Addr
 Y9:FuncData
 Za:Addr
 Zb:FuncData
 f_law:Addr
 Zc:FuncData
 qf:Addr
 Zd:Addr
 qG:FuncData
 tok1_Marks_init:Nat
 qz:Addr
 QL:Addr
 QM:FuncData
 c_Off:Addr
 Ze:Addr
 QN:FuncData
 qi:Addr
 Zf:Addr
 Qp:FuncData
 qk:Addr
 Zg:Addr
 QO:FuncData
 qj:Addr
 Zh:Addr
 QP:FuncData
 ql:Addr
 Zi:Addr
 QQ:FuncData
 qe:Addr
 Zj:Addr
 QR:FuncData
 qg:Addr
 Zk:Addr
 Qq:FuncData
 tok0_Basket_init:Nat
 qc:Addr
 Zl:Addr
 Zm:FuncData
 Zn:Addr
 Zo:FuncData
 c_Way:Addr
 Zp:Addr
 Zq:FuncData
 Zr:Addr
 Zs:FuncData
 Zt:Addr
 Zu:FuncData
 Zv:Addr
 Zw:FuncData
 Zx:Addr
 Zy:FuncData
 qh:Addr
 Zz:Addr
 ZA:FuncData
 qY:Addr
 qZ:FuncData
 qd:Addr
 ZC:Addr
 QS:FuncData
 tok0_Till_init:Nat
 cc_falling_groups:Addr
 tP_falling_groups:Addr
structure Wld (K:JL) (mg:Str→Option Value) (d:D):Prop where
 B:TxtB mg
 QT:Dn K mg "dealt" khB ["cut","weights"] d.XA d.XB
 ZD:Dn K mg "under" khy ["parents","one","other"] d.XC d.XD
 ZE:Dn K mg "price_of_piece" kbS ["line","member"] d.XE d.XF
 Qr:Dn K mg "about" keG ["voucher","parents","basket","standing"] d.XG d.XH
 ZF:Dn K mg "fits" kjX ["marks","parents","kind","marked"] d.XI d.XJ
 ZG:Dn K mg "hindrance" kdk ["voucher","parents","basket","standing"] d.XM d.XO
 ZH:Dn K mg "after" khC ["voucher","parents","basket","standing"] d.XQ d.XR
 ZI:Dn K mg "reach" khz ["voucher","parents","basket","standing"] d.XS d.XT
 ZJ:Dn K mg "reach_without_most" kbl ["voucher","standing","together"] d.XU d.XW
 ZK:Dn K mg "cuts_of_pieces" kbV ["voucher","parents","basket","standing"] d.XX d.XY
 ZL:Dn K mg "cut_of_carriage" kbF ["voucher","standing"] d.XZ d.X0
 ZM:Dn K mg "wanted_cuts" kbg ["voucher","standing","pieces"] d.X1 d.X2
 ZN:Dn K mg "parted_by_line" kbT ["standing","pieces"] d.X3 d.X4
 QU:Dn K mg "falling_groups" kaG ["standing","pieces","many"] d.X5 d.QK
 ZO:Dn K mg "marked_behind" kb7 ["voucher","standing","piece_cuts"] d.X6 d.X7
 QV:Dn K mg "prices_of" kcB ["standing","pieces"] d.X8 d.X9
 qP:Dn K mg "sum_of_prices" kb6 ["standing","pieces"] d.Ya d.Yb
 QW:Dn K mg "at_most" keF ["most","number"] d.Yc d.Yd
 ZP:Dn K mg "fault" khA ["till","basket","hand","order"] d.Ye d.Yf
 QX:Dn K mg "way_by" kfY ["till","basket","hand","order"] d.Yg d.Yh
 ZQ:Dn K mg "word_of_order" kb5 ["till","hand","used","number"] d.Yi d.Yj
 ZR:Dn K mg "breaks_never" kcn ["rules","used","number"] d.Yk d.Yl
 ZS:Dn K mg "breaks_ahead" kco ["rules","used","number"] d.Ym d.Yn
 ZT:Dn K mg "without_company" kbD ["rules","order"] d.Yo d.Yp
 ZU:Dn K mg "best" kjY ["till","basket","hand"] d.Yq d.Yr
 QY:Dn K mg "least_behind" kcm ["way"] d.Ys d.Yt
 ZV:Dn K mg "many_to_come" kcl ["way","number"] d.Yu d.Yv
 qJ:Dn K mg "holds" kfZ ["till","basket","hand","order","total","paper"] d.Yw d.Yx
 ZW:Dn K mg "is_entry_of" kcC ["way","entry"] d.Yy d.Yz
 ZX:Dn K mg "leaves_none_out" kbE ["ways","paper","total"] d.YA d.YB
 ZY:Dn K mg "goes_on_within" kbU ["way","entered"] d.YC d.YD
 ZZ:Dn K mg "first_of_cheapest" kbo ["ways"] d.YE d.YF
 qQ:Dn K mg "_law_cell_at" kct ["_law_script","_law_k"] d.YG d.YH
 qw:Dn K mg "_law_mix" kdU ["_law_cell","_law_factor","_law_prime"] d.YI d.YJ
 Z9:Dn K mg "_law_coin_by" kcs ["_law_cell"] d.YK d.YL
 qH:Dn K mg "_law_coin_of" kcr ["_law_cell","_law_scale"] d.YM d.YN
 Va:Dn K mg "_law_line_by" kcp ["_law_cell","_law_kinds","_law_scale","_law_most"] d.YO d.YQ
 Vb:Dn K mg "_law_marks_by" kb9 ["_law_cell","_law_kinds","_law_scale"] d.YR d.YS
 Vd:Dn K mg "_law_voucher_by" kbG ["_law_cell","_law_kinds","_law_scale"] d.YT d.YU
 Ve:Dn K mg "_law_parents_by" kbH ["_law_cell"] d.YV d.YW
 Vf:Dn K mg "_law_hand_by" kcq ["_law_more_held","_law_vouchers","_law_most_held","_law_first"] d.YX d.YY
 QZ:Dn K mg "_law_world_by" kb8 ["_law_script","_law_most_vouchers","_law_most_held"] d.YZ d.Y0
 Vg:Dn K mg "_law_needed" kb4 ["_law_paper","_law_total"] d.Y1 d.Y2
 Qs:Dn K mg "_law_moved" kcT ["_law_paper","_law_place","_law_by_total","_law_by_least"] d.Y3 d.Y5
 Vh:Dn K mg "_law_spoilt" kcD ["_law_paper","_law_total","_law_cell"] d.Y7 d.Y9
 Vi:Dn K mg "_law_beyond" kcE ["_law_till","_law_basket","_law_hand","_law_paper"] d.Za d.Zb
 d_law:Dn K mg "law" s_law ["_law_script"] d.f_law d.Zc
 qf:ClsT K mg "Marks" d.qf
 Qt:NoAttr K d.qf "kind"
 Vj:NoAttr K d.qf "needs"
 Qu:NoAttr K d.qf "most"
 Vk:NoAttr K d.qf "member"
 Q0:NoAttr K d.qf "once"
 Q1:NoAttr K d.qf "lone"
 Qv:MthT K d.qf "__init__" "Marks.__init__" ka4 ["self","kind","needs","most","member","once","lone"] d.Zd d.qG
 b1_Marks_init:Binds K d.qG ["self","kind","needs","most","member","once","lone"] [.bool false]
 b2_Marks_init:Binds K d.qG ["self","kind","needs","most","member","once","lone"] [.bool false, .bool false]
 b3_Marks_init:Binds K d.qG ["self","kind","needs","most","member","once","lone"] [.bool false, .bool false, .bool false]
 b4_Marks_init:Binds K d.qG ["self","kind","needs","most","member","once","lone"] [.none, .bool false, .bool false, .bool false]
 b5_Marks_init:Binds K d.qG ["self","kind","needs","most","member","once","lone"] [.int 0 d.tok1_Marks_init, .none, .bool false, .bool false, .bool false]
 b6_Marks_init:Binds K d.qG ["self","kind","needs","most","member","once","lone"] [.none, .int 0 d.tok1_Marks_init, .none, .bool false, .bool false, .bool false]
 qz:ClsT K mg "Voucher" d.qz
 qt:MthT K d.qz "__init__" "Voucher.__init__" kaQ ["self","marks"] d.QL d.QM
 b1_Voucher_init:Binds K d.QM ["self","marks"] [.none]
 g_Off:mg "Off"=some (.ref d.c_Off)
 c_Off:ClsT K mg "Off" d.c_Off
 Q2:NoAttr K d.c_Off "amount"
 Vl:NoAttr K d.c_Off "marks"
 Q3:MthT K d.c_Off "__init__" "Off.__init__" kbr ["self","amount","marks"] d.Ze d.QN
 b1_Off_init:Binds K d.QN ["self","amount","marks"] [.none]
 Vm:mg "Share"=some (.ref d.qi)
 qi:ClsT K mg "Share" d.qi
 Q4:NoAttr K d.qi "share"
 Vn:NoAttr K d.qi "by_line"
 Vo:NoAttr K d.qi "marks"
 Q5:MthT K d.qi "__init__" "Share.__init__" ka3 ["self","share","by_line","marks"] d.Zf d.Qp
 b1_Share_init:Binds K d.Qp ["self","share","by_line","marks"] [.none]
 b2_Share_init:Binds K d.Qp ["self","share","by_line","marks"] [.bool false, .none]
 Vp:mg "Cheapest"=some (.ref d.qk)
 qk:ClsT K mg "Cheapest" d.qk
 Q6:NoAttr K d.qk "many"
 Vq:NoAttr K d.qk "marks"
 Q7:MthT K d.qk "__init__" "Cheapest.__init__" kaL ["self","many","marks"] d.Zg d.QO
 b1_Cheapest_init:Binds K d.QO ["self","many","marks"] [.none]
 Vr:mg "Bundle"=some (.ref d.qj)
 qj:ClsT K mg "Bundle" d.qj
 Vt:NoAttr K d.qj "many"
 Vu:NoAttr K d.qj "price"
 Vv:NoAttr K d.qj "marks"
 Q8:MthT K d.qj "__init__" "Bundle.__init__" kaW ["self","many","price","marks"] d.Zh d.QP
 b1_Bundle_init:Binds K d.QP ["self","many","price","marks"] [.none]
 VL:mg "Carriage"=some (.ref d.ql)
 ql:ClsT K mg "Carriage" d.ql
 Vw:NoAttr K d.ql "marks"
 Q9:MthT K d.ql "__init__" "Carriage.__init__" kaM ["self","marks"] d.Zi d.QQ
 b1_Carriage_init:Binds K d.QQ ["self","marks"] [.none]
 qe:ClsT K mg "Line" d.qe
 Vx:NoAttr K d.qe "kind"
 Xa:NoAttr K d.qe "price"
 q9:NoAttr K d.qe "many"
 Xb:NoAttr K d.qe "special"
 Xc:MthT K d.qe "__init__" "Line.__init__" ka9 ["self","kind","price","many","special"] d.Zj d.QR
 b1_Line_init:Binds K d.QR ["self","kind","price","many","special"] [.none]
 qg:ClsT K mg "Basket" d.qg
 Qw:NoAttr K d.qg "lines"
 Vy:NoAttr K d.qg "carriage"
 Xd:NoAttr K d.qg "member"
 Xe:MthT K d.qg "__init__" "Basket.__init__" kaX ["self","lines","carriage","member"] d.Zk d.Qq
 b1_Basket_init:Binds K d.Qq ["self","lines","carriage","member"] [.bool false]
 b2_Basket_init:Binds K d.Qq ["self","lines","carriage","member"] [.int 0 d.tok0_Basket_init, .bool false]
 qc:ClsT K mg "Standing" d.qc
 qK:NoAttr K d.qc "owners"
 qA:NoAttr K d.qc "prices"
 qR:NoAttr K d.qc "carriage"
 Qa:NoAttr K d.qc "marked"
 Qb:MthT K d.qc "__init__" "Standing.__init__" kcb ["self","basket"] d.Zl d.Zm
 qu:MthT K d.qc "whole" "Standing.whole" kbW ["self"] d.Zn d.Zo
 c_Way:ClsT K mg "Way" d.c_Way
 qr:NoAttr K d.c_Way "till"
 Qc:NoAttr K d.c_Way "basket"
 Qx:NoAttr K d.c_Way "hand"
 qp:NoAttr K d.c_Way "used"
 qx:NoAttr K d.c_Way "standing"
 qL:MthT K d.c_Way "__init__" "Way.__init__" kdV ["self","till","basket","hand"] d.Zp d.Zq
 qM:MthT K d.c_Way "word_for" "Way.word_for" kcu ["self","number"] d.Zr d.Zs
 Qd:MthT K d.c_Way "behind" "Way.behind" kcU ["self","number"] d.Zt d.Zu
 Qe:MthT K d.c_Way "followers" "Way.followers" kbx ["self"] d.Zv d.Zw
 qN:MthT K d.c_Way "is_let_by" "Way.is_let_by" kca ["self"] d.Zx d.Zy
 qh:ClsT K mg "Search" d.qh
 Xf:NoAttr K d.qh "order"
 Qf:NoAttr K d.qh "total"
 Xg:NoAttr K d.qh "paper"
 Xh:MthT K d.qh "__init__" "Search.__init__" kcG ["self","way"] d.Zz d.ZA
 Qg:MthT K d.qh "meet" "Search.meet" kcF ["self","way"] d.qY d.qZ
 qd:ClsT K mg "Till" d.qd
 Qy:NoAttr K d.qd "parents"
 qB:NoAttr K d.qd "vouchers"
 qS:NoAttr K d.qd "rules"
 VM:NoAttr K d.qd "back"
 Xi:MthT K d.qd "__init__" "Till.__init__" ka8 ["self","parents","vouchers","rules","back"] d.ZC d.QS
 b1_Till_init:Binds K d.QS ["self","parents","vouchers","rules","back"] [.str "again" d.tok0_Till_init]
 Qh:BaseT K d.qz "__init__" d.QL
 VN:Nb K (.ref d.qi) (.ref d.c_Off)=some false
 VO:Nb K (.ref d.qk) (.ref d.c_Off)=some false
 VP:Nb K (.ref d.qj) (.ref d.c_Off)=some false
 VQ:Nb K (.ref d.ql) (.ref d.c_Off)=some false
 VR:Nb K (.ref d.c_Off) (.ref d.qi)=some false
 VS:Nb K (.ref d.qk) (.ref d.qi)=some false
 VT:Nb K (.ref d.qj) (.ref d.qi)=some false
 VU:Nb K (.ref d.ql) (.ref d.qi)=some false
 VV:Nb K (.ref d.c_Off) (.ref d.qk)=some false
 VW:Nb K (.ref d.qi) (.ref d.qk)=some false
 VX:Nb K (.ref d.qj) (.ref d.qk)=some false
 VY:Nb K (.ref d.ql) (.ref d.qk)=some false
 VZ:Nb K (.ref d.c_Off) (.ref d.qj)=some false
 V1:Nb K (.ref d.qi) (.ref d.qj)=some false
 V2:Nb K (.ref d.qk) (.ref d.qj)=some false
 V3:Nb K (.ref d.ql) (.ref d.qj)=some false
 V4:Nb K (.ref d.c_Off) (.ref d.ql)=some false
 V5:Nb K (.ref d.qi) (.ref d.ql)=some false
 V6:Nb K (.ref d.qk) (.ref d.ql)=some false
 V7:Nb K (.ref d.qj) (.ref d.ql)=some false
 code_falling_groups:d.QK.code=.ref d.cc_falling_groups
 ck_falling_groups:CodeK K d.cc_falling_groups d.tP_falling_groups
structure WB (K:JL) (mg:Str→Option Value) (d:D) (base:Heap):Prop extends Wld K mg d where
 blt:BltM mg base
end Vs
namespace Vs
open PySem L2 War Kin Deal
noncomputable def LineAt(C:Addr)(H:Hp)(x:Addr)(r:Row):Prop:=∃(dx:Addr)(fs:List (Str×V)),H x=some (.ins C dx fs)∧fs.lookup ("kind" :Str)=some (.int r.kd)∧fs.lookup ("price" :Str)=some (.int r.pr)∧fs.lookup ("many" :Str)=some (.int r.mn)∧fs.lookup ("special" :Str)=some (oV r.ex)
noncomputable abbrev Lines(C:Addr)(H:Hp)(ls:List Addr)(rs:List Row):Prop:=P2 (LineAt C H) ls rs
noncomputable def BaskAt(C:Addr)(H:Hp)(b l:Addr)(cg:Int)(m:Bool):Prop:=∃(dx:Addr)(fs:List (Str×V)),H b=some (.ins C dx fs)∧fs.lookup ("lines" :Str)=some (.ref l)∧fs.lookup ("carriage" :Str)=some (.int cg)∧fs.lookup ("member" :Str)=some (.bl m)
noncomputable def StandAt(C:Addr)(H:Hp)(x o p mk:Addr)(cg:Int):Prop:=∃(dx:Addr)(fs:List (Str×V)),H x=some (.ins C dx fs)∧fs.lookup ("owners" :Str)=some (.ref o)∧fs.lookup ("prices" :Str)=some (.ref p)∧fs.lookup ("carriage" :Str)=some (.int cg)∧fs.lookup ("marked" :Str)=some (.ref mk)∧fs.lookup ("whole" :Str)=none
section
variable {C:Addr} {H H':Hp}
theorem LineAt.same{x:Addr}{r:Row}(s:Same H H'):LineAt C H x r→LineAt C H' x r:=fun⟨dx,fs,h,q⟩=>⟨dx,fs,s _ _ h,q⟩
theorem Lines.same{ls:List Addr}{rs:List Row}(s:Same H H')(h:Lines C H ls rs):Lines C H' ls rs:=h.mono fun _ _ q=>q.same s
theorem BaskAt.same{b l:Addr}{cg:Int}{m:Bool}(s:Same H H'):BaskAt C H b l cg m→BaskAt C H' b l cg m:=fun⟨dx,fs,h,q⟩=>⟨dx,fs,s _ _ h,q⟩
theorem StandAt.same{x o p mk:Addr}{cg:Int}(s:Same H H'):StandAt C H x o p mk cg→StandAt C H' x o p mk cg:=fun⟨dx,fs,h,q⟩=>⟨dx,fs,s _ _ h,q⟩
end
section
variable {H:Hp} {hd:Addr} {xs:List V} {o:HO}
theorem LineAt.set{C x:Addr}{r:Row}(h:H hd=some (.lst xs)):LineAt C H x r→LineAt C (upd H hd o) x r:=fun⟨dx,fs,e,q⟩=>⟨dx,fs,by rw[kak (ne_of e h (by intro z;cases z))];exact e,q⟩
theorem Lines.set{C:Addr}{ls:List Addr}{rs:List Row}(h:H hd=some (.lst xs))(L:Lines C H ls rs):Lines C (upd H hd o) ls rs:=L.mono fun _ _ q=>q.set h
end
structure Bask where
 rs:List Row
 cg:Int
 m:Bool
inductive BaskIs (CL CB:Addr) (H:Hp) (b:Addr) (B:Bask):Prop
 |ct (l:Addr)(ls:List Addr)(_:BaskAt CB H b l B.cg B.m)(_:H l=some (.lst (ls.map V.ref)))(_:Lines CL H ls B.rs):BaskIs CL CB H b B
def BaskIs.same{CL CB:Addr}{H H':Hp}{b:Addr}{B:Bask}(s:Same H H'):BaskIs CL CB H b B→BaskIs CL CB H' b B:=fun⟨l,ls,h1,h2,h3⟩=>⟨l,ls,h1.same s,s _ _ h2,h3.same s⟩
noncomputable def iV(k:Nat):V:=.int (k:Int)
inductive StndIs (CS:Addr) (H:Hp) (x:Addr) (S:Stnd):Prop
 |ct (o p mk:Addr)(_:StandAt CS H x o p mk S.cg)(_:H o=some (.lst (S.ow.map iV)))(_:H p=some (.lst (S.pr.map V.int)))(_:H mk=some (.lst (S.mkd.map V.bl))):StndIs CS H x S
def StndIs.same{CS:Addr}{H H':Hp}{x:Addr}{S:Stnd}(s:Same H H'):StndIs CS H x S→StndIs CS H' x S:=fun⟨o,p,mk,h1,h2,h3,h4⟩=>⟨o,p,mk,h1.same s,s _ _ h2,s _ _ h3,s _ _ h4⟩
def kbB(ns:List Nat):(ns.map iV).all flatV=true:=by
 rw[Mm]
 intro x hx
 obtain⟨n,_,rfl⟩:=J4.mp hx
 rfl
noncomputable def ownN(rs:List Row):List Nat:=(rs.zipIdx.map fun p=>JR p.1.mn.toNat p.2).flatten
theorem kf6(rs:List Row):(own rs).map V.int=(ownN rs).map iV:=by
 unfold own ownN
 generalize rs.zipIdx=l
 induction l with
 |nil=>rfl
 |cons p l ih=>
  rw[JV,Ni,JQ,ih,JV,Ni,JQ]
  congr 1
  simp[iV]
def kmS(rs:List Row){l:Nat}(h:l∈ownN rs):l<rs.length:=by
 unfold ownN at h
 obtain⟨xs,h1,h2⟩:=N2.mp h
 obtain⟨p,h3,rfl⟩:=J4.mp h1
 have e:l=p.2:=(EL.mp h2).2
 have q:=List.mem_zipIdx h3
 omega
def klu(rs:List Row)(h:∀r∈rs,r.Ok):(ownN rs).length≤60*rs.length:=by
 have e:(ownN rs).length=(own rs).length:=by
  have:=congrArg NA (kf6 rs)
  simpa using this.symm
 rw[e]
 exact kkc rs h
noncomputable def pV:Option Nat→V
 |none=>.non
 |some k=>.int (k:Int)
def eq_int(a b:Nat):decide (V.int (a:Int)=V.int (b:Int))=decide (a=b):=by
 by_cases h:a=b
 ·subst h;simp
 ·have:¬(V.int (a:Int)=V.int (b:Int)):=by
   intro e
   injection e with e
   omega
  simp[h,this]
theorem klE{c:Int}{ws:List Int}(h:ws.sum=0):(dl c ws).map V.int=JR ws.length (V.int 0):=by
 unfold dl
 rw[if_pos h]
 clear h
 induction ws with
 |nil=>rfl
 |cons w ws ih=>simpa[Mc] using ih
def kkl{c:Int}{ws:List Int}(h:¬ws.sum=0):dl c ws=(JP ws.length).map (part c ws):=by
 unfold dl
 rw[if_neg h]
inductive kjR (K:JL) (vs:List V) (H:Hp) (Q:VK) (E_:XK):Prop
 |ct (c:Int)(a:Addr)(ws:List Int)(_:vs=[.int c, .ref a])(_:SqL K H a (ws.map V.int))(_:Nn ws)(_:ws.sum<2 ^ 100)(_:0≤c)(_:c<2 ^ 64)(_:ws.length≤1000)(_:∀p,H p=none→Q (.ref p) (upd H p (.lst ((dl c ws).map V.int)))):kjR K vs H Q E_
inductive kjF (K:JL) (vs:List V) (H:Hp) (Q:VK) (E_:XK):Prop
 |ct (a:Addr)(ps:List (Option Nat))(one other:Nat)(_:vs=[.ref a, .int one, .int other])(_:SqL K H a (ps.map pV))(_:Good ps)(_:one<ps.length)(_:Q (.bl (decide (other∈up ps one))) H):kjF K vs H Q E_
inductive khr (C:Addr) (vs:List V) (H:Hp) (Q:VK) (E_:XK):Prop
 |ct (x dx:Addr)(r:Row)(_:vs=[.ref x, .int r.kd, .int r.pr, .int r.mn,oV r.ex])(_:H x=some (.ins C dx []))(_:∀H',But x H H'→LineAt C H' x r→Q .non H'):khr C vs H Q E_
inductive kht (K:JL) (C:Addr) (vs:List V) (H:Hp) (Q:VK) (E_:XK):Prop
 |ct (x dx l:Addr)(cg:Int)(m:Bool)(xs:List V)(_:vs=[.ref x, .ref l, .int cg, .bl m])(_:H x=some (.ins C dx []))(_:SqL K H l xs)(_:∀(H':Hp)(l':Addr),But x H H'→H l'=none→H' l'=some (.lst xs)→BaskAt C H' x l' cg m→Q .non H'):kht K C vs H Q E_
inductive kjI (CL:Addr) (vs:List V) (H:Hp) (Q:VK) (E_:XK):Prop
 |ct (x:Addr)(m:Bool)(r:Row)(_:vs=[.ref x, .bl m])(_:LineAt CL H x r)(_:Q (.int (prc m r)) H):kjI CL vs H Q E_
inductive kdq (CL CB CS:Addr) (vs:List V) (H:Hp) (Q:VK) (E_:XK):Prop
 |ct (x dx b l:Addr)(cg:Int)(m:Bool)(ls:List Addr)(rs:List Row)(_:vs=[.ref x, .ref b])(_:H x=some (.ins CS dx []))(_:BaskAt CB H b l cg m)(_:H l=some (.lst (ls.map V.ref)))(_:Lines CL H ls rs)(_:rs.length≤12)(_:(∀r∈rs,r.Ok))(_:∀(H':Hp)(o p mk:Addr),But x H H'→H o=none→H p=none→H mk=none→StandAt CS H' x o p mk cg→H' o=some (.lst ((own rs).map V.int))→H' p=some (.lst ((prs m rs).map V.int))→H' mk=some (.lst (JR rs.length (.bl false)))→(∃dx fs,H' x=some (.ins CS dx fs)∧fs.length≤10)→Q .non H'):kdq CL CB CS vs H Q E_
inductive kjC (CS:Addr) (vs:List V) (H:Hp) (Q:VK) (E_:XK):Prop
 |ct (x o p mk:Addr)(cg:Int)(ns:List Int)(_:vs=[.ref x])(_:StandAt CS H x o p mk cg)(_:H p=some (.lst (ns.map V.int)))(_:Q (.int (ns.sum+cg)) H):kjC CS vs H Q E_
structure S3 (H0:Hp) (x C dx:Addr) (fs:List (Str×V)) (o p mk:Addr) (a b c:List V) (H:Hp):Prop where
 bt:But x H0 H
 ob:H x=some (.ins C dx fs)
 ho:H o=some (.lst a)
 hp:H p=some (.lst b)
 hm:H mk=some (.lst c)
structure Ds (H0:Hp) (x o p mk:Addr):Prop where
 fo:H0 o=none
 fp:H0 p=none
 fm:H0 mk=none
 ox:o≠x
 px:p≠x
 mx:mk≠x
 op:o≠p
 om:o≠mk
 pm:p≠mk
section
variable {H0 H H':Hp} {x C dx o p mk:Addr} {fs:List (Str×V)} {a b c d:List V}
theorem S3.same(h:S3 H0 x C dx fs o p mk a b c H)(s:Same H H'):S3 H0 x C dx fs o p mk a b c H':=⟨h.bt.same s,s _ _ h.ob,s _ _ h.ho,s _ _ h.hp,s _ _ h.hm⟩
theorem S3.setO(h:S3 H0 x C dx fs o p mk a b c H)(D:Ds H0 x o p mk):S3 H0 x C dx fs o p mk d b c (upd H o (.lst d)):=
 ⟨fun y u n e=>kbL (h.bt y u n e) fun u' e'=>ev_eq (by rw[kak (kai e D.fo)];exact e') fun t=>kd8 t (kai e D.fo) (nx h.ho),by rw[kak D.ox.symm];exact h.ob,kae,by rw[kak D.op.symm];exact h.hp,by rw[kak D.om.symm];exact h.hm⟩
theorem S3.setP(h:S3 H0 x C dx fs o p mk a b c H)(D:Ds H0 x o p mk):S3 H0 x C dx fs o p mk a d c (upd H p (.lst d)):=
 ⟨fun y u n e=>kbL (h.bt y u n e) fun u' e'=>ev_eq (by rw[kak (kai e D.fp)];exact e') fun t=>kd8 t (kai e D.fp) (nx h.hp),by rw[kak D.px.symm];exact h.ob,by rw[kak D.op];exact h.ho,kae,by rw[kak D.pm.symm];exact h.hm⟩
theorem S3.setM(h:S3 H0 x C dx fs o p mk a b c H)(D:Ds H0 x o p mk):S3 H0 x C dx fs o p mk a b d (upd H mk (.lst d)):=
 ⟨fun y u n e=>kbL (h.bt y u n e) fun u' e'=>ev_eq (by rw[kak (kai e D.fm)];exact e') fun t=>kd8 t (kai e D.fm) (nx h.hm),by rw[kak D.mx.symm];exact h.ob,by rw[kak D.om];exact h.ho,by rw[kak D.pm];exact h.hp,kae⟩
end
end Vs
namespace Vs
open PySem L2 War Kin Deal
noncomputable def MksIs(C:Addr)(H:Hp)(x:Addr)(M:Mks):Prop:=∃(dx:Addr)(fs:List (Str×V)),H x=some (.ins C dx fs)∧fs.lookup ("kind" :Str)=some (pV M.kind)∧fs.lookup ("needs" :Str)=some (.int M.needs)∧fs.lookup ("most" :Str)=some (oV M.most)∧fs.lookup ("member" :Str)=some (.bl M.member)∧fs.lookup ("once" :Str)=some (.bl M.once)∧fs.lookup ("lone" :Str)=some (.bl M.lone)
def MksIs.same{C:Addr}{H H':Hp}{x:Addr}{M:Mks}(s:Same H H'):MksIs C H x M→MksIs C H' x M:=fun⟨dx,fs,h,q⟩=>⟨dx,fs,s _ _ h,q⟩
noncomputable def SrtIs(fs:List (Str×V)):Srt→Prop
 | .off a=>fs.lookup ("amount" :Str)=some (.int a)
 | .share s b=>fs.lookup ("share" :Str)=some (.int s)∧fs.lookup ("by_line" :Str)=some (.bl b)
 | .cheap n=>fs.lookup ("many" :Str)=some (.int n)
 | .bund n p=>fs.lookup ("many" :Str)=some (.int n)∧fs.lookup ("price" :Str)=some (.int p)
 | .carr=>True
noncomputable def clsOf(d:D):Srt→Addr
 | .off _=>d.c_Off
 | .share _ _=>d.qi
 | .cheap _=>d.qk
 | .bund _ _=>d.qj
 | .carr=>d.ql
noncomputable def here:Srt→Bool
 | .off _=>true
 | .share _ _=>true
 | .cheap _=>true
 | .bund _ _=>true
 | .carr=>true
noncomputable def kni:Srt→Bool
 | .off _=>true
 | .share _ _=>false
 | .cheap _=>false
 | .bund _ _=>false
 | .carr=>false
noncomputable def klb:Srt→Bool
 | .off _=>false
 | .share _ _=>true
 | .cheap _=>false
 | .bund _ _=>false
 | .carr=>false
noncomputable def khk:Srt→Bool
 | .off _=>false
 | .share _ _=>false
 | .cheap _=>true
 | .bund _ _=>false
 | .carr=>false
noncomputable def kjl:Srt→Bool
 | .off _=>false
 | .share _ _=>false
 | .cheap _=>false
 | .bund _ _=>true
 | .carr=>false
noncomputable def kbQ:Srt→Bool
 | .off _=>false
 | .share _ _=>false
 | .cheap _=>false
 | .bund _ _=>false
 | .carr=>true
noncomputable def Tbs(d:D)(H:Hp):Prop:=TbAt d.tP_falling_groups H
def Tbs.same{d:D}{H H':Hp}(s:Same H H')(h:Tbs d H):Tbs d H':=s.tb h
inductive VchIs (d:D) (H:Hp) (v:Addr) (V:Vch):Prop
 |ct (mA dx:Addr)(fs:List (Str×L2.V))(_:H v=some (.ins (clsOf d V.so) dx fs))(_:fs.lookup ("marks" :Str)=some (.ref mA))(_:SrtIs fs V.so)(_:MksIs d.qf H mA V.ms)(_:here V.so=true)(_:Tbs d H):VchIs d H v V
def VchIs.same{d:D}{H H':Hp}{v:Addr}{V:Vch}(s:Same H H'):VchIs d H v V→VchIs d H' v V:=fun⟨mA,dx,fs,h1,h2,h3,h4,h5,h6⟩=>⟨mA,dx,fs,s _ _ h1,h2,h3,h4.same s,h5,h6.same s⟩
noncomputable def kds(B:Bask):List Nat:=B.rs.map fun r=>r.kd.toNat
structure Wf (ps:List (Option Nat)) (B:Bask) (S:Stnd):Prop where
 good:Good ps
 pl:ps.length≤20
 kd:∀r∈B.rs,0≤r.kd∧r.kd<(ps.length:Int)
 ok:∀r∈B.rs,r.Ok
 nl:B.rs.length≤12
 bc:0≤B.cg∧B.cg≤1000000000000
 ow:S.ow=ownN B.rs
 lp:S.pr.length=S.ow.length
 lm:S.mkd.length=B.rs.length
 pr:∀z∈S.pr,0≤z∧z≤1000000000000
 cg:0≤S.cg∧S.cg≤1000000000000
 n64:S.ow.length<64
def Wf.np{ps:List (Option Nat)}{B:Bask}{S:Stnd}(W:Wf ps B S):S.ow.length≤720:=by
 have:=klu B.rs W.ok
 have:=W.nl
 rw[W.ow]
 omega
def Wf.line{ps:List (Option Nat)}{B:Bask}{S:Stnd}(W:Wf ps B S){i l:Nat}(h:S.ow[i]?=some l):l<B.rs.length:=by
 have hm:=JO h
 rw[W.ow] at hm
 exact kmS _ hm
structure MksOk (ps:List (Option Nat)) (M:Mks):Prop where
 kind:∀k,M.kind=some k→k<ps.length
 needs:0≤M.needs∧M.needs≤1000000000000
 most:∀m,M.most=some m→0≤m∧m≤1000000000000
noncomputable def mks0:Mks:=⟨none,0,none,false,false,false⟩
noncomputable def kjy:Srt→List V
 | .off a=>[.int a]
 | .share s b=>[.int s, .bl b]
 | .cheap n=>[.int n]
 | .bund n p=>[.int n, .int p]
 | .carr=>[]
noncomputable def Mrk(CM:Addr)(H:Hp)(mv:V)(H':Hp)(mA:Addr):Prop:=mv=.ref mA∨(mv=.non∧H mA=none∧MksIs CM H' mA mks0)
def MksIs.but{C x mA:Addr}{H H':Hp}{M:Mks}(n:mA≠x)(b:But x H H'):MksIs C H mA M→MksIs C H' mA M:=fun⟨dx,fs,h,q⟩=>⟨dx,fs,b _ _ n h,q⟩
theorem Mrk.but{CM x mA:Addr}{H H1 H2:Hp}{mv:V}{o:HO}(hx:H x=some o)(b:But x H1 H2):Mrk CM H mv H1 mA→Mrk CM H mv H2 mA
 | .inl e=>.inl e
 | .inr ⟨e,f,h⟩=>.inr ⟨e,f,h.but (kai hx f).symm b⟩
inductive kes (C:Addr) (vs:List V) (H:Hp) (Q:VK) (E_:XK):Prop
 |ct (x dx:Addr)(M:Mks)(_:vs=[.ref x,pV M.kind, .int M.needs,oV M.most, .bl M.member, .bl M.once, .bl M.lone])(_:H x=some (.ins C dx []))(_:∀H',But x H H'→MksIs C H' x M→Q .non H'):kes C vs H Q E_
inductive kfy (K:JL) (CM:Addr) (vs:List V) (H:Hp) (Q:VK) (E_:XK):Prop
 |ct (x C dx:Addr)(fs:List (Str×V))(mv:V)(_:vs=[.ref x,mv])(_:H x=some (.ins C dx fs))(_:Cls K C)(_:NoAttr K C "marks")(_:fs.length≤5)(_:(mv=.non∨∃mA,mv=.ref mA))(_:∀(H':Hp)(mA:Addr),But x H H'→Mrk CM H mv H' mA→H' x=some (.ins C dx (putF "marks" (.ref mA) fs))→Q .non H'):kfy K CM vs H Q E_
inductive kd9 (C CM:Addr) (is:Srt→Prop) (vs:List V) (H:Hp) (Q:VK) (E_:XK):Prop
 |ct (x dx:Addr)(so:Srt)(mv:V)(_:is so)(_:vs=.ref x::(kjy so++[mv]))(_:H x=some (.ins C dx []))(_:(mv=.non∨∃mA,mv=.ref mA))(_:∀(H':Hp)(mA:Addr)(fs:List (Str×V)),But x H H'→Mrk CM H mv H' mA→H' x=some (.ins C dx fs)→fs.lookup ("marks" :Str)=some (.ref mA)→SrtIs fs so→Q .non H'):kd9 C CM is vs H Q E_
theorem kiH{C:Addr}{H:Hp}{M:Mks}{R:Addr→Hp→Prop}{E:XK}(k:∀(H':Hp)(x:Addr),Same H H'→H x=none→MksIs C H' x M→R x H'):
  ∀x dx,H x=none→H dx=none→dx≠x→kes C [.ref x,pV M.kind, .int M.needs,oV M.most, .bl M.member, .bl M.once, .bl M.lone] (upd (upd H dx (.own x)) x (.ins C dx [])) (fun v H2=>v=.non∧R x H2) E:=
 fun x dx nx nd _=>⟨x,dx,M,rfl,kae,fun H' b l=>⟨rfl,k H' x (kbN nx nd b) nx l⟩⟩
def kg2{d:D}{H:Hp}{so:Srt}{mA:Addr}{M:Mks}{is:Srt→Prop}{R:Addr→Hp→Prop}{E:XK}(hi:is so)(hh:here so=true)(hM:MksIs d.qf H mA M)(k:∀(H':Hp)(x:Addr),Same H H'→H x=none→VchIs d H' x ⟨so,M⟩→R x H')(htb:Tbs d H:=by assumption):
  ∀x dx,H x=none→H dx=none→dx≠x→kd9 (clsOf d so) d.qf is (.ref x::(kjy so++[.ref mA])) (upd (upd H dx (.own x)) x (.ins (clsOf d so) dx [])) (fun v H2=>v=.non∧R x H2) E:=
 fun x dx nx nd _=>⟨x,dx,so, .ref mA,hi,rfl,kae, .inr ⟨mA,rfl⟩,fun H' mA' fs b hm h1 h2 h3=>by
  have e:mA'=mA:=by
   rcases hm with e|⟨e,_⟩
   ·injection e with e
    exact e.symm
   ·cases e
  subst e
  exact⟨rfl,k H' x (kbN nx nd b) nx ⟨mA',dx,fs,h1,h2,h3,hM.same (kbN nx nd b),hh,htb.same (kbN nx nd b)⟩⟩⟩
inductive spMix (vs:List V) (H:Hp) (Q:VK) (E_:XK):Prop
 |ct (c f p:Int)(_:vs=[.int c, .int f, .int p])(_:(-(2 ^ 64)<f∧f<2 ^ 64))(_:0<p)(_:Q (.int (c*f%p)) H):spMix vs H Q E_
end Vs
namespace Vs
open PySem L2 War Kin Deal
def sN{t u:TS}{D:Ends}{σ:St}{H:Hp}(h:∀N:St→Hp→Prop,(∀σ' H',u D σ' H'→N σ' H')→t {D with nx:=N} σ H):tSeq t u D σ H:=h (u D) fun _ _ q=>q
theorem kmZ{CL:Addr}{H:Hp}{r:Row}{R:Addr→Hp→Prop}{E:XK}(k:∀(H':Hp)(x:Addr),Same H H'→H x=none→LineAt CL H' x r→R x H'):
  ∀x dx,H x=none→H dx=none→dx≠x→khr CL [.ref x, .int r.kd, .int r.pr, .int r.mn,oV r.ex] (upd (upd H dx (.own x)) x (.ins CL dx [])) (fun v H2=>v=.non∧R x H2) E:=
 fun x dx nx nd _=>⟨x,dx,r,rfl,kae,fun H' b l=>⟨rfl,k H' x (kbN nx nd b) nx l⟩⟩
theorem km0{K:JL}{CB:Addr}{H:Hp}{l:Addr}{cg:Int}{m:Bool}{xs:List V}{R:Addr→Hp→Prop}{E:XK}(hl:SqL K H l xs)(k:∀(H':Hp)(x l':Addr),Same H H'→H x=none→H l'=none→H' l'=some (.lst xs)→BaskAt CB H' x l' cg m→R x H'):
  ∀x dx,H x=none→H dx=none→dx≠x→kht K CB [.ref x, .ref l, .int cg, .bl m] (upd (upd H dx (.own x)) x (.ins CB dx [])) (fun v H2=>v=.non∧R x H2) E:=
 fun x dx nx nd _=>⟨x,dx,l,cg,m,xs,rfl,kae,(kbh nx nd).seq hl,fun H' l' b n h1 h2=>⟨rfl,k H' x l' (kbN nx nd b) nx (kdE n) h1 h2⟩⟩
theorem klD{CL CB CS:Addr}{H:Hp}{b l:Addr}{cg:Int}{m:Bool}{ls:List Addr}{rs:List Row}{R:Addr→Hp→Prop}{E:XK}(hb:BaskAt CB H b l cg m)(hl:H l=some (.lst (ls.map V.ref)))(hL:Lines CL H ls rs)(hn:rs.length≤12)(hok:∀r∈rs,r.Ok)
  (k:∀(H':Hp)(x o p mk:Addr),Same H H'→H x=none→H o=none→H p=none→H mk=none→StandAt CS H' x o p mk cg→H' o=some (.lst ((own rs).map V.int))→H' p=some (.lst ((prs m rs).map V.int))→H' mk=some (.lst (JR rs.length (.bl false)))→R x H'):
  ∀x dx,H x=none→H dx=none→dx≠x→kdq CL CB CS [.ref x, .ref b] (upd (upd H dx (.own x)) x (.ins CS dx [])) (fun v H2=>v=.non∧R x H2) E:=
 fun x dx nx nd _=>⟨x,dx,b,l,cg,m,ls,rs,rfl,kae,hb.same (kbh nx nd),kg3 nx nd hl,hL.same (kbh nx nd),hn,hok,fun H' o p mk bt n1 n2 n3 S h1 h2 h3 _=>⟨rfl,k H' x o p mk (kbN nx nd bt) nx (kdE n1) (kdE n2) (kdE n3) S h1 h2 h3⟩⟩
structure VchOk (ps:List (Option Nat)) (V:Vch):Prop where
 so:SrtOk V.so
 ms:MksOk ps V.ms
noncomputable def stnd0(B:Bask):Stnd:=⟨ownN B.rs,prs B.m B.rs,B.cg,JR B.rs.length false⟩
theorem kmY{CL CB CS:Addr}{H:Hp}{b:Addr}{B:Bask}{R:Addr→Hp→Prop}{E:XK}(hb:BaskIs CL CB H b B)(hn:B.rs.length≤12)(hok:∀r∈B.rs,r.Ok)(k:∀(H':Hp)(x:Addr),Same H H'→H x=none→StndIs CS H' x (stnd0 B)→R x H'):
  ∀x dx,H x=none→H dx=none→dx≠x→kdq CL CB CS [.ref x, .ref b] (upd (upd H dx (.own x)) x (.ins CS dx [])) (fun v H2=>v=.non∧R x H2) E:=by
 obtain⟨l,ls,h1,h2,h3⟩:=hb
 refine klD h1 h2 h3 hn hok fun H' x o p mk s f1 _ _ _ hS ho hp hm=>k H' x s f1 ⟨o,p,mk,hS,?_,hp,?_⟩
 ·rw[ho,kf6]
  rfl
 ·rw[hm]
  show _=some (HO.lst ((JR B.rs.length false).map V.bl))
  rw[List.map_replicate]
def kmb{m:Bool}{r:Row}(h:r.Ok):0≤prc m r∧prc m r≤1000000000000:=by
 unfold prc
 split
 ·cases e:r.ex with
  |none=>exact⟨h.pr0,h.pr1⟩
  |some z=>exact h.ex0 z e
 ·exact⟨h.pr0,h.pr1⟩
theorem kiy(m:Bool):∀(rs:List Row)(k:Nat),(rs.map fun r=>JR r.mn.toNat (prc m r)).flatten.length=((rs.zipIdx k).map fun p=>JR p.1.mn.toNat (p.2:Int)).flatten.length
 |[],_=>by simp
 |r::rs,k=>by
  rw[ED,JV,Ni,JW,Ml,JV,Ni,JW,Ml,kiy m rs (k+1)]
def kmN(m:Bool)(rs:List Row):(prs m rs).length=(ownN rs).length:=by
 have e:(ownN rs).length=(own rs).length:=by
  have:=congrArg NA (kf6 rs)
  simpa using this.symm
 rw[e]
 exact kiy m rs 0
def Wf.start{ps:List (Option Nat)}{B:Bask}(g:Good ps)(pl:ps.length≤20)(kd:∀r∈B.rs,0≤r.kd∧r.kd<(ps.length:Int))(ok:∀r∈B.rs,r.Ok)(nl:B.rs.length≤12)(bc:0≤B.cg∧B.cg≤1000000000000)(n64:(ownN B.rs).length<64):Wf ps B (stnd0 B):=by
 refine⟨g,pl,kd,ok,nl,bc,rfl,kmN _ _,by simp[stnd0],fun z hz=>?_,bc,n64⟩
 obtain⟨xs,h1,h2⟩:=N2.mp hz
 obtain⟨r,hr,rfl⟩:=J4.mp h1
 rw[(EL.mp h2).2]
 exact kmb (ok r hr)
def Wf.nn{ps:List (Option Nat)}{B:Bask}{S:Stnd}(W:Wf ps B S):Nn S.pr:=fun z hz=>(W.pr z hz).1
def Wf.after{ps:List (Option Nat)}{B:Bask}{S:Stnd}{V:Vch}(W:Wf ps B S)(O:VchOk ps V):Wf ps B (aftM V ps (kds B) S):=by
 have h:=kmv (V:=V) (ps:=ps) (kk:=kds B) W.nn W.cg.1 O.so fun m e=>(O.ms.most m e).1
 refine⟨W.good,W.pl,W.kd,W.ok,W.nl,W.bc,W.ow,h.1.1.trans W.lp,by rw[←W.lm];simp[aftM],fun z hz=>?_,⟨h.2.1,Int.le_trans h.2.2 W.cg.2⟩,W.n64⟩
 obtain⟨j,e1⟩:=N9.mp hz
 have hj:j<S.pr.length:=by
  rw[←h.1.1]
  exact(JX.mp e1).1
 have e2:S.pr[j]?=some S.pr[j]:=by simp[hj]
 have b:=h.1.2 j z _ e1 e2
 have c:=W.pr _ (JO e2)
 exact⟨b.1,Int.le_trans b.2 c.2⟩
inductive kjU (K:JL) (d:D) (vs:List V) (H:Hp) (Q:VK) (E_:XK):Prop
 |ct (v a b x:Addr)(V:Vch)(ps:List (Option Nat))(B:Bask)(S:Stnd)(_:vs=[.ref v, .ref a, .ref b, .ref x])(_:VchIs d H v V)(_:SqL K H a (ps.map pV))(_:BaskIs d.qe d.qg H b B)(_:StndIs d.qc H x S)(_:Wf ps B S)(_:VchOk ps V)(_:∀(H':Hp)(p:Addr),Same H H'→H p=none→H' p=some (.lst ((abt ps (kds B) V.ms.kind V.ms.lone S).map iV))→Q (.ref p) H'):kjU K d vs H Q E_
theorem cl_of{K:JL}{mg:Str→Option Value}{d:D}{base:Heap}(W:WB K mg d base):∀{so:Srt},here so=true→Cls K (clsOf d so)
 | .off _,h=>W.c_Off.cl
 | .share _ _,h=>W.qi.cl
 | .cheap _,h=>W.qk.cl
 | .bund _ _,h=>W.qj.cl
 | .carr,h=>W.ql.cl
theorem na_of{K:JL}{mg:Str→Option Value}{d:D}{base:Heap}(W:WB K mg d base):∀{so:Srt},here so=true→NoAttr K (clsOf d so) "marks"
 | .off _,h=>W.Vl
 | .share _ _,h=>W.Vo
 | .cheap _,h=>W.Vq
 | .bund _ _,h=>W.Vv
 | .carr,h=>W.Vw
theorem kkH{K:JL}{mg:Str→Option Value}{d:D}{base:Heap}(W:WB K mg d base):∀{so:Srt},here so=true→Isi K (clsOf d so)
 | .off _,h=>W.c_Off.isi
 | .share _ _,h=>W.qi.isi
 | .cheap _,h=>W.qk.isi
 | .bund _ _,h=>W.qj.isi
 | .carr,h=>W.ql.isi
theorem kkB{K:JL}{mg:Str→Option Value}{d:D}{base:Heap}(W:WB K mg d base):∀{so:Srt},here so=true→Nb K (.ref (clsOf d so)) (.ref d.c_Off)=some (kni so)
 | .off _,h=>kdH _ _
 | .share _ _,h=>W.VN
 | .cheap _,h=>W.VO
 | .bund _ _,h=>W.VP
 | .carr,h=>W.VQ
theorem kbO{K:JL}{mg:Str→Option Value}{d:D}{base:Heap}(W:WB K mg d base):∀{so:Srt},here so=true→Nb K (.ref (clsOf d so)) (.ref d.qi)=some (klb so)
 | .off _,h=>W.VR
 | .share _ _,h=>kdH _ _
 | .cheap _,h=>W.VS
 | .bund _ _,h=>W.VT
 | .carr,h=>W.VU
theorem kbt{K:JL}{mg:Str→Option Value}{d:D}{base:Heap}(W:WB K mg d base):∀{so:Srt},here so=true→Nb K (.ref (clsOf d so)) (.ref d.qk)=some (khk so)
 | .off _,h=>W.VV
 | .share _ _,h=>W.VW
 | .cheap _,h=>kdH _ _
 | .bund _ _,h=>W.VX
 | .carr,h=>W.VY
theorem kda{K:JL}{mg:Str→Option Value}{d:D}{base:Heap}(W:WB K mg d base):∀{so:Srt},here so=true→Nb K (.ref (clsOf d so)) (.ref d.qj)=some (kjl so)
 | .off _,h=>W.VZ
 | .share _ _,h=>W.V1
 | .cheap _,h=>W.V2
 | .bund _ _,h=>kdH _ _
 | .carr,h=>W.V3
theorem kg5{K:JL}{mg:Str→Option Value}{d:D}{base:Heap}(W:WB K mg d base):∀{so:Srt},here so=true→Nb K (.ref (clsOf d so)) (.ref d.ql)=some (kbQ so)
 | .off _,h=>W.V4
 | .share _ _,h=>W.V5
 | .cheap _,h=>W.V6
 | .bund _ _,h=>W.V7
 | .carr,h=>kdH _ _
theorem kdR{b:Int}:∀{q:List Int},(∀z∈q,z≤b)→q.sum≤b*q.length
 |[],_=>by simp
 |z::q,h=>by
  have h1:=h z J0
  have h2:=kdR (q:=q) fun x hx=>h x (JZ _ hx)
  rw[Nf,Ny]
  have e:b*((q.length+1:Nat):Int)=b*q.length+b:=by rw[Int.natCast_add,Int.mul_add];simp
  omega
def kiw{ps:List (Option Nat)}{B:Bask}{S:Stnd}(wf:Wf ps B S){ab:List Nat}(hl:ab.length≤720)(hb:∀i∈ab,i<S.pr.length):(qs S.pr ab).sum≤720000000000000:=by
 have h:=kdR (b:=1000000000000) (q:=qs S.pr ab) fun z hz=>by
  obtain⟨i,hi,rfl⟩:=J4.mp hz
  obtain⟨w,ew⟩:=at_of (hb i hi)
  rw[J5,ew]
  exact(wf.pr w (JO ew)).2
 rw[kbs] at h
 omega
def knf(xs:List V)(i k:Nat):cutV xs (some (i:Int)) (some ((i+k:Nat):Int))=(xs.drop i).take k:=by
 unfold cutV
 rw[HT.sIx_nat,HT.sIx_nat]
 by_cases h:i≤xs.length
 ·rw[MM h,ER,N5]
  omega
 ·rw[M4 (by omega),M4 (by omega)]
  simp
def kla{α:Type}{xs:List α}{v: α}(h:xs[xs.length-1]?=some v)(h0:0<xs.length):atI xs (-1)=some v:=by
 unfold atI ixN
 rw[if_neg (by omega),if_pos (by omega)]
 show xs[(-1+(xs.length:Int)).toNat]?=some v
 rw[show(-1+(xs.length:Int)).toNat=xs.length-1 by omega]
 exact h
def kir{H0 H1 H2:Hp}{x:Addr}(f:H0 x=none)(s:Same H0 H1)(b:But x H1 H2):Same H0 H2:=fun y u e=>kbL (s y u e) fun u' e'=>b y u' (kai e f) e'
noncomputable def hindM(V:Vch)(ps:List (Option Nat))(B:Bask)(S:Stnd):L2.V:=
 if(V.ms.member&& !B.m)=true then .str "member" else if(abt ps (kds B) V.ms.kind V.ms.lone S).length=0 then .str "nothing" else if(qs S.pr (abt ps (kds B) V.ms.kind V.ms.lone S)).sum<V.ms.needs then .str "needs" else .non
inductive kl4 (K:JL) (d:D) (vs:List V) (H:Hp) (Q:VK) (E_:XK):Prop
 |ct (v a b x:Addr)(V:Vch)(ps:List (Option Nat))(B:Bask)(S:Stnd)(_:vs=[.ref v, .ref a, .ref b, .ref x])(_:VchIs d H v V)(_:SqL K H a (ps.map pV))(_:BaskIs d.qe d.qg H b B)(_:StndIs d.qc H x S)(_:Wf ps B S)(_:VchOk ps V)(_:∀(H':Hp),Same H H'→Q (hindM V ps B S) H'):kl4 K d vs H Q E_
noncomputable def atM(m:Option Int)(n:Int):Int:=match m with
 |none=>n
 |some m=>min m n
def none_of{H H':Hp}(s:Same H H'){p:Addr}(h:H' p=none):H p=none:=s.free h
def kk7{x:Addr}{H H':Hp}(b:But x H H')(n:H x=none):Same H H':=fun y u e=>b y u (kai e n) e
theorem kkh{CL CB CS:Addr}{H:Hp}{b l:Addr}{cg:Int}{m:Bool}{ls:List Addr}{rs:List Row}{R:Addr→Hp→Prop}{E:XK}(hb:BaskAt CB H b l cg m)(hl:H l=some (.lst (ls.map V.ref)))(hL:Lines CL H ls rs)(hn:rs.length≤12)(hok:∀r∈rs,r.Ok)
  (k:∀(H':Hp)(x:Addr),Same H H'→H x=none→∀(dx:Addr)(fs:List (Str×V)),H' x=some (.ins CS dx fs)→fs.length≤10→fs.lookup ("whole" :Str)=none→R x H'):
  ∀x dx,H x=none→H dx=none→dx≠x→kdq CL CB CS [.ref x, .ref b] (upd (upd H dx (.own x)) x (.ins CS dx [])) (fun v H2=>v=.non∧R x H2) E:=
 fun x dx nx nd _=>⟨x,dx,b,l,cg,m,ls,rs,rfl,kae,hb.same (kbh nx nd),kg3 nx nd hl,hL.same (kbh nx nd),hn,hok,fun H' o p mk bt n1 n2 n3 S h1 h2 h3 fw=>by
  obtain⟨dx',fs,e,hf⟩:=fw
  obtain⟨dx2,fs2,e2,_,_,_,_,hw⟩:=S
  rw[e] at e2
  injection e2 with e2
  injection e2 with _ e3 e4
  subst e4
  exact⟨rfl,k H' x (kbN nx nd bt) nx dx' fs e hf hw⟩⟩
theorem kna{V:Vch}{ps:List (Option Nat)}{kk:List Nat}{S:Stnd}(vo:VchOk ps V):(cutM V ps kk S).2=if kbQ V.so=true then atM V.ms.most S.cg else 0:=by
 have hm:=vo.ms.most
 unfold cutM
 simp only
 cases e:V.ms.most with
 |none=>
  unfold cap atM
  simp only
  unfold fee kbQ
  cases V.so <;> rfl
 | some m=>
  have h0:=(hm m e).1
  unfold cap atM
  simp only
  cases eso:V.so with
  | carr=>
   have hz:(want .carr S.mkd.length ((abt ps kk V.ms.kind V.ms.lone S).map fun i=>S.ow.getD i 0) (qs S.pr (abt ps kk V.ms.kind V.ms.lone S))).sum=0:=by
    unfold want
    simp
   show(if m<_+S.cg then _ else _:List Int×Int).2=min m S.cg
   rw[hz,Int.zero_add]
   split
   ·show min S.cg m=_
    omega
   ·show S.cg=_
    omega
  | _=>
   show(if m<_+0 then(_,min 0 m) else(_,0):List Int×Int).2=0
   split
   ·show min 0 m=0
    omega
   ·rfl
def knH{B:Bask}{l:Nat}{r:Row}(h:B.rs[l]?=some r):(kds B).getD l 0=r.kd.toNat:=by
 unfold kds
 rw[J5,JU,h]
 rfl
theorem klZ{ps:List (Option Nat)}{kk:List Nat}{kind:Option Nat}{lone:Bool}{S:Stnd}{i:Nat}:
  (JP (i+1)).filter (fun i=>hits ps kk kind lone S.mkd (S.ow.getD i 0))=(JP i).filter (fun i=>hits ps kk kind lone S.mkd (S.ow.getD i 0))++(if hits ps kk kind lone S.mkd (S.ow.getD i 0)=true then [i] else []):=by
 rw[NC,Mq]
 congr 1
 simp only[Mr,Ek]
noncomputable def GrpAt(H H':Hp)(pa:Addr)(t:Addr)(q:Int×List Nat):Prop:=∃ga,H' t=some (.tup [.int q.1, .ref ga])∧H' ga=some (.lst (q.2.map iV))∧(ga=pa∨H ga=none)
inductive kic (d:D) (vs:List V) (H:Hp) (Q:VK) (E_:XK):Prop
 |ct (v x pa:Addr) (V:Vch) (ps:List (Option Nat)) (B:Bask) (S:Stnd) (_:vs=[.ref v, .ref x, .ref pa]) (_:VchIs d H v V) (_:StndIs d.qc H x S) (_:H pa=some (.lst ((abt ps (kds B) V.ms.kind V.ms.lone S).map iV))) (_:Wf ps B S) (_:VchOk ps V) (_:∀(H':Hp) (p:Addr) (tl:List Addr) (gl:List (Int×List Nat)),Same H H'→H p=none→H' p=some (.lst (tl.map L2.V.ref))→P2 (GrpAt H H' pa) tl gl→(∀c g,(c,g)∈gl→0≤c∧c≤(qs S.pr g).sum∧g.length≤720)→(gl.map Prod.snd).flatten.Nodup→(∀i∈(gl.map Prod.snd).flatten,i<S.pr.length)→gl.length≤720→
  spr S.pr.length (gl.map Prod.snd).flatten (gl.map fun p=>dl p.1 (qs S.pr p.2)).flatten=spr S.pr.length (abt ps (kds B) V.ms.kind V.ms.lone S) (want V.so S.mkd.length ((abt ps (kds B) V.ms.kind V.ms.lone S).map fun i=>S.ow.getD i 0) (qs S.pr (abt ps (kds B) V.ms.kind V.ms.lone S)))→Q (.ref p) H'):kic d vs H Q E_
def kax{H H':Hp}{p:Addr}{o:HO}(h:upd H p o=H')(f:H p=none):Same H H'∧H' p=some o:=by
 subst h
 exact⟨kan f,kae⟩
structure Rul where
 w:Str
 a:Nat
 b:Nat
structure TillD where
 ps:List (Option Nat)
 vs:List Vch
 rs:List Rul
 bk:Str
noncomputable def RulIs(H:Hp)(a:Addr)(r:Rul):Prop:=H a=some (.tup [.str r.w,iV r.a,iV r.b])
inductive TillIs (d:D) (H:Hp) (t:Addr) (T:TillD):Prop
 |ct (dx:Addr)(fs:List (Str×V))(p vl rl:Addr)(va ra:List Addr)(_:H t=some (.ins d.qd dx fs))(_:fs.lookup ("parents" :Str)=some (.ref p))(_:fs.lookup ("vouchers" :Str)=some (.ref vl))(_:fs.lookup ("rules" :Str)=some (.ref rl))(_:fs.lookup ("back" :Str)=some (.str T.bk))(_:H p=some (.lst (T.ps.map pV)))(_:H vl=some (.lst (va.map V.ref)))(_:P2 (fun a V=>VchIs d H a V) va T.vs)(_:H rl=some (.lst (ra.map V.ref)))(_:P2 (fun a r=>RulIs H a r) ra T.rs):TillIs d H t T
def TillIs.same{d:D}{H H':Hp}{t:Addr}{T:TillD}(s:Same H H'):TillIs d H t T→TillIs d H' t T:=fun⟨dx,fs,p,vl,rl,va,ra,h1,h2,h3,h4,h5,h6,h7,h8,h9,h10⟩=>
 ⟨dx,fs,p,vl,rl,va,ra,s _ _ h1,h2,h3,h4,h5,s _ _ h6,s _ _ h7,h8.mono fun a V h=>h.same s,s _ _ h9,h10.mono fun a r h=>s _ _ h⟩
structure kbm (T:TillD):Prop where
 vs:∀V∈T.vs,VchOk T.ps V
 nv:T.vs.length≤8
inductive WayAt (d:D) (m:Nat) (H:Hp) (w t b x:Addr) (hand:List Int) (used:List Nat):Prop
 |ct (dx:Addr)(fs:List (Str×V))(h u:Addr)(_:H w=some (.ins d.c_Way dx fs))(_:fs.lookup ("till" :Str)=some (.ref t))(_:fs.lookup ("basket" :Str)=some (.ref b))(_:fs.lookup ("hand" :Str)=some (.ref h))(_:fs.lookup ("used" :Str)=some (.ref u))(_:fs.lookup ("standing" :Str)=some (.ref x))(_:fs.lookup ("word_for" :Str)=none)(_:fs.lookup ("behind" :Str)=none)(_:fs.lookup ("is_let_by" :Str)=none)(_:fs.lookup ("followers" :Str)=none)(_:fs.length≤m)(_:H h=some (.lst (hand.map V.int)))(_:H u=some (.lst (used.map iV))):WayAt d m H w t b x hand used
noncomputable abbrev WayIs(d:D)(H:Hp)(w t b x:Addr)(hand:List Int)(used:List Nat):Prop:=WayAt d 7 H w t b x hand used
def WayAt.most{d:D}{m m':Nat}{H:Hp}{w t b x:Addr}{hand:List Int}{used:List Nat}(hm:m≤m'):WayAt d m H w t b x hand used→WayAt d m' H w t b x hand used:=fun⟨dx,fs,h,u,h1,h2,h3,h4,h5,h6,h7,h8,h9,h10,h11,h12,h13⟩=>
 ⟨dx,fs,h,u,h1,h2,h3,h4,h5,h6,h7,h8,h9,h10,JN h11 hm,h12,h13⟩
def WayAt.same{d:D}{m:Nat}{H H':Hp}{w t b x:Addr}{hand:List Int}{used:List Nat}(s:Same H H'):WayAt d m H w t b x hand used→WayAt d m H' w t b x hand used:=fun⟨dx,fs,h,u,h1,h2,h3,h4,h5,h6,h7,h8,h9,h10,h11,h12,h13⟩=>
 ⟨dx,fs,h,u,s _ _ h1,h2,h3,h4,h5,h6,h7,h8,h9,h10,h11,s _ _ h12,s _ _ h13⟩
noncomputable def nevR(used:List Nat)(n:Nat)(r:Rul):Bool:=decide (r.w=("never" :Str))&&((decide (r.a=n)&&used.contains r.b)||(decide (r.b=n)&&used.contains r.a))
noncomputable def kfG(rs:List Rul)(used:List Nat)(n:Nat):Bool:=rs.any (nevR used n)
noncomputable def ahdR(used:List Nat)(n:Nat)(r:Rul):Bool:=decide (r.w=("ahead" :Str))&&(decide (r.a=n)&&used.contains r.b)
noncomputable def kfO(rs:List Rul)(used:List Nat)(n:Nat):Bool:=rs.any (ahdR used n)
noncomputable def loneM(order:List Nat)(r:Rul):Bool:=decide (r.w=("only" :Str))&&(order.contains r.a&& !order.contains r.b)
noncomputable def onlyM(rs:List Rul)(order:List Nat):Option Nat:=(rs.find? (loneM order)).map Rul.a
noncomputable def sV:Option Str→V
 |none=>.non
 |some z=>.str z
noncomputable def wordM(V:Vch)(rs:List Rul)(hand:List Int)(used:List Nat)(n:Nat):Option Str:=
 if hand.getD n 0<(used.count n:Int)+1 then some "held" else if(V.ms.once&&used.contains n)=true then some "once" else if kfG rs used n=true then some "never" else if kfO rs used n=true then some "ahead" else none
noncomputable def dueM(V:Vch)(T:TillD)(B:Bask)(hand:List Int)(used:List Nat)(S:Stnd)(n:Nat):L2.V:=match wordM V T.rs hand used n with
 |some z=>.str z
 |none=>hindM V T.ps B S
theorem kcJ{n:Nat}:∀(l:List Nat),inV (iV n) (l.map iV)=l.contains n
 |[]=>rfl
 | m::l=>by
  have ih:=kcJ (n:=n) l
  unfold inV at ih⊢
  rw[JV,N6,ih,List.contains_cons]
  congr 1
  show eqV (V.int (m:Int)) (V.int (n:Int))=(n==m)
  by_cases h:n=m
  ·subst h
   simp[eqV]
  ·have h1:¬((m:Int)=(n:Int)):=by omega
   have e2:(n==m)=false:=beq_eq_false_iff_ne.mpr h
   rw[e2]
   simp[eqV,h1]
theorem kk4(l:List Nat)(n:Nat):(l.map fun(i:Nat)=>(i:Int)).count (n:Int)=l.count n:=by
 induction l with
 |nil=>rfl
 | cons m l ih=>
  rw[JV,EB,EB,ih]
  congr 1
  by_cases h:m=n
  ·subst h;simp
  ·have h1:¬((m:Int)=(n:Int)):=by omega
   have e1:((m:Int)==(n:Int))=false:=beq_eq_false_iff_ne.mpr h1
   have e2:(m==n)=false:=beq_eq_false_iff_ne.mpr h
   rw[e1,e2]
def khb(a b:Nat):decide (iV a=iV b)=decide (a=b):=by
 by_cases h:a=b
 ·subst h;simp
 ·have n:¬(iV a=iV b):=fun e=>h (by have:=V.int.inj e;omega)
  rw[decide_eq_false h,decide_eq_false n]
def eq_str(a b:Str):decide (V.str a=V.str b)=decide (a=b):=by
 by_cases h:a=b
 ·subst h;simp
 ·have n:¬(V.str a=V.str b):=fun e=>h (V.str.inj e)
  rw[decide_eq_false h,decide_eq_false n]
section
variable {P:Program} {w:World} {K:JL} {mg:Str→Option Value} {base:Heap} {d:D}
abbrev FO{K:JL}{mg:Str→Option Value}{d:D}{base:Heap}(P:Program)(w:World)(_:WB K mg d base):=FnOk P w K mg base CX0
theorem Xj:kas ["parents","one","other","kind"] ["parents","one","other"] (kah khy):=by ac_rfl
theorem klv(W:WB K mg d base):FO P w W 1 d.XC d.XD ["parents","one","other"] (kjF K):=by
 exists W.ZD.F,Xj
 ·obtain⟨a,ps,one,other,rfl,hS,hg,ho,k⟩:=h
  refine⟨_,kab (psl (i:=3) Xj.nd (pv 1))
   (kab (kln PassesOwn.never (kam kdY (pv 3) kby (kat _))
   (kab (ps_if (kam op_eq (pv 3) (pv 2) (kat _)) (kag (kao pe_bl)) (kap))
   (kag (psl (i:=3) Xj.nd (pe_ix (r:=rIxL K) kaO (pv 0) (pv 3) (fun _ _=>rfl))))))
   (kag (kao pe_bl))),?_⟩
  refine⟨_,rfl,?_⟩
  refine klg (fun σ H'=>∃o:Option Nat,σ=[some (.ref a),some (.int one),some (.int other),some (pV o)]∧H'=H∧(∀i,o=some i→i<ps.length)∧decide (other∈up ps one)=decide (other∈rest ps o))
   (fun σ _=>match σ with|[_,_,_,some (.int i)]=>i.toNat+1|_=>0) ⟨some one,rfl,rfl,fun i e=>by cases e;exact ho,rfl⟩ ?_ ?_
  ·rintro σ H' ⟨o,rfl,rfl,hb,he⟩
   refine⟨_,rfl,rfl,_,rfl,?_⟩
   cases o with
   |none=>
    show if(!decide (V.non=V.non))=true then _ else _
    rw[kmg]
    refine iteF ?_
    show Q (.bl false) _
    have e:decide (other∈up ps one)=false:=by rw[he];simp[Kin.rest]
    rw[e] at k
    exact k
   | some i=>
    show if(!decide (V.int i=V.non))=true then _ else _
    rw[kmh]
    refine iteT ?_
    have hi:=hb i rfl
    refine⟨_,rfl,_,rfl,rfl,_,rfl,?_⟩
    show if decide (V.int i=V.int other)=true then _ else _
    rw[eq_int]
    obtain⟨o,eo⟩:∃o,ps[i]?=some o:=⟨ps[i],by simp[hi]⟩
    refine ite2 (fun h=>?_) (fun h=>?_)
    ·have h':i=other:=of_decide_eq_true h
     subst h'
     have e:decide (i∈up ps one)=true:=by
      rw[he]
      show decide (i∈up ps i)=true
      rw[up_eq hg eo]
      simp
     rw[e] at k
     exact k
    ·have h':¬i=other:=fun z=>h (decide_eq_true z)
     refine⟨_,rfl,_,rfl,a,_,_,pV o,rfl,rfl,hS,kaY (by simp[eo]),?_⟩
     refine⟨⟨o,rfl,rfl,fun j e=>?_,?_⟩,?_⟩
     ·subst e
      have:=hg i j eo
      omega
     ·rw[he]
      show decide (other∈up ps i)=_
      rw[up_eq hg eo]
      have:¬other=i:=fun z=>h' z.symm
      simp[this]
     ·cases o with
      |none=>exact Nat.succ_pos _
      |some j=>
       have:=hg i j eo
       show((j:Int)).toNat+1<((i:Int)).toNat+1
       omega
  ·rintro σ H' Q' Q'' hq ⟨v,h1,h2,h3⟩
   exact⟨v,h1,h2,by obtain⟨b,e,q⟩:=h3;exact⟨b,e,hq _ _ q⟩⟩
theorem qC:kas ["cut","weights","total","parts","reached","given","weight","share"] ["cut","weights"] (kah khB):=by ac_rfl
theorem klz(W:WB K mg d base):FO P w W 1 d.XA d.XB ["cut","weights"] (kjR K):=by
 exists W.QT.F,qC
 ·obtain⟨c,a,ws,rfl,hS,hn,hs,hc0,hc1,hl,k⟩:=h
  refine⟨_,kab (psl (i:=2) qC.nd (kaq (r:=rSum K) (kcM rfl) (by rfl) W.B.sum b_sum (kaa (pv 1) kad)))
   (kab (ps_if (kam op_eq (pv 2) kaf (kat _)) (kag (kao (kcw (N:=["weight"]) (CompScope.plain rfl (by decide +kernel) (by decide +kernel) (by decide +kernel) (nd1 _)) rfl (kaE (K:=K) (pv 1)) (fun _ _ _ _=>pgn (i:=0) (nd1 _)) (fun _ _ _ _=>kaf)))) (kap))
   (kab (psl (i:=3) qC.nd (kaS kad))
   (kab (psl (i:=4) qC.nd kaf)
   (kab (psl (i:=5) qC.nd kaf)
   (kab (kaZ PassesOwn.never rfl (kaE (K:=K) (pv 1)) (pgn (i:=6) qC.nd)
   (kab (kma (i:=4) qC.nd rfl (Or.inl rfl) (pv 6) kmm)
   (kab (psl (i:=7) qC.nd (pe_op kiD (pe_op kcy (pv 0) (pv 4)) (pv 2)))
   (kab (ka1 (pe_bm NK N3 N4 kbd (pv 3) (kaa (pe_op kdg (pv 7) (pv 5)) kad)))
   (kag (psl (i:=5) qC.nd (pv 7)))))))
   (kag (kao (pv 3)))))))),?_⟩
  refine⟨_,rfl,a,ws,rfl,hS,_,rfl,rfl,_,rfl,?_⟩
  refine ite2 (fun h=>?_) (fun h=>?_)
  ·have h0:ws.sum=0:=by
    have e:V.int ws.sum=V.int 0:=of_decide_eq_true h
    injection e
   refine⟨_,rfl,a,rfl,⟨_,hS⟩,kbf (xs:=ws.map V.int) (fun i σ ys H'=>H'=H∧ys=JR i (V.int 0)∧∃v,σ=[v]) ⟨rfl,rfl,none,rfl⟩ ?_ ?_ ?_ ?_⟩
   ·rw[JJ]
    exact JY (kau hl)
   ·rintro i σ ys H' hi ⟨rfl,rfl,v,rfl⟩
    exact⟨hS,by simp⟩
   ·rintro i x σ ys H' hx ⟨rfl,rfl,v,rfl⟩
    exact⟨rfl,by rw[El],_,rfl⟩
   ·rintro σ ys H' ⟨rfl,rfl,v,rfl⟩ D hD
    have:=k D hD
    rw[klE h0] at this
    rw[JJ]
    exact this
  ·have h0:¬ws.sum=0:=fun e=>h (by rw[e];simp)
   have hpos:0<ws.sum:=by
    have:=kbi hn
    omega
   refine⟨by decide,fun p hp=>?_⟩
   have s1:∀o,Same H (upd H p o):=fun o=>kan hp
   refine⟨_,rfl,a,rfl,⟨_,(s1 _).seq hS⟩,kaP (K:=K) (a:=a) (xs:=ws.map V.int) (fun i σ H'=>H'=upd H p (.lst (((JP i).map (part c ws)).map V.int))∧
    ∃(v6 v7:Option V),σ=[some (.int c),some (.ref a),some (.int ws.sum),some (.ref p),some (.int (pre ws i)),some (.int (c*pre ws i/ws.sum)),v6,v7])
    ⟨rfl,none,none,by simp[kiz];rfl⟩ (fun i σ H' _ ⟨e,_⟩=>by rw[e];exact(s1 _).seq hS) ?_ ?_⟩
   ·rintro i x σ H' hi ⟨rfl,v6,v7,rfl⟩
    have hil:i<(ws.map V.int).length:=(JX.mp hi).1
    rw[JJ] at hil
    obtain⟨z,ez,rfl⟩:∃z,ws[i]?=some z∧x=V.int z:=by
     rw[JU] at hi
     cases e:ws[i]? with
     |none=>rw[e] at hi;cases hi
     |some z=>rw[e] at hi;exact⟨z,rfl,(Option.some.inj hi).symm⟩
    have ep:=ket ez
    refine⟨_,rfl,_,rfl,_,_,rfl,rfl,?_⟩
    refine⟨_,rfl,_,rfl,_,_,rfl,rfl, .inl ⟨by omega,by omega⟩,_,rfl,_,_,rfl,rfl,⟨hpos,by omega⟩,?_⟩
    refine⟨_,rfl, .inl ⟨rfl,_,SqL.of kae⟩,_,rfl,_,rfl,_,_,rfl,rfl,p,_,_,rfl,rfl,kae,kau (by simp;omega),?_⟩
    refine⟨_,rfl,?_,some (.int z),some (.int (c*(pre ws i+z)/ws.sum)),?_⟩
    ·rw[kmy,NC,JQ,JQ]
     show upd H p (.lst (_++[V.int (c*(pre ws i+z)/ws.sum-c*pre ws i/ws.sum)]))=upd H p (.lst (_++[V.int (part c ws i)]))
     unfold part
     rw[ep]
    ·rw[ep]
     rfl
   ·rintro σ H' ⟨rfl,v6,v7,rfl⟩
    refine⟨_,rfl,?_⟩
    have:=k p hp
    rw[kkl h0] at this
    rw[JJ]
    exact this
theorem kfX:kas ["self","kind","needs","most","member","once","lone"] ["self","kind","needs","most","member","once","lone"] (kah ka4):=by ac_rfl
theorem kdC(W:WB K mg d base):FO P w W 1 d.Zd d.qG ["self","kind","needs","most","member","once","lone"] (kes d.qf):=by
 exists W.Qv.F,kfX
 ·obtain⟨x,dx,M,rfl,hx,k⟩:=h
  refine⟨_,kab (kaI (pv 0) (pv 1) rfl)
   (kab (kaI (pv 0) (pv 2) rfl)
   (kab (kaI (pv 0) (pv 3) rfl)
   (kab (kaI (pv 0) (pv 4) rfl)
   (kab (kaI (pv 0) (pv 5) rfl)
   (kag (kaI (pv 0) (pv 6) rfl)))))),?_⟩
  refine⟨_,rfl,_,rfl,x,d.qf,dx,[],rfl,hx,W.qf.cl,W.Qt,by decide,?_⟩
  refine⟨_,rfl,_,rfl,x,d.qf,dx,_,rfl,kae,W.qf.cl,W.Vj,few (JN (kal (n:=0) (JK _)) (by decide)),?_⟩
  refine⟨_,rfl,_,rfl,x,d.qf,dx,_,rfl,kae,W.qf.cl,W.Qu,few (JN (kal (kal (n:=0) (JK _))) (by decide)),?_⟩
  refine⟨_,rfl,_,rfl,x,d.qf,dx,_,rfl,kae,W.qf.cl,W.Vk,few (JN (kal (kal (kal (n:=0) (JK _)))) (by decide)),?_⟩
  refine⟨_,rfl,_,rfl,x,d.qf,dx,_,rfl,kae,W.qf.cl,W.Q0,few (JN (kal (kal (kal (kal (n:=0) (JK _))))) (by decide)),?_⟩
  refine⟨_,rfl,_,rfl,x,d.qf,dx,_,rfl,kae,W.qf.cl,W.Q1,few (JN (kal (kal (kal (kal (kal (n:=0) (JK _)))))) (by decide)),?_⟩
  refine k _ (But.trans (But.trans (But.trans (But.trans (But.trans kaB kaB) kaB) kaB) kaB) kaB) ⟨dx,_,kae,?_,?_,?_,?_,?_,?_⟩ <;> ac_nf
theorem keE:kas ["self","marks"] ["self","marks"] (kah kaQ):=by ac_rfl
theorem kbc(W:WB K mg d base):FO P w W 3 d.QL d.QM ["self","marks"] (kfy K d.qf):=by
 exists W.qt.F,keE
 ·obtain⟨x,C,dx,fs,mv,rfl,hx,hC,hN,hl,hm,k⟩:=h
  exists Xk,kdC,W
  refine⟨_,kag (kaI (pv 0) (keu (kam kgR (pv 1) kby (kat _)) (klp (W.Qv.mk' W.qf) Xk hr rfl W.qf.m W.b6_Marks_init (show Vals [.non, .int 0, .non, .bl false, .bl false, .bl false] [.none, .int 0 d.tok1_Marks_init, .none, .bool false, .bool false, .bool false] from(.cons rfl (.cons ⟨_,rfl⟩ (.cons rfl (.cons rfl (.cons rfl (.cons rfl .nil))))))) pass0) (pv 1)) rfl),?_⟩
  rcases hm with rfl|⟨mA,rfl⟩
  ·refine⟨_,rfl,rfl,_,rfl,iteT ?_⟩
   refine kiH (M:=mks0) fun H1 mA s1 f1 hM=>?_
   refine⟨_,rfl,x,C,dx,fs,rfl,s1 _ _ hx,hC,hN,by omega,?_⟩
   have hne:mA≠x:=(kai hx f1).symm
   refine k _ mA ((But.of_same s1).trans (kaB (nx (s1 _ _ hx)))) (.inr ⟨rfl,f1,?_⟩) kae
   exact hM.but hne (kaB (nx (s1 _ _ hx)))
  ·refine⟨_,rfl,rfl,_,rfl,iteF ?_⟩
   refine⟨_,rfl,_,rfl,x,C,dx,fs,rfl,hx,hC,hN,by omega,?_⟩
   exact k _ mA kaB (.inl rfl) kae
theorem khx:kas ["self","amount","marks"] ["self","amount","marks"] (kah kbr):=by ac_rfl
theorem khJ(W:WB K mg d base):FO P w W 4 d.Ze d.QN ["self","amount","marks"] (kd9 d.c_Off d.qf (fun so=>∃(a:Int),so=.off a)):=by
 refine FunD.ok W.Q3.F khx (fun vs H Q E h=>?_) (fun cdv A outer s H vs Q E hr h=>?_)
 ·obtain⟨x,dx,so,mv,⟨a,rfl⟩,rfl,_⟩:=h
  rfl
 ·obtain⟨x,dx,so,mv,⟨a,rfl⟩,rfl,hx,hm,k⟩:=h
  exists qD,kbc,W
  refine⟨_,kab (ka1 (keJ W.Qh qD hr rfl W.qz.m W.qt.F.kp W.qt.b .nil pass0 (kaa (pv 0) (kaa (pv 2) kad))))
   (kag (kaI (pv 0) (pv 1) rfl)),?_⟩
  refine⟨_,rfl,_,rfl,x,d.c_Off,dx,[],mv,rfl,hx,W.c_Off.cl,W.Vl,by decide,hm,fun H1 mA b1 hM h1=>?_⟩
  refine⟨_,rfl,_,rfl,x,d.c_Off,dx,_,rfl,h1,W.c_Off.cl,W.Q2,few (JN (kal (n:=0) (JK _)) (by decide)),?_⟩
  refine k _ mA _ (b1.trans kaB) ?_ kae ?_ ?_
  ·exact hM.but hx kaB
  ·ac_nf
  ·show NQ _ _=_
   ac_nf
theorem kfW:kas ["self","share","by_line","marks"] ["self","share","by_line","marks"] (kah ka3):=by ac_rfl
theorem kf9(W:WB K mg d base):FO P w W 4 d.Zf d.Qp ["self","share","by_line","marks"] (kd9 d.qi d.qf (fun so=>∃(sh:Int)(bb:Bool),so=.share sh bb)):=by
 refine FunD.ok W.Q5.F kfW (fun vs H Q E h=>?_) (fun cdv A outer s H vs Q E hr h=>?_)
 ·obtain⟨x,dx,so,mv,⟨sh,bb,rfl⟩,rfl,_⟩:=h
  rfl
 ·obtain⟨x,dx,so,mv,⟨sh,bb,rfl⟩,rfl,hx,hm,k⟩:=h
  exists qD,kbc,W
  refine⟨_,kab (ka1 (keJ W.Qh qD hr rfl W.qz.m W.qt.F.kp W.qt.b .nil pass0 (kaa (pv 0) (kaa (pv 3) kad))))
   (kab (kaI (pv 0) (pv 1) rfl)
   (kag (kaI (pv 0) (pv 2) rfl))),?_⟩
  refine⟨_,rfl,_,rfl,x,d.qi,dx,[],mv,rfl,hx,W.qi.cl,W.Vo,by decide,hm,fun H1 mA b1 hM h1=>?_⟩
  refine⟨_,rfl,_,rfl,x,d.qi,dx,_,rfl,h1,W.qi.cl,W.Q4,few (JN (kal (n:=0) (JK _)) (by decide)),?_⟩
  refine⟨_,rfl,_,rfl,x,d.qi,dx,_,rfl,kae,W.qi.cl,W.Vn,few (JN (kal (kal (n:=0) (JK _))) (by decide)),?_⟩
  refine k _ mA _ ((b1.trans kaB).trans kaB) ?_ kae ?_ ?_
  ·exact hM.but hx (But.trans kaB kaB)
  ·ac_nf
  ·exact⟨by ac_nf,by ac_nf⟩
theorem kej:kas ["self","many","marks"] ["self","many","marks"] (kah kaL):=by ac_rfl
theorem kep(W:WB K mg d base):FO P w W 4 d.Zg d.QO ["self","many","marks"] (kd9 d.qk d.qf (fun so=>∃(n:Int),so=.cheap n)):=by
 refine FunD.ok W.Q7.F kej (fun vs H Q E h=>?_) (fun cdv A outer s H vs Q E hr h=>?_)
 ·obtain⟨x,dx,so,mv,⟨n,rfl⟩,rfl,_⟩:=h
  rfl
 ·obtain⟨x,dx,so,mv,⟨n,rfl⟩,rfl,hx,hm,k⟩:=h
  exists qD,kbc,W
  refine⟨_,kab (ka1 (keJ W.Qh qD hr rfl W.qz.m W.qt.F.kp W.qt.b .nil pass0 (kaa (pv 0) (kaa (pv 2) kad))))
   (kag (kaI (pv 0) (pv 1) rfl)),?_⟩
  refine⟨_,rfl,_,rfl,x,d.qk,dx,[],mv,rfl,hx,W.qk.cl,W.Vq,by decide,hm,fun H1 mA b1 hM h1=>?_⟩
  refine⟨_,rfl,_,rfl,x,d.qk,dx,_,rfl,h1,W.qk.cl,W.Q6,few (JN (kal (n:=0) (JK _)) (by decide)),?_⟩
  refine k _ mA _ (b1.trans kaB) ?_ kae ?_ ?_
  ·exact hM.but hx kaB
  ·ac_nf
  ·show NQ _ _=_
   ac_nf
theorem kfk:kas ["self","many","price","marks"] ["self","many","price","marks"] (kah kaW):=by ac_rfl
theorem kft(W:WB K mg d base):FO P w W 4 d.Zh d.QP ["self","many","price","marks"] (kd9 d.qj d.qf (fun so=>∃(n:Int)(pp:Int),so=.bund n pp)):=by
 refine FunD.ok W.Q8.F kfk (fun vs H Q E h=>?_) (fun cdv A outer s H vs Q E hr h=>?_)
 ·obtain⟨x,dx,so,mv,⟨n,pp,rfl⟩,rfl,_⟩:=h
  rfl
 ·obtain⟨x,dx,so,mv,⟨n,pp,rfl⟩,rfl,hx,hm,k⟩:=h
  exists qD,kbc,W
  refine⟨_,kab (ka1 (keJ W.Qh qD hr rfl W.qz.m W.qt.F.kp W.qt.b .nil pass0 (kaa (pv 0) (kaa (pv 3) kad))))
   (kab (kaI (pv 0) (pv 1) rfl)
   (kag (kaI (pv 0) (pv 2) rfl))),?_⟩
  refine⟨_,rfl,_,rfl,x,d.qj,dx,[],mv,rfl,hx,W.qj.cl,W.Vv,by decide,hm,fun H1 mA b1 hM h1=>?_⟩
  refine⟨_,rfl,_,rfl,x,d.qj,dx,_,rfl,h1,W.qj.cl,W.Vt,few (JN (kal (n:=0) (JK _)) (by decide)),?_⟩
  refine⟨_,rfl,_,rfl,x,d.qj,dx,_,rfl,kae,W.qj.cl,W.Vu,few (JN (kal (kal (n:=0) (JK _))) (by decide)),?_⟩
  refine k _ mA _ ((b1.trans kaB).trans kaB) ?_ kae ?_ ?_
  ·exact hM.but hx (But.trans kaB kaB)
  ·ac_nf
  ·exact⟨by ac_nf,by ac_nf⟩
theorem kek:kas ["self","marks"] ["self","marks"] (kah kaM):=by ac_rfl
theorem keq(W:WB K mg d base):FO P w W 4 d.Zi d.QQ ["self","marks"] (kd9 d.ql d.qf (fun so=>so=.carr)):=by
 exists W.Q9.F,kek
 ·obtain⟨x,dx,so,mv,rfl,rfl,hx,hm,k⟩:=h
  exists qD,kbc,W
  refine⟨_,kag (ka1 (keJ W.Qh qD hr rfl W.qz.m W.qt.F.kp W.qt.b .nil pass0 (kaa (pv 0) (kaa (pv 1) kad)))),?_⟩
  refine⟨_,rfl,_,rfl,x,d.ql,dx,[],mv,rfl,hx,W.ql.cl,W.Vw,by decide,hm,fun H1 mA b1 hM h1=>?_⟩
  refine k _ mA _ b1 hM h1 ?_ trivial
  ac_nf
theorem kgJ:kas ["self","kind","price","many","special"] ["self","kind","price","many","special"] (kah ka9):=by ac_rfl
theorem kgW(W:WB K mg d base):FO P w W 1 d.Zj d.QR ["self","kind","price","many","special"] (khr d.qe):=by
 exists W.Xc.F,kgJ
 ·obtain⟨x,dx,r,rfl,hx,k⟩:=h
  refine⟨_,kab (kaI (pv 0) (pv 1) rfl)
   (kab (kaI (pv 0) (pv 2) rfl)
   (kab (kaI (pv 0) (pv 3) rfl)
   (kag (kaI (pv 0) (pv 4) rfl)))),?_⟩
  refine⟨_,rfl,_,rfl,x,d.qe,dx,[],rfl,hx,W.qe.cl,W.Vx,by decide,?_⟩
  refine⟨_,rfl,_,rfl,x,d.qe,dx,_,rfl,kae,W.qe.cl,W.Xa,few (JN (kal (n:=0) (JK _)) (by decide)),?_⟩
  refine⟨_,rfl,_,rfl,x,d.qe,dx,_,rfl,kae,W.qe.cl,W.q9,few (JN (kal (kal (n:=0) (JK _))) (by decide)),?_⟩
  refine⟨_,rfl,_,rfl,x,d.qe,dx,_,rfl,kae,W.qe.cl,W.Xb,few (JN (kal (kal (kal (n:=0) (JK _)))) (by decide)),?_⟩
  refine k _ (But.trans (But.trans (But.trans kaB kaB) kaB) kaB) ⟨dx,_,kae,?_,?_,?_,?_⟩
  ·rw[kac,if_neg (by decide +kernel),kac,if_neg (by decide +kernel),kac,if_neg (by decide +kernel),kac,if_pos rfl]
  ·rw[kac,if_neg (by decide +kernel),kac,if_neg (by decide +kernel),kac,if_pos rfl]
  ·rw[kac,if_neg (by decide +kernel),kac,if_pos rfl]
  ·rw[kac,if_pos rfl]
theorem kfl:kas ["self","lines","carriage","member"] ["self","lines","carriage","member"] (kah kaX):=by ac_rfl
theorem kfu(W:WB K mg d base):FO P w W 1 d.Zk d.Qq ["self","lines","carriage","member"] (kht K d.qg):=by
 exists W.Xe.F,kfl
 ·obtain⟨x,dx,l,cg,m,xs,rfl,hx,hl,k⟩:=h
  refine⟨_,kab (kaI (pv 0) (kaA (r:=kaJ K) kav (by rfl) W.B.list kaU (kaa (pv 1) kad)) rfl)
   (kab (kaI (pv 0) (pv 2) rfl)
   (kag (kaI (pv 0) (pv 3) rfl))),?_⟩
  refine⟨_,rfl,l,_,rfl, .inl hl,fun l' hl'=>?_⟩
  have s1:=kan (o:=.lst xs) hl'
  have nlx:l'≠x:=fun e=>by
   rw[e,hx] at hl'
   cases hl'
  refine⟨_,rfl,x,d.qg,dx,[],rfl,s1 _ _ hx,W.qg.cl,W.Qw,by decide,?_⟩
  refine⟨_,rfl,_,rfl,x,d.qg,dx,_,rfl,kae,W.qg.cl,W.Vy,few (JN (kal (n:=0) (JK _)) (by decide)),?_⟩
  refine⟨_,rfl,_,rfl,x,d.qg,dx,_,rfl,kae,W.qg.cl,W.Xd,few (JN (kal (kal (n:=0) (JK _))) (by decide)),?_⟩
  refine k _ l' ((((But.of_same s1).trans kaB).trans kaB).trans kaB) hl' ?_ ⟨dx,_,kae,?_,?_,?_⟩
  ·rw[kak nlx,kak nlx,kak nlx,kae]
  ·rw[kac,if_neg (by decide +kernel),kac,if_neg (by decide +kernel),kac,if_pos rfl]
  ·rw[kac,if_neg (by decide +kernel),kac,if_pos rfl]
  ·rw[kac,if_pos rfl]
theorem kdS:kas ["line","member"] ["line","member"] (kah kbS):=by ac_rfl
theorem kdZ(W:WB K mg d base):FO P w W 1 d.XE d.XF ["line","member"] (kjI d.qe):=by
 exists W.ZE.F,kdS
 ·obtain⟨x,m,r,rfl,⟨dx,fs,hx,lk,lp,lm,ls⟩,k⟩:=h
  refine⟨_,kab (ps_if (PW.pt (ka7 (ka0 (pv 1)) (kaV (kam kdY (kaj (K:=K) (pv 0) rfl) kby (kat _))))) (kag (kao (kaj (K:=K) (pv 0) rfl))) (kap))
   (kag (kao (kaj (K:=K) (pv 0) rfl))),?_⟩
  refine⟨_,rfl,m,rfl,?_⟩
  cases m with
  |false=>
   refine iteF (iteF ⟨_,rfl,x,d.qe,dx,fs,_,rfl,hx,W.qe.cl,W.Xa,lp,?_⟩)
   exact k
  | true=>
   refine iteT ⟨_,rfl,x,d.qe,dx,fs,_,rfl,hx,W.qe.cl,W.Xb,ls,rfl,_,rfl,?_⟩
   cases e:r.ex with
   | none=>
    rw[e] at ls
    show if(!decide (V.non=V.non))=true then _ else _
    rw[show(!decide (V.non=V.non))=false by simp]
    refine iteF ⟨_,rfl,x,d.qe,dx,fs,_,rfl,hx,W.qe.cl,W.Xa,lp,?_⟩
    have ep:prc true r=r.pr:=by
     unfold prc
     rw[if_pos rfl,e]
     rfl
    rw[ep] at k
    exact k
   | some z=>
    rw[e] at ls
    show if(!decide (V.int z=V.non))=true then _ else _
    rw[show(!decide (V.int z=V.non))=true by simp]
    refine iteT ⟨_,rfl,x,d.qe,dx,fs,_,rfl,hx,W.qe.cl,W.Xb,ls,?_⟩
    have ep:prc true r=z:=by
     unfold prc
     rw[if_pos rfl,e]
     rfl
    rw[ep] at k
    exact k
theorem Qz:kas ["self","basket","number","line","price"] ["self","basket"] (kah kcb):=by ac_rfl
theorem kcP(W:WB K mg d base):FO P w W 2 d.Zl d.Zm ["self","basket"] (kdq d.qe d.qg d.qc):=by
 exists W.Qb.F,Qz
 ·obtain⟨x,dx,b,l,cg,m,ls,rs,rfl,hx,⟨dxb,fsb,hb,lbl,lbc,lbm⟩,hl,hL,hn,hok,k⟩:=h
  exists V8,kdZ,W
  refine⟨_,kab (kaI (pv 0) (kaS kad) rfl)
   (kab (kaI (pv 0) (kaS kad) rfl)
   (kab (kaI (pv 0) (kaj (K:=K) (pv 1) rfl) rfl)
   (kab (kaI (pv 0) (kaS kad) rfl)
   (kag (kaZ PassesOwn.never rfl (khG rfl W.B.enum (kaa (kaj (K:=K) (pv 1) rfl) kad)) (kbb (K:=K) (n:=2) rfl (kay (pgn (i:=2) Qz.nd) (kay (pgn (i:=3) Qz.nd) kba)))
   (kab (psl (i:=4) Qz.nd (pcl V8 hr W.ZE (kaa (pv 3) (kaa (kaj (K:=K) (pv 1) rfl) kad))))
   (kab (ka1 (pe_bm NK EZ E1 kg0 (kaj (K:=K) (pv 0) rfl) (kaa (pe_op kmf (kaS (kaa (pv 2) kad)) (kaj (K:=K) (pv 3) rfl)) kad)))
   (kab (ka1 (pe_bm NK EZ E1 kg0 (kaj (K:=K) (pv 0) rfl) (kaa (pe_op kmf (kaS (kaa (pv 4) kad)) (kaj (K:=K) (pv 3) rfl)) kad)))
   (kag (ka1 (pe_bm NK N3 N4 kbd (kaj (K:=K) (pv 0) rfl) (kaa pe_bl kad)))))))))))),?_⟩
  have nbx:b≠x:=ne_of hb hx (by
   intro z
   injection z with _ _ z
   rw[z] at lbl
   cases lbl)
  have nlx:l≠x:=ne_of hl hx (by intro z;cases z)
  exists Y4
  refine⟨by decide,fun o ho=>?_⟩
  have nox:o≠x:=(kai hx ho).symm
  symm
  exists Y4
  refine⟨_,rfl,x,d.qc,dx,[],rfl,kan ho _ _ hx,W.qc.cl,W.qK,by decide,?_⟩
  have b1:But x H (upd (upd H o (.lst [])) x (.ins d.qc dx (putF "owners" (.ref o) []))):=(But.of_same (kan ho)).trans kaB
  symm
  exists Y4
  refine⟨by decide,fun p hp=>?_⟩
  have npx:p≠x:=fun e=>by
   rw[e,kae] at hp
   cases hp
  have nop:o≠p:=fun e=>by
   rw[←e,kak nox,kae] at hp
   cases hp
  have hp0:H p=none:=by
   cases e:H p with
   |none=>rfl
   |some u=>
    obtain⟨u',e'⟩:=khV (b1 p u npx e)
    rw[e'] at hp
    cases hp
  symm
  exists Y4
  refine⟨_,rfl,x,d.qc,dx,_,rfl,kan hp _ _ kae,W.qc.cl,W.qA,few (JN (kal (n:=0) (JK _)) (by decide)),?_⟩
  have b2:=(b1.same (kan (o:=.lst []) hp)).trans (kaB (o:=.ins d.qc dx (putF "prices" (.ref p) (putF "owners" (.ref o) []))))
  symm
  exists Y4
  refine⟨_,rfl,b,d.qg,dxb,fsb,_,rfl,b2 b _ nbx hb,W.qg.cl,W.Vy,lbc,_,rfl,x,d.qc,dx,_,rfl,kae,W.qc.cl,W.qR,few (JN (kal (kal (n:=0) (JK _))) (by decide)),?_⟩
  have b3:=b2.trans (kaB (o:=.ins d.qc dx (putF "carriage" (.int cg) (putF "prices" (.ref p) (putF "owners" (.ref o) [])))))
  symm
  exists Y4
  refine⟨by decide,fun mk hm=>?_⟩
  have nmx:mk≠x:=fun e=>by
   rw[e,kae] at hm
   cases hm
  have hm0:H mk=none:=by
   cases e:H mk with
   |none=>rfl
   |some u=>
    obtain⟨u',e'⟩:=khV (b3 mk u nmx e)
    rw[e'] at hm
    cases hm
  have nom:o≠mk:=fun e=>by
   rw[←e,kak nox,kak nox,kak nop,kak nox,kae] at hm
   cases hm
  have npm:p≠mk:=fun e=>by
   rw[←e,kak npx,kak npx,kae] at hm
   cases hm
  symm
  exists Y4
  refine⟨_,rfl,x,d.qc,dx,_,rfl,kan hm _ _ kae,W.qc.cl,W.Qa,few (JN (kal (kal (kal (n:=0) (JK _)))) (by decide)),?_⟩
  have b4:=(b3.same (kan (o:=.lst []) hm)).trans (kaB (o:=.ins d.qc dx (putF "marked" (.ref mk) (putF "carriage" (.int cg) (putF "prices" (.ref p) (putF "owners" (.ref o) []))))))
  have Di:Ds H x o p mk:=⟨ho,hp0,hm0,nox,npx,nmx,nop,nom,npm⟩
  have Z0:S3 H x d.qc dx (putF "marked" (.ref mk) (putF "carriage" (.int cg) (putF "prices" (.ref p) (putF "owners" (.ref o) [])))) o p mk [] [] [] (upd (upd (upd (upd (upd (upd (upd H o (.lst [])) x (.ins d.qc dx (putF "owners" (.ref o) []))) p (.lst [])) x (.ins d.qc dx (putF "prices" (.ref p) (putF "owners" (.ref o) []))))
    x (.ins d.qc dx (putF "carriage" (.int cg) (putF "prices" (.ref p) (putF "owners" (.ref o) []))))) mk (.lst [])) x (.ins d.qc dx (putF "marked" (.ref mk) (putF "carriage" (.int cg) (putF "prices" (.ref p) (putF "owners" (.ref o) [])))))):=by
   symm
   exists Y6
   refine⟨b4,kae,?_,?_,?_⟩
   ·rw[kak nox,kak nom,kak nox,kak nox,kak nop,kak nox,kae]
   ·rw[kak npx,kak npm,kak npx,kak npx,kae]
   ·rw[kak nmx,kae]
  have l1:(putF "marked" (.ref mk) (putF "carriage" (.int cg) (putF "prices" (.ref p) (putF "owners" (.ref o) [])))).lookup ("owners" :Str)=some (.ref o):=by
   rw[kac,if_neg (by decide +kernel),kac,if_neg (by decide +kernel),kac,if_neg (by decide +kernel),kac,if_pos rfl]
  have l2:(putF "marked" (.ref mk) (putF "carriage" (.int cg) (putF "prices" (.ref p) (putF "owners" (.ref o) [])))).lookup ("prices" :Str)=some (.ref p):=by
   rw[kac,if_neg (by decide +kernel),kac,if_neg (by decide +kernel),kac,if_pos rfl]
  have l3:(putF "marked" (.ref mk) (putF "carriage" (.int cg) (putF "prices" (.ref p) (putF "owners" (.ref o) [])))).lookup ("carriage" :Str)=some (.int cg):=by
   rw[kac,if_neg (by decide +kernel),kac,if_pos rfl]
  have l4:(putF "marked" (.ref mk) (putF "carriage" (.int cg) (putF "prices" (.ref p) (putF "owners" (.ref o) [])))).lookup ("marked" :Str)=some (.ref mk):=by
   rw[kac,if_pos rfl]
  have l5:(putF "marked" (.ref mk) (putF "carriage" (.int cg) (putF "prices" (.ref p) (putF "owners" (.ref o) [])))).lookup ("whole" :Str)=none:=by
   rw[kac,if_neg (by decide +kernel),kac,if_neg (by decide +kernel),kac,if_neg (by decide +kernel),kac,if_neg (by decide +kernel)]
   rfl
  have lfs:(putF "marked" (.ref mk) (putF "carriage" (.int cg) (putF "prices" (.ref p) (putF "owners" (.ref o) [])))).length≤10:=JN (kal (kal (kal (kal (n:=0) (JK _))))) (by decide)
  generalize putF "marked" (.ref mk) (putF "carriage" (.int cg) (putF "prices" (.ref p) (putF "owners" (.ref o) [])))=fs at *
  generalize (upd (upd (upd (upd (upd (upd (upd H o (.lst [])) x (.ins d.qc dx (putF "owners" (.ref o) []))) p (.lst [])) x (.ins d.qc dx (putF "prices" (.ref p) (putF "owners" (.ref o) []))))
    x (.ins d.qc dx (putF "carriage" (.int cg) (putF "prices" (.ref p) (putF "owners" (.ref o) []))))) mk (.lst [])) x (.ins d.qc dx fs))=Hs at *
  symm
  exists Y4
  refine⟨_,rfl,b,d.qg,dxb,fsb,_,rfl,Z0.bt b _ nbx hb,W.qg.cl,W.Qw,lbl,l,_,rfl,Z0.bt l _ nlx hl,kiO (xs:=ls.map V.ref) (fun i σ H'=>(∃v2 v3 v4:Option V,σ=[some (.ref x),some (.ref b),v2,v3,v4])∧
   S3 H x d.qc dx fs o p mk ((own (rs.take i)).map V.int) ((prs m (rs.take i)).map V.int) (JR i (.bl false)) H') ⟨⟨none,none,none,rfl⟩,Z0⟩ (fun i σ H' _ ⟨_,Z⟩=>Z.bt l _ nlx hl) ?_ ?_⟩
  ·rintro i y t σ H1 hy ⟨⟨v2,v3,v4,rfl⟩,Z⟩ ht
   have hll:=hL.len
   have hil:i<(ls.map V.ref).length:=(JX.mp hy).1
   rw[JJ] at hil
   obtain⟨lx,el,rfl⟩:∃lx,ls[i]?=some lx∧y=V.ref lx:=by
    rw[JU] at hy
    cases e:ls[i]? with
    |none=>rw[e] at hy;cases hy
    |some z=>rw[e] at hy;exact⟨z,rfl,(Option.some.inj hy).symm⟩
   obtain⟨r,er⟩:∃r,rs[i]?=some r:=⟨rs[i]'(by omega),by simp[show i<rs.length by omega]⟩
   have hr':r.Ok:=hok r (JO er)
   obtain⟨dxl,fsl,hlx,lk1,lk2,lk3,lk4⟩:=hL.get el er
   have nlxx:lx≠x:=ne_of hlx hx (by
    intro z
    injection z with _ _ z
    rw[z] at lk1
    cases lk1)
   have hmn0:=hr'.mn0
   have hmn1:=hr'.mn1
   have Z1:=Z.same (kan (o:=.tup [.int (i:Nat),V.ref lx]) ht)
   have lo1:((own (rs.take i)).map V.int).length≤720:=by
    rw[JJ]
    have:=kkc (rs.take i) fun r hr=>hok r (Mx hr)
    rw[Na] at this
    omega
   have lp1:((prs m (rs.take i)).map V.int).length≤720:=by
    rw[JJ]
    have:=kj6 m (rs.take i) fun r hr=>hok r (Mx hr)
    rw[Na] at this
    omega
   symm
   exists Y6
   refine⟨t,_,rfl,SqT.of kae,rfl,_,_,rfl,_,_,rfl,rfl,?_⟩
   nofun
   exists Y6
   refine⟨_,rfl,_,rfl,b,d.qg,dxb,fsb,_,rfl,Z1.bt b _ nbx hb,W.qg.cl,W.Xd,lbm,lx,m,r,rfl,⟨dxl,fsl,Z1.bt lx _ nlxx hlx,lk1,lk2,lk3,lk4⟩,?_⟩
   nofun
   exists Y6
   refine⟨_,rfl,x,d.qc,dx,fs,_,rfl,Z1.ob,W.qc.cl,W.qK,l1, .inl ⟨rfl,_,SqL.of Z1.ho⟩,_,rfl,(by show 1≤sizeLine;decide),fun t1 ht1=>?_⟩
   have Z2:=Z1.same (kan (o:=.lst [V.int (i:Nat)]) ht1)
   nofun
   exists Y6
   refine⟨_,rfl,lx,d.qe,dxl,fsl,_,rfl,Z2.bt lx _ nlxx hlx,W.qe.cl,W.q9,lk3,t1,_,_,rfl,rfl,kae,by omega,by omega,JY (kau (by simp;omega)),fun t2 ht2=>?_⟩
   have Z3:=Z2.same (kan (o:=.lst (JR r.mn.toNat [V.int (i:Nat)]).flatten) ht2)
   nofun
   exists Y6
   refine⟨o,t2,_,_,rfl,rfl,Z3.ho,kae,JY (kau (by rw[rep1,Ml];omega)),?_⟩
   have Z4:=Z3.setO (d:=(own (rs.take i)).map V.int++(JR r.mn.toNat [V.int (i:Nat)]).flatten) Di
   nofun
   exists Y6
   refine⟨_,rfl,x,d.qc,dx,fs,_,rfl,Z4.ob,W.qc.cl,W.qA,l2, .inl ⟨rfl,_,SqL.of Z4.hp⟩,_,rfl,(by show 1≤sizeLine;decide),fun t3 ht3=>?_⟩
   have Z5:=Z4.same (kan (o:=.lst [V.int (prc m r)]) ht3)
   nofun
   exists Y6
   refine⟨_,rfl,lx,d.qe,dxl,fsl,_,rfl,Z5.bt lx _ nlxx hlx,W.qe.cl,W.q9,lk3,t3,_,_,rfl,rfl,kae,by omega,by omega,JY (kau (by simp;omega)),fun t4 ht4=>?_⟩
   have Z6:=Z5.same (kan (o:=.lst (JR r.mn.toNat [V.int (prc m r)]).flatten) ht4)
   nofun
   exists Y6
   refine⟨p,t4,_,_,rfl,rfl,Z6.hp,kae,JY (kau (by rw[rep1,Ml];omega)),?_⟩
   have Z7:=Z6.setP (d:=(prs m (rs.take i)).map V.int++(JR r.mn.toNat [V.int (prc m r)]).flatten) Di
   nofun
   exists Y6
   refine⟨_,rfl,x,d.qc,dx,fs,_,rfl,Z7.ob,W.qc.cl,W.Qa,l4, .inl ⟨rfl,_,SqL.of Z7.hm⟩,mk,_,_,rfl,rfl,Z7.hm,kau (by simp;omega),?_⟩
   have Z8:=Z7.setM (d:=JR i (V.bl false)++[V.bl false]) Di
   nofun
   exists Y6
   refine⟨⟨_,_,_,rfl⟩,?_⟩
   have e1:(own (rs.take i)).map V.int++(JR r.mn.toNat [V.int (i:Nat)]).flatten=(own (rs.take (i+1))).map V.int:=by
    rw[take_snoc er,klr,JQ,rep1,kj0,Na,MM (by omega)]
   have e2:(prs m (rs.take i)).map V.int++(JR r.mn.toNat [V.int (prc m r)]).flatten=(prs m (rs.take (i+1))).map V.int:=by
    rw[take_snoc er,klo,JQ,rep1,kj0]
   have e3:JR i (V.bl false)++[V.bl false]=JR (i+1) (V.bl false):=by rw[El]
   rw[←e1,←e2,←e3]
   nofun
   exact Z8
  ·rintro σ H' ⟨⟨v2,v3,v4,rfl⟩,Z⟩
   have hll:=hL.len
   have e:(ls.map V.ref).length=rs.length:=by rw[JJ,hll]
   rw[e,Nt] at Z
   nofun
   exact k H' o p mk Z.bt ho hp0 hm0 ⟨dx,fs,Z.ob,l1,l2,l3,l4,l5⟩ Z.ho Z.hp Z.hm ⟨dx,fs,Z.ob,lfs⟩
theorem kdT:kas ["self"] ["self"] (kah kbW):=by ac_rfl
theorem ka2(W:WB K mg d base):FO P w W 1 d.Zn d.Zo ["self"] (kjC d.qc):=by
 exists W.qu.F,kdT
 ·obtain⟨x,o,p,mk,cg,ns,rfl,⟨dx,fs,hx,l1,l2,l3,l4,l5⟩,hp,k⟩:=h
  refine⟨_,kag (kao (pe_op kb3 (kaq (r:=rSum K) (kcM rfl) (by rfl) W.B.sum b_sum (kaa (kaj (K:=K) (pv 0) rfl) kad)) (kaj (K:=K) (pv 0) rfl))),?_⟩
  exact⟨_,rfl,x,d.qc,dx,fs,_,rfl,hx,W.qc.cl,W.qA,l2,p,ns,rfl,SqL.of hp,_,rfl,x,d.qc,dx,fs,_,rfl,hx,W.qc.cl,W.qR,l3,_,_,rfl,rfl,k⟩
inductive kl5 (K:JL) (CM:Addr) (vs:List V) (H:Hp) (Q:VK) (E_:XK):Prop
 |ct (mA a:Addr)(M:Mks)(ps:List (Option Nat))(kn:Nat)(mk:Bool)(_:vs=[.ref mA, .ref a, .int kn, .bl mk])(_:MksIs CM H mA M)(_:SqL K H a (ps.map pV))(_:Good ps)(_:kn<ps.length)(_:Q (.bl (kHit ps M.kind kn&&(!M.lone|| !mk))) H):kl5 K CM vs H Q E_
theorem kmH:kas ["marks","parents","kind","marked"] ["marks","parents","kind","marked"] (kah kjX):=by ac_rfl
theorem kmU(W:WB K mg d base):FO P w W 2 d.XI d.XJ ["marks","parents","kind","marked"] (kl5 K d.qf):=by
 exists W.ZF.F,kmH
 ·obtain⟨mA,a,M,ps,kn,mk,rfl,⟨dx,fs,hm,l1,l2,l3,l4,l5,l6⟩,hS,hg,hk,k⟩:=h
  exists V9,klv,W
  refine⟨_,kab (kcc (ps_if (PW.pt (ka7 (ka0 (kaj (K:=K) (pv 0) rfl)) (kaV (ka0 (pv 3))))) (kag (kao pe_bl)) (kap)))
   (kag (kao (pe_or (kce kgR (kaj (K:=K) (pv 0) rfl) kby (kat _)) (kmc (pcl V9 hr W.ZD (kaa (pv 1) (kaa (pv 2) (kaa (kaj (K:=K) (pv 0) rfl) kad)))))))),?_⟩
  refine⟨fun σ' H'=>σ'=[some (.ref mA),some (.ref a),some (.int kn),some (.bl mk)]∧H'=H∧(!M.lone|| !mk)=true,⟨_,rfl,mA,d.qf,dx,fs,_,rfl,hm,W.qf.cl,W.Q1,l6,M.lone,rfl,?_⟩,?_⟩
  ·cases e:M.lone with
   |false=>exact iteF (iteF ⟨rfl,rfl,rfl⟩)
   | true=>
    refine iteT ⟨_,rfl,mk,rfl,?_⟩
    cases mk with
    |false=>exact iteF ⟨rfl,rfl,rfl⟩
    |true=>
     refine iteT ?_
     rw[e,show(kHit ps M.kind kn&&(!true|| !true))=false by simp] at k
     exact k
  ·rintro σ' H' ⟨rfl,rfl,hh⟩
   rw[hh,MN] at k
   cases ek:M.kind with
   |none=>
    rw[ek] at l1 k
    refine⟨_,rfl,mA,d.qf,dx,fs,_,rfl,hm,W.qf.cl,W.Qt,l1,rfl,_,rfl,?_⟩
    show if decide (V.non=V.non)=true then _ else _
    rw[show decide (V.non=V.non)=true by simp]
    exact iteT k
   |some kk=>
    rw[ek] at l1 k
    refine⟨_,rfl,mA,d.qf,dx,fs,_,rfl,hm,W.qf.cl,W.Qt,l1,rfl,_,rfl,?_⟩
    show if decide (V.int (kk:Nat)=V.non)=true then _ else _
    rw[show decide (V.int (kk:Nat)=V.non)=false by simp]
    exact iteF ⟨_,rfl,_,rfl,_,rfl,mA,d.qf,dx,fs,_,rfl,hm,W.qf.cl,W.Qt,l1,a,ps,kn,kk,rfl,hS,hg,hk,k⟩
theorem Vz:kas ["voucher","parents","basket","standing","fitting"] ["voucher","parents","basket","standing"] (kah keG):=by ac_rfl
theorem kf7(W:WB K mg d base):FO P w W 3 d.XG d.XH ["voucher","parents","basket","standing"] (kjU K d):=by
 exists W.Qr.F,Vz
 ·obtain⟨v,a,b,x,Vc,ps,B,S,rfl,hV,hA,hB,hS,wf,vo,k⟩:=h
  obtain⟨mA,dxv,fsv,hv,lvm,_,hM,hh,htb⟩:=id hV
  obtain⟨l,ls,⟨dxb,fsb,hb,lb1,lb2,lb3⟩,hl,hL⟩:=id hB
  obtain⟨o,p,mk,⟨dxs,fss,hx,l1,l2,l3,l4,l5⟩,ho,hp,hmk⟩:=id hS
  exists Ua,kmU,W
  refine⟨_,kab (psl (i:=4) Vz.nd (kcw (N:=["line","marked","voucher","parents"]) (CompScope.of (N:=["line","marked","voucher","parents"]) (cap:=[none,none,some 0,some 1]) (kah keG).names ["voucher","parents","basket","standing","fitting"] rfl rfl (by decide +kernel)) rfl (kdX rfl W.B.zip (kaa (kaj (K:=K) (pv 2) rfl) (kaa (kaj (K:=K) (pv 3) rfl) kad))) (fun _ _ _ _=>kbb (K:=K) (n:=2) rfl (kay (pgn (i:=0) (show(["line","marked","voucher","parents"]:List Str).Nodup by decide +kernel)) (kay (pgn (i:=1) (show(["line","marked","voucher","parents"]:List Str).Nodup by decide +kernel)) kba))) (fun _ _ _ _=>(pcl Ua hr W.ZF (kaa (kaj (K:=K) (pv 2) rfl) (kaa (pv 3) (kaa (kaj (K:=K) (pv 0) rfl) (kaa (pv 1) kad))))))))
   (kag (kao (kev (N:=["piece","owner","fitting"]) (CompScope.of (N:=["piece","owner","fitting"]) (cap:=[none,none,some 4]) (kah keG).names ["voucher","parents","basket","standing","fitting"] rfl rfl (by decide +kernel)) rfl (khG rfl W.B.enum (kaa (kaj (K:=K) (pv 3) rfl) kad)) (fun _ _ _ _=>kbb (K:=K) (n:=2) rfl (kay (pgn (i:=0) (show(["piece","owner","fitting"]:List Str).Nodup by decide +kernel)) (kay (pgn (i:=1) (show(["piece","owner","fitting"]:List Str).Nodup by decide +kernel)) kba))) (fun _ _ _ _=>kf5 (ka0 (pe_ix (r:=rIxL K) kaO (pv 2) (pv 1) (fun _ _=>rfl)))) (fun _ _ _ _=>(pv 0))))),?_⟩
  have np:=wf.np
  have nl:=wf.nl
  have lenL:=hL.len
  have lenM:=wf.lm
  have emin:min (ls.map V.ref).length (S.mkd.map V.bl).length=B.rs.length:=by rw[JJ,JJ,lenL,lenM,Mt]
  refine⟨_,rfl,b,d.qg,dxb,fsb,_,rfl,hb,W.qg.cl,W.Qw,lb1,_,rfl,x,d.qc,dxs,fss,_,rfl,hx,W.qc.cl,W.Qa,l4,l,mk,_,_,rfl,hl,hmk,
   kiW (xs:=ls.map V.ref) (ys:=S.mkd.map V.bl) (fun i σ zs H'=>Same H H'∧zs=((JP i).map fun l=>hits ps (kds B) Vc.ms.kind Vc.ms.lone S.mkd l).map V.bl∧∃v0 v1:Option V,σ=[v0,v1,some (.ref v),some (.ref a)])
    ⟨Same.refl _,rfl,none,none,rfl⟩ (by rw[emin];exact JY (kau (by omega))) (fun i σ zs H' _ h=>⟨h.1 _ _ hl,h.1 _ _ hmk,by rw[h.2.1];simp⟩) ?_ ?_⟩
  ·rintro i y m t σ zs H1 hy hm ⟨s1,rfl,v0,v1,rfl⟩ ht
   obtain⟨lx,elx,rfl⟩:=kbj hy
   obtain⟨mv,emv,rfl⟩:=kbC hm
   obtain⟨r,er,hr⟩:=hL.at elx
   have s2:=s1.trans (kan (o:=.tup [V.ref lx,V.bl mv]) ht)
   obtain⟨dxl,fsl,hlx,lk1,_⟩:=hr.same s2
   have hkd:=wf.kd r (JO er)
   obtain⟨kn,ekn⟩:=Int.eq_ofNat_of_zero_le hkd.1
   have hkn:kn<ps.length:=by omega
   refine⟨t,_,rfl,SqT.of kae,rfl,_,_,rfl,_,_,rfl,rfl,?_⟩
   refine⟨_,rfl,v,clsOf d Vc.so,dxv,fsv,_,rfl,s2 _ _ hv,cl_of W hh,na_of W hh,lvm,_,rfl,_,rfl,lx,d.qe,dxl,fsl,_,rfl,hlx,W.qe.cl,W.Vx,lk1,_,rfl,mA,a,Vc.ms,ps,kn,mv,by rw[ekn];rfl,hM.same s2,s2.seq hA,wf.good,hkn,s2,?_,_,_,rfl⟩
   have e1:hits ps (kds B) Vc.ms.kind Vc.ms.lone S.mkd i=(kHit ps Vc.ms.kind kn&&(!Vc.ms.lone|| !mv)):=by
    unfold hits
    have e2:S.mkd.getD i false=mv:=by rw[J5,emv];rfl
    rw[e2,knH er,ekn,Int.toNat_natCast]
   rw[NC,JQ,JQ,←e1]
   rfl
  rintro σ zs H1 ⟨s1,rfl,v0,v1,rfl⟩ D hD
  rw[emin]
  have s2:=s1.trans (kan (o:=.lst (((JP B.rs.length).map fun l=>hits ps (kds B) Vc.ms.kind Vc.ms.lone S.mkd l).map V.bl)) hD)
  have eD:(upd H1 D (.lst (((JP B.rs.length).map fun l=>hits ps (kds B) Vc.ms.kind Vc.ms.lone S.mkd l).map V.bl))) D=some (.lst (((JP B.rs.length).map fun l=>hits ps (kds B) Vc.ms.kind Vc.ms.lone S.mkd l).map V.bl)):=kae
  generalize upd H1 D (.lst (((JP B.rs.length).map fun l=>hits ps (kds B) Vc.ms.kind Vc.ms.lone S.mkd l).map V.bl))=H2 at *
  refine⟨_,rfl,x,d.qc,dxs,fss,_,rfl,s2 _ _ hx,W.qc.cl,W.qK,l1,o,_,rfl,s2 _ _ ho,
   kjj (xs:=S.ow.map iV) (fun i σ ys H'=>Same H2 H'∧ys=((JP i).filter fun i=>hits ps (kds B) Vc.ms.kind Vc.ms.lone S.mkd (S.ow.getD i 0)).map iV∧∃v0 v1:Option V,σ=[v0,v1,some (.ref D)])
    ⟨Same.refl _,rfl,none,none,rfl⟩ (by rw[JJ];exact JY (kau (by omega))) (fun i σ zs H' _ h=>⟨h.1 _ _ (s2 _ _ ho),by rw[h.2.1,JJ];have:=MC (fun i=>hits ps (kds B) Vc.ms.kind Vc.ms.lone S.mkd (S.ow.getD i 0)) (JP i);simpa using this⟩) ?_ ?_⟩
  ·rintro i y t σ zs H3 hy ⟨s3,rfl,v0,v1,rfl⟩ ht
   obtain⟨ln,eln,rfl⟩:=kbC hy
   have hln:=wf.line eln
   have s4:=s3.trans (kan (o:=.tup [V.int (i:Nat),iV ln]) ht)
   refine⟨t,_,rfl,SqT.of kae,rfl,_,_,rfl,_,_,rfl,rfl,?_⟩
   refine⟨_,rfl,_,rfl,D,_,_,_,rfl,rfl,SqL.of (s4 _ _ eD),kaY (v:=.bl (hits ps (kds B) Vc.ms.kind Vc.ms.lone S.mkd ln)) (by rw[JU,JU,ME hln];rfl),_,rfl,?_⟩
   have e1:S.ow.getD i 0=ln:=by rw[J5,eln];rfl
   have st:=klZ (ps:=ps) (kk:=kds B) (kind:=Vc.ms.kind) (lone:=Vc.ms.lone) (S:=S) (i:=i)
   rw[e1] at st
   cases hh2:hits ps (kds B) Vc.ms.kind Vc.ms.lone S.mkd ln with
   |false=>exact iteF ⟨s4,by rw[st,hh2];simp,_,_,rfl⟩
   |true=>exact iteT ⟨_,rfl,s4,by rw[st,hh2,if_pos rfl,JQ];rfl,_,_,rfl⟩
  ·rintro σ zs H3 ⟨s3,rfl,v0,v1,rfl⟩ D2 hD2
   rw[JJ]
   have s4:=(s2.trans s3).trans (kan (o:=.lst ((abt ps (kds B) Vc.ms.kind Vc.ms.lone S).map iV)) hD2)
   exact k _ D2 s4 (none_of (s2.trans s3) hD2) kae
inductive kfz (CS:Addr) (vs:List V) (H:Hp) (Q:VK) (E_:XK):Prop
 |ct (x g:Addr)(S:Stnd)(is:List Nat)(_:vs=[.ref x, .ref g])(_:StndIs CS H x S)(_:H g=some (.lst (is.map iV)))(_:(∀i∈is,i<S.pr.length))(_:is.length≤720)(_:∀p,H p=none→Q (.ref p) (upd H p (.lst ((qs S.pr is).map V.int)))):kfz CS vs H Q E_
theorem kgH:kas ["standing","pieces"] ["standing","pieces"] (kah kcB):=by ac_rfl
theorem keb(W:WB K mg d base):FO P w W 1 d.X8 d.X9 ["standing","pieces"] (kfz d.qc):=by
 exists W.QV.F,kgH
 ·obtain⟨x,g,S,is,rfl,⟨o,p,mk,⟨dxs,fss,hx,l1,l2,l3,l4,l5⟩,ho,hp,hmk⟩,hg,hi,hl,k⟩:=h
  refine⟨_,kag (kao (kcw (N:=["piece","standing"]) (CompScope.of (N:=["piece","standing"]) (cap:=[none,some 0]) (kah kcB).names ["standing","pieces"] rfl rfl (by decide +kernel)) rfl (kaE (K:=K) (pv 1)) (fun _ _ _ _=>pgn (i:=0) (show(["piece","standing"]:List Str).Nodup by decide +kernel)) (fun _ _ _ _=>(pe_ix (r:=rIxL K) kaO (kaj (K:=K) (pv 1) rfl) (pv 0) (fun _ _=>rfl))))),?_⟩
  refine⟨_,rfl,g,rfl,⟨_,SqL.of hg⟩,kbf (xs:=is.map iV) (fun j σ ys H'=>H'=H∧ys=(qs S.pr (is.take j)).map V.int∧∃v,σ=[v,some (.ref x)]) ⟨rfl,rfl,none,rfl⟩ ?_ ?_ ?_ ?_⟩
  ·rw[JJ]
   exact JY (kau (by omega))
  ·rintro j σ ys H' hj ⟨rfl,rfl,_⟩
   exact⟨SqL.of hg,by rw[JJ,kbs,Na];rw[JJ] at hj;omega⟩
  ·rintro j y σ ys H' hy ⟨rfl,rfl,v,rfl⟩
   obtain⟨n,en,rfl⟩:∃n,is[j]?=some n∧y=iV n:=kbC hy
   obtain⟨z,ez⟩:=at_of (hi n (JO en))
   refine⟨_,rfl,x,d.qc,dxs,fss,_,rfl,hx,W.qc.cl,W.qA,l2,_,rfl,p,_,_,_,rfl,rfl,SqL.of hp,kaY (by rw[JU,ez];rfl),rfl,?_,_,rfl⟩
   rw[N8,en]
   simp[qs,ez]
  ·rintro σ ys H' ⟨rfl,rfl,v,rfl⟩ D hD
   rw[JJ,Nt]
   exact k D hD
inductive kjG (CS:Addr) (vs:List V) (H:Hp) (Q:VK) (E_:XK):Prop
 |ct (x g:Addr)(S:Stnd)(is:List Nat)(_:vs=[.ref x, .ref g])(_:StndIs CS H x S)(_:H g=some (.lst (is.map iV)))(_:(∀i∈is,i<S.pr.length))(_:is.length≤720)(_:∀H',Same H H'→Q (.int (qs S.pr is).sum) H'):kjG CS vs H Q E_
theorem keg:kas ["standing","pieces"] ["standing","pieces"] (kah kb6):=by ac_rfl
theorem kbX(W:WB K mg d base):FO P w W 2 d.Ya d.Yb ["standing","pieces"] (kjG d.qc):=by
 exists W.qP.F,keg
 ·obtain⟨x,g,S,is,rfl,hS,hg,hi,hl,k⟩:=h
  exists Xl,keb,W
  refine⟨_,kag (kao (kaq (r:=rSum K) (kcM rfl) (by rfl) W.B.sum b_sum (kaa (pcl Xl hr W.QV (kaa (pv 0) (kaa (pv 1) kad))) kad))),?_⟩
  exact⟨_,rfl,_,rfl,x,g,S,is,rfl,hS,hg,hi,hl,fun p hp=>⟨p,_,rfl,SqL.of kae,k _ (kan hp)⟩⟩
theorem Xm:kas ["voucher","parents","basket","standing","marks","pieces"] ["voucher","parents","basket","standing"] (kah kdk):=by ac_rfl
theorem kgU(W:WB K mg d base):FO P w W 4 d.XM d.XO ["voucher","parents","basket","standing"] (kl4 K d):=by
 exists W.ZG.F,Xm
 ·obtain⟨v,a,b,x,Vc,ps,B,S,rfl,hV,hA,hB,hS,wf,vo,k⟩:=h
  obtain⟨mA,dxv,fsv,hv,lvm,_,hM,hh,htb⟩:=id hV
  obtain⟨dxm,fsm,hm,m1,m2,m3,m4,m5,m6⟩:=id hM
  obtain⟨l,ls,⟨dxb,fsb,hb,lb1,lb2,lb3⟩,hl,hL⟩:=id hB
  exists Qi,kf7,W
  exists qO,kbX,W
  exists hr2,2,hr,0
  refine⟨_,kab (psl (i:=4) Xm.nd (kaj (K:=K) (pv 0) rfl))
   (kab (kcc (ps_if (PW.pt (ka7 (ka0 (kaj (K:=K) (pv 4) rfl)) (kaV (kix (ka0 (kaj (K:=K) (pv 2) rfl)))))) (kag (kao kbM)) (kap)))
   (kab (psl (i:=5) Xm.nd (pcl Qi hr W.Qr (kaa (pv 0) (kaa (pv 1) (kaa (pv 2) (kaa (pv 3) kad))))))
   (kab (ps_if (kam op_eq (kaq (r:=kaK K) kar (by rfl) W.B.len b_len (kaa (pv 5) kad)) kaf (kat _)) (kag (kao kbM)) (kap))
   (kab (ps_if (kam op_lt (pcl qO hr2 W.qP (kaa (pv 3) (kaa (pv 5) kad))) (kaj (K:=K) (pv 4) rfl) (kat _)) (kag (kao kbM)) (kap))
   (kag (kao kby)))))),?_⟩
  have np:=wf.np
  have habl:∀i∈abt ps (kds B) Vc.ms.kind Vc.ms.lone S,i<S.pr.length:=fun i hi=>by rw[wf.lp];exact kfP hi
  have lab:(abt ps (kds B) Vc.ms.kind Vc.ms.lone S).length≤720:=JN (kd6 _ _ _ _ _) np
  refine⟨_,rfl,v,clsOf d Vc.so,dxv,fsv,_,rfl,hv,cl_of W hh,na_of W hh,lvm,?_⟩
  refine⟨fun σ' H'=>σ'=[some (.ref v),some (.ref a),some (.ref b),some (.ref x),some (.ref mA),none]∧H'=H∧(Vc.ms.member&& !B.m)=false,⟨_,rfl,mA,d.qf,dxm,fsm,_,rfl,hm,W.qf.cl,W.Vk,m4,Vc.ms.member,rfl,?_⟩,?_⟩
  ·cases e:Vc.ms.member with
   |false=>exact iteF (iteF ⟨rfl,rfl,rfl⟩)
   | true=>
    refine iteT ⟨_,rfl,b,d.qg,dxb,fsb,_,rfl,hb,W.qg.cl,W.Xd,lb3,B.m,rfl,?_⟩
    cases e2:B.m with
    |true=>exact iteF ⟨rfl,rfl,rfl⟩
    |false=>
     refine iteT ?_
     have z:=k H (Same.refl _)
     unfold hindM at z
     rw[e,e2,if_pos (by decide)] at z
     exact z
  ·rintro σ' H' ⟨rfl,rfl,hh2⟩
   refine⟨_,rfl,_,rfl,_,rfl,_,rfl,v,a,b,x,Vc,ps,B,S,rfl,hV,hA,hB,hS,wf,vo,fun H1 pa s1 f1 h1=>?_⟩
   refine⟨_,rfl,pa,_,rfl, .inl (SqL.of h1),rfl,_,rfl,?_⟩
   have ed:decide (V.int (((abt ps (kds B) Vc.ms.kind Vc.ms.lone S).map iV).length:Nat)=V.int 0)=decide ((abt ps (kds B) Vc.ms.kind Vc.ms.lone S).length=0):=by
    rw[JJ]
    by_cases h0:(abt ps (kds B) Vc.ms.kind Vc.ms.lone S).length=0
    ·rw[h0]
     rfl
    ·rw[decide_eq_false h0]
     refine decide_eq_false fun z=>h0 ?_
     injection z with z
     omega
   show if decide (V.int (((abt ps (kds B) Vc.ms.kind Vc.ms.lone S).map iV).length:Nat)=V.int 0)=true then _ else _
   rw[ed]
   by_cases h0:(abt ps (kds B) Vc.ms.kind Vc.ms.lone S).length=0
   ·rw[decide_eq_true h0]
    refine iteT ?_
    have z:=k H1 s1
    unfold hindM at z
    rw[hh2,if_neg (by decide),if_pos h0] at z
    exact z
   ·rw[decide_eq_false h0]
    refine iteF ⟨_,rfl,_,rfl,x,pa,S,_,rfl,hS.same s1,h1,habl,lab,fun H2 s2=>?_⟩
    have z:=k H2 (s1.trans s2)
    unfold hindM at z
    rw[hh2,if_neg (by decide),if_neg h0] at z
    refine⟨_,rfl,mA,d.qf,dxm,fsm,_,rfl,(s1.trans s2) _ _ hm,W.qf.cl,W.Vj,m2,_,_,rfl,rfl,_,rfl,?_⟩
    by_cases h2:(qs S.pr (abt ps (kds B) Vc.ms.kind Vc.ms.lone S)).sum<Vc.ms.needs
    ·rw[if_pos h2] at z
     rw[decide_eq_true h2]
     exact iteT z
    ·rw[if_neg h2] at z
     rw[decide_eq_false h2]
     exact iteF z
inductive kio (vs:List V) (H:Hp) (Q:VK) (E_:XK):Prop
 |ct (m:Option Int)(n:Int)(_:vs=[oV m, .int n])(_:Q (.int (atM m n)) H):kio vs H Q E_
theorem ki5:kas ["most","number"] ["most","number"] (kah keF):=by ac_rfl
theorem kfF(W:WB K mg d base):FO P w W 1 d.Yc d.Yd ["most","number"] kio:=by
 exists W.QW.F,ki5
 ·obtain⟨m,n,rfl,k⟩:=h
  refine⟨_,kab (ps_if (kam kgR (pv 0) kby (kat _)) (kag (kao (pv 1))) (kap))
   (kag (kao (kaq (kbP rfl) (by rfl) W.B.min b_min (kaa (pv 0) (kaa (pv 1) kad))))),?_⟩
  cases m with
  |none=>
   refine⟨_,rfl,rfl,_,rfl,?_⟩
   show if decide (V.non=V.non)=true then _ else _
   rw[show decide (V.non=V.non)=true by simp]
   exact iteT ⟨_,rfl,k⟩
  | some z=>
   refine⟨_,rfl,rfl,_,rfl,?_⟩
   show if decide (V.int z=V.non)=true then _ else _
   rw[show decide (V.int z=V.non)=false by simp]
   refine iteF ⟨_,rfl,_,rfl,_,_,rfl,?_⟩
   have e:atM (some z) n=if n<z then n else z:=by
    show min z n=_
    split <;> omega
   rw[e] at k
   exact k
inductive kgC (d:D) (vs:List V) (H:Hp) (Q:VK) (E_:XK):Prop
 |ct (v x:Addr)(V:Vch)(S:Stnd)(_:vs=[.ref v, .ref x])(_:VchIs d H v V)(_:StndIs d.qc H x S)(_:Q (.int (if kbQ V.so=true then atM V.ms.most S.cg else 0)) H):kgC d vs H Q E_
theorem kdt:kas ["voucher","standing"] ["voucher","standing"] (kah kbF):=by ac_rfl
theorem kdy(W:WB K mg d base):FO P w W 2 d.XZ d.X0 ["voucher","standing"] (kgC d):=by
 exists W.ZL.F,kdt
 ·obtain⟨v,x,Vc,S,rfl,⟨mA,dxv,fsv,hv,lvm,_,⟨dxm,fsm,hm,m1,m2,m3,m4,m5,m6⟩,hh,htb⟩,⟨o,p,mk,⟨dxs,fss,hx,l1,l2,l3,l4,l5⟩,ho,hp,hmk⟩,k⟩:=h
  exists Xn,kfF,W
  refine⟨_,kab (ps_if (ka0 (kaq (r:=rIsi K) ka6 (by rfl) W.B.isi b_isi (kaa (pv 0) (kaa (kcv (v:=.ref d.ql) (by rfl) W.VL rfl) kad)))) (kag (kao (pcl Xn hr W.QW (kaa (kaj (K:=K) (kaj (K:=K) (pv 0) rfl) rfl) (kaa (kaj (K:=K) (pv 1) rfl) kad))))) (kap))
   (kag (kao kaf)),?_⟩
  have I:=kkH W hh
  refine⟨_,rfl,_,_,_,_,rfl, .inr ⟨_,rfl⟩,TyOf.ins hv (cl_of W hh) I.ha I.hn I.ht I.hm,kg5 W hh,_,rfl,?_⟩
  cases e:kbQ Vc.so with
  |false=>
   rw[e,if_neg JS] at k
   exact iteF k
  |true=>
   rw[e,if_pos rfl] at k
   exact iteT ⟨_,rfl,v,clsOf d Vc.so,dxv,fsv,_,rfl,hv,cl_of W hh,na_of W hh,lvm,mA,d.qf,dxm,fsm,_,rfl,hm,W.qf.cl,W.Qu,m3,_,rfl,x,d.qc,dxs,fss,_,rfl,hx,W.qc.cl,W.qR,l3,_,_,rfl,k⟩
noncomputable def kvOf(G:List (Nat×List Nat))(gl:List Addr):List (Key×V):=ND (fun p r=>(Sum.inl (p.1:Int),V.ref r)) G gl
theorem kiL:∀{G:List (Nat×List Nat)}{gl:List Addr},gl.length=G.length→(kvOf G gl).map Prod.snd=gl.map V.ref
 |[],[],_=>rfl
 |[],r::gl,h=>by cases h
 |p::G,[],h=>by cases h
 |p::G,r::gl,h=>by
  have ih:=kiL (G:=G) (gl:=gl) (by simpa using h)
  show V.ref r::(kvOf G gl).map Prod.snd=V.ref r::gl.map V.ref
  rw[ih]
theorem khR:∀{G:List (Nat×List Nat)}{gl:List Addr}(o a:Nat),gl.length=G.length→
  (atK (kvOf G gl) (Sum.inl (o:Int))=none∧ins G o a=G++[(o,[a])])∨∃(j:Nat)(g:List Nat)(r:Addr),G[j]?=some (o,g)∧gl[j]?=some r∧atK (kvOf G gl) (Sum.inl (o:Int))=some (.ref r)∧ins G o a=G.set j (o,g++[a])
 |[],gl,o,a,h=>.inl ⟨rfl,rfl⟩
 |(l,g)::G,[],o,a,h=>by cases h
 | (l,g)::G,r::gl,o,a,h=>by
  have hl:gl.length=G.length:=by simpa using h
  unfold ins
  by_cases e:l=o
  ·subst e
   exact .inr ⟨0,g,r,rfl,rfl,by simp[kvOf,atK],by rw[if_pos rfl];rfl⟩
  ·rw[if_neg e]
   have e':¬((l:Int)=(o:Int)):=fun z=>e (by omega)
   have ea:atK (kvOf ((l,g)::G) (r::gl)) (Sum.inl (o:Int))=atK (kvOf G gl) (Sum.inl (o:Int)):=by
    simp[kvOf,atK,NZ,e']
   rcases khR o a hl with⟨h1,h2⟩|⟨j,g',r',h1,h2,h3,h4⟩
   ·exact .inl ⟨by rw[ea];exact h1,by rw[h2];rfl⟩
   ·exact .inr ⟨j+1,g',r',by simpa using h1,by simpa using h2,by rw[ea];exact h3,by rw[h4];rfl⟩
theorem klI{G:List (Nat×List Nat)}{gl:List Addr}{j o:Nat}{g g':List Nat}(h:G[j]?=some (o,g)):kvOf (G.set j (o,g')) gl=kvOf G gl:=by
 unfold kvOf
 apply List.ext_getElem?
 intro i
 rw[Ee,Ee]
 by_cases e:j=i
 ·subst e
  have hj:=at_lt h
  rw[MG hj,h]
  cases gl[j]? <;> rfl
 ·rw[MV e]
theorem kkA{G:List (Nat×List Nat)}{gl:List Addr}{o:Nat}{g:List Nat}{e:Addr}(h:gl.length=G.length):kvOf (G++[(o,g)]) (gl++[e])=kvOf G gl++[(Sum.inl (o:Int), .ref e)]:=by
 unfold kvOf
 rw[List.zipWith_append h.symm]
 rfl
structure Ptd (H H':Hp) (dd:Addr) (gl:List Addr) (G:List (Nat×List Nat)):Prop where
 sm:Same H H'
 nd:gl.Nodup
 fg:∀r∈gl,H r=none∧r≠dd
 dk:H' dd=some (.dK (kvOf G gl))
 ls:P2 (fun r p=>H' r=some (.lst (p.2.map iV))) gl G
theorem Ptd.more{H H':Hp}{dd e:Addr}{gl:List Addr}{G:List (Nat×List Nat)}(h:Ptd H H' dd gl G)(fd:H dd=none)(he:H' e=none){o a:Nat}:
  Ptd H (upd (upd (upd H' e (.lst [])) dd (.dK (kvOf G gl++[(Sum.inl (o:Int), .ref e)]))) e (.lst [iV a])) dd (gl++[e]) (G++[(o,[a])]):=by
 have e0:H e=none:=none_of h.sm he
 have ned:e≠dd:=fun z=>by rw[z,h.dk] at he;cases he
 refine⟨kaw e0 (kaw fd (h.sm.trans (kan he)) (kdh (nx h.dk)))  (kdh (nx kae)),?_,fun r hr=>?_,?_,?_⟩
 ·refine EF.mpr ⟨h.nd,by simp,fun x hx y hy z=>?_⟩
  rw[NT] at hy
  subst hy z
  obtain⟨i,hi⟩:=N9.mp hx
  obtain⟨p,_,hp⟩:=h.ls.at hi
  rw[hp] at he
  cases he
 ·rcases Nk.mp hr with hr|hr
  ·exact h.fg r hr
  ·rw[NT] at hr
   subst hr
   exact⟨e0,ned⟩
 ·rw[kak ned.symm,kae,kkA h.ls.len]
 ·refine P2.snoc (P2.of h.ls.len fun i r p e1 e2=>?_) kae
  have hp:=h.ls.get e1 e2
  rw[kak (kai hp he),kak (h.fg r (JO e1)).2,kak (kai hp he)]
  exact hp
theorem Ptd.put{H H':Hp}{dd e r:Addr}{gl:List Addr}{G:List (Nat×List Nat)}(h:Ptd H H' dd gl G)(he:H' e=none){j o a:Nat}{g:List Nat}(h1:G[j]?=some (o,g))(h2:gl[j]?=some r):
  Ptd H (upd (upd H' e (.lst [])) r (.lst (g.map iV++[iV a]))) dd gl (G.set j (o,g++[a])):=by
 have hr:=h.fg r (JO h2)
 have hrv:=h.ls.get h2 h1
 refine⟨kaw hr.1 (h.sm.trans (kan he)),h.nd,h.fg,?_,P2.of (by rw[Mb];exact h.ls.len) fun i r' p e1 e2=>?_⟩
 ·rw[kak hr.2.symm,kak (kai h.dk he),h.dk,klI h1]
 ·by_cases eji:j=i
  ·subst eji
   rw[h2] at e1
   cases e1
   rw[MG (at_lt h1)] at e2
   cases e2
   rw[kae,JQ]
   rfl
  ·rw[MV eji] at e2
   have hp:=h.ls.get e1 e2
   have hne:r'≠r:=fun z=>by
    subst z
    exact eji ((List.getElem?_inj (at_lt h2) h.nd).mp (h2.trans e1.symm))
   rw[kak hne,kak (kai hp he)]
   exact hp
inductive kie (CS:Addr) (vs:List V) (H:Hp) (Q:VK) (E_:XK):Prop
 |ct (x pa:Addr)(S:Stnd)(is:List Nat)(_:vs=[.ref x, .ref pa])(_:StndIs CS H x S)(_:H pa=some (.lst (is.map iV)))(_:(∀i∈is,i<S.ow.length))(_:is.length≤720)(_:∀(H':Hp)(p:Addr)(gl:List Addr),Same H H'→H p=none→H' p=some (.lst (gl.map V.ref))→P2 (fun r g=>H' r=some (.lst (g.map iV))) gl ((parted (fun i=>S.ow.getD i 0) is).map Prod.snd)→(∀r∈gl,H r=none)→Q (.ref p) H'):kie CS vs H Q E_
theorem P2.mapR{α β γ:Type}{R: α→γ→Prop}{f: β→γ}{as:List α}{bs:List β}(h:P2 (fun a b=>R a (f b)) as bs):P2 R as (bs.map f):=by
 induction h with
 |nil=>exact .nil
 |cons r t ih=>exact .cons r ih
theorem Xo:kas ["standing","pieces","by_line","piece"] ["standing","pieces"] (kah kbT):=by ac_rfl
theorem kd0(W:WB K mg d base):FO P w W 1 d.X3 d.X4 ["standing","pieces"] (kie d.qc):=by
 exists W.ZN.F,Xo
 ·obtain⟨x,pa,S,is,rfl,⟨o,p,mk,⟨dxs,fss,hx,l1,l2,l3,l4,l5⟩,ho,hp,hmk⟩,hpa,hi,hl,k⟩:=h
  refine⟨_,kab (psl (i:=2) Xo.nd klq)
   (kab (kaZ PassesOwn.never rfl (kaE (K:=K) (pv 1)) (pgn (i:=3) Xo.nd)
   (kag (ka1 (pe_bm NK N3 N4 kbd (pe_bm ET ES PySem.F.type_dict_setdefault kgb (pv 2) (kaa (pe_ix (r:=rIxL K) kaO (kaj (K:=K) (pv 0) rfl) (pv 3) (fun _ _=>rfl)) (kaa (kaS kad) kad))) (kaa (pv 3) kad)))))
   (kag (kao (khH rfl (by rfl) W.B.list (pv 2))))),?_⟩
  refine fun dd hd=>?_
  have s1:=kan (o:=.dK []) hd
  refine⟨_,rfl,pa,rfl,⟨_,SqL.of (s1 _ _ hpa)⟩,kaP (K:=K) (a:=pa) (xs:=is.map iV) (fun i σ H'=>(∃v3:Option V,σ=[some (.ref x),some (.ref pa),some (.ref dd),v3])∧∃gl,Ptd H H' dd gl (parted (fun i=>S.ow.getD i 0) (is.take i)))
   ⟨⟨none,rfl⟩,[],s1,by simp,fun r hr=>by simp at hr,kae, .nil⟩ (fun i σ H' _ h=>SqL.of (h.2.choose_spec.sm _ _ hpa)) ?_ ?_⟩
  ·rintro i y σ H1 hy ⟨⟨v3,rfl⟩,gl,Z⟩
   obtain⟨a,ea,rfl⟩:=kbC hy
   have hil:=at_lt ea
   obtain⟨ln,eln⟩:=at_of (hi a (JO ea))
   have eg:S.ow.getD a 0=ln:=by rw[J5,eln];rfl
   have enext:parted (fun i=>S.ow.getD i 0) (is.take (i+1))=ins (parted (fun i=>S.ow.getD i 0) (is.take i)) ln a:=by
    rw[kck ea,keL,eg]
   have lenG:=kfD (fun i=>S.ow.getD i 0) (is.take i)
   rw[Na] at lenG
   have lenK:(kvOf (parted (fun i=>S.ow.getD i 0) (is.take i)) gl).length<sizeLine:=by
    refine kau ?_
    unfold kvOf
    rw[Ed]
    omega
   refine⟨_,rfl, .inr (.inr (.inl ⟨rfl, .inl ⟨_,Z.dk⟩⟩)),_,rfl,x,d.qc,dxs,fss,_,rfl,Z.sm _ _ hx,W.qc.cl,W.qK,l1,_,rfl,o,_,_,_,rfl,rfl,SqL.of (Z.sm _ _ ho),kaY (v:=.int (ln:Nat)) (by rw[JU,eln];rfl),by decide,fun e he=>?_⟩
   have ned:dd≠e:=kai Z.dk he
   refine⟨dd,kvOf (parted (fun i=>S.ow.getD i 0) (is.take i)) gl,(ln:Nat), .ref e,rfl,rfl,by rw[kak ned];exact Z.dk,lenK,fun v hv=>?_,fun hn=>?_⟩
   ·rcases khR (G:=parted (fun i=>S.ow.getD i 0) (is.take i)) ln a Z.ls.len with⟨h1,_⟩|⟨j,g,r,h1,h2,h3,h4⟩
    ·rw[h1] at hv
     cases hv
    ·rw[h3] at hv
     cases hv
     have hrv:=Z.ls.get h2 h1
     have gl20:g.length≤720:=by
      have eg':=(kcV (fun i=>S.ow.getD i 0) (is.take i)).gs ln g (JO h1)
      rw[eg']
      refine JN (MC _ _) ?_
      rw[Na]
      omega
     have hr2:(upd H1 e (.lst [])) r=some (.lst (g.map iV)):=by rw[kak (kai hrv he)];exact hrv
     refine⟨.inl ⟨rfl,_,SqL.of hr2⟩,_,rfl,r,_,_,rfl,rfl,hr2,kau (by rw[JJ];omega),⟨_,rfl⟩,gl,?_⟩
     rw[enext,h4]
     exact Z.put he h1 h2
   ·rcases khR (G:=parted (fun i=>S.ow.getD i 0) (is.take i)) ln a Z.ls.len with⟨_,h4⟩|⟨j,g,r,h1,h2,h3,h4⟩
    ·have he2:(upd (upd H1 e (.lst [])) dd (.dK (kvOf (parted (fun i=>S.ow.getD i 0) (is.take i)) gl++[(Sum.inl ((ln:Nat):Int), .ref e)]))) e=some (.lst []):=by rw[kak ned.symm,kae]
     refine⟨.inl ⟨rfl,_,SqL.of he2⟩,_,rfl,e,[],_,rfl,rfl,he2,by decide,⟨_,rfl⟩,gl++[e],?_⟩
     rw[enext,h4]
     exact Z.more hd he
    ·rw[h3] at hn
     cases hn
  ·rintro σ H1 ⟨⟨v3,rfl⟩,gl,Z⟩
   rw[JJ,Nt] at Z
   refine⟨_,rfl,dd,_,rfl,Z.dk,fun l hl2=>?_⟩
   rw[kiL Z.ls.len]
   refine k _ l gl (Z.sm.trans (kan hl2)) (none_of Z.sm hl2) kae (P2.mapR (f:=Prod.snd) (R:=fun r g=>(upd H1 l (.lst (gl.map V.ref))) r=some (.lst (g.map iV))) (Z.ls.mono fun r p h=>kan hl2 _ _ h)) fun r hr=>(Z.fg r hr).1
inductive kgB (d:D) (vs:List V) (H:Hp) (Q:VK) (E_:XK):Prop
 |ct (x pa:Addr)(S:Stnd)(is:List Nat)(m:Nat)(_:vs=[.ref x, .ref pa, .int m])(_:StndIs d.qc H x S)(_:H pa=some (.lst (is.map iV)))(_:is.Pairwise (· < ·))(_:(∀i∈is,i<S.pr.length))(_:is.length<64)(_:2≤m)(_:m≤20)(_:Tbs d H)(_:∀(H':Hp)(p:Addr)(gl:List Addr),Same H H'→H p=none→H' p=some (.lst (gl.map V.ref))→P2 (fun r g=>H' r=some (.lst (g.map iV))) gl (grp m (fallP S.pr is))→(∀r∈gl,H r=none)→Q (.ref p) H'):kgB d vs H Q E_
theorem km3{pr:List Int}{is:List Nat}{ms:List Int}(hs:is.Pairwise (· < ·))(hp:ms.Perm (is.map fun(i:Nat)=>(i:Int)))(hk:ms.Pairwise fun a b=> -(pr.getD a.toNat 0)< -(pr.getD b.toNat 0)∨(-(pr.getD a.toNat 0)= -(pr.getD b.toNat 0)∧a<b)):ms.map V.int=(fallP pr is).map iV:=by
 have e:ms=(ms.map Int.toNat).map fun(i:Nat)=>(i:Int):=by
  rw[J8]
  conv=>lhs;rw[←List.map_id ms]
  refine NN fun z hz=>?_
  obtain⟨i,_,rfl⟩:=J4.mp (hp.mem_iff.mp hz)
  simp
 have hp2:(ms.map Int.toNat).Perm is:=by
  have:=hp.map Int.toNat
  rw[J8] at this
  have e2:is.map (Int.toNat∘fun(i:Nat)=>(i:Int))=is:=by
   conv=>rhs;rw[←List.map_id is]
   exact NN fun i _=>rfl
  rwa [e2] at this
 have hk2:(ms.map Int.toNat).Pairwise (befP pr):=by
  rw[Ei]
  refine hk.imp_of_mem fun {a b} ha hb h=>?_
  obtain⟨i,_,rfl⟩:=J4.mp (hp.mem_iff.mp ha)
  obtain⟨j,_,rfl⟩:=J4.mp (hp.mem_iff.mp hb)
  unfold befP
  simp only[Int.toNat_natCast] at h⊢
  omega
 rw[e,kjh hs hp2 hk2,J8]
 rfl
theorem VA:kas ["standing","pieces","many","falling"] ["standing","pieces","many"] (kah kaG):=by ac_rfl
theorem kd2(W:WB K mg d base):FO P w W 1 d.X5 d.QK ["standing","pieces","many"] (kgB d):=by
 refine FunD.okC W.QU.F VA (fun vs H Q E h=>?_) (fun A outer s H vs Q E hr h=>?_)
 ·obtain⟨x,pa,S,is,m,rfl,_⟩:=h
  rfl
 ·obtain⟨x,pa,S,is,m,rfl,hS,hpa,hs,hi,h64,hm2,hm20,htb,k⟩:=h
  obtain⟨o,p,mk,⟨dxs,fss,hx,l1,l2,l3,l4,l5⟩,ho,hp,hmk⟩:=id hS
  refine⟨_,kab (psl (i:=3) VA.nd (ki8 (N:=["piece","standing"]) (cap:=[some 0]) (pv 1) ⟨CompScope.of (N:=["piece","standing"]) (cap:=[none,some 0]) (kah kaG).names ["standing","pieces","many","falling"] rfl rfl (by decide +kernel),rfl,rfl,rfl,rfl,by decide +kernel⟩ rfl hr.depth W.code_falling_groups W.ck_falling_groups W.blt (by rfl) W.B.sorted (fun _ _ _ _ _=>rfl) (fun _ _ _ _ _=>(pe_un kjo (pe_ix (r:=rIxL K) kaO (kaj (K:=K) (pv 1) rfl) (pv 0) (fun _ _=>rfl)))) (by rfl)))
   (kag (kao (kcw (N:=["start","falling","many"]) (CompScope.of (N:=["start","falling","many"]) (cap:=[none,some 3,some 2]) (kah kaG).names ["standing","pieces","many","falling"] rfl rfl (by decide +kernel)) rfl (ki7 rfl W.B.range (kaa kaf (kaa (pe_op kb3 (pe_op kdg (kaq (r:=kaK K) kar (by rfl) W.B.len b_len (kaa (pv 3) kad)) (pv 2)) kaf) (kaa (pv 2) kad)))) (fun _ _ _ _=>pgn (i:=0) (show(["start","falling","many"]:List Str).Nodup by decide +kernel)) (fun _ _ _ _=>(kbn (r:=rSlL K) kbR (pv 1) (kbI (pv 0)) (kbI (pe_op kb3 (pv 0) (pv 2)))))))),?_⟩
  have htb':TbAt d.tP_falling_groups H:=htb
  obtain⟨qs0,eT,_⟩:=id htb'
  have npT:∀{b:Addr}{u:HO},H b=some u→(∀ps,u≠.tbl ps)→b≠d.tP_falling_groups:=fun {b u} e hn z=>by
   rw[z,eT] at e
   cases e
   exact hn _ rfl
  have ei:is.map iV=(is.map fun(i:Nat)=>(i:Int)).map V.int:=by rw[J8];rfl
  refine⟨_,rfl,pa,is.map fun(i:Nat)=>(i:Int),fun a=> -(S.pr.getD a.toNat 0),rfl,SqL.of (by rw[←ei];exact hpa),by rw[JJ];exact h64,?_,htb',npT hpa (fun ps z=>by cases z),fun H2 G n hn=>?_,fun H2 l ms G f1 f2 hpm hpw=>?_⟩
  ·rw[Ei]
   exact hs.imp fun {a b} h=>by omega
  ·obtain⟨i,hin,rfl⟩:=J4.mp hn
   obtain⟨z,ez⟩:=at_of (hi i hin)
   have hx2:=G.kp _ _ (npT hx (fun ps z=>by cases z)) hx
   have hp2:=G.kp _ _ (npT hp (fun ps z=>by cases z)) hp
   refine⟨_,rfl,x,d.qc,dxs,fss,_,rfl,hx2,W.qc.cl,W.qA,l2,_,rfl,p,_,_,_,rfl,rfl,SqL.of hp2,kaY (v:=.int z) (by rw[JU,ez];rfl),_,rfl,?_,rfl⟩
   show V.int (-z)=V.int (-(S.pr.getD ((i:Int)).toNat 0))
   rw[Int.toNat_natCast,J5,ez]
   rfl
  have s2:=G.same htb'
  rw[km3 hs hpm hpw]
  have lf:(fallP S.pr is).length=is.length:=(kbJ S.pr is).length_eq
  have s3:=s2.trans (kan (o:=.lst ((fallP S.pr is).map iV)) f2)
  have el:(upd H2 l (.lst ((fallP S.pr is).map iV))) l=some (.lst ((fallP S.pr is).map iV)):=kae
  generalize upd H2 l (.lst ((fallP S.pr is).map iV))=H3 at *
  have ecnt:(Builtin.Range.rangeSize 0 ((((fallP S.pr is).map iV).length:Int)-(m:Int)+1) (m:Int)).toNat=(fallP S.pr is).length/m:=by
   rw[JJ]
   exact khu (by omega)
  have lg:=khT m (fallP S.pr is)
  refine⟨_,rfl,l,_,rfl, .inl (SqL.of el),_,rfl,_,_,rfl,rfl,_,_,rfl,rfl,_,rfl,0,_,_,rfl,by omega,?_,by omega,by omega,?_⟩
  ·rw[JJ]
   omega
  rw[ecnt]
  refine kk2 (n:=(fallP S.pr is).length/m) (fun i σ ys H'=>Same H3 H'∧(∃v0:Option V,σ=[v0,some (.ref l),some (.int m)])∧∃gl,ys=gl.map V.ref∧P2 (fun r g=>H' r=some (.lst (g.map iV))) gl ((grp m (fallP S.pr is)).take i)∧∀r∈gl,H r=none)
   ⟨Same.refl _,⟨none,rfl⟩,[],rfl, .nil,fun r hr=>by simp at hr⟩ ?_ ?_ ?_ ?_
  ·have:(grp m (fallP S.pr is)).length=(fallP S.pr is).length/m:=by simp[grp]
   exact JY (kau (by omega))
  ·rintro i σ ys H' hi' ⟨_,_,gl,rfl,hP,_⟩
   rw[JJ,hP.len,Na]
   have:(grp m (fallP S.pr is)).length=(fallP S.pr is).length/m:=by simp[grp]
   omega
  ·rintro i σ ys H' hi' ⟨s4,⟨v0,rfl⟩,gl,rfl,hP,hfr⟩
   have eg:(grp m (fallP S.pr is))[i]?=some (((fallP S.pr is).drop (i*m)).take m):=by
    unfold grp
    rw[JU,ME hi']
    rfl
   have ecut:cutV ((fallP S.pr is).map iV) (some (0+(i:Int)*(m:Int))) (some (0+(i:Int)*(m:Int)+(m:Int)))=(((fallP S.pr is).drop (i*m)).take m).map iV:=by
    have:=knf ((fallP S.pr is).map iV) (i*m) m
    rw[show(0:Int)+(i:Int)*(m:Int)=((i*m:Nat):Int) by rw[Int.zero_add,Int.natCast_mul],show((i*m:Nat):Int)+(m:Int)=((i*m+m:Nat):Int) by rw[Int.natCast_add],this,Me,MB]
   refine⟨_,rfl,_,rfl,_,rfl,_,rfl,_,rfl,_,_,rfl,rfl,_,rfl,l,_,rfl,SqL.of (s4 _ _ el),fun r hr=>?_⟩
   refine⟨s4.trans (kan hr),⟨_,rfl⟩,gl++[r],by rw[JQ];rfl,?_,fun r' hr'=>?_⟩
   ·rw[kck eg,ecut]
    exact P2.snoc (hP.mono fun r' g e=>kan hr _ _ e) kae
   ·rcases Nk.mp hr' with h|h
    ·exact hfr r' h
    ·rw[NT] at h
     rw[h]
     exact(s3.trans s4).free hr
  ·rintro σ ys H' ⟨s4,⟨v0,rfl⟩,gl,rfl,hP,hfr⟩ D hD
   have el2:(grp m (fallP S.pr is)).length=(fallP S.pr is).length/m:=by simp[grp]
   rw[Md (by omega)] at hP
   exact k _ D gl ((s3.trans s4).trans (kan hD)) ((s3.trans s4).free hD) kae (hP.mono fun r g e=>kan hD _ _ e) hfr
theorem QA:kas ["voucher","standing","pieces","groups","lasts"] ["voucher","standing","pieces"] (kah kbg):=by ac_rfl
theorem kfm(W:WB K mg d base):FO P w W 3 d.X1 d.X2 ["voucher","standing","pieces"] (kic d):=by
 exists W.ZM.F,QA
 ·obtain⟨v,x,pa,⟨so,ms⟩,ps,B,S,rfl,⟨mA,dxv,fsv,hv,lvm,hso,hM,hh,htb⟩,hS,hpa,wf,vo,k⟩:=h
  exists qO,kbX,W
  exists Ub,kd0,W
  exists VB,kd2,W
  exists hr1,1,hr,0
  refine⟨_,kab (ps_if (ka0 (kaq (r:=rIsi K) ka6 (by rfl) W.B.isi b_isi (kaa (pv 0) (kaa (kcv (v:=.ref d.c_Off) (by rfl) W.g_Off rfl) kad)))) (kag (kao (kaS (kaa (kb0 (kaa (kaq (kbP rfl) (by rfl) W.B.min b_min (kaa (kaj (K:=K) (pv 0) rfl) (kaa (pcl qO hr W.qP (kaa (pv 1) (kaa (pv 2) kad))) kad))) (kaa (pv 2) kad))) kad)))) (kap))
   (kab (ps_if (ka0 (kaq (r:=rIsi K) ka6 (by rfl) W.B.isi b_isi (kaa (pv 0) (kaa (kcv (v:=.ref d.qi) (by rfl) W.Vm rfl) kad)))) (kab (psl (i:=3) QA.nd (kmd (keu (ka0 (kaj (K:=K) (pv 0) rfl)) (pcl Ub hr1 W.ZN (kaa (pv 1) (kaa (pv 2) kad))) (kaS (kaa (pv 2) kad)))))
   (kag (kao (kcw (N:=["group","standing","voucher"]) (CompScope.of (N:=["group","standing","voucher"]) (cap:=[none,some 1,some 0]) (kah kbg).names ["voucher","standing","pieces","groups","lasts"] rfl rfl (by decide +kernel)) rfl (kaE (K:=K) (pv 3)) (fun _ _ _ _=>pgn (i:=0) (show(["group","standing","voucher"]:List Str).Nodup by decide +kernel)) (fun _ _ _ _=>(kb0 (kaa (pe_op kaD (pe_op kcy (pcl qO hr W.qP (kaa (pv 1) (kaa (pv 0) kad))) (kaj (K:=K) (pv 2) rfl)) kaf) (kaa (pv 0) kad)))))))) (kap))
   (kab (ps_if (ka0 (kaq (r:=rIsi K) ka6 (by rfl) W.B.isi b_isi (kaa (pv 0) (kaa (kcv (v:=.ref d.qk) (by rfl) W.Vp rfl) kad)))) (kab (kf3 (N:=["group"]) (CompScope.plain rfl (by decide +kernel) (by decide +kernel) (by decide +kernel) (nd1 _)) rfl (kaE (K:=K) (pcl VB hr1 W.QU (kaa (pv 1) (kaa (pv 2) (kaa (kaj (K:=K) (pv 0) rfl) kad))))) (fun _ _ _ _=>pgn (i:=0) (nd1 _)) (fun _ _ _ _=>(pe_ix (r:=rIxL K) kaO (pv 0) (pe_un kjo kaf) (fun _ _=>rfl))) (pgn (i:=4) QA.nd))
   (kag (kao (kcw (N:=["last","standing"]) (CompScope.of (N:=["last","standing"]) (cap:=[none,some 1]) (kah kbg).names ["voucher","standing","pieces","groups","lasts"] rfl rfl (by decide +kernel)) rfl (kaE (K:=K) (pv 4)) (fun _ _ _ _=>pgn (i:=0) (show(["last","standing"]:List Str).Nodup by decide +kernel)) (fun _ _ _ _=>(kb0 (kaa (pe_ix (r:=rIxL K) kaO (kaj (K:=K) (pv 1) rfl) (pv 0) (fun _ _=>rfl)) (kaa (kaS (kaa (pv 0) kad)) kad)))))))) (kap))
   (kab (ps_if (ka0 (kaq (r:=rIsi K) ka6 (by rfl) W.B.isi b_isi (kaa (pv 0) (kaa (kcv (v:=.ref d.qj) (by rfl) W.Vr rfl) kad)))) (kab (psl (i:=3) QA.nd (pcl VB hr1 W.QU (kaa (pv 1) (kaa (pv 2) (kaa (kaj (K:=K) (pv 0) rfl) kad)))))
   (kag (kao (kcw (N:=["group","standing","voucher"]) (CompScope.of (N:=["group","standing","voucher"]) (cap:=[none,some 1,some 0]) (kah kbg).names ["voucher","standing","pieces","groups","lasts"] rfl rfl (by decide +kernel)) rfl (kaE (K:=K) (pv 3)) (fun _ _ _ _=>pgn (i:=0) (show(["group","standing","voucher"]:List Str).Nodup by decide +kernel)) (fun _ _ _ _=>(kb0 (kaa (kaq (kfb rfl) (by rfl) W.B.max b_max (kaa (pe_op kdg (pcl qO hr W.qP (kaa (pv 1) (kaa (pv 0) kad))) (kaj (K:=K) (pv 2) rfl)) (kaa kaf kad))) (kaa (pv 0) kad)))))))) (kap))
   (kag (kao (kaS kad)))))),?_⟩
  have I:=kkH W hh
  exists Y4
  refine⟨_,rfl,_,_,_,_,rfl, .inr ⟨_,rfl⟩,TyOf.ins hv (cl_of W hh) I.ha I.hn I.ht I.hm,kkB W hh,_,rfl,?_⟩
  have lp:=wf.lp
  have np:=wf.np
  have habl:∀i∈abt ps (kds B) ms.kind ms.lone S,i<S.pr.length:=fun i hi=>by rw[lp];exact kfP hi
  have habo:∀i∈abt ps (kds B) ms.kind ms.lone S,i<S.ow.length:=fun i hi=>kfP hi
  have hand:=kff ps (kds B) ms.kind ms.lone S
  have lab:(abt ps (kds B) ms.kind ms.lone S).length≤720:=JN (kd6 _ _ _ _ _) np
  cases so with
  | off am=>
   have qn:=kbi (qs_nn wf.nn (abt ps (kds B) ms.kind ms.lone S))
   have ha:0≤am∧am≤1000000000000:=vo.so
   refine iteT ?_
   symm
   exists Y6
   refine⟨_,rfl,v,d.c_Off,dxv,fsv,_,rfl,hv,W.c_Off.cl,W.Q2,hso,_,rfl,_,rfl,x,pa,S,_,rfl,hS,hpa,habl,lab,fun H1 s1=>?_⟩
   nofun
   exists Y6
   refine⟨_,_,rfl,_,rfl,(by show 2≤sizeLine;decide),fun t ht=>⟨(by show 1≤sizeLine;decide),fun l hl=>?_⟩⟩
   have emin:(if(qs S.pr (abt ps (kds B) ms.kind ms.lone S)).sum<am then(qs S.pr (abt ps (kds B) ms.kind ms.lone S)).sum else am)=min am (qs S.pr (abt ps (kds B) ms.kind ms.lone S)).sum:=by
    split <;> omega
   rw[emin] at hl⊢
   have s2:=s1.trans (kan (o:=.tup [.int (min am (qs S.pr (abt ps (kds B) ms.kind ms.lone S)).sum), .ref pa]) ht)
   have s3:=s2.trans (kan (o:=.lst [.ref t]) hl)
   nofun
   refine k _ l [t] [(min am (qs S.pr (abt ps (kds B) ms.kind ms.lone S)).sum,abt ps (kds B) ms.kind ms.lone S)] s3 (none_of s2 hl) kae (.cons ⟨pa,kan hl _ _ kae,s3 _ _ hpa, .inl rfl⟩ .nil) ?_ ?_ ?_ (by simp) ?_
   ·intro c g hc
    rw[NT] at hc
    cases hc
    nofun
    exact⟨by omega,by omega,lab⟩
   ·simpa using hand
   ·simpa using habl
   ·simp[want]
  | share sh bl=>
   have hsh:1≤sh∧sh≤1000:=vo.so
   refine iteF ?_
   symm
   exists Y6
   refine⟨_,rfl,_,_,_,_,rfl, .inr ⟨_,rfl⟩,TyOf.ins hv (cl_of W hh) I.ha I.hn I.ht I.hm,kbO W hh,_,rfl,iteT ?_⟩
   nofun
   exists Y6
   refine⟨fun gv H1=>∃(gp:Addr)(gl:List Addr)(gs:List (List Nat)),gv=.ref gp∧Same H H1∧H gp=none∧H1 gp=some (.lst (gl.map V.ref))∧P2 (fun r g=>H1 r=some (.lst (g.map iV))) gl gs∧(∀r∈gl,r=pa∨H r=none)∧gs.length≤720∧(∀g∈gs,g.length≤720)∧gs.flatten.Nodup∧(∀i∈gs.flatten,i<S.pr.length)∧
    spr S.pr.length gs.flatten (gs.map fun g=>dl ((qs S.pr g).sum*sh/1000) (qs S.pr g)).flatten=spr S.pr.length (abt ps (kds B) ms.kind ms.lone S) (want (.share sh bl) S.mkd.length ((abt ps (kds B) ms.kind ms.lone S).map fun i=>S.ow.getD i 0) (qs S.pr (abt ps (kds B) ms.kind ms.lone S))),?_,?_⟩
   ·refine⟨_,rfl,v,d.qi,dxv,fsv,_,rfl,hv,W.qi.cl,W.Vn,hso.2,bl,rfl,?_⟩
    cases bl with
    | true=>
     refine iteT ?_
     nofun
     exists Y10
     refine⟨_,rfl,_,rfl,x,pa,S,_,rfl,hS,hpa,habo,lab,fun H1 p gl s1 f1 h1 hP hg=>⟨p,gl,_,rfl,s1,f1,h1,hP,fun r hr=>.inr (hg r hr),?_,?_,?_,?_,?_⟩⟩
     ·rw[JJ]
      exists 4
      exact JN (kfD _ _) lab
     ·intro g hg'
      rw[(kcV (fun i=>S.ow.getD i 0) (abt ps (kds B) ms.kind ms.lone S)).snds] at hg'
      obtain⟨l,_,rfl⟩:=J4.mp hg'
      exists 4
      exact JN (MC _ _) lab
     ·have ok:=kcV (fun i=>S.ow.getD i 0) (abt ps (kds B) ms.kind ms.lone S)
      rw[ok.snds]
      exists 4
      exact keK (f:=fun i=>S.ow.getD i 0) hand ok.nd
     ·intro i hi
      rw[(kcV (fun i=>S.ow.getD i 0) (abt ps (kds B) ms.kind ms.lone S)).snds] at hi
      obtain⟨g,hg',hi'⟩:=N2.mp hi
      obtain⟨l,_,rfl⟩:=J4.mp hg'
      exists 4
      exact habl i (Nh.mp hi').1
     ·refine kja (fun z=>z*sh/1000) hand fun i hi=>?_
      obtain⟨ln,eln⟩:=at_of (habo i hi)
      rw[J5,eln,wf.lm]
      exists 4
      exact wf.line eln
    |false=>
     refine iteF ?_
     nofun
     exists Y10
     refine⟨_,rfl,(by show 1≤sizeLine;decide),fun p hp=>⟨p,[pa],[abt ps (kds B) ms.kind ms.lone S],rfl,kan hp,hp,kae, .cons (kan hp _ _ hpa) .nil,fun r hr=>.inl (by simpa using hr),by simp,fun g hg=>?_,by simpa using hand,by simpa using habl,by simp[want]⟩⟩
     rw[NT] at hg
     rw[hg]
     exists 4
     exact lab
   rintro gv H1 ⟨gp,gl,gs,rfl,s1,f1,h1,hP,hor,lgs,lg,gnd,glt,gsp⟩
   have lgl:=hP.len
   have gok:∀g∈gs,∀i∈g,i<S.pr.length:=fun g hg i hi=>glt i (N2.mpr ⟨g,hg,hi⟩)
   nofun
   exists Y6
   refine⟨_,rfl,gp,rfl,⟨_,SqL.of h1⟩,kbf (xs:=gl.map V.ref) (fun i σ ys H'=>Same H1 H'∧(∃v0:Option V,σ=[v0,some (.ref x),some (.ref v)])∧∃tl,ys=tl.map V.ref∧P2 (GrpAt H H' pa) tl ((gs.take i).map fun g=>((qs S.pr g).sum*sh/1000,g)))
    ⟨Same.refl _,⟨none,rfl⟩,[],rfl, .nil⟩ (by rw[JJ];exact JY (kau (by omega))) ?_ ?_ ?_⟩
   ·rintro i σ ys H2 hi ⟨s2,_,tl,rfl,hT⟩
    nofun
    exists Y8
    refine⟨SqL.of (s2 _ _ h1),?_⟩
    rw[JJ,hT.len,JJ,Na]
    rw[JJ] at hi
    omega
   ·rintro i y σ ys H2 hy ⟨s2,⟨v0,rfl⟩,tl,rfl,hT⟩
    obtain⟨r,er,rfl⟩:=kbj hy
    obtain⟨g,eg,hr⟩:=hP.at er
    have s12:=s1.trans s2
    have hg:=JO eg
    have sn:=kbi (qs_nn wf.nn g)
    have sl:=kiw wf (lg g hg) (gok g hg)
    exists 3
    exists Y8
    refine⟨_,rfl,_,rfl,x,r,S,g,rfl,hS.same s12,s2 _ _ hr,gok g hg,lg g hg,fun H3 s3=>?_⟩
    have s13:=s12.trans s3
    exists 3
    exists Y8
    refine⟨_,rfl,v,d.qi,dxv,fsv,_,rfl,s13 _ _ hv,W.qi.cl,W.Q4,hso.1,_,_,rfl,rfl, .inl ⟨by omega,by omega⟩,_,_,rfl,rfl,⟨by decide,by decide⟩,_,rfl,(by show 2≤sizeLine;decide),fun t ht=>?_⟩
    have s4:=kan (o:=.tup [.int ((qs S.pr g).sum*sh/1000), .ref r]) ht
    exists 3
    exists Y8
    refine⟨(s2.trans s3).trans s4,⟨_,rfl⟩,tl++[t],by rw[JQ];rfl,?_⟩
    rw[kck eg,JQ]
    exists 3
    refine P2.snoc (hT.mono fun t' q ⟨ga,a1,a2,a3⟩=>⟨ga,(s3.trans s4) _ _ a1,(s3.trans s4) _ _ a2,a3⟩) ⟨r,kae,((s2.trans s3).trans s4) _ _ hr,hor r (JO er)⟩
   ·rintro σ ys H2 ⟨s2,⟨v0,rfl⟩,tl,rfl,hT⟩ D hD
    rw[JJ,lgl,Nt] at hT
    have s3:=kan (o:=.lst (tl.map V.ref)) hD
    have e1:(gs.map fun g=>((qs S.pr g).sum*sh/1000,g)).map Prod.snd=gs:=by
     rw[J8]
     exists 3
     exact List.map_id' gs
    exists 3
    refine k _ D tl _ ((s1.trans s2).trans s3) (none_of (s1.trans s2) hD) kae (hT.mono fun t' q ⟨ga,a1,a2,a3⟩=>⟨ga,s3 _ _ a1,s3 _ _ a2,a3⟩) ?_ (by rw[e1];exact gnd) (by rw[e1];exact glt) (by rw[JJ];exact lgs) ?_
    ·intro c g hc
     obtain⟨g',hg',e⟩:=J4.mp hc
     cases e
     have sn:=kbi (qs_nn wf.nn g)
     have:=kdr sn hsh.1 hsh.2
     exists 3
     exact⟨this.1,this.2,lg g hg'⟩
    ·rw[e1,J8]
     exists 3
     exact gsp
  | cheap n=>
   have hn:2≤n∧n≤20:=vo.so
   obtain⟨m,rfl⟩:∃m:Nat,n=m:=⟨n.toNat,by omega⟩
   refine iteF ?_
   symm
   refine⟨_,rfl,_,_,_,_,rfl, .inr ⟨_,rfl⟩,TyOf.ins hv (cl_of W hh) I.ha I.hn I.ht I.hm,kbO W hh,_,rfl,iteF ⟨_,rfl,_,_,_,_,rfl, .inr ⟨_,rfl⟩,TyOf.ins hv (cl_of W hh) I.ha I.hn I.ht I.hm,kbt W hh,_,rfl,iteT ?_⟩⟩
   have hpw:(abt ps (kds B) ms.kind ms.lone S).Pairwise (· < ·):=NO.filter _ Ej
   have l64:(abt ps (kds B) ms.kind ms.lone S).length<64:=N7 (kd6 _ _ _ _ _) wf.n64
   symm
   exists Y6
   refine⟨_,rfl,_,rfl,_,rfl,v,d.qk,dxv,fsv,_,rfl,hv,W.qk.cl,W.Q6,hso,x,pa,S,_,m,rfl,hS,hpa,hpw,habl,l64,by omega,by omega,htb,fun H1 gp gl s1 f1 h1 hP0 hg=>?_⟩
   have hP:P2 (fun r g=>H1 r=some (.lst (g.map iV))) gl (grp m (fallP S.pr (abt ps (kds B) ms.kind ms.lone S))):=hP0
   clear hP0
   have lgl:=hP.len
   have lG:=khT m (fallP S.pr (abt ps (kds B) ms.kind ms.lone S))
   have lf:(fallP S.pr (abt ps (kds B) ms.kind ms.lone S)).length=(abt ps (kds B) ms.kind ms.lone S).length:=(kbJ _ _).length_eq
   have hgr:∀{i:Nat}{g:List Nat},(grp m (fallP S.pr (abt ps (kds B) ms.kind ms.lone S)))[i]?=some g→0<g.length∧g[g.length-1]?=some (g.getLastD 0)∧g.getLastD 0∈abt ps (kds B) ms.kind ms.lone S:=fun {i g} eg=>by
    obtain⟨h1,h2,h3⟩:=kg9 eg
    have h4:=keY (by omega) eg
    nofun
    exists Y8
    refine⟨by omega,?_,(kbJ _ _).mem_iff.mp (JO h4)⟩
    rw[h2,h3 _ (by omega)]
    exists 3
    exact h4
   have hla:∀a∈lasts (grp m (fallP S.pr (abt ps (kds B) ms.kind ms.lone S))),a∈abt ps (kds B) ms.kind ms.lone S:=fun a ha=>by
    obtain⟨g,hg',rfl⟩:=J4.mp ha
    obtain⟨j,hj⟩:=N9.mp hg'
    nofun
    exact(hgr hj).2.2
   nofun
   exists Y6
   refine⟨gp,rfl,⟨_,SqL.of h1⟩,kbf (xs:=gl.map V.ref) (fun i σ ys H'=>Same H1 H'∧(∃v0:Option V,σ=[v0])∧ys=((lasts (grp m (fallP S.pr (abt ps (kds B) ms.kind ms.lone S)))).take i).map iV)
    ⟨Same.refl _,⟨none,rfl⟩,rfl⟩ (by rw[JJ];exact JY (kau (by omega))) ?_ ?_ ?_⟩
   ·rintro i σ ys H2 hi ⟨s2,_,rfl⟩
    nofun
    exists Y8
    refine⟨SqL.of (s2 _ _ h1),?_⟩
    rw[JJ,Na,kdG]
    rw[JJ] at hi
    omega
   ·rintro i y σ ys H2 hy ⟨s2,⟨v0,rfl⟩,rfl⟩
    obtain⟨r,er,rfl⟩:=kbj hy
    obtain⟨g,eg,hr⟩:=hP.at er
    obtain⟨g0,g1,g2⟩:=hgr eg
    have al:atI (g.map iV) (-1)=some (iV (g.getLastD 0)):=kla (by rw[JJ,JU,g1];rfl) (by rw[JJ];exact g0)
    exists 3
    exists Y8
    refine⟨_,rfl,1,rfl,r,_,_,_,rfl,rfl,SqL.of (s2 _ _ hr),al,s2,⟨_,rfl⟩,?_⟩
    rw[kck (r:=g.getLastD 0) (by unfold lasts;rw[JU,eg];rfl),JQ]
    rfl
   rintro σ ys H2 ⟨s2,⟨v0,rfl⟩,rfl⟩ D hD
   rw[JJ,lgl,Md (by rw[kdG];exact JK _)]
   have s3:=s2.trans (kan (o:=.lst ((lasts (grp m (fallP S.pr (abt ps (kds B) ms.kind ms.lone S)))).map iV)) hD)
   have fD:H D=none:=none_of (s1.trans s2) hD
   have eD:(upd H2 D (.lst ((lasts (grp m (fallP S.pr (abt ps (kds B) ms.kind ms.lone S)))).map iV))) D=some (.lst ((lasts (grp m (fallP S.pr (abt ps (kds B) ms.kind ms.lone S)))).map iV)):=kae
   generalize upd H2 D (.lst ((lasts (grp m (fallP S.pr (abt ps (kds B) ms.kind ms.lone S)))).map iV))=H3 at *
   obtain⟨o,p,mk,⟨dxs,fss,hx,l1,l2,l3,l4,l5⟩,ho,hp,hmk⟩:=id hS
   have s13:=s1.trans s3
   have lL:=kdG (grp m (fallP S.pr (abt ps (kds B) ms.kind ms.lone S)))
   nofun
   exists Y6
   refine⟨_,rfl,D,rfl,⟨_,SqL.of eD⟩,kbf (xs:=(lasts (grp m (fallP S.pr (abt ps (kds B) ms.kind ms.lone S)))).map iV) (fun i σ ys H'=>Same H3 H'∧(∃v0:Option V,σ=[v0,some (.ref x)])∧∃tl,ys=tl.map V.ref∧P2 (GrpAt H H' pa) tl (((lasts (grp m (fallP S.pr (abt ps (kds B) ms.kind ms.lone S)))).take i).map fun a=>(S.pr.getD a 0,[a])))
    ⟨Same.refl _,⟨none,rfl⟩,[],rfl, .nil⟩ (by rw[JJ];exact JY (kau (by omega))) ?_ ?_ ?_⟩
   ·rintro i σ ys H4 hi ⟨s4,_,tl,rfl,hT⟩
    nofun
    exists Y8
    refine⟨SqL.of (s4 _ _ eD),?_⟩
    rw[JJ,hT.len,JJ,Na]
    rw[JJ] at hi
    omega
   ·rintro i y σ ys H4 hy ⟨s4,⟨v0,rfl⟩,tl,rfl,hT⟩
    obtain⟨a,ea,rfl⟩:=kbC hy
    have ha:=hla a (JO ea)
    obtain⟨z,ez⟩:=at_of (habl a ha)
    have ez':S.pr.getD a 0=z:=by rw[J5,ez];rfl
    have s14:=s13.trans s4
    exists 3
    exists Y8
    refine⟨_,rfl,x,d.qc,dxs,fss,_,rfl,s14 _ _ hx,W.qc.cl,W.qA,l2,_,rfl,p,_,_,_,rfl,rfl,SqL.of (s14 _ _ hp),kaY (v:=.int z) (by rw[JU,ez];rfl),_,rfl,(by show 1≤sizeLine;decide),fun q hq=>⟨(by show 2≤sizeLine;decide),fun t ht=>?_⟩⟩
    have s5:=(kan (o:=.lst [iV a]) hq).trans (kan (o:=.tup [.int z, .ref q]) ht)
    exists 3
    exists Y8
    refine⟨s4.trans s5,⟨_,rfl⟩,tl++[t],by rw[JQ];rfl,?_⟩
    rw[kck ea,JQ]
    exists 3
    exact P2.snoc (hT.mono fun t' q' ⟨ga,a1,a2,a3⟩=>⟨ga,s5 _ _ a1,s5 _ _ a2,a3⟩) ⟨q,by show upd _ _ _ _=some (.tup [.int (S.pr.getD a 0), .ref q]);rw[ez'];exact kae,kan ht _ _ kae, .inr (none_of s14 hq)⟩
   ·rintro σ ys H4 ⟨s4,⟨v0,rfl⟩,tl,rfl,hT⟩ D2 hD2
    rw[JJ,Nt] at hT
    have s5:=kan (o:=.lst (tl.map V.ref)) hD2
    have e1:((lasts (grp m (fallP S.pr (abt ps (kds B) ms.kind ms.lone S)))).map fun a=>(S.pr.getD a 0,[a])).map Prod.snd=(lasts (grp m (fallP S.pr (abt ps (kds B) ms.kind ms.lone S)))).map fun a=>[a]:=by
     rw[J8]
     rfl
    have e2:=kjV (fun i=>S.pr.getD i 0) (lasts (grp m (fallP S.pr (abt ps (kds B) ms.kind ms.lone S))))
    exists 3
    refine k _ D2 tl _ ((s13.trans s4).trans s5) (none_of (s13.trans s4) hD2) kae (hT.mono fun t' q ⟨ga,a1,a2,a3⟩=>⟨ga,s5 _ _ a1,s5 _ _ a2,a3⟩) ?_ (by rw[e1,e2.1];exact keX (by omega) (ke4 hand)) (by rw[e1,e2.1];exact fun i hi=>habl i (hla i hi)) (by rw[JJ];omega) ?_
    ·intro c g hc
     obtain⟨a,ha,e⟩:=J4.mp hc
     cases e
     have q0:(qs S.pr [a]).sum=S.pr.getD a 0:=by simp[qs]
     have q1:=kbi (qs_nn wf.nn [a])
     rw[q0] at q1⊢
     exists 3
     exact⟨q1,Int.le_refl _,by simp⟩
    ·rw[e1,e2.1,J8]
     have e3:(lasts (grp m (fallP S.pr (abt ps (kds B) ms.kind ms.lone S)))).map ((fun p=>dl p.1 (qs S.pr p.2))∘fun a=>(S.pr.getD a 0,[a]))=(lasts (grp m (fallP S.pr (abt ps (kds B) ms.kind ms.lone S)))).map fun a=>[S.pr.getD a 0]:=
      NN fun a _=>knN _
     rw[e3,e2.2]
     exists 3
     exact(kk5 (by omega) hand).symm
  | bund n pc=>
   have hn:2≤n∧n≤20∧0≤pc∧pc≤1000000000000:=vo.so
   obtain⟨m,rfl⟩:∃m:Nat,n=m:=⟨n.toNat,by omega⟩
   refine iteF ?_
   symm
   refine⟨_,rfl,_,_,_,_,rfl, .inr ⟨_,rfl⟩,TyOf.ins hv (cl_of W hh) I.ha I.hn I.ht I.hm,kbO W hh,_,rfl,iteF ⟨_,rfl,_,_,_,_,rfl, .inr ⟨_,rfl⟩,TyOf.ins hv (cl_of W hh) I.ha I.hn I.ht I.hm,kbt W hh,_,rfl,iteF ⟨_,rfl,_,_,_,_,rfl, .inr ⟨_,rfl⟩,TyOf.ins hv (cl_of W hh) I.ha I.hn I.ht I.hm,kda W hh,_,rfl,iteT ?_⟩⟩⟩
   have hpw:(abt ps (kds B) ms.kind ms.lone S).Pairwise (· < ·):=NO.filter _ Ej
   have l64:(abt ps (kds B) ms.kind ms.lone S).length<64:=N7 (kd6 _ _ _ _ _) wf.n64
   symm
   exists Y6
   refine⟨_,rfl,_,rfl,_,rfl,v,d.qj,dxv,fsv,_,rfl,hv,W.qj.cl,W.Vt,hso.1,x,pa,S,_,m,rfl,hS,hpa,hpw,habl,l64,by omega,by omega,htb,fun H1 gp gl s1 f1 h1 hP0 hg=>?_⟩
   have hP:P2 (fun r g=>H1 r=some (.lst (g.map iV))) gl (grp m (fallP S.pr (abt ps (kds B) ms.kind ms.lone S))):=hP0
   clear hP0
   have lgl:=hP.len
   have lG:=khT m (fallP S.pr (abt ps (kds B) ms.kind ms.lone S))
   have lf:(fallP S.pr (abt ps (kds B) ms.kind ms.lone S)).length=(abt ps (kds B) ms.kind ms.lone S).length:=(kbJ _ _).length_eq
   have gin:∀g∈grp m (fallP S.pr (abt ps (kds B) ms.kind ms.lone S)),∀i∈g,i∈abt ps (kds B) ms.kind ms.lone S:=fun g hg' i hi=>(kbJ _ _).mem_iff.mp (khS hg' i hi)
   have gok:∀g∈grp m (fallP S.pr (abt ps (kds B) ms.kind ms.lone S)),∀i∈g,i<S.pr.length:=fun g hg' i hi=>habl i (gin g hg' i hi)
   have lg:∀g∈grp m (fallP S.pr (abt ps (kds B) ms.kind ms.lone S)),g.length≤720:=fun g hg'=>by
    obtain⟨j,hj⟩:=N9.mp hg'
    have:=(kg9 hj).2.1
    omega
   generalize egs:grp m (fallP S.pr (abt ps (kds B) ms.kind ms.lone S))=gs at *
   nofun
   exists Y6
   refine⟨_,rfl,gp,rfl,⟨_,SqL.of h1⟩,kbf (xs:=gl.map V.ref) (fun i σ ys H'=>Same H1 H'∧(∃v0:Option V,σ=[v0,some (.ref x),some (.ref v)])∧∃tl,ys=tl.map V.ref∧P2 (GrpAt H H' pa) tl ((gs.take i).map fun g=>(max 0 ((qs S.pr g).sum-pc),g)))
    ⟨Same.refl _,⟨none,rfl⟩,[],rfl, .nil⟩ (by rw[JJ];exact JY (kau (by omega))) ?_ ?_ ?_⟩
   ·rintro i σ ys H2 hi ⟨s2,_,tl,rfl,hT⟩
    nofun
    exists Y8
    refine⟨SqL.of (s2 _ _ h1),?_⟩
    rw[JJ,hT.len,JJ,Na]
    rw[JJ] at hi
    omega
   ·rintro i y σ ys H2 hy ⟨s2,⟨v0,rfl⟩,tl,rfl,hT⟩
    obtain⟨r,er,rfl⟩:=kbj hy
    obtain⟨g,eg,hr⟩:=hP.at er
    have s12:=s1.trans s2
    have hg':=JO eg
    have sn:=kbi (qs_nn wf.nn g)
    exists 3
    exists Y8
    refine⟨_,rfl,_,rfl,x,r,S,g,rfl,hS.same s12,s2 _ _ hr,gok g hg',lg g hg',fun H3 s3=>?_⟩
    have s13:=s12.trans s3
    exists 3
    exists Y8
    refine⟨_,rfl,v,d.qj,dxv,fsv,_,rfl,s13 _ _ hv,W.qj.cl,W.Vu,hso.2,_,_,rfl,rfl,?_⟩
    exists 3
    exists Y8
    refine⟨_,_,rfl,_,rfl,(by show 2≤sizeLine;decide),fun t ht=>?_⟩
    have emax:(if(0:Int) > (qs S.pr g).sum-pc then 0 else(qs S.pr g).sum-pc)=max 0 ((qs S.pr g).sum-pc):=by
     split <;> omega
    rw[emax]
    have s4:=kan (o:=.tup [.int (max 0 ((qs S.pr g).sum-pc)), .ref r]) ht
    exists 3
    exists Y8
    refine⟨(s2.trans s3).trans s4,⟨_,rfl⟩,tl++[t],by rw[JQ];rfl,?_⟩
    rw[kck eg,JQ]
    exists 3
    refine P2.snoc (hT.mono fun t' q ⟨ga,a1,a2,a3⟩=>⟨ga,(s3.trans s4) _ _ a1,(s3.trans s4) _ _ a2,a3⟩) ⟨r,kae,((s2.trans s3).trans s4) _ _ hr, .inr (hg r (JO er))⟩
   ·rintro σ ys H2 ⟨s2,⟨v0,rfl⟩,tl,rfl,hT⟩ D hD
    rw[JJ,lgl,Nt] at hT
    have s3:=kan (o:=.lst (tl.map V.ref)) hD
    have e1:(gs.map fun g=>(max 0 ((qs S.pr g).sum-pc),g)).map Prod.snd=gs:=by
     rw[J8]
     exists 3
     exact List.map_id' gs
    exists 3
    refine k _ D tl _ ((s1.trans s2).trans s3) (none_of (s1.trans s2) hD) kae (hT.mono fun t' q ⟨ga,a1,a2,a3⟩=>⟨ga,s3 _ _ a1,s3 _ _ a2,a3⟩) ?_ (by rw[e1,←egs];exact kg8 (ke4 hand)) (by rw[e1];intro i hi;obtain⟨g,hg',hi'⟩:=N2.mp hi;exact gok g hg' i hi') (by rw[JJ];omega) ?_
    ·intro c g hc
     obtain⟨g',hg',e⟩:=J4.mp hc
     cases e
     have sn:=kbi (qs_nn wf.nn g)
     exists 3
     exact⟨by omega,by omega,lg g hg'⟩
    ·rw[e1,J8,←egs]
     exists 3
     exact(klV (fun z=>max 0 (z-pc)) hand).symm
  |carr=>
   refine iteF ?_
   symm
   refine⟨_,rfl,_,_,_,_,rfl, .inr ⟨_,rfl⟩,TyOf.ins hv (cl_of W hh) I.ha I.hn I.ht I.hm,kbO W hh,_,rfl,iteF ⟨_,rfl,_,_,_,_,rfl, .inr ⟨_,rfl⟩,TyOf.ins hv (cl_of W hh) I.ha I.hn I.ht I.hm,kbt W hh,_,rfl,iteF ⟨_,rfl,_,_,_,_,rfl, .inr ⟨_,rfl⟩,TyOf.ins hv (cl_of W hh) I.ha I.hn I.ht I.hm,kda W hh,_,rfl,iteF ?_⟩⟩⟩
   symm
   refine⟨by decide,fun l hl=>?_⟩
   symm
   refine k _ l [] [] (kan hl) hl kae .nil (fun c g hc=>by simp at hc) (by simp) (by simp) (by simp) ?_
   symm
   exact(spr_zero (k:=0)).trans spr_zero.symm
inductive kjS (K:JL) (d:D) (vs:List V) (H:Hp) (Q:VK) (E_:XK):Prop
 |ct (v a b x:Addr)(V:Vch)(ps:List (Option Nat))(B:Bask)(S:Stnd)(_:vs=[.ref v, .ref a, .ref b, .ref x])(_:VchIs d H v V)(_:SqL K H a (ps.map pV))(_:BaskIs d.qe d.qg H b B)(_:StndIs d.qc H x S)(_:Wf ps B S)(_:VchOk ps V)(_:∀(H':Hp)(p:Addr),Same H H'→H p=none→H' p=some (.lst ((cutM V ps (kds B) S).1.map L2.V.int))→Q (.ref p) H'):kjS K d vs H Q E_
theorem qI:kas ["voucher","parents","basket","standing","pieces","wanted","cut","group","piece","part","most"] ["voucher","parents","basket","standing"] (kah kbV):=by ac_rfl
theorem kd3(W:WB K mg d base):FO P w W 4 d.XX d.XY ["voucher","parents","basket","standing"] (kjS K d):=by
 exists W.ZK.F,qI
 ·obtain⟨v,a,b,x,Vc,ps,B,S,rfl,hV,hA,hB,hS,wf,vo,k⟩:=h
  exists Qi,kf7,W
  exists Uc,kfm,W
  exists VC,klz,W
  exists Xl,keb,W
  exists hr1,1,hr,0
  refine⟨_,kab (psl (i:=4) qI.nd (pcl Qi hr W.Qr (kaa (pv 0) (kaa (pv 1) (kaa (pv 2) (kaa (pv 3) kad))))))
   (kab (kf3 (N:=["price"]) (CompScope.plain rfl (by decide +kernel) (by decide +kernel) (by decide +kernel) (nd1 _)) rfl (kaE (K:=K) (kaj (K:=K) (pv 3) rfl)) (fun _ _ _ _=>pgn (i:=0) (nd1 _)) (fun _ _ _ _=>kaf) (pgn (i:=5) qI.nd))
   (kab (kaZ PassesOwn.never rfl (kaE (K:=K) (pcl Uc hr W.ZM (kaa (pv 0) (kaa (pv 3) (kaa (pv 4) kad))))) (kbb (K:=K) (n:=2) rfl (kay (pgn (i:=6) qI.nd) (kay (pgn (i:=7) qI.nd) kba)))
   (kag (kaZ PassesOwn.never rfl (kdX rfl W.B.zip (kaa (pv 7) (kaa (pcl VC hr1 W.QT (kaa (pv 6) (kaa (pcl Xl hr1 W.QV (kaa (pv 3) (kaa (pv 7) kad))) kad))) kad))) (kbb (K:=K) (n:=2) rfl (kay (pgn (i:=8) qI.nd) (kay (pgn (i:=9) qI.nd) kba)))
   (kag (kdf (pv 9) (kfB (pv 5) (pv 8) set_list))))))
   (kab (psl (i:=10) qI.nd (kaj (K:=K) (kaj (K:=K) (pv 0) rfl) rfl))
   (kab (ps_if (PW.pt (ka7 (kam kdY (pv 10) kby (kat _)) (kaV (kam op_gt (kaq (r:=rSum K) (kcM rfl) (by rfl) W.B.sum b_sum (kaa (pv 5) kad)) (pv 10) (kat _))))) (kag (kao (pcl VC hr1 W.QT (kaa (pv 10) (kaa (pv 5) kad))))) (kap))
   (kag (kao (pv 5))))))),?_⟩
  have np:=wf.np
  have lp:=wf.lp
  exists Y4
  refine⟨_,rfl,_,rfl,_,rfl,_,rfl,v,a,b,x,Vc,ps,B,S,rfl,hV,hA,hB,hS,wf,vo,fun H1 pa s1 f1 h1=>?_⟩
  have habl:∀i∈abt ps (kds B) Vc.ms.kind Vc.ms.lone S,i<S.pr.length:=fun i hi=>by rw[lp];exact kfP hi
  have hand:=kff ps (kds B) Vc.ms.kind Vc.ms.lone S
  have lab:(abt ps (kds B) Vc.ms.kind Vc.ms.lone S).length≤720:=JN (kd6 _ _ _ _ _) np
  obtain⟨o,p,mk,⟨dxs,fss,hx,l1,l2,l3,l4,l5⟩,ho,hp,hmk⟩:=id (hS.same s1)
  symm
  exists Y4
  refine⟨_,rfl,x,d.qc,dxs,fss,_,rfl,hx,W.qc.cl,W.qA,l2,p,rfl,⟨_,SqL.of hp⟩,kbf (xs:=S.pr.map V.int) (fun i σ ys H'=>H'=H1∧ys=(JR i (0:Int)).map V.int∧∃v,σ=[v]) ⟨rfl,rfl,none,rfl⟩ ?_ ?_ ?_ ?_⟩
  ·rw[JJ]
   symm
   exact JY (kau (by omega))
  ·rintro i σ ys H' hi ⟨rfl,rfl,_⟩
   symm
   exact⟨SqL.of hp,by simp⟩
  ·rintro i y σ ys H' hy ⟨rfl,rfl,v,rfl⟩
   symm
   exact⟨rfl,by rw[El,JQ];rfl,_,rfl⟩
  rintro σ ys H' ⟨rfl,rfl,v0,rfl⟩ w hw
  rw[JJ]
  have s2:=s1.trans (kan (o:=.lst ((JR S.pr.length (0:Int)).map V.int)) hw)
  have hw0:H w=none:=none_of s1 hw
  have ew:(upd H' w (.lst ((JR S.pr.length (0:Int)).map V.int))) w=some (.lst ((JR S.pr.length (0:Int)).map V.int)):=kae
  have h1o:=h1
  have h1:=kan (o:=.lst ((JR S.pr.length (0:Int)).map V.int)) hw _ _ h1
  have nw:pa≠w:=kai h1o hw
  generalize upd H' w (.lst ((JR S.pr.length (0:Int)).map V.int))=H2 at *
  symm
  exists Y4
  refine⟨_,rfl,_,rfl,_,rfl,v,x,pa,Vc,ps,B,S,rfl,hV.same s2,hS.same s2,h1,wf,vo,fun H3 gp tl gl s3 f3 h3 hP hc hnd hlt hgl hsp=>?_⟩
  have s03:=s2.trans s3
  have e3:=s3 _ _ ew
  have ngw:gp≠w:=fun e=>by rw[e,ew] at f3;cases f3
  symm
  exists Y4
  refine⟨gp,rfl,⟨_,SqL.of h3⟩,kaP (K:=K) (a:=gp) (xs:=tl.map V.ref) (fun i σ H'=>(∃v8 v9 v10 v11 v12:Option V,σ=[some (.ref v),some (.ref a),some (.ref b),some (.ref x),some (.ref pa),some (.ref w),v8,v9,v10,v11,v12])∧But w H3 H'∧
    H' w=some (.lst ((spr S.pr.length ((gl.take i).map Prod.snd).flatten ((gl.take i).map fun p=>dl p.1 (qs S.pr p.2)).flatten).map V.int)))
   ⟨⟨none,none,none,none,none,rfl⟩,But.refl,by rw[e3];simp[kjA]⟩ (fun i σ H' _ h=>SqL.of (h.2.1 _ _ ngw h3)) ?_ ?_⟩
  ·rintro i y σ H4 hy ⟨⟨v8,v9,v10,v11,v12,rfl⟩,b4,h4⟩
   obtain⟨t,et,rfl⟩:=kbj hy
   obtain⟨⟨c,g⟩,eg,ga,ht,hga,hor⟩:=hP.at et
   have hcg:=hc c g (JO eg)
   have hgl':∀i∈g,i<S.pr.length:=fun j hj=>hlt j (N2.mpr ⟨g,J4.mpr ⟨(c,g),JO eg,rfl⟩,hj⟩)
   have ngaw:ga≠w:=by
    rcases hor with rfl|hor
    ·exact nw
    ·exact fun e=>by rw[e,ew] at hor;cases hor
   have ntw:t≠w:=ne_of ht e3 (by intro z;cases z)
   have htt:H4 t=some (.tup [.int c, .ref ga]):=b4 _ _ ntw ht
   have hgg:H4 ga=some (.lst (g.map iV)):=b4 _ _ ngaw hga
   symm
   exists Y6
   refine⟨t,_,rfl,SqT.of htt,rfl,_,_,rfl,_,_,rfl,rfl,?_⟩
   have hS4:StndIs d.qc H4 x S:=by
    nofun
    exact StndIs.same (H:=H) (kir hw0 s03 b4) hS
   have gnn:=qs_nn wf.nn g
   have gsum:=kiw wf hcg.2.2 hgl'
   have hg720:=hcg.2.2
   nofun
   exists Y6
   refine⟨_,rfl,_,rfl,_,rfl,_,rfl,x,ga,S,g,rfl,hS4,hgg,hgl',hg720,fun p5 hp5=>?_⟩
   have s5:=kan (o:=.lst ((qs S.pr g).map V.int)) hp5
   nofun
   exists Y6
   refine⟨c,p5,qs S.pr g,rfl,SqL.of kae,gnn,by omega,hcg.1,by omega,by rw[kbs];omega,fun p6 hp6=>?_⟩
   have s6:=s5.trans (kan (o:=.lst ((dl c (qs S.pr g)).map V.int)) hp6)
   have h6:(upd (upd H4 p5 (.lst ((qs S.pr g).map V.int))) p6 (.lst ((dl c (qs S.pr g)).map V.int))) p6=some (.lst ((dl c (qs S.pr g)).map V.int)):=kae
   have n6:H4 p6=none:=none_of s5 hp6
   generalize upd (upd H4 p5 (.lst ((qs S.pr g).map V.int))) p6 (.lst ((dl c (qs S.pr g)).map V.int))=H6 at *
   have b6:=b4.same s6
   have w6:=s6 _ _ h4
   have n6w:p6≠w:=fun e=>by rw[e,h4] at n6;cases n6
   have ldl:(dl c (qs S.pr g)).length=g.length:=by rw[ke8,kbs]
   have emin:min (g.map iV).length ((dl c (qs S.pr g)).map V.int).length=g.length:=by rw[JJ,JJ,ldl,Mt]
   have ndt:∀(j n:Nat),g[j]?=some n→(((gl.take i).map Prod.snd).flatten++g.take j++[n]).Nodup:=fun j n hj=>by
    rw[Me]
    nofun
    exact keA hnd (i:=i) (by rw[JU,eg];rfl) hj
   have lfl:((gl.take i).map Prod.snd).flatten.length=((gl.take i).map fun p=>dl p.1 (qs S.pr p.2)).flatten.length:=by
    rw[List.length_flatten,List.length_flatten,J8,J8]
    congr 1
    nofun
    refine NN fun q _=>?_
    show q.2.length=(dl q.1 (qs S.pr q.2)).length
    rw[ke8,kbs]
   nofun
   exists Y6
   refine⟨ga,p6,_,_,rfl,s6 _ _ hgg,h6,kgi (xs:=g.map iV) (ys:=(dl c (qs S.pr g)).map V.int) (fun j σ H'=>(∃v8 v9 v10 v11 v12:Option V,σ=[some (.ref v),some (.ref a),some (.ref b),some (.ref x),some (.ref pa),some (.ref w),v8,v9,v10,v11,v12])∧But w H3 H'∧H' ga=some (.lst (g.map iV))∧H' p6=some (.lst ((dl c (qs S.pr g)).map V.int))∧
     H' w=some (.lst ((spr S.pr.length (((gl.take i).map Prod.snd).flatten++g.take j) (((gl.take i).map fun p=>dl p.1 (qs S.pr p.2)).flatten++(dl c (qs S.pr g)).take j)).map V.int)))
    ⟨⟨_,_,_,_,_,rfl⟩,b6,s6 _ _ hgg,h6,by rw[w6];simp⟩ (fun j σ H' _ h=>⟨h.2.2.1,h.2.2.2.1⟩) ?_ ?_⟩
   ·rintro j y1 y2 t2 σ H7 hy1 hy2 ⟨⟨v8,v9,v10,v11,v12,rfl⟩,b7,g7,d7,w7⟩ ht2
    obtain⟨n,en,rfl⟩:=kbC hy1
    obtain⟨z,ez,rfl⟩:=kbC hy2
    have hn:=hgl' n (JO en)
    have s8:=kan (o:=.tup [iV n,V.int z]) ht2
    nofun
    exists Y8
    refine⟨t2,_,rfl,SqT.of kae,rfl,_,_,rfl,_,_,rfl,rfl,?_⟩
    exists 3
    exists Y8
    refine⟨_,rfl,_,rfl,_,rfl,w,_,_,n,rfl,rfl,s8 _ _ w7,kd4 (by rw[JJ,kdj];exact hn),⟨_,_,_,_,_,rfl⟩,(b7.same s8).trans kaB,?_,?_,?_⟩
    ·rw[kak ngaw]
     exists 3
     exact s8 _ _ g7
    ·rw[kak n6w]
     exists 3
     exact s8 _ _ d7
    ·rw[kae,←Mg,kck en,kck ez,←Nm,←Nm]
     rw[klk (by rw[JW,JW,lfl,Na,Na,ldl]) (ndt j n en) hn]
   ·rintro σ H7 ⟨⟨v8,v9,v10,v11,v12,rfl⟩,b7,g7,d7,w7⟩
    exists 3
    exists Y8
    refine⟨⟨_,_,_,_,_,rfl⟩,b7,?_⟩
    rw[w7,emin,Nt,Md (MX ldl),kck eg]
    simp
  rintro σ H4 ⟨⟨v8,v9,v10,v11,v12,rfl⟩,b4,h4⟩
  have ltl:(tl.map V.ref).length=gl.length:=by rw[JJ,hP.len]
  rw[ltl,Nt,hsp] at h4
  have s04:Same H H4:=kir hw0 s03 b4
  obtain⟨mA,dxv,fsv,hv,lvm,_,⟨dxm,fsm,hm,m1,m2,m3,m4,m5,m6⟩,hh,htb⟩:=id (hV.same s04)
  symm
  exists Y4
  refine⟨_,rfl,v,clsOf d Vc.so,dxv,fsv,_,rfl,hv,cl_of W hh,na_of W hh,lvm,mA,d.qf,dxm,fsm,_,rfl,hm,W.qf.cl,W.Qu,m3,?_⟩
  have wle:=khm (so:=Vc.so) (n:=S.mkd.length) (lines:=(abt ps (kds B) Vc.ms.kind Vc.ms.lone S).map fun i=>S.ow.getD i 0) (qs_nn wf.nn (abt ps (kds B) Vc.ms.kind Vc.ms.lone S)) vo.so
  have cn:=klT (V:=Vc) (ps:=ps) (kk:=kds B) (S:=S)
  have cs:=fun(m:Int)(e:Vc.ms.most=some m)(h0:0≤m)=>klS (V:=Vc) (ps:=ps) (kk:=kds B) (S:=S) lp wle e h0
  have sabs:=kiw wf lab habl
  generalize ewant:want Vc.so S.mkd.length ((abt ps (kds B) Vc.ms.kind Vc.ms.lone S).map fun i=>S.ow.getD i 0) (qs S.pr (abt ps (kds B) Vc.ms.kind Vc.ms.lone S))=wn at *
  have fnn:Nn (spr S.pr.length (abt ps (kds B) Vc.ms.kind Vc.ms.lone S) wn):=(kfx wf.nn wle).nn
  have fsum:(spr S.pr.length (abt ps (kds B) Vc.ms.kind Vc.ms.lone S) wn).sum≤720000000000000:=by
   have h:=(kfx wf.nn wle).sum
   have h2:=kdR (b:=1000000000000) (q:=S.pr) fun z hz=>(wf.pr z hz).2
   omega
  cases em:Vc.ms.most with
  |none=>
   symm
   refine⟨_,rfl,rfl,_,rfl,?_⟩
   show if(!decide (V.non=V.non))=true then _ else _
   rw[kmg]
   refine iteF (iteF ⟨_,rfl,k _ w s04 hw0 ?_⟩)
   rw[h4,cn em]
  | some m=>
   have hm0:=vo.ms.most m em
   symm
   refine⟨_,rfl,rfl,_,rfl,?_⟩
   show if(!decide (V.int m=V.non))=true then _ else _
   rw[kmh]
   refine iteT ?_
   symm
   exists Y6
   refine⟨_,rfl,w,_,rfl,SqL.of h4,_,rfl,_,_,rfl,rfl,_,rfl,?_⟩
   by_cases hgt:(spr S.pr.length (abt ps (kds B) Vc.ms.kind Vc.ms.lone S) wn).sum > m
   ·rw[decide_eq_true hgt]
    refine iteT ?_
    nofun
    exists Y8
    refine⟨_,rfl,_,rfl,m,w,_,rfl,SqL.of h4,fnn,by omega,hm0.1,by omega,by rw[kdj];omega,fun p7 hp7=>?_⟩
    exists 3
    refine k _ p7 (s04.trans (kan hp7)) (none_of s04 hp7) ?_
    rw[kae,cs m em hm0.1,if_pos hgt]
   ·rw[decide_eq_false hgt]
    refine iteF ?_
    exists 3
    refine⟨_,rfl,k _ w s04 hw0 ?_⟩
    rw[h4,cs m em hm0.1,if_neg hgt]
theorem klX{l:List Nat}{f g:Nat→Bool}(h:∀x∈l,f x=g x):l.any f=l.any g:=by
 induction l with
 |nil=>rfl
 |cons a l ih=>rw[N6,N6,h a J0,ih fun x hx=>h x (JZ _ hx)]
theorem khZ{ow:List Nat}{cs:List Int}{i o l:Nat}(h:ow[i]?=some o):kdL (ow.take (i+1)) cs l=(kdL (ow.take i) cs l||(o==l&&decide (0<cs.getD i 0))):=by
 have hi:=at_lt h
 unfold kdL
 rw[Na,Na,MM (by omega),MM (by omega),NC,List.any_append]
 congr 1
 ·refine klX fun j hj=>?_
  have hj':j<i:=by simpa using hj
  simp only[J5,EK]
  rw[if_pos (by omega),if_pos hj']
 ·simp only[N6,List.any_nil,Bool.or_false]
  rw[J5,EK,if_pos (by omega),h]
  rfl
inductive kde (d:D) (vs:List V) (H:Hp) (Q:VK) (E_:XK):Prop
 |ct (v x c:Addr)(V:Vch)(S:Stnd)(cs:List Int)(_:vs=[.ref v, .ref x, .ref c])(_:VchIs d H v V)(_:StndIs d.qc H x S)(_:H c=some (.lst (cs.map L2.V.int)))(_:cs.length=S.ow.length)(_:S.ow.length≤720)(_:S.mkd.length≤12)(_:(∀l∈S.ow,l<S.mkd.length))(_:∀(H':Hp)(p:Addr),Same H H'→H p=none→H' p=some (.lst (((JP S.mkd.length).map fun l=>S.mkd.getD l false||(V.ms.lone&&kdL S.ow cs l)).map L2.V.bl))→Q (.ref p) H'):kde d vs H Q E_
theorem QB:kas ["voucher","standing","piece_cuts","marked","owner","cut"] ["voucher","standing","piece_cuts"] (kah kb7):=by ac_rfl
theorem kem(W:WB K mg d base):FO P w W 1 d.X6 d.X7 ["voucher","standing","piece_cuts"] (kde d):=by
 exists W.ZO.F,QB
 ·obtain⟨v,x,c,Vc,S,cs,rfl,⟨mA,dxv,fsv,hv,lvm,_,⟨dxm,fsm,hm,m1,m2,m3,m4,m5,m6⟩,hh,htb⟩,⟨o,p,mk,⟨dxs,fss,hx,l1,l2,l3,l4,l5⟩,ho,hp,hmk⟩,hc,lc,lo,lmk,hw,k⟩:=h
  refine⟨_,kab (psl (i:=3) QB.nd (kaA (r:=kaJ K) kav (by rfl) W.B.list kaU (kaa (kaj (K:=K) (pv 1) rfl) kad)))
   (kab (ps_if (ka0 (kaj (K:=K) (kaj (K:=K) (pv 0) rfl) rfl)) (kag (kaZ PassesOwn.never rfl (kdX rfl W.B.zip (kaa (kaj (K:=K) (pv 1) rfl) (kaa (pv 2) kad))) (kbb (K:=K) (n:=2) rfl (kay (pgn (i:=4) QB.nd) (kay (pgn (i:=5) QB.nd) kba)))
   (kag (ps_if (kam op_gt (pv 5) kaf (kat _)) (kag (kdf pe_bl (kfB (pv 3) (pv 4) set_list))) (kap))))) (kap))
   (kag (kao (pv 3)))),?_⟩
  have e0:S.mkd.map V.bl=((JP S.mkd.length).map fun l=>S.mkd.getD l false||kdL (S.ow.take 0) cs l).map V.bl:=by
   congr 1
   apply Mp
   ·simp
   ·intro j h1 h2
    simp[kdL,h1]
  exists Y4
  refine⟨_,rfl,x,d.qc,dxs,fss,_,rfl,hx,W.qc.cl,W.Qa,l4,mk,_,rfl, .inl (SqL.of hmk),fun q hq=>?_⟩
  have s1:=kan (o:=.lst (S.mkd.map V.bl)) hq
  symm
  exists Y4
  refine⟨_,rfl,v,clsOf d Vc.so,dxv,fsv,_,rfl,s1 _ _ hv,cl_of W hh,na_of W hh,lvm,mA,d.qf,dxm,fsm,_,rfl,s1 _ _ hm,W.qf.cl,W.Q1,m6,_,rfl,?_⟩
  cases e:Vc.ms.lone with
  |false=>
   refine iteF ?_
   symm
   exists Y6
   refine⟨_,rfl,k _ q s1 hq ?_⟩
   rw[e0]
   simp only[e,MH,Bool.or_false]
   rw[kae]
   congr 2
   simp[kdL]
  | true=>
   refine iteT ?_
   have emin:min (S.ow.map iV).length (cs.map V.int).length=S.ow.length:=by rw[JJ,JJ,lc,Mt]
   symm
   exists Y6
   refine⟨_,rfl,x,d.qc,dxs,fss,_,rfl,s1 _ _ hx,W.qc.cl,W.qK,l1,_,rfl,o,c,_,_,rfl,s1 _ _ ho,s1 _ _ hc,
    kgi (xs:=S.ow.map iV) (ys:=cs.map V.int) (fun i σ H'=>(∃v4 v5:Option V,σ=[some (.ref v),some (.ref x),some (.ref c),some (.ref q),v4,v5])∧But q H H'∧H' q=some (.lst (((JP S.mkd.length).map fun l=>S.mkd.getD l false||kdL (S.ow.take i) cs l).map V.bl)))
     ⟨⟨none,none,rfl⟩,But.of_same s1,by rw[kae,e0]⟩ (fun i σ H' _ h=>⟨h.2.1 _ _ (kai ho hq) ho,h.2.1 _ _ (kai hc hq) hc⟩) ?_ ?_⟩
   ·rintro i y z t σ H1 hy hz ⟨⟨v4,v5,rfl⟩,b1,h1⟩ ht
    obtain⟨ln,eln,rfl⟩:=kbC hy
    obtain⟨cz,ecz,rfl⟩:=kbC hz
    have hln:=hw ln (JO eln)
    have st:=fun l=>khZ (cs:=cs) (l:=l) eln
    have eg:cs.getD i 0=cz:=by rw[J5,ecz];rfl
    have tq:q≠t:=kai h1 ht
    have b2:=b1.same (kan (o:=.tup [iV ln,V.int cz]) ht)
    have h2:=kan (o:=.tup [iV ln,V.int cz]) ht _ _ h1
    nofun
    exists Y8
    refine⟨t,_,rfl,SqT.of kae,rfl,_,_,rfl,_,_,rfl,rfl,?_⟩
    exists 3
    exists Y8
    refine⟨_,rfl,_,_,rfl,rfl,_,rfl,?_⟩
    by_cases hc0:cz > 0
    ·rw[decide_eq_true hc0]
     refine iteT ?_
     exists 3
     exists Y10
     refine⟨_,rfl,_,rfl,q,_,_,ln,rfl,rfl,h2,kd4 (by simpa using hln),⟨_,_,rfl⟩,b2.trans kaB,?_⟩
     rw[kae,←Mg]
     congr 3
     apply Mp
     ·simp
     ·intro j g1 g2
      have hj:j<S.mkd.length:=by simpa using g1
      rw[List.getElem_set]
      simp only[MP,Ec]
      rw[st j,eg]
      by_cases hjl:ln=j
      ·subst hjl
       simp[hc0]
      ·rw[if_neg hjl,show(ln==j)=false by simpa using hjl]
       simp
    ·rw[decide_eq_false hc0]
     refine iteF ?_
     try first|apply Y10|apply Y8|apply Y6|apply Y4
     exists Y10
     refine⟨⟨_,_,rfl⟩,b2,?_⟩
     rw[h2]
     congr 3
     try first|apply Y10|apply Y8|apply Y6|apply Y4
     refine NN fun l _=>?_
     rw[st l,eg,show decide (0<cz)=false by simpa using hc0]
     simp
   ·rintro σ H1 ⟨⟨v4,v5,rfl⟩,b1,h1⟩
    rw[emin,Nt] at h1
    exists 3
    exists Y8
    refine⟨_,rfl,k _ q (kk7 b1 hq) hq ?_⟩
    rw[h1]
    simp only[e,Bool.true_and]
noncomputable def rmv(x:Addr)(H:Hp):Hp:=fun a=>if a=x then none else H a
theorem kjZ{x:Addr}{H:Hp}:rmv x H x=none:=if_pos rfl
theorem kea{x a:Addr}{H:Hp}(n:a≠x):rmv x H a=H a:=if_neg n
theorem kf0{x a:Addr}{H:Hp}{o:HO}(h:rmv x H a=some o):H a=some o:=by
 by_cases e:a=x
 ·subst e
  rw[kjZ] at h
  cases h
 ·rw[kea e] at h
  exact h
theorem khE{x:Addr}{H:Hp}(hx:NX H x):But x H (rmv x H):=fun b u n e=>ev_eq (by rw[kea n];exact e) fun⟨ps,e1,t,hor⟩=>⟨ps,by rw[kea n];exact e1,t,fun pos c ec=>by
 obtain⟨c',rfl,z2⟩:=hor pos c ec
 exact⟨c',rfl,by rw[kea fun e=>hx _ (e▸z2)];exact z2⟩⟩
theorem rmv_sub{x:Addr}{H:Hp}:Same (rmv x H) H:=fun b u e=>ev_eq (kf0 e) fun⟨ps,e1,t,hor⟩=>⟨ps,kf0 e1,t,fun pos c ec=>by
 obtain⟨c',rfl,z2⟩:=hor pos c ec
 exact⟨c',rfl,kf0 z2⟩⟩
theorem kdb{Hs H H':Hp}{x:Addr}(s:Same Hs H)(b:But x H H')(f:Hs x=none):Same Hs H':=fun c u e=>kbL (s c u e) fun u' e'=>b c u' (kai e f) e'
inductive StndN (C:Addr) (H0 H:Hp) (x:Addr) (S:Stnd):Prop
 |ct (_:H0 x=none)(o p mk:Addr)(_:StandAt C H x o p mk S.cg)(_:H0 o=none)(_:H0 p=none)(_:H0 mk=none)(_:H o=some (.lst (S.ow.map iV)))(_:H p=some (.lst (S.pr.map V.int)))(_:H mk=some (.lst (S.mkd.map V.bl))):StndN C H0 H x S
theorem StndN.is{C x:Addr}{H0 H:Hp}{S:Stnd}:StndN C H0 H x S→StndIs C H x S:=fun⟨_,o,p,mk,h,_,_,_,h1,h2,h3⟩=>⟨o,p,mk,h,h1,h2,h3⟩
inductive WayN (d:D) (m:Nat) (H0 H:Hp) (w t b x:Addr) (hand:List Int) (used:List Nat):Prop
 |ct (_:H0 w=none)(dx:Addr)(fs:List (Str×V))(h u:Addr)(_:H0 h=none)(_:H0 u=none)(_:H w=some (.ins d.c_Way dx fs))(_:fs.lookup ("till" :Str)=some (.ref t))(_:fs.lookup ("basket" :Str)=some (.ref b))(_:fs.lookup ("hand" :Str)=some (.ref h))(_:fs.lookup ("used" :Str)=some (.ref u))(_:fs.lookup ("standing" :Str)=some (.ref x))(_:fs.lookup ("word_for" :Str)=none)(_:fs.lookup ("behind" :Str)=none)(_:fs.lookup ("is_let_by" :Str)=none)(_:fs.lookup ("followers" :Str)=none)(_:fs.length≤m)(_:H h=some (.lst (hand.map V.int)))(_:H u=some (.lst (used.map iV))):WayN d m H0 H w t b x hand used
theorem WayN.at{d:D}{m:Nat}{H0 H:Hp}{w t b x:Addr}{hand:List Int}{used:List Nat}:WayN d m H0 H w t b x hand used→WayAt d m H w t b x hand used:=fun⟨_,dx,fs,h,u,_,_,h1,h2,h3,h4,h5,h6,h7,h8,h9,h10,h11,h12,h13⟩=>⟨dx,fs,h,u,h1,h2,h3,h4,h5,h6,h7,h8,h9,h10,h11,h12,h13⟩
inductive kip (K:JL) (d:D) (vs:List V) (H:Hp) (Q:VK) (E_:XK):Prop
 |ct (v a b x:Addr)(V:Vch)(ps:List (Option Nat))(B:Bask)(S:Stnd)(_:vs=[.ref v, .ref a, .ref b, .ref x])(_:VchIs d H v V)(_:SqL K H a (ps.map pV))(_:BaskIs d.qe d.qg H b B)(_:StndIs d.qc H x S)(_:Wf ps B S)(_:VchOk ps V)(_:∀(H':Hp)(x':Addr),Same H H'→H x'=none→StndN d.qc H H' x' (aftM V ps (kds B) S)→Q (.ref x') H'):kip K d vs H Q E_
theorem Xp:kas ["voucher","parents","basket","standing","piece_cuts","left"] ["voucher","parents","basket","standing"] (kah khC):=by ac_rfl
theorem klA(W:WB K mg d base):FO P w W 5 d.XQ d.XR ["voucher","parents","basket","standing"] (kip K d):=by
 exists W.ZH.F,Xp
 ·obtain⟨v,a,b,x,Vc,ps,B,S,rfl,hV,hA,hB,hS,wf,vo,k⟩:=h
  exists Ud,kd3,W
  exists Xq,kcP,W
  exists Ue,kdy,W
  exists Ug,kem,W
  exists hr1,1,hr,0
  exists hr2,2,hr,0
  exists hr3,3,hr,0
  refine⟨_,kab (psl (i:=4) Xp.nd (pcl Ud hr W.ZK (kaa (pv 0) (kaa (pv 1) (kaa (pv 2) (kaa (pv 3) kad))))))
   (kab (psl (i:=5) Xp.nd (kbp (W.Qb.mk' W.qc) Xq hr3 rfl W.qc.m W.Qb.b .nil pass0 (kaa (pv 2) kad)))
   (kab (kaI (pv 5) (kaA (r:=kaJ K) kav (by rfl) W.B.list kaU (kaa (kaj (K:=K) (pv 3) rfl) kad)) rfl)
   (kab (kaI (pv 5) (kcw (N:=["price","cut"]) (CompScope.plain rfl (by decide +kernel) (by decide +kernel) (by decide +kernel) (show(["price","cut"]:List Str).Nodup by decide +kernel)) rfl (kdX rfl W.B.zip (kaa (kaj (K:=K) (pv 3) rfl) (kaa (pv 4) kad))) (fun _ _ _ _=>kbb (K:=K) (n:=2) rfl (kay (pgn (i:=0) (show(["price","cut"]:List Str).Nodup by decide +kernel)) (kay (pgn (i:=1) (show(["price","cut"]:List Str).Nodup by decide +kernel)) kba))) (fun _ _ _ _=>(pe_op kdg (pv 0) (pv 1)))) rfl)
   (kab (kaI (pv 5) (pe_op kdg (kaj (K:=K) (pv 3) rfl) (pcl Ue hr2 W.ZL (kaa (pv 0) (kaa (pv 3) kad)))) rfl)
   (kab (kaI (pv 5) (pcl Ug hr1 W.ZO (kaa (pv 0) (kaa (pv 3) (kaa (pv 4) kad)))) rfl)
   (kag (kao (pv 5)))))))),?_⟩
  have np:=wf.np
  have lp:=wf.lp
  have lcut:(cutM Vc ps (kds B) S).1.length=S.pr.length:=(kiU wf.nn wf.cg.1 vo.so fun m e=>(vo.ms.most m e).1).1.1
  exists Y4
  refine⟨_,rfl,_,rfl,_,rfl,_,rfl,v,a,b,x,Vc,ps,B,S,rfl,hV,hA,hB,hS,wf,vo,fun H1 pc s1 f1 h1=>?_⟩
  obtain⟨l,ls,hb1,hl1,hL1⟩:=id (hB.same s1)
  symm
  exists Y4
  refine⟨_,rfl,kkh hb1 hl1 hL1 wf.nl wf.ok fun H2 y s2 f2 dxy fsy hy ly lyw=>?_⟩
  have fy:H y=none:=none_of s1 f2
  have s02:=s1.trans s2
  obtain⟨o,p,mk,⟨dxs,fss,hx,l1,l2,l3,l4,l5⟩,ho,hp,hmk⟩:=id hS
  symm
  exists Y4
  refine⟨_,rfl,x,d.qc,dxs,fss,_,rfl,s02 _ _ hx,W.qc.cl,W.qK,l1,o,_,rfl, .inl (SqL.of (s02 _ _ ho)),fun q1 hq1=>?_⟩
  have n1:q1≠y:=(kai hy hq1).symm
  symm
  exists Y4
  refine⟨_,rfl,y,d.qc,dxy,fsy,rfl,kan hq1 _ _ hy,W.qc.cl,W.qK,few (by omega),?_⟩
  have s3:Same H (upd (upd H2 q1 (.lst (S.ow.map iV))) y (.ins d.qc dxy (putF "owners" (.ref q1) fsy))):=kaw fy (s02.trans (kan hq1))
  have e3:(upd (upd H2 q1 (.lst (S.ow.map iV))) y (.ins d.qc dxy (putF "owners" (.ref q1) fsy))) q1=some (.lst (S.ow.map iV)):=by rw[kak n1,kae]
  have y3:(upd (upd H2 q1 (.lst (S.ow.map iV))) y (.ins d.qc dxy (putF "owners" (.ref q1) fsy))) y=some (.ins d.qc dxy (putF "owners" (.ref q1) fsy)):=kae
  have c3:(upd (upd H2 q1 (.lst (S.ow.map iV))) y (.ins d.qc dxy (putF "owners" (.ref q1) fsy))) pc=some (.lst ((cutM Vc ps (kds B) S).1.map V.int)):=by
   rw[kak (kai h1 f2)]
   symm
   exact kan hq1 _ _ (s2 _ _ h1)
  have f3:=JN (kal (f:="owners") (v:=.ref q1) ly) (by decide:11≤20)
  generalize upd (upd H2 q1 (.lst (S.ow.map iV))) y (.ins d.qc dxy (putF "owners" (.ref q1) fsy))=H3 at *
  have emin:min (S.pr.map V.int).length ((cutM Vc ps (kds B) S).1.map V.int).length=S.pr.length:=by rw[JJ,JJ,lcut,Mt]
  symm
  exists Y4
  refine⟨_,rfl,x,d.qc,dxs,fss,_,rfl,s3 _ _ hx,W.qc.cl,W.qA,l2,_,rfl,p,pc,_,_,rfl,s3 _ _ hp,c3,
   kiW (xs:=S.pr.map V.int) (ys:=(cutM Vc ps (kds B) S).1.map V.int) (fun i σ zs H'=>Same H3 H'∧zs=((ND (· - ·) S.pr (cutM Vc ps (kds B) S).1).take i).map V.int∧∃v0 v1:Option V,σ=[v0,v1])
    ⟨Same.refl _,rfl,none,none,rfl⟩ (by rw[emin];exact JY (kau (by omega))) (fun i σ zs H' hi h=>⟨h.1 _ _ (s3 _ _ hp),h.1 _ _ c3,by rw[h.2.1,JJ,Na,Ed,lcut];rw[emin] at hi;omega⟩) ?_ ?_⟩
  ·rintro i y1 y2 t σ zs H4 hy1 hy2 ⟨s4,rfl,v0,v1,rfl⟩ ht
   obtain⟨z1,ez1,rfl⟩:=kbC hy1
   obtain⟨z2,ez2,rfl⟩:=kbC hy2
   symm
   exists Y6
   refine⟨t,_,rfl,SqT.of kae,rfl,_,_,rfl,_,_,rfl,rfl,_,rfl,_,rfl,_,_,rfl,rfl,s4.trans (kan ht),?_,_,_,rfl⟩
   rw[kck (r:=z1-z2) (by rw[Ee,ez1,ez2]),JQ]
   rfl
  rintro σ zs H4 ⟨s4,rfl,v0,v1,rfl⟩ q2 hq2
  rw[emin,Md (by rw[Ed,lcut];omega)]
  have n2:q2≠y:=(kai (s4 _ _ y3) hq2).symm
  have n12:q1≠q2:=kai (s4 _ _ e3) hq2
  have s5:=kan (o:=.lst ((ND (· - ·) S.pr (cutM Vc ps (kds B) S).1).map V.int)) hq2
  symm
  exists Y4
  refine⟨_,rfl,y,d.qc,dxy,_,rfl,s5 _ _ (s4 _ _ y3),W.qc.cl,W.qA,few f3,?_⟩
  have s6:Same H (upd (upd H4 q2 (.lst ((ND (· - ·) S.pr (cutM Vc ps (kds B) S).1).map V.int))) y (.ins d.qc dxy (putF "prices" (.ref q2) (putF "owners" (.ref q1) fsy)))):=kaw fy ((s3.trans s4).trans s5) (nx (s5 _ _ (s4 _ _ y3)))
  have e6:(upd (upd H4 q2 (.lst ((ND (· - ·) S.pr (cutM Vc ps (kds B) S).1).map V.int))) y (.ins d.qc dxy (putF "prices" (.ref q2) (putF "owners" (.ref q1) fsy)))) q1=some (.lst (S.ow.map iV)):=by
   rw[kak n1]
   symm
   exact s5 _ _ (s4 _ _ e3)
  have p6:(upd (upd H4 q2 (.lst ((ND (· - ·) S.pr (cutM Vc ps (kds B) S).1).map V.int))) y (.ins d.qc dxy (putF "prices" (.ref q2) (putF "owners" (.ref q1) fsy)))) q2=some (.lst ((ND (· - ·) S.pr (cutM Vc ps (kds B) S).1).map V.int)):=by rw[kak n2,kae]
  have y6:(upd (upd H4 q2 (.lst ((ND (· - ·) S.pr (cutM Vc ps (kds B) S).1).map V.int))) y (.ins d.qc dxy (putF "prices" (.ref q2) (putF "owners" (.ref q1) fsy)))) y=some (.ins d.qc dxy (putF "prices" (.ref q2) (putF "owners" (.ref q1) fsy))):=kae
  have c6:(upd (upd H4 q2 (.lst ((ND (· - ·) S.pr (cutM Vc ps (kds B) S).1).map V.int))) y (.ins d.qc dxy (putF "prices" (.ref q2) (putF "owners" (.ref q1) fsy)))) pc=some (.lst ((cutM Vc ps (kds B) S).1.map V.int)):=by
   rw[kak (kai h1 f2)]
   symm
   exact s5 _ _ (s4 _ _ c3)
  have f6:=JN (kal (f:="prices") (v:=.ref q2) (kal (f:="owners") (v:=.ref q1) ly)) (by decide:12≤20)
  generalize upd (upd H4 q2 (.lst ((ND (· - ·) S.pr (cutM Vc ps (kds B) S).1).map V.int))) y (.ins d.qc dxy (putF "prices" (.ref q2) (putF "owners" (.ref q1) fsy)))=H6 at *
  symm
  exists Y4
  refine⟨_,rfl,x,d.qc,dxs,fss,_,rfl,s6 _ _ hx,W.qc.cl,W.qR,l3,_,rfl,_,rfl,v,x,Vc,S,rfl,hV.same s6,hS.same s6,_,_,rfl,rfl,?_⟩
  rw[←kna (ps:=ps) (kk:=kds B) (S:=S) vo]
  symm
  exists Y4
  refine⟨_,rfl,y,d.qc,dxy,_,rfl,y6,W.qc.cl,W.qR,few f6,?_⟩
  have s7:Same H (upd H6 y (.ins d.qc dxy (putF "carriage" (.int (S.cg-(cutM Vc ps (kds B) S).2)) (putF "prices" (.ref q2) (putF "owners" (.ref q1) fsy))))):=kaw fy s6
  have e7:(upd H6 y (.ins d.qc dxy (putF "carriage" (.int (S.cg-(cutM Vc ps (kds B) S).2)) (putF "prices" (.ref q2) (putF "owners" (.ref q1) fsy))))) q1=some (.lst (S.ow.map iV)):=by rw[kak n1];exact e6
  have p7:(upd H6 y (.ins d.qc dxy (putF "carriage" (.int (S.cg-(cutM Vc ps (kds B) S).2)) (putF "prices" (.ref q2) (putF "owners" (.ref q1) fsy))))) q2=some (.lst ((ND (· - ·) S.pr (cutM Vc ps (kds B) S).1).map V.int)):=by rw[kak n2];exact p6
  have y7:(upd H6 y (.ins d.qc dxy (putF "carriage" (.int (S.cg-(cutM Vc ps (kds B) S).2)) (putF "prices" (.ref q2) (putF "owners" (.ref q1) fsy))))) y=some (.ins d.qc dxy (putF "carriage" (.int (S.cg-(cutM Vc ps (kds B) S).2)) (putF "prices" (.ref q2) (putF "owners" (.ref q1) fsy)))):=kae
  have c7:(upd H6 y (.ins d.qc dxy (putF "carriage" (.int (S.cg-(cutM Vc ps (kds B) S).2)) (putF "prices" (.ref q2) (putF "owners" (.ref q1) fsy))))) pc=some (.lst ((cutM Vc ps (kds B) S).1.map V.int)):=by rw[kak (kai h1 f2)];exact c6
  have f7:=JN (kal (f:="carriage") (v:=.int (S.cg-(cutM Vc ps (kds B) S).2)) (kal (f:="prices") (v:=.ref q2) (kal (f:="owners") (v:=.ref q1) ly))) (by decide:13≤20)
  generalize upd H6 y (.ins d.qc dxy (putF "carriage" (.int (S.cg-(cutM Vc ps (kds B) S).2)) (putF "prices" (.ref q2) (putF "owners" (.ref q1) fsy))))=H7 at *
  symm
  exists Y4
  refine⟨_,rfl,_,rfl,_,rfl,v,x,pc,Vc,S,_,rfl,hV.same s7,hS.same s7,c7,by rw[lcut,lp],np,by rw[wf.lm];exact wf.nl,fun l hl=>?_,fun H8 q3 s8 f8 h8=>?_⟩
  ·obtain⟨i,hi⟩:=N9.mp hl
   rw[wf.lm]
   symm
   exact wf.line hi
  have n3:q3≠y:=(kai y7 f8).symm
  symm
  exists Y4
  refine⟨_,rfl,y,d.qc,dxy,_,rfl,s8 _ _ y7,W.qc.cl,W.Qa,few f7,?_⟩
  symm
  exists Y4
  refine⟨_,rfl,k _ y (kaw fy (s7.trans s8) (nx (s8 _ _ y7))) fy ⟨fy,q1,q2,q3,⟨dxy,_,kae,?_,?_,?_,?_,?_⟩,none_of s02 hq1,none_of (s3.trans s4) hq2,none_of s7 f8,?_,?_,?_⟩⟩
  ·ac_nf
  ·ac_nf
  ·ac_nf
   rfl
  ·ac_nf
  ·rw[kac,if_neg (by decide +kernel),kac,if_neg (by decide +kernel),kac,if_neg (by decide +kernel),kac,if_neg (by decide +kernel)]
   symm
   exact lyw
  ·rw[kak n1]
   symm
   exact s8 _ _ e7
  ·rw[kak n2]
   symm
   exact s8 _ _ p7
  ·rw[kak n3]
   symm
   exact h8
inductive spRwm (d:D) (vs:List V) (H:Hp) (Q:VK) (E_:XK):Prop
 |ct (v x:Addr)(V:Vch)(S:Stnd)(s:Int)(_:vs=[.ref v, .ref x, .int s])(_:VchIs d H v V)(_:StndIs d.qc H x S)(_:SrtOk V.so)(_:0≤s)(_:s≤720000000000000)(_:Q (.int (rwm V.so S.cg s)) H):spRwm d vs H Q E_
theorem kcS:kas ["voucher","standing","together"] ["voucher","standing","together"] (kah kbl):=by ac_rfl
theorem kcZ(W:WB K mg d base):FO P w W 1 d.XU d.XW ["voucher","standing","together"] (spRwm d):=by
 exists W.ZJ.F,kcS
 ·obtain⟨v,x,⟨so,ms⟩,S,z,rfl,⟨mA,dxv,fsv,hv,lvm,hso,hM,hh,htb⟩,⟨o,p,mk,⟨dxs,fss,hx,l1,l2,l3,l4,l5⟩,ho,hp,hmk⟩,hok,z0,z1,k⟩:=h
  refine⟨_,kab (ps_if (ka0 (kaq (r:=rIsi K) ka6 (by rfl) W.B.isi b_isi (kaa (pv 0) (kaa (kcv (v:=.ref d.c_Off) (by rfl) W.g_Off rfl) kad)))) (kag (kao (kaq (kbP rfl) (by rfl) W.B.min b_min (kaa (kaj (K:=K) (pv 0) rfl) (kaa (pv 2) kad))))) (kap))
   (kab (ps_if (ka0 (kaq (r:=rIsi K) ka6 (by rfl) W.B.isi b_isi (kaa (pv 0) (kaa (kcv (v:=.ref d.qi) (by rfl) W.Vm rfl) kad)))) (kag (kao (pe_op kaD (pe_op kcy (pv 2) (kaj (K:=K) (pv 0) rfl)) kaf))) (kap))
   (kab (ps_if (ka0 (kaq (r:=rIsi K) ka6 (by rfl) W.B.isi b_isi (kaa (pv 0) (kaa (kcv (v:=.ref d.qk) (by rfl) W.Vp rfl) kad)))) (kag (kao (pe_op kiD (pv 2) (kaj (K:=K) (pv 0) rfl)))) (kap))
   (kab (ps_if (ka0 (kaq (r:=rIsi K) ka6 (by rfl) W.B.isi b_isi (kaa (pv 0) (kaa (kcv (v:=.ref d.qj) (by rfl) W.Vr rfl) kad)))) (kag (kao (pv 2))) (kap))
   (kag (kao (kaj (K:=K) (pv 1) rfl)))))),?_⟩
  have I:=kkH W hh
  refine⟨_,rfl,_,_,_,_,rfl, .inr ⟨_,rfl⟩,TyOf.ins hv (cl_of W hh) I.ha I.hn I.ht I.hm,kkB W hh,_,rfl,?_⟩
  cases so with
  |off am=>
   refine iteT ⟨_,rfl,v,d.c_Off,dxv,fsv,_,rfl,hv,W.c_Off.cl,W.Q2,hso,_,rfl,_,_,rfl,?_⟩
   rw[show(if z<am then z else am)=min am z by split <;> omega]
   exact k
  |share sh bl=>
   have hsh:1≤sh∧sh≤1000:=hok
   exact iteF ⟨_,rfl,_,_,_,_,rfl, .inr ⟨_,rfl⟩,TyOf.ins hv (cl_of W hh) I.ha I.hn I.ht I.hm,kbO W hh,_,rfl,iteT ⟨_,rfl,_,rfl,v,d.qi,dxv,fsv,_,rfl,hv,W.qi.cl,W.Q4,hso.1,_,_,rfl,rfl, .inr ⟨by omega,by omega⟩,_,_,rfl,rfl,⟨by decide,by decide⟩,k⟩⟩
  |cheap m=>
   have hm:2≤m∧m≤20:=hok
   refine iteF ⟨_,rfl,_,_,_,_,rfl, .inr ⟨_,rfl⟩,TyOf.ins hv (cl_of W hh) I.ha I.hn I.ht I.hm,kbO W hh,_,rfl,iteF ?_⟩
   exact⟨_,rfl,_,_,_,_,rfl, .inr ⟨_,rfl⟩,TyOf.ins hv (cl_of W hh) I.ha I.hn I.ht I.hm,kbt W hh,_,rfl,iteT ⟨_,rfl,_,rfl,v,d.qk,dxv,fsv,_,rfl,hv,W.qk.cl,W.Q6,hso,_,_,rfl,rfl,⟨by omega,by omega⟩,k⟩⟩
  |bund m pz=>
   refine iteF ⟨_,rfl,_,_,_,_,rfl, .inr ⟨_,rfl⟩,TyOf.ins hv (cl_of W hh) I.ha I.hn I.ht I.hm,kbO W hh,_,rfl,iteF ?_⟩
   refine⟨_,rfl,_,_,_,_,rfl, .inr ⟨_,rfl⟩,TyOf.ins hv (cl_of W hh) I.ha I.hn I.ht I.hm,kbt W hh,_,rfl,iteF ?_⟩
   exact⟨_,rfl,_,_,_,_,rfl, .inr ⟨_,rfl⟩,TyOf.ins hv (cl_of W hh) I.ha I.hn I.ht I.hm,kda W hh,_,rfl,iteT ⟨_,rfl,k⟩⟩
  |carr=>
   refine iteF ⟨_,rfl,_,_,_,_,rfl, .inr ⟨_,rfl⟩,TyOf.ins hv (cl_of W hh) I.ha I.hn I.ht I.hm,kbO W hh,_,rfl,iteF ?_⟩
   refine⟨_,rfl,_,_,_,_,rfl, .inr ⟨_,rfl⟩,TyOf.ins hv (cl_of W hh) I.ha I.hn I.ht I.hm,kbt W hh,_,rfl,iteF ?_⟩
   refine⟨_,rfl,_,_,_,_,rfl, .inr ⟨_,rfl⟩,TyOf.ins hv (cl_of W hh) I.ha I.hn I.ht I.hm,kda W hh,_,rfl,iteF ?_⟩
   exact⟨_,rfl,x,d.qc,dxs,fss,_,rfl,hx,W.qc.cl,W.qR,l3,k⟩
inductive kjH (K:JL) (d:D) (vs:List V) (H:Hp) (Q:VK) (E_:XK):Prop
 |ct (v a b x:Addr)(V:Vch)(ps:List (Option Nat))(B:Bask)(S:Stnd)(_:vs=[.ref v, .ref a, .ref b, .ref x])(_:VchIs d H v V)(_:SqL K H a (ps.map pV))(_:BaskIs d.qe d.qg H b B)(_:StndIs d.qc H x S)(_:Wf ps B S)(_:VchOk ps V)(_:∀(H':Hp),Same H H'→Q (.int (kbZ V ps (kds B) S)) H'):kjH K d vs H Q E_
theorem knQ(m:Option Int)(n:Int):atM m n=atMost m n:=by cases m <;> rfl
theorem VD:kas ["voucher","parents","basket","standing","pieces"] ["voucher","parents","basket","standing"] (kah khz):=by ac_rfl
theorem klw(W:WB K mg d base):FO P w W 4 d.XS d.XT ["voucher","parents","basket","standing"] (kjH K d):=by
 exists W.ZI.F,VD
 ·obtain⟨v,a,b,x,Vc,ps,B,S,rfl,hV,hA,hB,hS,wf,vo,k⟩:=h
  obtain⟨mA,dxv,fsv,hv,lvm,_,hM,hh,htb⟩:=id hV
  obtain⟨dxm,fsm,hm,m1,m2,m3,m4,m5,m6⟩:=id hM
  exists Qi,kf7,W
  exists Xn,kfF,W
  exists Uh,kcZ,W
  exists qO,kbX,W
  exists hr1,1,hr,0
  exists hr2,2,hr,0
  refine⟨_,kab (psl (i:=4) VD.nd (pcl Qi hr W.Qr (kaa (pv 0) (kaa (pv 1) (kaa (pv 2) (kaa (pv 3) kad))))))
   (kag (kao (pcl Xn hr1 W.QW (kaa (kaj (K:=K) (kaj (K:=K) (pv 0) rfl) rfl) (kaa (pcl Uh hr1 W.ZJ (kaa (pv 0) (kaa (pv 3) (kaa (pcl qO hr2 W.qP (kaa (pv 3) (kaa (pv 4) kad))) kad)))) kad))))),?_⟩
  have np:=wf.np
  have habl:∀i∈abt ps (kds B) Vc.ms.kind Vc.ms.lone S,i<S.pr.length:=fun i hi=>by rw[wf.lp];exact kfP hi
  have lab:(abt ps (kds B) Vc.ms.kind Vc.ms.lone S).length≤720:=JN (kd6 _ _ _ _ _) np
  have hs0:=kbi (qs_nn wf.nn (abt ps (kds B) Vc.ms.kind Vc.ms.lone S))
  have hsum:=kiw wf lab habl
  refine⟨_,rfl,_,rfl,_,rfl,_,rfl,v,a,b,x,Vc,ps,B,S,rfl,hV,hA,hB,hS,wf,vo,fun H1 pa s1 f1 h1=>?_⟩
  refine⟨_,rfl,v,clsOf d Vc.so,dxv,fsv,_,rfl,s1 _ _ hv,cl_of W hh,na_of W hh,lvm,mA,d.qf,dxm,fsm,_,rfl,s1 _ _ hm,W.qf.cl,W.Qu,m3,?_⟩
  refine⟨_,rfl,_,rfl,_,rfl,_,rfl,x,pa,S,_,rfl,hS.same s1,h1,habl,lab,fun H2 s2=>?_⟩
  refine⟨v,x,Vc,S,_,rfl,(hV.same s1).same s2,(hS.same s1).same s2,vo.so,hs0,hsum,?_⟩
  refine⟨_,_,rfl,?_⟩
  have:=k H2 (s1.trans s2)
  rw[knQ]
  exact this
inductive khp (d:D) (vs:List V) (H:Hp) (Q:VK) (E_:XK):Prop
 |ct (H0:Hp)(x dx p vl rl:Addr)(ps vs' rs:List V)(bk:Str)(_:vs=[.ref x, .ref p, .ref vl, .ref rl, .str bk])(_:H0 x=none)(_:Same H0 H)(_:H x=some (.ins d.qd dx []))(_:H0 p=some (.lst ps))(_:H0 vl=some (.lst vs'))(_:H0 rl=some (.lst rs))(_:∀(H':Hp)(p' vl' rl':Addr)(fs:List (Str×V)),Same H0 H'→H0 p'=none→H0 vl'=none→H0 rl'=none→H' p'=some (.lst ps)→H' vl'=some (.lst vs')→H' rl'=some (.lst rs)→H' x=some (.ins d.qd dx fs)→fs.lookup ("parents" :Str)=some (.ref p')→fs.lookup ("vouchers" :Str)=some (.ref vl')→fs.lookup ("rules" :Str)=some (.ref rl')→fs.lookup ("back" :Str)=some (.str bk)→Q .non H'):khp d vs H Q E_
theorem kgI:kas ["self","parents","vouchers","rules","back"] ["self","parents","vouchers","rules","back"] (kah ka8):=by ac_rfl
theorem kgV(W:WB K mg d base):FO P w W 1 d.ZC d.QS ["self","parents","vouchers","rules","back"] (khp d):=by
 exists W.Xi.F,kgI
 ·obtain⟨H0,x,dx,p,vl,rl,ps,vs',rs,bk,rfl,fx,s0,hx,hp,hvl,hrl,k⟩:=h
  refine⟨_,kab (kaI (pv 0) (kaA (r:=kaJ K) kav (by rfl) W.B.list kaU (kaa (pv 1) kad)) rfl)
   (kab (kaI (pv 0) (kaA (r:=kaJ K) kav (by rfl) W.B.list kaU (kaa (pv 2) kad)) rfl)
   (kab (kaI (pv 0) (kaA (r:=kaJ K) kav (by rfl) W.B.list kaU (kaa (pv 3) kad)) rfl)
   (kag (kaI (pv 0) (pv 4) rfl)))),?_⟩
  exists Y4
  refine⟨_,rfl,p,_,rfl, .inl (SqL.of (s0 _ _ hp)),fun p' hp'=>?_⟩
  have n1:=kan (o:=.lst ps) hp'
  have fp:=s0.free hp'
  have np:p'≠x:=(kai hx hp').symm
  have e1:(upd H p' (.lst ps)) p'=some (.lst ps):=kae
  have s1:=s0.trans n1
  have hx1:=n1 _ _ hx
  clear n1
  generalize upd H p' (.lst ps)=H1 at *
  symm
  exists Y4
  refine⟨_,rfl,x,d.qd,dx,[],rfl,hx1,W.qd.cl,W.Qy,by decide,?_⟩
  have s2:Same H0 (upd H1 x (.ins d.qd dx (putF "parents" (.ref p') []))):=kaw fx s1 (nx hx1)
  have e2:(upd H1 x (.ins d.qd dx (putF "parents" (.ref p') []))) p'=some (.lst ps):=by rw[kak np];exact e1
  have hx2:(upd H1 x (.ins d.qd dx (putF "parents" (.ref p') []))) x=some (.ins d.qd dx (putF "parents" (.ref p') [])):=kae
  generalize upd H1 x (.ins d.qd dx (putF "parents" (.ref p') []))=H2 at *
  symm
  exists Y4
  refine⟨_,rfl,vl,_,rfl, .inl (SqL.of (s2 _ _ hvl)),fun v' hv'=>?_⟩
  have n3:=kan (o:=.lst vs') hv'
  have fv:=s2.free hv'
  have nv:v'≠x:=(kai hx2 hv').symm
  have s3:=s2.trans n3
  have e3:=n3 _ _ e2
  have ev3:(upd H2 v' (.lst vs')) v'=some (.lst vs'):=kae
  have hx3:=n3 _ _ hx2
  clear n3
  generalize upd H2 v' (.lst vs')=H3 at *
  symm
  exists Y4
  refine⟨_,rfl,x,d.qd,dx,_,rfl,hx3,W.qd.cl,W.qB,few (JN (kal (n:=0) (JK _)) (by decide)),?_⟩
  have s4:Same H0 (upd H3 x (.ins d.qd dx (putF "vouchers" (.ref v') (putF "parents" (.ref p') [])))):=kaw fx s3 (nx hx3)
  have e4:(upd H3 x (.ins d.qd dx (putF "vouchers" (.ref v') (putF "parents" (.ref p') [])))) p'=some (.lst ps):=by rw[kak np];exact e3
  have ev4:(upd H3 x (.ins d.qd dx (putF "vouchers" (.ref v') (putF "parents" (.ref p') [])))) v'=some (.lst vs'):=by rw[kak nv];exact ev3
  have hx4:(upd H3 x (.ins d.qd dx (putF "vouchers" (.ref v') (putF "parents" (.ref p') [])))) x=some (.ins d.qd dx (putF "vouchers" (.ref v') (putF "parents" (.ref p') []))):=kae
  generalize upd H3 x (.ins d.qd dx (putF "vouchers" (.ref v') (putF "parents" (.ref p') [])))=H4 at *
  symm
  exists Y4
  refine⟨_,rfl,rl,_,rfl, .inl (SqL.of (s4 _ _ hrl)),fun r' hr'=>?_⟩
  have n5:=kan (o:=.lst rs) hr'
  have fr:=s4.free hr'
  have nr:r'≠x:=(kai hx4 hr').symm
  have s5:=s4.trans n5
  have e5:=n5 _ _ e4
  have ev5:=n5 _ _ ev4
  have er5:(upd H4 r' (.lst rs)) r'=some (.lst rs):=kae
  have hx5:=n5 _ _ hx4
  clear n5
  generalize upd H4 r' (.lst rs)=H5 at *
  symm
  exists Y4
  refine⟨_,rfl,x,d.qd,dx,_,rfl,hx5,W.qd.cl,W.qS,few (JN (kal (kal (n:=0) (JK _))) (by decide)),?_⟩
  have s6:Same H0 (upd H5 x (.ins d.qd dx (putF "rules" (.ref r') (putF "vouchers" (.ref v') (putF "parents" (.ref p') []))))):=kaw fx s5 (nx hx5)
  have hx6:(upd H5 x (.ins d.qd dx (putF "rules" (.ref r') (putF "vouchers" (.ref v') (putF "parents" (.ref p') []))))) x=some (.ins d.qd dx (putF "rules" (.ref r') (putF "vouchers" (.ref v') (putF "parents" (.ref p') [])))):=kae
  symm
  exists Y4
  refine⟨_,rfl,_,rfl,x,d.qd,dx,_,rfl,hx6,W.qd.cl,W.VM,few (JN (kal (kal (kal (n:=0) (JK _)))) (by decide)),?_⟩
  symm
  refine k _ p' v' r' _ (kaw fx s6 (nx hx6)) fp fv fr ?_ ?_ ?_ kae ?_ ?_ ?_ ?_
  ·rw[kak np,kak np];exact e5
  ·rw[kak nv,kak nv];exact ev5
  ·rw[kak nr,kak nr];exact er5
  ·ac_nf
  ·ac_nf
  ·ac_nf
  ·ac_nf
theorem kmX{d:D}{H:Hp}{p vl rl:Addr}{T:TillD}{va ra:List Addr}{R:Addr→Hp→Prop}{E:XK}(hp:H p=some (.lst (T.ps.map pV)))(hvl:H vl=some (.lst (va.map V.ref)))(hv:P2 (fun a V=>VchIs d H a V) va T.vs)(hrl:H rl=some (.lst (ra.map V.ref)))(hr:P2 (fun a r=>RulIs H a r) ra T.rs)
  (k:∀(H':Hp)(x:Addr),Same H H'→H x=none→TillIs d H' x T→R x H'):
  ∀x dx,H x=none→H dx=none→dx≠x→khp d [.ref x, .ref p, .ref vl, .ref rl, .str T.bk] (upd (upd H dx (.own x)) x (.ins d.qd dx [])) (fun v H2=>v=.non∧R x H2) E:=
 fun x dx nx nd _=>⟨H,x,dx,p,vl,rl,_,_,_,_,rfl,nx,kbh nx nd,kae,hp,hvl,hrl,fun H' p' vl' rl' fs s f1 f2 f3 h1 h2 h3 hx l1 l2 l3 l4=>⟨rfl,k H' x s nx ⟨dx,fs,p',vl',rl',va,ra,hx,l1,l2,l3,l4,h1,h2,hv.mono fun a V h=>h.same s,h3,hr.mono fun a r h=>s _ _ h⟩⟩⟩
inductive khq (f:List Rul→List Nat→Nat→Bool) (vs:List V) (H:Hp) (Q:VK) (E_:XK):Prop
 |ct (rl u:Addr)(ra:List Addr)(rs:List Rul)(used:List Nat)(n:Nat)(_:vs=[.ref rl, .ref u,iV n])(_:H rl=some (.lst (ra.map V.ref)))(_:P2 (fun a r=>RulIs H a r) ra rs)(_:H u=some (.lst (used.map iV)))(_:Q (.bl (f rs used n)) H):khq f vs H Q E_
theorem klc{f:Rul→Bool}{rs:List Rul}{i:Nat}{r:Rul}(e:rs[i]?=some r)(h:f r=true):rs.any f=true:=List.any_eq_true.mpr ⟨r,JO e,h⟩
theorem kmu{f:Rul→Bool}{rs:List Rul}{n:Nat}(hn:n=rs.length)(h:∀r∈rs.take n,f r=false):rs.any f=false:=by
 rw[hn,Nt] at h
 cases e:rs.any f with
 |false=>rfl
 |true=>
  obtain⟨r,hr,e2⟩:=List.any_eq_true.mp e
  rw[h r hr] at e2
  cases e2
theorem kcg{f:Rul→Bool}{rs:List Rul}{i:Nat}{r:Rul}(e:rs[i]?=some r)(h:∀q∈rs.take i,f q=false)(hr:f r=false):∀q∈rs.take (i+1),f q=false:=fun q hq=>by
 rw[N8,e] at hq
 rcases Nk.mp hq with z|z
 ·exact h q z
 ·have e2:q=r:=by simpa using z
  rw[e2]
  exact hr
theorem QC:kas ["rules","used","number","word","one","other"] ["rules","used","number"] (kah kcn):=by ac_rfl
theorem keP(W:WB K mg d base):FO P w W 1 d.Yk d.Yl ["rules","used","number"] (khq kfG):=by
 exists W.ZR.F,QC
 ·obtain⟨rl,u,ra,rs,used,n,rfl,hrl,hr,hu,k⟩:=h
  refine⟨_,kab (kaZ PassesOwn.never rfl (kaE (K:=K) (pv 0)) (kbb (K:=K) (n:=3) rfl (kay (pgn (i:=3) QC.nd) (kay (pgn (i:=4) QC.nd) (kay (pgn (i:=5) QC.nd) kba))))
   (kag (ps_if (PW.pt (ka7 (kam op_eq (pv 3) kbM (kat _)) (kaV (PW.pt (pw_or (PW.pt (ka7 (kam op_eq (pv 4) (pv 2) (kat _)) (kaV (kam kcz (pv 5) (pv 1) (by with_unfolding_all rfl))))) (kj4 (PW.pt (ka7 (kam op_eq (pv 5) (pv 2) (kat _)) (kaV (kam kcz (pv 4) (pv 1) (by with_unfolding_all rfl))))))))))) (kag (kao pe_bl)) (kap))))
   (kag (kao pe_bl)),?_⟩
  refine⟨_,rfl,rl,rfl,⟨_,SqL.of hrl⟩,kaP (xs:=ra.map V.ref) (fun i σ H'=>H'=H∧(∀r∈rs.take i,nevR used n r=false)∧∃v3 v4 v5:Option V,σ=[some (.ref rl),some (.ref u),some (iV n),v3,v4,v5])
   ⟨rfl,(fun r hr=>by simp at hr),none,none,none,rfl⟩ (fun i σ H' _ h=>by rw[h.1];exact SqL.of hrl) ?_ ?_⟩
  ·rintro i y σ H' hy ⟨rfl,hno,v3,v4,v5,rfl⟩
   obtain⟨a,ea,rfl⟩:=kbj hy
   obtain⟨r,er,hra⟩:=hr.at ea
   have yes:nevR used n r=true→Q (.bl true) H':=fun e=>by
    have z:=klc (f:=nevR used n) er e
    unfold kfG at k
    rw[z] at k
    exact k
   refine⟨a,_,rfl,SqT.of hra,rfl,_,_,rfl,_,_,rfl,_,_,rfl,rfl,?_⟩
   refine⟨_,rfl,rfl,_,rfl,?_⟩
   show if decide (V.str r.w=V.str "never")=true then _ else _
   rw[eq_str]
   by_cases hw:r.w=("never" :Str)
   ·rw [decide_eq_true hw]
    refine iteT ⟨_,rfl,_,rfl,rfl,_,rfl,?_⟩
    show if decide (iV r.a=iV n)=true then _ else _
    rw[khb]
    by_cases ha:r.a=n
    ·rw[decide_eq_true ha]
     refine iteT ⟨_,rfl,_,rfl,u,_,rfl, .inl (SqL.of hu),rfl,kbB _,_,rfl,?_⟩
     rw[if_neg JS,kcJ]
     cases hb:used.contains r.b with
     |true=>exact iteT (iteT (yes (by unfold nevR;rw[decide_eq_true hw,decide_eq_true ha,hb];rfl)))
     | false=>
      refine iteF ⟨_,rfl,_,rfl,rfl,_,rfl,?_⟩
      show if decide (iV r.b=iV n)=true then _ else _
      rw[khb]
      by_cases hc:r.b=n
      ·rw[decide_eq_true hc]
       refine iteT ⟨_,rfl,_,rfl,u,_,rfl, .inl (SqL.of hu),rfl,kbB _,_,rfl,?_⟩
       rw[if_neg JS,kcJ]
       cases hd:used.contains r.a with
       |true=>exact iteT (yes (by unfold nevR;rw[decide_eq_true hw,decide_eq_true ha,hb,decide_eq_true hc,hd];rfl))
       |false=>exact iteF ⟨rfl,kcg er hno (by unfold nevR;rw[decide_eq_true hw,decide_eq_true ha,hb,decide_eq_true hc,hd];rfl),_,_,_,rfl⟩
      ·rw[decide_eq_false hc]
       exact iteF (iteF ⟨rfl,kcg er hno (by unfold nevR;rw[decide_eq_true hw,decide_eq_true ha,hb,decide_eq_false hc];rfl),_,_,_,rfl⟩)
    ·rw[decide_eq_false ha]
     refine iteF (iteF ⟨_,rfl,_,rfl,rfl,_,rfl,?_⟩)
     show if decide (iV r.b=iV n)=true then _ else _
     rw[khb]
     by_cases hc:r.b=n
     ·rw[decide_eq_true hc]
      refine iteT ⟨_,rfl,_,rfl,u,_,rfl, .inl (SqL.of hu),rfl,kbB _,_,rfl,?_⟩
      rw[if_neg JS,kcJ]
      cases hd:used.contains r.a with
      |true=>exact iteT (yes (by unfold nevR;rw[decide_eq_true hw,decide_eq_false ha,decide_eq_true hc,hd];rfl))
      |false=>exact iteF ⟨rfl,kcg er hno (by unfold nevR;rw[decide_eq_true hw,decide_eq_false ha,decide_eq_true hc,hd];rfl),_,_,_,rfl⟩
     ·rw[decide_eq_false hc]
      exact iteF (iteF ⟨rfl,kcg er hno (by unfold nevR;rw[decide_eq_true hw,decide_eq_false ha,decide_eq_false hc];rfl),_,_,_,rfl⟩)
   ·rw[decide_eq_false hw]
    refine iteF (iteF ⟨rfl,kcg er hno ?_,_,_,_,rfl⟩)
    unfold nevR
    rw[decide_eq_false hw]
    rfl
  ·rintro σ H' ⟨rfl,hno,v3,v4,v5,rfl⟩
   have z:=kmu (by rw[JJ];exact hr.len) hno
   unfold kfG at k
   rw[z] at k
   exact k
theorem QD:kas ["rules","used","number","word","one","other"] ["rules","used","number"] (kah kco):=by ac_rfl
theorem keQ(W:WB K mg d base):FO P w W 1 d.Ym d.Yn ["rules","used","number"] (khq kfO):=by
 exists W.ZS.F,QD
 ·obtain⟨rl,u,ra,rs,used,n,rfl,hrl,hr,hu,k⟩:=h
  refine⟨_,kab (kaZ PassesOwn.never rfl (kaE (K:=K) (pv 0)) (kbb (K:=K) (n:=3) rfl (kay (pgn (i:=3) QD.nd) (kay (pgn (i:=4) QD.nd) (kay (pgn (i:=5) QD.nd) kba))))
   (kag (ps_if (PW.pt (ka7 (kam op_eq (pv 3) kbM (kat _)) (ka7 (kam op_eq (pv 4) (pv 2) (kat _)) (kaV (kam kcz (pv 5) (pv 1) (by with_unfolding_all rfl)))))) (kag (kao pe_bl)) (kap))))
   (kag (kao pe_bl)),?_⟩
  refine⟨_,rfl,rl,rfl,⟨_,SqL.of hrl⟩,kaP (xs:=ra.map V.ref) (fun i σ H'=>H'=H∧(∀r∈rs.take i,ahdR used n r=false)∧∃v3 v4 v5:Option V,σ=[some (.ref rl),some (.ref u),some (iV n),v3,v4,v5])
   ⟨rfl,(fun r hr=>by simp at hr),none,none,none,rfl⟩ (fun i σ H' _ h=>by rw[h.1];exact SqL.of hrl) ?_ ?_⟩
  ·rintro i y σ H' hy ⟨rfl,hno,v3,v4,v5,rfl⟩
   obtain⟨a,ea,rfl⟩:=kbj hy
   obtain⟨r,er,hra⟩:=hr.at ea
   have yes:ahdR used n r=true→Q (.bl true) H':=fun e=>by
    have z:=klc (f:=ahdR used n) er e
    unfold kfO at k
    rw[z] at k
    exact k
   refine⟨a,_,rfl,SqT.of hra,rfl,_,_,rfl,_,_,rfl,_,_,rfl,rfl,?_⟩
   refine⟨_,rfl,rfl,_,rfl,?_⟩
   show if decide (V.str r.w=V.str "ahead")=true then _ else _
   rw[eq_str]
   by_cases hw:r.w=("ahead" :Str)
   ·rw[decide_eq_true hw]
    refine iteT ⟨_,rfl,_,rfl,rfl,_,rfl,?_⟩
    show if decide (iV r.a=iV n)=true then _ else _
    rw[khb]
    by_cases ha:r.a=n
    ·rw[decide_eq_true ha]
     refine iteT ⟨_,rfl,_,rfl,u,_,rfl, .inl (SqL.of hu),rfl,kbB _,_,rfl,?_⟩
     rw[if_neg JS,kcJ]
     cases hb:used.contains r.b with
     |true=>exact iteT (yes (by unfold ahdR;rw[decide_eq_true hw,decide_eq_true ha,hb];rfl))
     |false=>exact iteF ⟨rfl,kcg er hno (by unfold ahdR;rw[decide_eq_true hw,decide_eq_true ha,hb];rfl),_,_,_,rfl⟩
    ·rw[decide_eq_false ha]
     exact iteF (iteF ⟨rfl,kcg er hno (by unfold ahdR;rw[decide_eq_true hw,decide_eq_false ha];rfl),_,_,_,rfl⟩)
   ·rw[decide_eq_false hw]
    refine iteF (iteF ⟨rfl,kcg er hno ?_,_,_,_,rfl⟩)
    unfold ahdR
    rw[decide_eq_false hw]
    rfl
  ·rintro σ H' ⟨rfl,hno,v3,v4,v5,rfl⟩
   have z:=kmu (by rw[JJ];exact hr.len) hno
   unfold kfO at k
   rw[z] at k
   exact k
inductive kgD (vs:List V) (H:Hp) (Q:VK) (E_:XK):Prop
 |ct (rl u:Addr)(ra:List Addr)(rs:List Rul)(order:List Nat)(_:vs=[.ref rl, .ref u])(_:H rl=some (.lst (ra.map V.ref)))(_:P2 (fun a r=>RulIs H a r) ra rs)(_:H u=some (.lst (order.map iV)))(_:Q (pV (onlyM rs order)) H):kgD vs H Q E_
theorem kiR{f:Rul→Bool}:∀{rs:List Rul}{i:Nat}{r:Rul},rs[i]?=some r→f r=true→(∀q∈rs.take i,f q=false)→rs.find? f=some r
 |[],i,r,e,_,_=>by simp at e
 |q::rs,0,r,e,h,_=>by
  have e2:q=r:=by simpa using e
  subst e2
  simp[h]
 |q::rs,i+1,r,e,h,hno=>by
  have h1:=hno q (by simp)
  rw[List.find?_cons_of_neg (by rw[h1];simp)]
  exact kiR (by simpa using e) h fun z hz=>hno z (by simp[hz])
theorem km9{f:Rul→Bool}{rs:List Rul}{n:Nat}(hn:n=rs.length)(h:∀r∈rs.take n,f r=false):rs.find? f=none:=by
 rw[hn,Nt] at h
 exact List.find?_eq_none.mpr fun r hr=>by rw[h r hr];simp
theorem QE:kas ["rules","order","word","one","other"] ["rules","order"] (kah kbD):=by ac_rfl
theorem kdw(W:WB K mg d base):FO P w W 1 d.Yo d.Yp ["rules","order"] kgD:=by
 exists W.ZT.F,QE
 ·obtain⟨rl,u,ra,rs,order,rfl,hrl,hr,hu,k⟩:=h
  refine⟨_,kab (kaZ PassesOwn.never rfl (kaE (K:=K) (pv 0)) (kbb (K:=K) (n:=3) rfl (kay (pgn (i:=2) QE.nd) (kay (pgn (i:=3) QE.nd) (kay (pgn (i:=4) QE.nd) kba))))
   (kag (ps_if (PW.pt (ka7 (kam op_eq (pv 2) kbM (kat _)) (ka7 (kam kcz (pv 3) (pv 1) (by with_unfolding_all rfl)) (kaV (kam kgQ (pv 4) (pv 1) (by with_unfolding_all rfl)))))) (kag (kao (pv 3))) (kap))))
   (kag (kao kby)),?_⟩
  refine⟨_,rfl,rl,rfl,⟨_,SqL.of hrl⟩,kaP (xs:=ra.map V.ref) (fun i σ H'=>H'=H∧(∀r∈rs.take i,loneM order r=false)∧∃v3 v4 v5:Option V,σ=[some (.ref rl),some (.ref u),v3,v4,v5])
   ⟨rfl,(fun r hr=>by simp at hr),none,none,none,rfl⟩ (fun i σ H' _ h=>by rw[h.1];exact SqL.of hrl) ?_ ?_⟩
  ·rintro i y σ H' hy ⟨rfl,hno,v3,v4,v5,rfl⟩
   obtain⟨a,ea,rfl⟩:=kbj hy
   obtain⟨r,er,hra⟩:=hr.at ea
   refine⟨a,_,rfl,SqT.of hra,rfl,_,_,rfl,_,_,rfl,_,_,rfl,rfl,?_⟩
   refine⟨_,rfl,rfl,_,rfl,?_⟩
   show if decide (V.str r.w=V.str "only")=true then _ else _
   rw[eq_str]
   by_cases hw:r.w=("only" :Str)
   ·rw[decide_eq_true hw]
    refine iteT ⟨_,rfl,_,rfl,u,_,rfl, .inl (SqL.of hu),rfl,kbB _,_,rfl,?_⟩
    rw[if_neg JS,kcJ]
    cases ha:order.contains r.a with
    | true=>
     refine iteT ⟨_,rfl,_,rfl,u,_,rfl, .inl (SqL.of hu),rfl,kbB _,_,rfl,?_⟩
     rw[if_pos rfl,kcJ]
     cases hb:order.contains r.b with
     |true=>exact iteF ⟨rfl,kcg er hno (by unfold loneM;rw[decide_eq_true hw,ha,hb];rfl),_,_,_,rfl⟩
     |false=>
      refine iteT ⟨_,rfl,?_⟩
      have z:=kiR (f:=loneM order) er (by unfold loneM;rw[decide_eq_true hw,ha,hb];rfl) hno
      unfold onlyM at k
      rw[z] at k
      exact k
    |false=>exact iteF (iteF ⟨rfl,kcg er hno (by unfold loneM;rw[decide_eq_true hw,ha];rfl),_,_,_,rfl⟩)
   ·rw[decide_eq_false hw]
    refine iteF (iteF ⟨rfl,kcg er hno ?_,_,_,_,rfl⟩)
    unfold loneM
    rw[decide_eq_false hw]
    rfl
  ·rintro σ H' ⟨rfl,hno,v3,v4,v5,rfl⟩
   have z:=km9 (by rw[JJ];exact hr.len) hno
   unfold onlyM at k
   rw[z] at k
   exact k
inductive kia (d:D) (vs:List V) (H:Hp) (Q:VK) (E_:XK):Prop
 |ct (t h u:Addr)(T:TillD)(hand:List Int)(used:List Nat)(n:Nat)(V:Vch)(_:vs=[.ref t, .ref h, .ref u,iV n])(_:TillIs d H t T)(_:H h=some (.lst (hand.map L2.V.int)))(_:H u=some (.lst (used.map iV)))(_:T.vs[n]?=some V)(_:hand.length=T.vs.length)(_:Q (sV (wordM V T.rs hand used n)) H):kia d vs H Q E_
theorem kef:kas ["till","hand","used","number"] ["till","hand","used","number"] (kah kb5):=by ac_rfl
theorem kel(W:WB K mg d base):FO P w W 2 d.Yi d.Yj ["till","hand","used","number"] (kia d):=by
 exists W.ZQ.F,kef
 ·obtain⟨t,h,u,T,hand,used,n,Vc,rfl,hT,hh,hu,hn,hl,k⟩:=h
  obtain⟨dx,fs,p,vl,rl,va,ra,ht,t1,t2,t3,t4,hp,hvl,hva,hrl,hra⟩:=hT
  exists Ui,keP,W
  exists Uj,keQ,W
  refine⟨_,kab (ps_if (kam op_gt (pe_op kb3 (pe_bm NK E2 E3 kiG (pv 2) (kaa (pv 3) kad)) kaf) (pe_ix (r:=rIxL K) kaO (pv 1) (pv 3) (fun _ _=>rfl)) (kat _)) (kag (kao kbM)) (kap))
   (kab (ps_if (PW.pt (ka7 (ka0 (kaj (K:=K) (kaj (K:=K) (pe_ix (r:=rIxL K) kaO (kaj (K:=K) (pv 0) rfl) (pv 3) (fun _ _=>rfl)) rfl) rfl)) (kaV (kam kcz (pv 3) (pv 2) (by with_unfolding_all rfl))))) (kag (kao kbM)) (kap))
   (kab (ps_if (ka0 (pcl Ui hr W.ZR (kaa (kaj (K:=K) (pv 0) rfl) (kaa (pv 2) (kaa (pv 3) kad))))) (kag (kao kbM)) (kap))
   (kab (ps_if (ka0 (pcl Uj hr W.ZS (kaa (kaj (K:=K) (pv 0) rfl) (kaa (pv 2) (kaa (pv 3) kad))))) (kag (kao kbM)) (kap))
   (kag (kao kby))))),?_⟩
  obtain⟨v,ev⟩:=at_of (xs:=va) (i:=n) (by rw[hva.len];exact at_lt hn)
  obtain⟨Vc',eV',hV⟩:=hva.at ev
  rw[hn] at eV'
  cases eV'
  obtain⟨mA,dxv,fsv,hv,lvm,_,⟨dxm,fsm,hm,m1,m2,m3,m4,m5,m6⟩,hh',_⟩:=id hV
  obtain⟨z,ez⟩:=at_of (xs:=hand) (i:=n) (by rw[hl];exact at_lt hn)
  have eu:H u=some (.lst ((used.map fun(i:Nat)=>(i:Int)).map V.int)):=by rw[hu,J8];rfl
  have eg:hand.getD n 0=z:=by rw[J5,ez];rfl
  refine⟨_,rfl, .inl ⟨rfl,_,SqL.of hu⟩,_,rfl,u,_,_,rfl,rfl,eu,_,_,rfl,rfl,_,rfl,_,rfl,h,_,_,_,rfl,rfl,SqL.of hh,kaY (v:=.int z) (by rw[JU,ez];rfl),_,_,rfl,rfl,_,rfl,?_⟩
  rw[kk4]
  unfold wordM at k
  rw[eg] at k
  by_cases c1:z<(used.count n:Int)+1
  ·rw[if_pos c1] at k
   rw[show decide ((used.count n:Int)+1 > z)=true from decide_eq_true c1]
   exact iteT k
  rw[if_neg c1] at k
  rw[show decide ((used.count n:Int)+1 > z)=false from decide_eq_false c1]
  refine iteF ?_
  refine⟨_,rfl,t,d.qd,dx,fs,_,rfl,ht,W.qd.cl,W.qB,t2,_,rfl,vl,_,_,_,rfl,rfl,SqL.of hvl,kaY (v:=.ref v) (by rw[JU,ev];rfl),v,clsOf d Vc.so,dxv,fsv,_,rfl,hv,cl_of W hh',na_of W hh',lvm,mA,d.qf,dxm,fsm,_,rfl,hm,W.qf.cl,W.Q0,m5,Vc.ms.once,rfl,?_⟩
  cases ho:Vc.ms.once with
  | true=>
   rw[ho,Bool.true_and] at k
   refine iteT ⟨_,rfl,_,rfl,u,_,rfl, .inl (SqL.of hu),rfl,kbB _,_,rfl,?_⟩
   rw[if_neg JS,kcJ]
   cases hc:used.contains n with
   |true=>
    rw[hc,if_pos rfl] at k
    exact iteT k
   | false=>
    rw[hc,if_neg JS] at k
    refine iteF ?_
    refine⟨_,rfl,t,d.qd,dx,fs,_,rfl,ht,W.qd.cl,W.qS,t3,_,rfl,_,rfl,rl,u,ra,T.rs,used,n,rfl,hrl,hra,hu,_,rfl,?_⟩
    cases h1:kfG T.rs used n with
    |true=>
     rw[h1,if_pos rfl] at k
     exact iteT k
    | false=>
     rw[h1,if_neg JS] at k
     refine iteF ⟨_,rfl,t,d.qd,dx,fs,_,rfl,ht,W.qd.cl,W.qS,t3,_,rfl,_,rfl,rl,u,ra,T.rs,used,n,rfl,hrl,hra,hu,_,rfl,?_⟩
     cases h2:kfO T.rs used n with
     |true=>
      rw[h2,if_pos rfl] at k
      exact iteT k
     |false=>
      rw[h2,if_neg JS] at k
      exact iteF k
  | false=>
   rw[ho,MH,if_neg JS] at k
   refine iteF (iteF ?_)
   refine⟨_,rfl,t,d.qd,dx,fs,_,rfl,ht,W.qd.cl,W.qS,t3,_,rfl,_,rfl,rl,u,ra,T.rs,used,n,rfl,hrl,hra,hu,_,rfl,?_⟩
   cases h1:kfG T.rs used n with
   |true=>
    rw[h1,if_pos rfl] at k
    exact iteT k
   | false=>
    rw[h1,if_neg JS] at k
    refine iteF ⟨_,rfl,t,d.qd,dx,fs,_,rfl,ht,W.qd.cl,W.qS,t3,_,rfl,_,rfl,rl,u,ra,T.rs,used,n,rfl,hrl,hra,hu,_,rfl,?_⟩
    cases h2:kfO T.rs used n with
    |true=>
     rw[h2,if_pos rfl] at k
     exact iteT k
    |false=>
     rw[h2,if_neg JS] at k
     exact iteF k
inductive kjD (d:D) (vs:List V) (H:Hp) (Q:VK) (E_:XK):Prop
 |ct (H0:Hp)(w dx t b h:Addr)(hand:List Int)(B:Bask)(_:vs=[.ref w, .ref t, .ref b, .ref h])(_:H0 w=none)(_:Same H0 H)(_:H w=some (.ins d.c_Way dx []))(_:H0 h=some (.lst (hand.map V.int)))(_:BaskIs d.qe d.qg H0 b B)(_:B.rs.length≤12)(_:(∀r∈B.rs,r.Ok))(_:∀(H':Hp)(x:Addr),Same H0 H'→H0 x=none→WayN d 5 H0 H' w t b x hand []→StndIs d.qc H' x (stnd0 B)→Q .non H'):kjD d vs H Q E_
theorem khw:kas ["self","till","basket","hand"] ["self","till","basket","hand"] (kah kdV):=by ac_rfl
theorem kdn(W:WB K mg d base):FO P w W 4 d.Zp d.Zq ["self","till","basket","hand"] (kjD d):=by
 exists W.qL.F,khw
 ·obtain⟨H0,wy,dx,t,b,h,hand,B,rfl,fw,s0,hw,hh,hb,hB,hok,k⟩:=h
  exists Xq,kcP,W
  refine⟨_,kab (kaI (pv 0) (pv 1) rfl)
   (kab (kaI (pv 0) (pv 2) rfl)
   (kab (kaI (pv 0) (kaA (r:=kaJ K) kav (by rfl) W.B.list kaU (kaa (pv 3) kad)) rfl)
   (kab (kaI (pv 0) (kaS kad) rfl)
   (kag (kaI (pv 0) (kbp (W.Qb.mk' W.qc) Xq hr rfl W.qc.m W.Qb.b .nil pass0 (kaa (pv 2) kad)) rfl))))),?_⟩
  exists Y4
  refine⟨_,rfl,_,rfl,wy,d.c_Way,dx,[],rfl,hw,W.c_Way.cl,W.qr,by decide,?_⟩
  have s1:Same H0 (upd H wy (.ins d.c_Way dx (putF "till" (.ref t) []))):=kaw fw s0 (nx hw)
  have hw1:(upd H wy (.ins d.c_Way dx (putF "till" (.ref t) []))) wy=some (.ins d.c_Way dx (putF "till" (.ref t) [])):=kae
  generalize upd H wy (.ins d.c_Way dx (putF "till" (.ref t) []))=H1 at *
  symm
  exists Y4
  refine⟨_,rfl,_,rfl,wy,d.c_Way,dx,_,rfl,hw1,W.c_Way.cl,W.Qc,few (JN (kal (n:=0) (JK _)) (by decide)),?_⟩
  have s2:Same H0 (upd H1 wy (.ins d.c_Way dx (putF "basket" (.ref b) (putF "till" (.ref t) [])))):=kaw fw s1 (nx hw1)
  have hw2:(upd H1 wy (.ins d.c_Way dx (putF "basket" (.ref b) (putF "till" (.ref t) [])))) wy=some (.ins d.c_Way dx (putF "basket" (.ref b) (putF "till" (.ref t) []))):=kae
  generalize upd H1 wy (.ins d.c_Way dx (putF "basket" (.ref b) (putF "till" (.ref t) [])))=H2 at *
  symm
  exists Y4
  refine⟨_,rfl,h,_,rfl, .inl (SqL.of (s2 _ _ hh)),fun h' hh'=>?_⟩
  have n3:=kan (o:=.lst (hand.map V.int)) hh'
  have nh:h'≠wy:=(kai hw2 hh').symm
  have s3:=s2.trans n3
  have e3:(upd H2 h' (.lst (hand.map V.int))) h'=some (.lst (hand.map V.int)):=kae
  have hw3:=n3 _ _ hw2
  clear n3
  generalize upd H2 h' (.lst (hand.map V.int))=H3 at *
  symm
  exists Y4
  refine⟨_,rfl,wy,d.c_Way,dx,_,rfl,hw3,W.c_Way.cl,W.Qx,few (JN (kal (kal (n:=0) (JK _))) (by decide)),?_⟩
  have s4:Same H0 (upd H3 wy (.ins d.c_Way dx (putF "hand" (.ref h') (putF "basket" (.ref b) (putF "till" (.ref t) []))))):=kaw fw s3 (nx hw3)
  have e4:(upd H3 wy (.ins d.c_Way dx (putF "hand" (.ref h') (putF "basket" (.ref b) (putF "till" (.ref t) []))))) h'=some (.lst (hand.map V.int)):=by rw[kak nh];exact e3
  have hw4:(upd H3 wy (.ins d.c_Way dx (putF "hand" (.ref h') (putF "basket" (.ref b) (putF "till" (.ref t) []))))) wy=some (.ins d.c_Way dx (putF "hand" (.ref h') (putF "basket" (.ref b) (putF "till" (.ref t) [])))):=kae
  generalize upd H3 wy (.ins d.c_Way dx (putF "hand" (.ref h') (putF "basket" (.ref b) (putF "till" (.ref t) []))))=H4 at *
  symm
  exists Y4
  refine⟨by decide,fun u hu=>?_⟩
  have n5:=kan (o:=.lst []) hu
  have nu:u≠wy:=(kai hw4 hu).symm
  have s5:=s4.trans n5
  have e5:=n5 _ _ e4
  have eu5:(upd H4 u (.lst [])) u=some (.lst (([]:List Nat).map iV)):=kae
  have hw5:=n5 _ _ hw4
  clear n5
  generalize upd H4 u (.lst [])=H5 at *
  symm
  exists Y4
  refine⟨_,rfl,wy,d.c_Way,dx,_,rfl,hw5,W.c_Way.cl,W.qp,few (JN (kal (kal (kal (n:=0) (JK _)))) (by decide)),?_⟩
  have s6:Same H0 (upd H5 wy (.ins d.c_Way dx (putF "used" (.ref u) (putF "hand" (.ref h') (putF "basket" (.ref b) (putF "till" (.ref t) [])))))):=kaw fw s5 (nx hw5)
  have e6:(upd H5 wy (.ins d.c_Way dx (putF "used" (.ref u) (putF "hand" (.ref h') (putF "basket" (.ref b) (putF "till" (.ref t) [])))))) h'=some (.lst (hand.map V.int)):=by rw[kak nh];exact e5
  have eu6:(upd H5 wy (.ins d.c_Way dx (putF "used" (.ref u) (putF "hand" (.ref h') (putF "basket" (.ref b) (putF "till" (.ref t) [])))))) u=some (.lst (([]:List Nat).map iV)):=by rw[kak nu];exact eu5
  have hw6:(upd H5 wy (.ins d.c_Way dx (putF "used" (.ref u) (putF "hand" (.ref h') (putF "basket" (.ref b) (putF "till" (.ref t) [])))))) wy=some (.ins d.c_Way dx (putF "used" (.ref u) (putF "hand" (.ref h') (putF "basket" (.ref b) (putF "till" (.ref t) []))))):=kae
  generalize upd H5 wy (.ins d.c_Way dx (putF "used" (.ref u) (putF "hand" (.ref h') (putF "basket" (.ref b) (putF "till" (.ref t) [])))))=H6 at *
  symm
  exists Y4
  refine⟨_,rfl,kmY (hb.same s6) hB hok fun H7 x s7 f7 hx=>?_⟩
  have hw7:=s7 _ _ hw6
  have fx:H0 x=none:=s6.free f7
  have nxw:x≠wy:=(kai hw6 f7).symm
  symm
  exists Y4
  refine⟨_,rfl,wy,d.c_Way,dx,_,rfl,hw7,W.c_Way.cl,W.qx,few (JN (kal (kal (kal (kal (n:=0) (JK _))))) (by decide)),?_⟩
  symm
  refine k _ x (kaw fw (s6.trans s7) (nx hw7)) fx ⟨fw,dx,_,h',u,none_of s2 hh',none_of s4 hu,kae,?_,?_,?_,?_,?_,?_,?_,?_,?_,?_,?_,?_⟩ ?_
  ·ac_nf
  ·ac_nf
  ·ac_nf
  ·ac_nf
  ·ac_nf
  ·ac_nf
   rfl
  ·ac_nf
   rfl
  ·ac_nf
   rfl
  ·ac_nf
   rfl
  ·exact JN (kal (kal (kal (kal (kal (n:=0) (JK _)))))) (by decide)
  ·rw[kak nh];exact s7 _ _ e6
  ·rw[kak nu];exact s7 _ _ eu6
  ·obtain⟨o,pp,mm,⟨dxs,fss,hxs,q⟩,ho,hpp,hmm⟩:=hx
   symm
   exact⟨o,pp,mm,⟨dxs,fss,by rw[kak nxw];exact hxs,q⟩,by rw[kak (ne_of ho hw7 (by intro z;cases z))];exact ho,by rw[kak (ne_of hpp hw7 (by intro z;cases z))];exact hpp,by rw[kak (ne_of hmm hw7 (by intro z;cases z))];exact hmm⟩
theorem kkg{d:D}{H:Hp}{t b h:Addr}{hand:List Int}{B:Bask}{R:Addr→Hp→Prop}{E:XK}(hh:H h=some (.lst (hand.map V.int)))(hb:BaskIs d.qe d.qg H b B)(hB:B.rs.length≤12)(hok:∀r∈B.rs,r.Ok)
  (k:∀(H':Hp)(w x:Addr),Same H H'→H w=none→H x=none→WayN d 5 H H' w t b x hand []→StndIs d.qc H' x (stnd0 B)→R w H'):
  ∀w dx,H w=none→H dx=none→dx≠w→kjD d [.ref w, .ref t, .ref b, .ref h] (upd (upd H dx (.own w)) w (.ins d.c_Way dx [])) (fun v H2=>v=.non∧R w H2) E:=
 fun w dx nw nd _=>⟨H,w,dx,t,b,h,hand,B,rfl,nw,kbh nw nd,kae,hh,hb,hB,hok,fun H' x s f hW hx=>⟨rfl,k H' w x s nw f hW hx⟩⟩
inductive kgw (d:D) (vs:List V) (H:Hp) (Q:VK) (E_:XK):Prop
 |ct (wy t b x:Addr)(T:TillD)(B:Bask)(S:Stnd)(hand:List Int)(used:List Nat)(n:Nat)(V:Vch)(_:vs=[.ref wy,iV n])(_:WayIs d H wy t b x hand used)(_:TillIs d H t T)(_:BaskIs d.qe d.qg H b B)(_:StndIs d.qc H x S)(_:Wf T.ps B S)(_:VchOk T.ps V)(_:T.vs[n]?=some V)(_:hand.length=T.vs.length)(_:∀(H':Hp),Same H H'→Q (dueM V T B hand used S n) H'):kgw d vs H Q E_
theorem VE:kas ["self","number","word"] ["self","number"] (kah kcu):=by ac_rfl
theorem kcf(W:WB K mg d base):FO P w W 5 d.Zr d.Zs ["self","number"] (kgw d):=by
 exists W.qM.F,VE
 ·obtain⟨wy,t,b,x,T,B,S,hand,used,n,Vc,rfl,hW,hT,hB,hS,wf,vo,hn,hl,k⟩:=h
  obtain⟨dxw,fsw,h,u,hw,w1,w2,w3,w4,w5,w6,w7,w8,w9,w10,hh,hu⟩:=id hW
  obtain⟨dx,fs,p,vl,rl,va,ra,ht,t1,t2,t3,t4,hp,hvl,hva,hrl,hra⟩:=id hT
  exists Uk,kel,W
  exists Ul,kgU,W
  exists hr2,2,hr,0
  refine⟨_,kab (psl (i:=2) VE.nd (pcl Uk hr2 W.ZQ (kaa (kaj (K:=K) (pv 0) rfl) (kaa (kaj (K:=K) (pv 0) rfl) (kaa (kaj (K:=K) (pv 0) rfl) (kaa (pv 1) kad))))))
   (kab (ps_if (kam kdY (pv 2) kby (kat _)) (kag (kao (pv 2))) (kap))
   (kag (kao (pcl Ul hr W.ZG (kaa (pe_ix (r:=rIxL K) kaO (kaj (K:=K) (kaj (K:=K) (pv 0) rfl) rfl) (pv 1) (fun _ _=>rfl)) (kaa (kaj (K:=K) (kaj (K:=K) (pv 0) rfl) rfl) (kaa (kaj (K:=K) (pv 0) rfl) (kaa (kaj (K:=K) (pv 0) rfl) kad)))))))),?_⟩
  obtain⟨v,ev⟩:=at_of (xs:=va) (i:=n) (by rw[hva.len];exact at_lt hn)
  obtain⟨Vc',eV',hV⟩:=hva.at ev
  rw[hn] at eV'
  cases eV'
  refine⟨_,rfl,wy,d.c_Way,dxw,fsw,_,rfl,hw,W.c_Way.cl,W.qr,w1,_,rfl,wy,d.c_Way,dxw,fsw,_,rfl,hw,W.c_Way.cl,W.Qx,w3,_,rfl,wy,d.c_Way,dxw,fsw,_,rfl,hw,W.c_Way.cl,W.qp,w4,_,rfl,t,h,u,T,hand,used,n,Vc,rfl,hT,hh,hu,hn,hl,?_⟩
  unfold dueM at k
  cases e:wordM Vc T.rs hand used n with
  |some z=>
   rw[e] at k
   refine⟨_,rfl,rfl,_,rfl,?_⟩
   show if(!decide (V.str z=V.non))=true then _ else _
   rw[show(!decide (V.str z=V.non))=true by simp]
   exact iteT ⟨_,rfl,k H (Same.refl _)⟩
  |none=>
   rw[e] at k
   refine⟨_,rfl,rfl,_,rfl,?_⟩
   show if(!decide (V.non=V.non))=true then _ else _
   rw[show(!decide (V.non=V.non))=false by simp]
   refine iteF ⟨_,rfl,wy,d.c_Way,dxw,fsw,_,rfl,hw,W.c_Way.cl,W.qr,w1,t,d.qd,dx,fs,_,rfl,ht,W.qd.cl,W.qB,t2,_,rfl,vl,_,_,_,rfl,rfl,SqL.of hvl,kaY (v:=.ref v) (by rw[JU,ev];rfl),?_⟩
   refine⟨_,rfl,wy,d.c_Way,dxw,fsw,_,rfl,hw,W.c_Way.cl,W.qr,w1,t,d.qd,dx,fs,_,rfl,ht,W.qd.cl,W.Qy,t1,_,rfl,wy,d.c_Way,dxw,fsw,_,rfl,hw,W.c_Way.cl,W.Qc,w2,_,rfl,wy,d.c_Way,dxw,fsw,_,rfl,hw,W.c_Way.cl,W.qx,w5,?_⟩
   exact⟨v,p,b,x,Vc,T.ps,B,S,rfl,hV,SqL.of hp,hB,hS,wf,vo,k⟩
inductive kim (d:D) (vs:List V) (H:Hp) (Q:VK) (E_:XK):Prop
 |ct (wy t b x:Addr)(T:TillD)(B:Bask)(S:Stnd)(hand:List Int)(used:List Nat)(n:Nat)(V:Vch)(_:vs=[.ref wy,iV n])(_:WayIs d H wy t b x hand used)(_:TillIs d H t T)(_:BaskIs d.qe d.qg H b B)(_:StndIs d.qc H x S)(_:Wf T.ps B S)(_:VchOk T.ps V)(_:T.vs[n]?=some V)(_:used.length<64)(_:∀(H':Hp)(wy' x':Addr),Same H H'→H wy'=none→WayN d 7 H H' wy' t b x' hand (used++[n])→StndN d.qc H H' x' (aftM V T.ps (kds B) S)→Q (.ref wy') H'):kim d vs H Q E_
theorem VF:kas ["self","number","further"] ["self","number"] (kah kcU):=by ac_rfl
theorem kdB(W:WB K mg d base):FO P w W 6 d.Zt d.Zu ["self","number"] (kim d):=by
 exists W.Qd.F,VF
 ·obtain⟨wy,t,b,x,T,B,S,hand,used,n,Vc,rfl,hW,hT,hB,hS,wf,vo,hn,hl,k⟩:=h
  obtain⟨dxw,fsw,h,u,hw,w1,w2,w3,w4,w5,w6,w7,w8,w9,w10,hh,hu⟩:=id hW
  obtain⟨dx,fs,p,vl,rl,va,ra,ht,t1,t2,t3,t4,hp,hvl,hva,hrl,hra⟩:=id hT
  exists Qj,kdn,W
  exists Um,klA,W
  refine⟨_,kab (psl (i:=2) VF.nd (kbp (W.qL.mk' W.c_Way) Qj hr rfl W.c_Way.m W.qL.b .nil pass0 (kaa (kaj (K:=K) (pv 0) rfl) (kaa (kaj (K:=K) (pv 0) rfl) (kaa (kaj (K:=K) (pv 0) rfl) kad)))))
   (kab (kaI (pv 2) (pe_op keN (kaj (K:=K) (pv 0) rfl) (kaS (kaa (pv 1) kad))) rfl)
   (kab (kaI (pv 2) (pcl Um hr W.ZH (kaa (pe_ix (r:=rIxL K) kaO (kaj (K:=K) (kaj (K:=K) (pv 0) rfl) rfl) (pv 1) (fun _ _=>rfl)) (kaa (kaj (K:=K) (kaj (K:=K) (pv 0) rfl) rfl) (kaa (kaj (K:=K) (pv 0) rfl) (kaa (kaj (K:=K) (pv 0) rfl) kad))))) rfl)
   (kag (kao (pv 2))))),?_⟩
  obtain⟨v,ev⟩:=at_of (xs:=va) (i:=n) (by rw[hva.len];exact at_lt hn)
  obtain⟨Vc',eV',hV⟩:=hva.at ev
  rw[hn] at eV'
  cases eV'
  exists Y4
  refine⟨_,rfl,wy,d.c_Way,dxw,fsw,_,rfl,hw,W.c_Way.cl,W.qr,w1,_,rfl,wy,d.c_Way,dxw,fsw,_,rfl,hw,W.c_Way.cl,W.Qc,w2,_,rfl,wy,d.c_Way,dxw,fsw,_,rfl,hw,W.c_Way.cl,W.Qx,w3,kkg hh hB wf.nl wf.ok fun H1 y x1 s1 fy fx1 hy hx1=>?_⟩
  obtain⟨_,dxy,fsy,h1,u1,fh1,_,hyy,y1,y2,y3,y4,y5,y6,y7,y8,y9,y10,hh1,hu1⟩:=hy
  symm
  exists Y4
  refine⟨_,rfl,wy,d.c_Way,dxw,fsw,_,rfl,s1 _ _ hw,W.c_Way.cl,W.qp,w4,_,rfl,(by show 1≤sizeLine;decide),fun q1 hq1=>?_⟩
  have n2:=kan (o:=.lst [iV n]) hq1
  have eq1:(upd H1 q1 (.lst [iV n])) q1=some (.lst [iV n]):=kae
  have s2:=s1.trans n2
  have hy2:=n2 _ _ hyy
  have hh2:=n2 _ _ hh1
  clear n2
  generalize upd H1 q1 (.lst [iV n])=H2 at *
  symm
  exists Y4
  refine⟨u,q1,_,_,rfl,rfl,s2 _ _ hu,eq1,JY (kau (by rw[JJ];show _+1≤1000;omega)),fun q2 hq2=>?_⟩
  have n3:=kan (o:=.lst (used.map iV++[iV n])) hq2
  have eq2:(upd H2 q2 (.lst (used.map iV++[iV n]))) q2=some (.lst ((used++[n]).map iV)):=by rw[kae,JQ];rfl
  have s3:=s2.trans n3
  have hy3:=n3 _ _ hy2
  have hh3:=n3 _ _ hh2
  have nq2:q2≠y:=(kai hy2 hq2).symm
  clear n3
  generalize upd H2 q2 (.lst (used.map iV++[iV n]))=H3 at *
  have nh1:h1≠y:=ne_of hh3 hy3 (by intro z;cases z)
  symm
  exists Y4
  refine⟨_,rfl,y,d.c_Way,dxy,fsy,rfl,hy3,W.c_Way.cl,W.qp,few (JN y10 (by decide)),?_⟩
  have s4:Same H (upd H3 y (.ins d.c_Way dxy (putF "used" (.ref q2) fsy))):=kaw fy s3 (nx hy3)
  have eq4:(upd H3 y (.ins d.c_Way dxy (putF "used" (.ref q2) fsy))) q2=some (.lst ((used++[n]).map iV)):=by rw[kak nq2];exact eq2
  have hh4:(upd H3 y (.ins d.c_Way dxy (putF "used" (.ref q2) fsy))) h1=some (.lst (hand.map V.int)):=by rw[kak nh1];exact hh3
  have hy4:(upd H3 y (.ins d.c_Way dxy (putF "used" (.ref q2) fsy))) y=some (.ins d.c_Way dxy (putF "used" (.ref q2) fsy)):=kae
  generalize upd H3 y (.ins d.c_Way dxy (putF "used" (.ref q2) fsy))=H4 at *
  symm
  exists Y4
  refine⟨_,rfl,wy,d.c_Way,dxw,fsw,_,rfl,s4 _ _ hw,W.c_Way.cl,W.qr,w1,t,d.qd,dx,fs,_,rfl,s4 _ _ ht,W.qd.cl,W.qB,t2,_,rfl,vl,_,_,_,rfl,rfl,SqL.of (s4 _ _ hvl),kaY (v:=.ref v) (by rw[JU,ev];rfl),?_⟩
  symm
  exists Y4
  refine⟨_,rfl,wy,d.c_Way,dxw,fsw,_,rfl,s4 _ _ hw,W.c_Way.cl,W.qr,w1,t,d.qd,dx,fs,_,rfl,s4 _ _ ht,W.qd.cl,W.Qy,t1,_,rfl,wy,d.c_Way,dxw,fsw,_,rfl,s4 _ _ hw,W.c_Way.cl,W.Qc,w2,_,rfl,wy,d.c_Way,dxw,fsw,_,rfl,s4 _ _ hw,W.c_Way.cl,W.qx,w5,?_⟩
  symm
  exists Y4
  refine⟨v,p,b,x,Vc,T.ps,B,S,rfl,hV.same s4,SqL.of (s4 _ _ hp),hB.same s4,hS.same s4,wf,vo,fun H5 x' s5 f5 ⟨_,o,pp,mm,⟨dxs,fss,hxs,q⟩,fo,fpp,fmm,ho,hpp,hmm⟩=>?_⟩
  have hy5:=s5 _ _ hy4
  have hh5:=s5 _ _ hh4
  have eq5:=s5 _ _ eq4
  have nx':x'≠y:=(kai hy4 f5).symm
  symm
  exists Y4
  refine⟨_,rfl,y,d.c_Way,dxy,_,rfl,hy5,W.c_Way.cl,W.qx,few (JN (kal y10) (by decide)),?_⟩
  symm
  exists Y4
  refine⟨_,rfl,k _ y x' (kaw fy (s4.trans s5) (nx hy5)) fy ⟨fy,dxy,_,h1,q2,fh1,none_of s2 hq2,kae,?_,?_,?_,?_,?_,?_,?_,?_,?_,?_,?_,?_⟩ ?_⟩
  ·ac_nf
   symm
   exact y1
  ·ac_nf
   symm
   exact y2
  ·ac_nf
   symm
   exact y3
  ·ac_nf
  ·ac_nf
  ·ac_nf
   symm
   exact y6
  ·ac_nf
   symm
   exact y7
  ·ac_nf
   symm
   exact y8
  ·ac_nf
   symm
   exact y9
  ·exact JN (kal (kal y10)) (by decide)
  ·rw[kak nh1];exact hh5
  ·rw[kak nq2];exact eq5
  ·exact⟨none_of s4 f5,o,pp,mm,⟨dxs,fss,by rw[kak nx'];exact hxs,q⟩,none_of s4 fo,none_of s4 fpp,none_of s4 fmm,by rw[kak (ne_of ho hy5 (by intro z;cases z))];exact ho,by rw[kak (ne_of hpp hy5 (by intro z;cases z))];exact hpp,by rw[kak (ne_of hmm hy5 (by intro z;cases z))];exact hmm⟩
inductive kjM (d:D) (vs:List V) (H:Hp) (Q:VK) (E_:XK):Prop
 |ct (wy t b x:Addr)(T:TillD)(hand:List Int)(used:List Nat)(_:vs=[.ref wy])(_:WayIs d H wy t b x hand used)(_:TillIs d H t T)(_:Q (.bl (onlyM T.rs used).isNone) H):kjM d vs H Q E_
theorem keh:kas ["self"] ["self"] (kah kca):=by ac_rfl
theorem kbY(W:WB K mg d base):FO P w W 2 d.Zx d.Zy ["self"] (kjM d):=by
 exists W.qN.F,keh
 ·obtain⟨wy,t,b,x,T,hand,used,rfl,hW,hT,k⟩:=h
  obtain⟨dxw,fsw,h,u,hw,w1,w2,w3,w4,w5,w6,w7,w8,w9,w10,hh,hu⟩:=id hW
  obtain⟨dx,fs,p,vl,rl,va,ra,ht,t1,t2,t3,t4,hp,hvl,hva,hrl,hra⟩:=id hT
  exists Uo,kdw,W
  refine⟨_,kag (kao (kce kgR (pcl Uo hr W.ZT (kaa (kaj (K:=K) (kaj (K:=K) (pv 0) rfl) rfl) (kaa (kaj (K:=K) (pv 0) rfl) kad))) kby (kat _))),?_⟩
  refine⟨_,rfl,wy,d.c_Way,dxw,fsw,_,rfl,hw,W.c_Way.cl,W.qr,w1,t,d.qd,dx,fs,_,rfl,ht,W.qd.cl,W.qS,t3,_,rfl,wy,d.c_Way,dxw,fsw,_,rfl,hw,W.c_Way.cl,W.qp,w4,rl,u,ra,T.rs,used,rfl,hrl,hra,hu,rfl,?_⟩
  cases e:onlyM T.rs used with
  |none=>
   rw[e] at k
   show Q (.bl (decide (V.non=V.non))) H
   rw[show decide (V.non=V.non)=true by simp]
   exact k
  |some z=>
   rw[e] at k
   show Q (.bl (decide (V.int (z:Int)=V.non))) H
   rw[show decide (V.int (z:Int)=V.non)=false by simp]
   exact k
noncomputable def canM(T:TillD)(B:Bask)(hand:List Int)(used:List Nat)(S:Stnd)(n:Nat):Bool:=match T.vs[n]? with
 |none=>false
 |some V=>decide (dueM V T B hand used S n=.non)
noncomputable def folM(T:TillD)(B:Bask)(hand:List Int)(used:List Nat)(S:Stnd):List Nat:=(JP T.vs.length).filter (canM T B hand used S)
theorem ki6{p:Nat→Bool}{i:Nat}:(JP (i+1)).filter p=(JP i).filter p++(if p i=true then [i] else []):=by
 rw[NC,Mq,Mr,Ek]
inductive kii (d:D) (vs:List V) (H:Hp) (Q:VK) (E_:XK):Prop
 |ct (wy t b x:Addr)(T:TillD)(B:Bask)(S:Stnd)(hand:List Int)(used:List Nat)(_:vs=[.ref wy])(_:WayIs d H wy t b x hand used)(_:TillIs d H t T)(_:kbm T)(_:BaskIs d.qe d.qg H b B)(_:StndIs d.qc H x S)(_:Wf T.ps B S)(_:hand.length=T.vs.length)(_:∀(H':Hp)(p:Addr),Same H H'→H p=none→H' p=some (.lst ((folM T B hand used S).map iV))→Q (.ref p) H'):kii d vs H Q E_
theorem kei:kas ["self"] ["self"] (kah kbx):=by ac_rfl
theorem kcO(W:WB K mg d base):FO P w W 6 d.Zv d.Zw ["self"] (kii d):=by
 exists W.Qe.F,kei
 ·obtain⟨wy,t,b,x,T,B,S,hand,used,rfl,hW,hT,tok,hB,hS,wf,hl,kk⟩:=h
  obtain⟨dxw,fsw,h,u,hw,w1,w2,w3,w4,w5,w6,w7,w8,w9,w10,hh,hu⟩:=id hW
  obtain⟨dx,fs,p,vl,rl,va,ra,ht,t1,t2,t3,t4,hp,hvl,hva,hrl,hra⟩:=id hT
  exists Qk,kcf,W
  refine⟨_,kag (kao (kev (N:=["number","self"]) (CompScope.of (N:=["number","self"]) (cap:=[none,some 0]) (kah kbx).names ["self"] rfl rfl (by decide +kernel)) rfl (kdv rfl W.B.range (kaa (kaq (r:=kaK K) kar (by rfl) W.B.len b_len (kaa (kaj (K:=K) (kaj (K:=K) (pv 0) rfl) rfl) kad)) kad)) (fun _ _ _ _=>pgn (i:=0) (show(["number","self"]:List Str).Nodup by decide +kernel)) (fun _ _ _ _=>kf5 (kam kgR (kdm (pv 1) W.c_Way.cl W.qM.me Qk hr W.qM.b .nil pass0 (kaa (pv 0) kad)) kby (kat _))) (fun _ _ _ _=>(pv 0)))),?_⟩
  have nv:=tok.nv
  have lva:=hva.len
  refine⟨_,rfl,wy,d.c_Way,dxw,fsw,_,rfl,hw,W.c_Way.cl,W.qr,w1,t,d.qd,dx,fs,_,rfl,ht,W.qd.cl,W.qB,t2,vl,_,rfl, .inl (SqL.of hvl),_,rfl,by omega,by rw[JJ];omega,?_⟩
  rw[show(((va.map V.ref).length:Nat):Int).toNat=T.vs.length by rw[JJ];omega]
  refine kfa (fun i σ ys H'=>Same H H'∧ys=((JP i).filter (canM T B hand used S)).map iV∧∃v0:Option V,σ=[v0,some (.ref wy)]) ⟨Same.refl _,rfl,none,rfl⟩ (JY (kau (by omega))) ?_ ?_ ?_
  ·rintro i σ ys H' hi ⟨_,rfl,_⟩
   rw[JJ]
   exact JN (MC _ _) (by rw[List.length_range];exact JK _)
  ·rintro i σ ys H' hi ⟨s1,rfl,v0,rfl⟩
   rw[Int.zero_add]
   obtain⟨Vc,hV⟩:=at_of (xs:=T.vs) (i:=i) hi
   have vo:=tok.vs Vc (JO hV)
   refine⟨_,rfl,wy,dxw,fsw,rfl,s1 _ _ hw,w6,_,rfl,wy,t,b,x,T,B,S,hand,used,i,Vc,rfl,hW.same s1,hT.same s1,hB.same s1,hS.same s1,wf,vo,hV,hl,fun H2 s2=>⟨rfl,_,rfl,?_⟩⟩
   have ec:canM T B hand used S i=decide (dueM Vc T B hand used S i=.non):=by unfold canM;rw[hV]
   rw[ki6,ec]
   by_cases hn:dueM Vc T B hand used S i=.non
   ·rw[decide_eq_true hn]
    refine iteT ⟨_,rfl,s1.trans s2,?_,_,rfl⟩
    rw[if_pos rfl,JQ]
    rfl
   ·rw[decide_eq_false hn]
    refine iteF ⟨s1.trans s2,?_,_,rfl⟩
    rw[if_neg JS,Nl]
  ·rintro σ ys H' ⟨s1,rfl,v0,rfl⟩ q hq
   exact kk _ q (s1.trans (kan hq)) (s1.free hq) kae
noncomputable def remM(hand:List Int)(used:List Nat):Nat:=((JP hand.length).map fun m=>(hand.getD m 0-(used.count m:Int)).toNat).sum
theorem kh9{f g:Nat→Nat}{n:Nat}:∀{L:Nat},n<L→f n=g n+1→(∀m,m≠n→f m=g m)→((JP L).map f).sum=((JP L).map g).sum+1
 |0,h,_,_=>by omega
 | L+1,h,h1,h2=>by
  rw[NC,JQ,JQ,NP,NP]
  simp only[JV,NS,Nf,MF]
  by_cases e:n=L
  ·subst e
   have:(JP n).map f=(JP n).map g:=NN fun m hm=>h2 m (by have:=MT.mp hm;omega)
   rw[this,h1]
   omega
  ·rw[kh9 (by omega) h1 h2,h2 L (Ne.symm e)]
   omega
theorem kf1{hand:List Int}{used:List Nat}{n:Nat}(hn:n<hand.length)(h:(used.count n:Int)+1≤hand.getD n 0):remM hand used=remM hand (used++[n])+1:=by
 unfold remM
 refine kh9 hn ?_ fun m hm=>?_
 ·rw[MS,show List.count n [n]=1 by simp]
  generalize hand.getD n 0=g at *
  omega
 ·rw[MS]
  have:List.count m [n]=0:=by simp[Ne.symm hm]
  rw[this]
  simp
theorem kmI:∀(hand:List Int),(∀z∈hand,0≤z)→(remM hand []:Int)=hand.sum:=by
 intro hand h
 have key:∀(L:Nat),L≤hand.length→((((JP L).map fun m=>(hand.getD m 0-((([]:List Nat).count m:Nat):Int)).toNat).sum:Nat):Int)=(hand.take L).sum:=by
  intro L
  induction L with
  |zero=>intro _;rfl
  |succ L ih=>
   intro hL
   have hz:hand[L]?=some hand[L]:=N1 (by omega)
   have e:hand.take (L+1)=hand.take L++[hand[L]]:=by rw[N8,hz];rfl
   have h0:=h hand[L] (M3 _)
   rw[NC,JQ,NP,e,NP]
   simp only[JV,NS,Nf,MF,List.count_nil]
   have eg:hand.getD L 0=hand[L]:=by rw[J5,hz];rfl
   rw[eg]
   have:=ih (by omega)
   simp only[List.count_nil] at this
   omega
 have:=key hand.length (JK _)
 rw[Nt] at this
 exact this
theorem kms{p:Nat→Bool}{f:Nat→Nat}(h:∀m,p m=true→1≤f m):∀L:Nat,((JP L).filter p).length≤((JP L).map f).sum
 |0=>JK _
 | L+1=>by
  have ih:=kms h L
  rw[NC,Mq,JW,JQ,NP]
  simp only[JV,NS,Nf,MF,Mr,Ek]
  by_cases e:p L=true
  ·have:=h L e
   rw[if_pos e]
   simp
   omega
  ·rw[if_neg e]
   simp
   omega
noncomputable def fan:Nat→Nat
 |0=>1
 |r+1=>1+(r+1)*fan r
theorem kdJ:∀{r s:Nat},r≤s→fan r≤fan s
 |r,0,h=>by rw[Nat.le_zero.mp h];exact JK _
 | r,s+1,h=>by
  by_cases e:r=s+1
  ·rw[e];exact JK _
  ·have:=kdJ (r:=r) (s:=s) (by omega)
   show fan r≤1+(s+1)*fan s
   have h2:fan s≤(s+1)*fan s:=Nat.le_mul_of_pos_left _ (by omega)
   omega
variable {T:TillD}{B:Bask}{hand:List Int}
theorem kdM{used:List Nat}{S:Stnd}{n:Nat}(h:canM T B hand used S n=true):n<T.vs.length∧(used.count n:Int)+1≤hand.getD n 0:=by
 unfold canM at h
 cases e:T.vs[n]? with
 |none=>rw[e] at h;cases h
 | some V=>
  rw[e] at h
  refine⟨at_lt e,?_⟩
  have h1:dueM V T B hand used S n=.non:=of_decide_eq_true h
  unfold dueM wordM at h1
  by_cases c1:hand.getD n 0<(used.count n:Int)+1
  ·rw[if_pos c1] at h1
   cases h1
  ·omega
theorem kkR{used:List Nat}{S:Stnd}(hl:hand.length=T.vs.length):(folM T B hand used S).length≤remM hand used:=by
 unfold folM remM
 rw[←hl]
 refine kms (fun m hm=>?_) _
 have:=(kdM hm).2
 omega
noncomputable def walkM(T:TillD)(B:Bask)(hand:List Int):List Nat→List Nat→Stnd→List Nat×Stnd
 |[],used,S=>(used,S)
 |n::ns,used,S=>match T.vs[n]? with
  |none=>(used,S)
  |some V=>if dueM V T B hand used S n=.non then walkM T B hand ns (used++[n]) (aftM V T.ps (kds B) S) else(used,S)
inductive kjE (d:D) (vs:List V) (H:Hp) (Q:VK) (E_:XK):Prop
 |ct (t b h o:Addr)(T:TillD)(B:Bask)(hand:List Int)(order:List Nat)(_:vs=[.ref t, .ref b, .ref h, .ref o])(_:TillIs d H t T)(_:kbm T)(_:BaskIs d.qe d.qg H b B)(_:Wf T.ps B (stnd0 B))(_:H h=some (.lst (hand.map V.int)))(_:H o=some (.lst (order.map iV)))(_:hand.length=T.vs.length)(_:(∀n∈order,n<T.vs.length))(_:order.length<64)(_:∀(H':Hp)(wy x:Addr),Same H H'→H wy=none→WayIs d H' wy t b x hand (walkM T B hand order [] (stnd0 B)).1→StndIs d.qc H' x (walkM T B hand order [] (stnd0 B)).2→Wf T.ps B (walkM T B hand order [] (stnd0 B)).2→Q (.ref wy) H'):kjE d vs H Q E_
theorem QF:kas ["till","basket","hand","order","way","number"] ["till","basket","hand","order"] (kah kfY):=by ac_rfl
theorem kgT(W:WB K mg d base):FO P w W 7 d.Yg d.Yh ["till","basket","hand","order"] (kjE d):=by
 exists W.QX.F,QF
 ·obtain⟨t,b,h,o,T,B,hand,order,rfl,hT,tok,hB,wf0,hh,ho,hl,hlt,h64,k⟩:=h
  exists Qj,kdn,W
  exists Qk,kcf,W
  exists Xr,kdB,W
  exists hr5,5,hr,0
  refine⟨_,kab (psl (i:=4) QF.nd (kbp (W.qL.mk' W.c_Way) Qj hr5 rfl W.c_Way.m W.qL.b .nil pass0 (kaa (pv 0) (kaa (pv 1) (kaa (pv 2) kad)))))
   (kab (kaZ PassesOwn.never rfl (kaE (K:=K) (pv 3)) (pgn (i:=5) QF.nd)
   (kab (ps_if (kam kdY (kdm (pv 4) W.c_Way.cl W.qM.me Qk hr5 W.qM.b .nil pass0 (kaa (pv 5) kad)) kby (kat _)) (kag (kao (pv 4))) (kap))
   (kag (psl (i:=4) QF.nd (kdm (pv 4) W.c_Way.cl W.Qd.me Xr hr W.Qd.b .nil pass0 (kaa (pv 5) kad))))))
   (kag (kao (pv 4)))),?_⟩
  generalize eR:walkM T B hand order [] (stnd0 B)=R at k
  exists Y4
  refine⟨_,rfl,_,rfl,_,rfl,kkg hh hB wf0.nl wf0.ok fun H1 y0 x0 s1 fy0 fx0 hy0N hx0=>?_⟩
  have hy0:=hy0N.at
  symm
  exists Y4
  refine⟨_,rfl,o,rfl,⟨_,SqL.of (s1 _ _ ho)⟩,kaP (xs:=order.map iV) (fun i σ H'=>Same H H'∧∃(y x:Addr)(used:List Nat)(S:Stnd)(v5:Option V),WayIs d H' y t b x hand used∧H y=none∧StndIs d.qc H' x S∧Wf T.ps B S∧used.length=i∧walkM T B hand (order.drop i) used S=R∧σ=[some (.ref t),some (.ref b),some (.ref h),some (.ref o),some (.ref y),v5])
   ⟨s1,y0,x0,[],_,none,hy0.most (by decide),fy0,hx0,wf0,rfl,eR,rfl⟩ (fun i σ H' _ h=>SqL.of (h.1 _ _ ho)) ?_ ?_⟩
  ·rintro i yv σ H' hyv ⟨sI,y,x,used,S,v5,hY,fy,hx,wf,hul,hwalk,rfl⟩
   obtain⟨n,en,rfl⟩:∃n,order[i]?=some n∧yv=iV n:=kbC hyv
   have hi:=at_lt en
   obtain⟨Vc,hV⟩:=at_of (hlt n (JO en))
   have vo:=tok.vs Vc (JO hV)
   have ed:order.drop i=n::order.drop (i+1):=by
    obtain⟨h1,h2⟩:=JX.mp en
    rw[EC h1,h2]
   rw[ed] at hwalk
   have hwk:=hwalk
   unfold walkM at hwk
   rw[hV] at hwk
   simp only at hwk
   obtain⟨dxw,fsw,hd,u,hw,w1,w2,w3,w4,w5,w6,w7,w8,w9,w10,hh',hu⟩:=id hY
   symm
   exists Y6
   refine⟨_,rfl,y,dxw,fsw,rfl,hw,w6,_,rfl,y,t,b,x,T,B,S,hand,used,n,Vc,rfl,hY,hT.same sI,hB.same sI,hx,wf,vo,hV,hl,fun H2 s2=>⟨rfl,_,rfl,?_⟩⟩
   have s02:=sI.trans s2
   by_cases hn:dueM Vc T B hand used S n=.non
   ·rw[if_pos hn] at hwk
    rw[hn]
    rw[show(!decide (V.non=V.non))=false by simp]
    refine iteF ?_
    nofun
    exists Y8
    refine⟨_,rfl,y,dxw,fsw,rfl,s2 _ _ hw,w7,_,rfl,y,t,b,x,T,B,S,hand,used,n,Vc,rfl,hY.same s2,hT.same s02,hB.same s02,hx.same s2,wf,vo,hV,by omega,fun H3 y' x' s3 fy' hY1 hx1=>?_⟩
    have hY':=hY1.at
    have hx':=hx1.is
    exists 3
    exact⟨s02.trans s3,y',x',used++[n],_,_,hY',s02.free fy',hx',wf.after vo,by rw[JW,hul];rfl,hwk,rfl⟩
   ·rw[if_neg hn] at hwk
    rw[show(!decide (dueM Vc T B hand used S n=V.non))=true by simp[hn]]
    refine iteT ?_
    exists 3
    exists Y8
    refine⟨_,rfl,k H2 y x s02 fy ?_ ?_ ?_⟩
    ·rw[←hwk];exact hY.same s2
    ·rw[←hwk];exact hx.same s2
    ·rw[←hwk];exact wf
  ·rintro σ H' ⟨sI,y,x,used,S,v5,hY,fy,hx,wf,hul,hwalk,rfl⟩
   rw[JJ,List.drop_length] at hwalk
   have hwk:=hwalk
   unfold walkM at hwk
   nofun
   exists Y6
   refine⟨_,rfl,k H' y x sI fy ?_ ?_ ?_⟩
   ·rw[←hwk];exact hY
   ·rw[←hwk];exact hx
   ·rw[←hwk];exact wf
noncomputable def ke3(T:TillD)(B:Bask)(hand:List Int)(order:List Nat):Option (Nat×L2.V):=
 let r:=walkM T B hand order [] (stnd0 B)
 if r.1.length<order.length then match T.vs[order.getD r.1.length 0]? with
  |none=>none
  |some V=>some (r.1.length,dueM V T B hand r.1 r.2 (order.getD r.1.length 0))
 else if(onlyM T.rs r.1).isNone=true then none else some (r.1.length, .str "only")
noncomputable def FltIs(H:Hp)(v:L2.V):Option (Nat×L2.V)→Prop
 |none=>v=.non
 |some (k,z)=>∃a,v=.ref a∧H a=some (.tup [iV k,z])
inductive kjQ (d:D) (vs:List V) (H:Hp) (Q:VK) (E_:XK):Prop
 |ct (t b h o:Addr)(T:TillD)(B:Bask)(hand:List Int)(order:List Nat)(_:vs=[.ref t, .ref b, .ref h, .ref o])(_:TillIs d H t T)(_:kbm T)(_:BaskIs d.qe d.qg H b B)(_:Wf T.ps B (stnd0 B))(_:H h=some (.lst (hand.map V.int)))(_:H o=some (.lst (order.map iV)))(_:hand.length=T.vs.length)(_:(∀n∈order,n<T.vs.length))(_:order.length<64)(_:∀(H':Hp)(v:L2.V),Same H H'→FltIs H' v (ke3 T B hand order)→Q v H'):kjQ d vs H Q E_
theorem Xs:kas ["till","basket","hand","order","way","place"] ["till","basket","hand","order"] (kah khA):=by ac_rfl
theorem kly(W:WB K mg d base):FO P w W 8 d.Ye d.Yf ["till","basket","hand","order"] (kjQ d):=by
 exists W.ZP.F,Xs
 ·obtain⟨t,b,h,o,T,B,hand,order,rfl,hT,tok,hB,wf0,hh,ho,hl,hlt,h64,k⟩:=h
  exists Xt,kgT,W
  exists Qk,kcf,W
  exists Ql,kbY,W
  exists hr2,2,hr,0
  exists hr5,5,hr,0
  refine⟨_,kab (psl (i:=4) Xs.nd (pcl Xt hr W.QX (kaa (pv 0) (kaa (pv 1) (kaa (pv 2) (kaa (pv 3) kad))))))
   (kab (psl (i:=5) Xs.nd (kaq (r:=kaK K) kar (by rfl) W.B.len b_len (kaa (kaj (K:=K) (pv 4) rfl) kad)))
   (kab (ps_if (kam op_lt (pv 5) (kaq (r:=kaK K) kar (by rfl) W.B.len b_len (kaa (pv 3) kad)) (kat _)) (kag (kao (kb0 (kaa (pv 5) (kaa (kdm (pv 4) W.c_Way.cl W.qM.me Qk hr5 W.qM.b .nil pass0 (kaa (pe_ix (r:=rIxL K) kaO (pv 3) (pv 5) (fun _ _=>rfl)) kad)) kad))))) (kap))
   (kab (ps_if (kix (ka0 (kbK (pv 4) W.c_Way.cl W.qN.me Ql hr2 W.qN.b .nil pass0))) (kag (kao (kb0 (kaa (pv 5) (kaa kbM kad))))) (kap))
   (kag (kao kby))))),?_⟩
  exists Y4
  refine⟨_,rfl,_,rfl,_,rfl,_,rfl,t,b,h,o,T,B,hand,order,rfl,hT,tok,hB,wf0,hh,ho,hl,hlt,h64,fun H1 y x s1 fy hY hx wf=>?_⟩
  unfold ke3 at k
  simp only at k
  generalize walkM T B hand order [] (stnd0 B)=r at *
  obtain⟨used,S⟩:=r
  simp only at *
  obtain⟨dxw,fsw,hd,u,hw,w1,w2,w3,w4,w5,w6,w7,w8,w9,w10,hh',hu⟩:=id hY
  symm
  exists Y4
  refine⟨_,rfl,y,d.c_Way,dxw,fsw,_,rfl,hw,W.c_Way.cl,W.qp,w4,u,_,rfl, .inl (SqL.of hu),?_⟩
  rw[JJ]
  symm
  exists Y4
  refine⟨_,rfl,_,rfl,o,_,rfl, .inl (SqL.of (s1 _ _ ho)),_,_,rfl,rfl,_,rfl,?_⟩
  rw[JJ]
  by_cases hlen:used.length<order.length
  ·rw[if_pos hlen] at k
   rw[show decide ((used.length:Int)<(order.length:Int))=true by simp;exact hlen]
   obtain⟨n,en⟩:=at_of hlen
   have eg:order.getD used.length 0=n:=by rw[J5,en];rfl
   obtain⟨Vc,hV⟩:=at_of (hlt n (JO en))
   rw[eg,hV] at k
   have vo:=tok.vs Vc (JO hV)
   refine iteT ?_
   symm
   exists Y6
   refine⟨_,rfl,_,rfl,y,dxw,fsw,rfl,hw,w6,_,rfl,_,rfl,o,_,_,_,rfl,rfl,SqL.of (s1 _ _ ho),kaY (v:=iV n) (by rw[JU,en];rfl),y,t,b,x,T,B,S,hand,used,n,Vc,rfl,hY,hT.same s1,hB.same s1,hx,wf,vo,hV,hl,fun H2 s2=>?_⟩
   nofun
   exists Y6
   refine⟨(by show 2≤sizeLine;decide),fun q hq=>?_⟩
   nofun
   exact k _ _ ((s1.trans s2).trans (kan hq)) ⟨q,rfl,kae⟩
  ·rw[if_neg hlen] at k
   rw[show decide ((used.length:Int)<(order.length:Int))=false by simp;omega]
   refine iteF ?_
   nofun
   exists Y6
   refine⟨_,rfl,y,dxw,fsw,rfl,hw,w8,y,t,b,x,T,hand,used,rfl,hY,hT.same s1,_,rfl,?_⟩
   cases e:(onlyM T.rs used).isNone with
   |true=>
    rw[e,if_pos rfl] at k
    refine iteF ?_
    nofun
    exact k H1 _ s1 rfl
   |false=>
    rw[e,if_neg JS] at k
    refine iteT ?_
    nofun
    exists Y8
    refine⟨_,rfl,(by show 2≤sizeLine;decide),fun q hq=>?_⟩
    exists 3
    exact k _ _ (s1.trans (kan hq)) ⟨q,rfl,kae⟩
noncomputable def comeM(V:Vch)(hand:List Int)(used:List Nat)(n:Nat):Int:=
 if V.ms.once=true then(if used.contains n=true then 0 else if 1<hand.getD n 0-(used.count n:Int) then 1 else hand.getD n 0-(used.count n:Int)) else hand.getD n 0-(used.count n:Int)
inductive kl6 (d:D) (vs:List V) (H:Hp) (Q:VK) (E_:XK):Prop
 |ct (wy t b x:Addr)(T:TillD)(hand:List Int)(used:List Nat)(n:Nat)(V:Vch)(_:vs=[.ref wy,iV n])(_:WayIs d H wy t b x hand used)(_:TillIs d H t T)(_:T.vs[n]?=some V)(_:hand.length=T.vs.length)(_:Q (.int (comeM V hand used n)) H):kl6 d vs H Q E_
theorem VG:kas ["way","number","many"] ["way","number"] (kah kcl):=by ac_rfl
theorem keO(W:WB K mg d base):FO P w W 1 d.Yu d.Yv ["way","number"] (kl6 d):=by
 exists W.ZV.F,VG
 ·obtain⟨wy,t,b,x,T,hand,used,n,Vc,rfl,hW,hT,hn,hl,kk⟩:=h
  obtain⟨dxw,fsw,h,u,hw,w1,w2,w3,w4,w5,w6,w7,w8,w9,w10,hh,hu⟩:=id hW
  obtain⟨dx,fs,p,vl,rl,va,ra,ht,t1,t2,t3,t4,hp,hvl,hva,hrl,hra⟩:=id hT
  refine⟨_,kab (psl (i:=2) VG.nd (pe_op kdg (pe_ix (r:=rIxL K) kaO (kaj (K:=K) (pv 0) rfl) (pv 1) (fun _ _=>rfl)) (pe_bm NK E2 E3 kiG (kaj (K:=K) (pv 0) rfl) (kaa (pv 1) kad))))
   (kab (ps_if (ka0 (kaj (K:=K) (kaj (K:=K) (pe_ix (r:=rIxL K) kaO (kaj (K:=K) (kaj (K:=K) (pv 0) rfl) rfl) (pv 1) (fun _ _=>rfl)) rfl) rfl)) (kag (kao (keu (kam kcz (pv 1) (kaj (K:=K) (pv 0) rfl) (by with_unfolding_all rfl)) kaf (kaq (kbP rfl) (by rfl) W.B.min b_min (kaa (pv 2) (kaa kaf kad)))))) (kap))
   (kag (kao (pv 2)))),?_⟩
  obtain⟨v,ev⟩:=at_of (xs:=va) (i:=n) (by rw[hva.len];exact at_lt hn)
  obtain⟨Vc',eV',hV⟩:=hva.at ev
  rw[hn] at eV'
  cases eV'
  obtain⟨mA,dxv,fsv,hv,lvm,_,⟨dxm,fsm,hm,m1,m2,m3,m4,m5,m6⟩,hh',_⟩:=id hV
  obtain⟨z,ez⟩:=at_of (xs:=hand) (i:=n) (by rw[hl];exact at_lt hn)
  have eg:hand.getD n 0=z:=by rw[J5,ez];rfl
  have eu:H u=some (.lst ((used.map fun(i:Nat)=>(i:Int)).map V.int)):=by rw[hu,J8];rfl
  refine⟨_,rfl,wy,d.c_Way,dxw,fsw,_,rfl,hw,W.c_Way.cl,W.Qx,w3,_,rfl,h,_,_,_,rfl,rfl,SqL.of hh,kaY (v:=V.int z) (by rw[JU,ez];rfl),_,rfl,wy,d.c_Way,dxw,fsw,_,rfl,hw,W.c_Way.cl,W.qp,w4, .inl ⟨rfl,_,SqL.of hu⟩,_,rfl,u,_,_,rfl,rfl,eu,_,_,rfl,rfl,?_⟩
  rw[kk4]
  refine⟨_,rfl,wy,d.c_Way,dxw,fsw,_,rfl,hw,W.c_Way.cl,W.qr,w1,t,d.qd,dx,fs,_,rfl,ht,W.qd.cl,W.qB,t2,_,rfl,vl,_,_,_,rfl,rfl,SqL.of hvl,kaY (v:=.ref v) (by rw[JU,ev];rfl),v,clsOf d Vc.so,dxv,fsv,_,rfl,hv,cl_of W hh',na_of W hh',lvm,mA,d.qf,dxm,fsm,_,rfl,hm,W.qf.cl,W.Q0,m5,Vc.ms.once,rfl,?_⟩
  unfold comeM at kk
  rw[eg] at kk
  cases eo:Vc.ms.once with
  | true=>
   rw[eo,if_pos rfl] at kk
   refine iteT ⟨_,rfl,_,rfl,wy,d.c_Way,dxw,fsw,_,rfl,hw,W.c_Way.cl,W.qp,w4,u,_,rfl, .inl (SqL.of hu),rfl,kbB _,_,rfl,?_⟩
   rw[if_neg JS,kcJ]
   cases hc:used.contains n with
   |true=>
    rw[hc,if_pos rfl] at kk
    exact iteT kk
   |false=>
    rw[hc,if_neg JS] at kk
    exact iteF ⟨_,rfl,_,_,rfl,kk⟩
  |false=>
   rw[eo,if_neg JS] at kk
   exact iteF ⟨_,rfl,kk⟩
noncomputable def sumR(T:TillD)(B:Bask)(hand:List Int)(used:List Nat)(S:Stnd):Nat→Int
 |0=>0
 |k+1=>sumR T B hand used S k+(match T.vs[k]? with|none=>0|some V=>kbZ V T.ps (kds B) S*comeM V hand used k)
noncomputable def kaz(S:Stnd):Int:=S.pr.sum+S.cg
noncomputable def kaT(T:TillD)(B:Bask)(hand:List Int)(used:List Nat)(S:Stnd):Int:=
 if 0 > kaz S-sumR T B hand used S T.vs.length then 0 else kaz S-sumR T B hand used S T.vs.length
theorem kjk{V:Vch}{hand:List Int}{used:List Nat}{n:Nat}(h:∀z∈hand,0≤z∧z≤100)(hu:used.length≤64): -1000<comeM V hand used n∧comeM V hand used n<1000:=by
 have hc:used.count n≤64:=JN List.count_le_length hu
 have hg:0≤hand.getD n 0∧hand.getD n 0≤100:=by
  rw[J5]
  cases e:hand[n]? with
  |none=>exact⟨by decide,by decide⟩
  |some z=>exact h z (JO e)
 unfold comeM
 generalize hand.getD n 0=g at *
 split
 ·split
  ·omega
  ·split <;> omega
 ·omega
inductive kjN (d:D) (vs:List V) (H:Hp) (Q:VK) (E_:XK):Prop
 |ct (wy t b x:Addr)(T:TillD)(B:Bask)(S:Stnd)(hand:List Int)(used:List Nat)(_:vs=[.ref wy])(_:WayIs d H wy t b x hand used)(_:TillIs d H t T)(_:kbm T)(_:BaskIs d.qe d.qg H b B)(_:StndIs d.qc H x S)(_:Wf T.ps B S)(_:hand.length=T.vs.length)(_:(∀z∈hand,0≤z∧z≤100))(_:used.length≤64)(_:∀H',Same H H'→Q (.int (kaT T B hand used S)) H'):kjN d vs H Q E_
theorem Qm:kas ["way","least","number","voucher"] ["way"] (kah kcm):=by ac_rfl
theorem kc0(W:WB K mg d base):FO P w W 5 d.Ys d.Yt ["way"] (kjN d):=by
 exists W.QY.F,Qm
 ·obtain⟨wy,t,b,x,T,B,S,hand,used,rfl,hW,hT,tok,hB,hS,wf,hl,hz,h64,kk⟩:=h
  obtain⟨dxw,fsw,h,u,hw,w1,w2,w3,w4,w5,w6,w7,w8,w9,w10,hh,hu⟩:=id hW
  obtain⟨dx,fs,p,vl,rl,va,ra,ht,t1,t2,t3,t4,hp,hvl,hva,hrl,hra⟩:=id hT
  obtain⟨o,pp,mk,⟨dxs,fss,hxs,l1,l2,l3,l4,l5⟩,ho,hpp,hmk⟩:=id hS
  exists qE,ka2,W
  exists Uq,klw,W
  exists Ur,keO,W
  exists hr1,1,hr,0
  refine⟨_,kab (psl (i:=1) Qm.nd (kbK (kaj (K:=K) (pv 0) rfl) W.qc.cl W.qu.me qE hr1 W.qu.b .nil pass0))
   (kab (kaZ PassesOwn.never rfl (khG rfl W.B.enum (kaa (kaj (K:=K) (kaj (K:=K) (pv 0) rfl) rfl) kad)) (kbb (K:=K) (n:=2) rfl (kay (pgn (i:=2) Qm.nd) (kay (pgn (i:=3) Qm.nd) kba)))
   (kag (kma (i:=1) Qm.nd rfl (Or.inl rfl) (pe_op kcy (pcl Uq hr W.ZI (kaa (pv 3) (kaa (kaj (K:=K) (kaj (K:=K) (pv 0) rfl) rfl) (kaa (kaj (K:=K) (pv 0) rfl) (kaa (kaj (K:=K) (pv 0) rfl) kad))))) (pcl Ur hr1 W.ZV (kaa (pv 0) (kaa (pv 2) kad)))) knI)))
   (kag (kao (kaq (kfb rfl) (by rfl) W.B.max b_max (kaa (pv 1) (kaa kaf kad)))))),?_⟩
  have lva:=hva.len
  refine⟨_,rfl,wy,d.c_Way,dxw,fsw,_,rfl,hw,W.c_Way.cl,W.qx,w5,x,dxs,fss,rfl,hxs,l5,x,o,pp,mk,S.cg,S.pr,rfl,⟨dxs,fss,hxs,l1,l2,l3,l4,l5⟩,hpp,?_⟩
  refine⟨_,rfl,wy,d.c_Way,dxw,fsw,_,rfl,hw,W.c_Way.cl,W.qr,w1,t,d.qd,dx,fs,_,rfl,ht,W.qd.cl,W.qB,t2,vl,_,rfl,hvl,kiO (xs:=va.map V.ref) (fun i σ H'=>Same H H'∧∃v2 v3:Option V,σ=[some (.ref wy),some (.int (kaz S-sumR T B hand used S i)),v2,v3])
   ⟨Same.refl _,none,none,by show _=[some (V.ref wy),some (V.int (kaz S-0)),none,none];rw[Int.sub_zero];rfl⟩ (fun i σ H' _ h=>h.1 _ _ hvl) ?_ ?_⟩
  ·rintro i y tp σ Hi' hy ⟨si',v2,v3,rfl⟩ ftp
   obtain⟨v,ev,rfl⟩:=kbj hy
   obtain⟨Vc,eV,hV⟩:=hva.at ev
   exists Hi',tp,Hi,np,ep,ftp
   have si:=si'.trans np
   have vo:=tok.vs Vc (JO eV)
   have hcs:=kjk (V:=Vc) (n:=i) hz h64
   refine⟨tp,_,rfl,SqT.of ep,rfl,_,_,rfl,_,_,rfl,rfl,?_⟩
   refine⟨_,rfl,_,rfl,_,rfl,wy,d.c_Way,dxw,fsw,_,rfl,si _ _ hw,W.c_Way.cl,W.qr,w1,t,d.qd,dx,fs,_,rfl,si _ _ ht,W.qd.cl,W.Qy,t1,_,rfl,wy,d.c_Way,dxw,fsw,_,rfl,si _ _ hw,W.c_Way.cl,W.Qc,w2,_,rfl,wy,d.c_Way,dxw,fsw,_,rfl,si _ _ hw,W.c_Way.cl,W.qx,w5,v,p,b,x,Vc,T.ps,B,S,rfl,hV.same si,SqL.of (si _ _ hp),hB.same si,hS.same si,wf,vo,fun H4 s4=>?_⟩
   have s04:=si.trans s4
   refine⟨_,rfl,_,rfl,wy,t,b,x,T,hand,used,i,Vc,rfl,hW.same s04,hT.same s04,eV,hl,_,_,rfl,rfl, .inr ⟨by omega,by omega⟩,_,_,rfl,rfl,?_⟩
   refine⟨s04,some (iV i),some (.ref v),?_⟩
   have es:sumR T B hand used S (i+1)=sumR T B hand used S i+kbZ Vc T.ps (kds B) S*comeM Vc hand used i:=by
    show sumR T B hand used S i+(match T.vs[i]? with|none=>0|some V=>kbZ V T.ps (kds B) S*comeM V hand used i)=_
    rw[eV]
   rw[es,←Int.sub_sub]
   rfl
  ·rintro σ H' ⟨s1,v2,v3,rfl⟩
   rw[JJ,lva]
   exact⟨_,rfl,_,_,rfl,kk H' s1⟩
theorem kf2{f:Str}{y:V}:∀{fs:List (Str×V)}{v:V},fs.lookup f=some v→(putF f y fs).length=fs.length
 |[],v,h=>by cases h
 | (g,z)::r,v,h=>by
  rw[show putF f y ((g,z)::r)=(if g=f then(g,y)::r else(g,z)::putF f y r) from rfl]
  by_cases e:g=f
  ·rw[if_pos e]
   rfl
  ·rw[if_neg e]
   have hb:(f==g)=false:=beq_eq_false_iff_ne.mpr (Ne.symm e)
   have h':r.lookup f=some v:=by simpa only[NQ,hb] using h
   show(putF f y r).length+1=r.length+1
   rw[kf2 h']
theorem kfJ{fs:List (Str×V)}{v:V}{f g:Str}{r:Option V}(h:fs.lookup g=r)(n:g≠f:=by decide +kernel):(putF f v fs).lookup g=r:=by
 rw[kac,if_neg n]
 exact h
theorem lk_at{fs:List (Str×V)}{v:V}{f:Str}:(putF f v fs).lookup f=some v:=by rw[kac,if_pos rfl]
structure SrcD where
 ord:List Nat
 tot:Int
 ents:List (List Nat×Int×Int)
noncomputable def EntAt(H:Hp)(e:Addr)(q:List Nat×Int×Int):Prop:=∃l,H e=some (.tup [.ref l, .int q.2.1, .int q.2.2])∧H l=some (.lst (q.1.map iV))
theorem EntAt.same{H H':Hp}{e:Addr}{q:List Nat×Int×Int}(s:Same H H'):EntAt H e q→EntAt H' e q:=fun⟨l,h1,h2⟩=>⟨l,s _ _ h1,s _ _ h2⟩
noncomputable def SrcIn(d:D)(Hs H:Hp)(x pp:Addr)(A:SrcD):Prop:=∃(dx:Addr)(fs:List (Str×V))(ol:Addr)(ea:List Addr),H x=some (.ins d.qh dx fs)∧fs.lookup ("order" :Str)=some (.ref ol)∧fs.lookup ("total" :Str)=some (.int A.tot)∧fs.lookup ("paper" :Str)=some (.ref pp)∧fs.lookup ("meet" :Str)=none∧fs.length≤5∧
 H pp=some (.lst (ea.map V.ref))∧Hs ol=some (.lst (A.ord.map iV))∧P2 (fun e q=>EntAt Hs e q) ea A.ents
inductive kl3 (d:D) (vs:List V) (H:Hp) (Q:VK) (E_:XK):Prop
 |ct (H0:Hp)(x dx wy t b y:Addr)(S:Stnd)(hand:List Int)(used:List Nat)(_:vs=[.ref x, .ref wy])(_:H0 x=none)(_:Same H0 H)(_:H x=some (.ins d.qh dx []))(_:WayIs d H0 wy t b y hand used)(_:StndIs d.qc H0 y S)(_:∀(H':Hp)(ol pp:Addr)(fs:List (Str×V)),Same H0 H'→H0 ol=none→H0 pp=none→ol≠pp→H' x=some (.ins d.qh dx fs)→fs.lookup ("order" :Str)=some (.ref ol)→fs.lookup ("total" :Str)=some (.int (kaz S))→fs.lookup ("paper" :Str)=some (.ref pp)→fs.lookup ("meet" :Str)=none→fs.length≤3→H' ol=some (.lst (used.map iV))→H' pp=some (.lst [])→Q .non H'):kl3 d vs H Q E_
theorem kfj:kas ["self","way"] ["self","way"] (kah kcG):=by ac_rfl
theorem kfs(W:WB K mg d base):FO P w W 2 d.Zz d.ZA ["self","way"] (kl3 d):=by
 exists W.Xh.F,kfj
 ·obtain⟨H0,x,dx,wy,t,b,y,S,hand,used,rfl,fx,s0,hx,hW,hS,kk⟩:=h
  obtain⟨dxw,fsw,hd,u,hw,w1,w2,w3,w4,w5,w6,w7,w8,w9,w10,hh,hu⟩:=id hW
  obtain⟨o,pr,mk,⟨dxs,fss,hxs,l1,l2,l3,l4,l5⟩,ho,hpr,hmk⟩:=id hS
  exists qE,ka2,W
  refine⟨_,kab (kaI (pv 0) (kaA (r:=kaJ K) kav (by rfl) W.B.list kaU (kaa (kaj (K:=K) (pv 1) rfl) kad)) rfl)
   (kab (kaI (pv 0) (kbK (kaj (K:=K) (pv 1) rfl) W.qc.cl W.qu.me qE hr W.qu.b .nil pass0) rfl)
   (kag (kaI (pv 0) (kaS kad) rfl))),?_⟩
  refine⟨_,rfl,wy,d.c_Way,dxw,fsw,_,rfl,s0 _ _ hw,W.c_Way.cl,W.qp,w4,u,_,rfl, .inl (SqL.of (s0 _ _ hu)),fun ol fol=>?_⟩
  exists H,ol,H1,n1,e1,fol
  have s1:=s0.trans n1
  have hx1:=n1 _ _ hx
  have nol:ol≠x:=(kai hx fol).symm
  refine⟨_,rfl,x,d.qh,dx,[],rfl,hx1,W.qh.cl,W.Xf,by decide,?_⟩
  have s2:Same H0 (upd H1 x (.ins d.qh dx (putF "order" (.ref ol) []))):=kaw fx s1 (nx hx1)
  have e2:(upd H1 x (.ins d.qh dx (putF "order" (.ref ol) []))) ol=some (.lst (used.map iV)):=by rw[kak nol];exact e1
  have hx2:(upd H1 x (.ins d.qh dx (putF "order" (.ref ol) []))) x=some (.ins d.qh dx (putF "order" (.ref ol) [])):=kae
  generalize upd H1 x (.ins d.qh dx (putF "order" (.ref ol) []))=H2 at *
  refine⟨_,rfl,wy,d.c_Way,dxw,fsw,_,rfl,s2 _ _ hw,W.c_Way.cl,W.qx,w5,y,dxs,fss,rfl,s2 _ _ hxs,l5,y,o,pr,mk,S.cg,S.pr,rfl,⟨dxs,fss,s2 _ _ hxs,l1,l2,l3,l4,l5⟩,s2 _ _ hpr,?_⟩
  refine⟨_,rfl,x,d.qh,dx,_,rfl,hx2,W.qh.cl,W.Qf,few (JN (kal (n:=0) (JK _)) (by decide)),?_⟩
  have s3:Same H0 (upd H2 x (.ins d.qh dx (putF "total" (.int (S.pr.sum+S.cg)) (putF "order" (.ref ol) [])))):=kaw fx s2 (nx hx2)
  have e3:(upd H2 x (.ins d.qh dx (putF "total" (.int (S.pr.sum+S.cg)) (putF "order" (.ref ol) [])))) ol=some (.lst (used.map iV)):=by rw[kak nol];exact e2
  have hx3:(upd H2 x (.ins d.qh dx (putF "total" (.int (S.pr.sum+S.cg)) (putF "order" (.ref ol) [])))) x=some (.ins d.qh dx (putF "total" (.int (S.pr.sum+S.cg)) (putF "order" (.ref ol) []))):=kae
  generalize upd H2 x (.ins d.qh dx (putF "total" (.int (S.pr.sum+S.cg)) (putF "order" (.ref ol) [])))=H3 at *
  refine⟨by decide,fun pp fpp=>?_⟩
  exists H3,pp,H4,n4,e4,fpp
  have s4:=s3.trans n4
  have hx4:=n4 _ _ hx3
  have npp:pp≠x:=(kai hx3 fpp).symm
  refine⟨_,rfl,x,d.qh,dx,_,rfl,hx4,W.qh.cl,W.Xg,few (JN (kal (kal (n:=0) (JK _))) (by decide)),?_⟩
  refine kk _ ol pp _ (kaw fx s4 (nx hx4)) (s0.free fol) (s3.free fpp) (kai e3 fpp) kae ?_ ?_ ?_ ?_ ?_ ?_ ?_
  ·ac_nf
  ·ac_nf
   rfl
  ·ac_nf
  ·ac_nf
   rfl
  ·exact JN (kal (kal (kal (n:=0) (JK _)))) (by decide)
  ·rw[kak nol];exact n4 _ _ e3
  ·rw[kak npp];exact e4
noncomputable def addE(T:TillD)(B:Bask)(hand:List Int)(A:SrcD)(used:List Nat)(S:Stnd):SrcD:=⟨A.ord,A.tot,A.ents++[(used,kaz S,kaT T B hand used S)]⟩
noncomputable def pickM(T:TillD)(A:SrcD)(used:List Nat)(S:Stnd):SrcD:=if(decide (kaz S<A.tot)&&(onlyM T.rs used).isNone)=true then⟨used,kaz S,A.ents⟩ else A
noncomputable def meetM(T:TillD)(B:Bask)(hand:List Int):Nat→SrcD→List Nat→Stnd→SrcD
 |0,A,_,_=>A
 | k+1,A,used,S=>if kaT T B hand used S<(pickM T (addE T B hand A used S) used S).tot then(folM T B hand used S).foldl (fun A n=>match T.vs[n]? with
   |none=>A
   |some V=>meetM T B hand k A (used++[n]) (aftM V T.ps (kds B) S)) (pickM T (addE T B hand A used S) used S) else pickM T (addE T B hand A used S) used S
theorem keI{T:TillD}{A:SrcD}{used:List Nat}{S:Stnd}:(pickM T A used S).ents=A.ents:=by
 unfold pickM
 split <;> rfl
theorem kiQ{f:SrcD→Nat→SrcD}{c:Nat}:∀(l:List Nat)(A:SrcD),(∀n∈l,∀A,(f A n).ents.length≤A.ents.length+c)→(l.foldl f A).ents.length≤A.ents.length+l.length*c
 |[],A,_=>by simp
 |n::l,A,h=>by
  have h1:=h n J0 A
  have h2:=kiQ l (f A n) fun m hm=>h m (JZ _ hm)
  rw[MA,Ny,Ef,Eg]
  omega
theorem kgd{T:TillD}{B:Bask}{hand:List Int}(hl:hand.length=T.vs.length):∀(k:Nat)(A:SrcD)(used:List Nat)(S:Stnd),(meetM T B hand k A used S).ents.length≤A.ents.length+fan (remM hand used)
 |0,A,used,S=>by unfold meetM;omega
 | k +1,A,used,S=>by
  have h1:1≤fan (remM hand used):=kdJ (r:=0) (Nr _)
  have hp:(pickM T (addE T B hand A used S) used S).ents.length=A.ents.length+1:=by
   rw[keI]
   unfold addE
   rw[JW,Np]
  unfold meetM
  split
  ·cases er:remM hand used with
   |zero=>
    have hf:=kkR (T:=T) (B:=B) (used:=used) (S:=S) hl
    rw[er] at hf
    rw[E4.mp (Nat.le_zero.mp hf),List.foldl_nil,hp]
    exact JK _
   | succ r=>
    have hf:=kkR (T:=T) (B:=B) (used:=used) (S:=S) hl
    rw[er] at hf
    refine JN (kiQ (c:=fan r) _ _ fun n hn A'=>?_) ?_
    ·cases e:T.vs[n]? with
     |none=>exact Nat.le_add_right _ _
     |some V=>
      have hc:=(Nh.mp hn).2
      obtain⟨h1,h2⟩:=kdM hc
      have hd:=kf1 (hand:=hand) (used:=used) (n:=n) (by omega) h2
      have hi:=kgd (B:=B) hl k A' (used++[n]) (aftM V T.ps (kds B) S)
      rw[show remM hand (used++[n])=r by omega] at hi
      exact hi
    ·rw[hp]
     show _≤_+(1+(r+1)*fan r)
     have:=EE (fan r) hf
     omega
  ·omega
noncomputable def rm2(x pp:Addr)(H:Hp):Hp:=Vs.rmv x (Vs.rmv pp H)
theorem keH{x pp:Addr}{H:Hp}:Same (rm2 x pp H) H:=rmv_sub.trans rmv_sub
theorem rm2_x{x pp:Addr}{H:Hp}:rm2 x pp H x=none:=kjZ
theorem rm2_p{x pp:Addr}{H:Hp}(n:x≠pp):rm2 x pp H pp=none:=by
 unfold rm2
 rw[kea n.symm]
 exact kjZ
theorem kgK{x pp C dx:Addr}{Hs H:Hp}{fs:List (Str×V)}{xs:List V}(s:Same Hs H)(fx:Hs x=none)(fp:Hs pp=none)(hx:H x=some (.ins C dx fs))(hp:H pp=some (.lst xs)):Same Hs (rm2 x pp H):=
 kdb (kdb s (khE (nx hp)) fp) (khE (nx (show Vs.rmv pp H x=_ by rw[kea (ne_of hx hp (by intro z;cases z))];exact hx))) fx
theorem kcN{x pp a:Addr}{H:Hp}{o:HO}(e:H a=some o)(n1:a≠x)(n2:a≠pp):rm2 x pp H a=some o:=by
 unfold rm2
 rw[kea n1,kea n2]
 exact e
inductive kfA (d:D) (n:Nat) (vs:List V) (H:Hp) (Q:VK) (E_:XK):Prop
 |ct (Hs:Hp)(x pp wy t b y:Addr)(T:TillD)(B:Bask)(S:Stnd)(hand:List Int)(used:List Nat)(A:SrcD)(_:vs=[.ref x, .ref wy])(_:Same Hs H)(_:Hs x=none)(_:Hs pp=none)(_:SrcIn d Hs H x pp A)(_:WayIs d Hs wy t b y hand used)(_:StndIs d.qc Hs y S)(_:TillIs d Hs t T)(_:kbm T)(_:BaskIs d.qe d.qg Hs b B)(_:Wf T.ps B S)(_:hand.length=T.vs.length)(_:(∀z∈hand,0≤z∧z≤100))(_:remM hand used<n)(_:used.length+n≤64)(_:A.ents.length+fan (remM hand used)≤1000)(_:∀(Hs' H':Hp),Same Hs Hs'→Same Hs' H'→Hs' x=none→Hs' pp=none→SrcIn d Hs' H' x pp (meetM T B hand n A used S)→Q .non H'):kfA d n vs H Q E_
theorem kjL{d:D}{vs:List V}{H:Hp}{Q:VK}{E:XK}(h:kfA d 0 vs H Q E):False:=by
 obtain⟨_,_,_,_,_,_,_,_,_,_,_,_,_,_,_,_,_,_,_,_,_,_,_,_,_,_,h,_⟩:=h
 omega
theorem QG:kas ["self","way","total","least","number"] ["self","way"] (kah kcF):=by ac_rfl
theorem kee(W:WB K mg d base)(n:Nat)(G_rec:FO P w W (6+n) d.qY d.qZ ["self","way"] ((kfA d) n)):FO P w W (6+n+1) d.qY d.qZ ["self","way"] ((kfA d) (n+1)):=by
 refine FunD.ok W.Qg.F QG (fun vs H Q E h=>?_) (fun cdv A outer s H vs Q E hr h=>?_)
 ·obtain⟨Hs,x,pp,wy,t,b,y,T,B,S,hand,used,A,rfl,_⟩:=h
  rfl
 ·obtain⟨Hs,x,pp,wy,t,b,y,T,B,S,hand,used,A,rfl,sS,fx,fp,hA,hW,hS,hT,tok,hB,wf,hl,hz,hrem,h64,hsz,kk⟩:=h
  obtain⟨dx,fs,ol,ea,hx,lo,lt,lp,lm,l5,hpp,hol,hents⟩:=id hA
  obtain⟨dxw,fsw,hd,u,hw,w1,w2,w3,w4,w5,w6,w7,w8,w9,w10,hh,hu⟩:=id hW
  obtain⟨o,pr,mk,⟨dxs,fss,hxs,s1',s2',s3',s4',s5'⟩,ho,hpr,hmk⟩:=id hS
  exists qE,ka2,W
  exists Xu,kc0,W
  exists Ql,kbY,W
  exists Xv,kcO,W
  exists Xr,kdB,W
  have hr1:Room 1 _:=hr.mono (by omega)
  have hr2:Room 2 _:=hr.mono (by omega)
  have hr5:Room 5 _:=hr.mono (by omega)
  have hr6:Room 6 _:=hr.mono (by omega)
  refine⟨_,kab (psl (i:=2) QG.nd (kbK (kaj (K:=K) (pv 1) rfl) W.qc.cl W.qu.me qE hr1 W.qu.b .nil pass0))
   (kab (psl (i:=3) QG.nd (pcl Xu hr5 W.QY (kaa (pv 1) kad)))
   (kab (ka1 (pe_bm NK N3 N4 kbd (kaj (K:=K) (pv 0) rfl) (kaa (kb0 (kaa (kaA (r:=kaJ K) kav (by rfl) W.B.list kaU (kaa (kaj (K:=K) (pv 1) rfl) kad)) (kaa (pv 2) (kaa (pv 3) kad)))) kad)))
   (kab (kcc (ps_if (PW.pt (ka7 (kam op_lt (pv 2) (kaj (K:=K) (pv 0) rfl) (kat _)) (kaV (ka0 (kbK (pv 1) W.c_Way.cl W.qN.me Ql hr2 W.qN.b .nil pass0))))) (kab (kaI (pv 0) (kaA (r:=kaJ K) kav (by rfl) W.B.list kaU (kaa (kaj (K:=K) (pv 1) rfl) kad)) rfl)
   (kag (kaI (pv 0) (pv 2) rfl))) (kap)))
   (kag (ps_if (kam op_lt (pv 3) (kaj (K:=K) (pv 0) rfl) (kat _)) (kag (kaZ PassesOwn.never rfl (kaE (K:=K) (kbK (pv 1) W.c_Way.cl W.Qe.me Xv hr6 W.Qe.b .nil pass0)) (pgn (i:=4) QG.nd)
   (kag (ka1 (kdm (pv 0) W.qh.cl W.Qg.me G_rec hr W.Qg.b .nil pass0 (kaa (kdm (pv 1) W.c_Way.cl W.Qd.me Xr hr6 W.Qd.b .nil pass0 (kaa (pv 4) kad)) kad)))))) (kap)))))),?_⟩
  have nxp:x≠pp:=ne_of hx hpp (by intro z;cases z)
  have lents:=hents.len
  have h1f:1≤fan (remM hand used):=kdJ (r:=0) (Nr _)
  refine⟨_,rfl,wy,d.c_Way,dxw,fsw,_,rfl,sS _ _ hw,W.c_Way.cl,W.qx,w5,y,dxs,fss,rfl,sS _ _ hxs,s5',y,o,pr,mk,S.cg,S.pr,rfl,⟨dxs,fss,sS _ _ hxs,s1',s2',s3',s4',s5'⟩,sS _ _ hpr,?_⟩
  refine⟨_,rfl,wy,t,b,y,T,B,S,hand,used,rfl,hW.same sS,hT.same sS,tok,hB.same sS,hS.same sS,wf,hl,hz,by omega,fun H1 s1=>?_⟩
  have sS1:=sS.trans s1
  have hx1:=s1 _ _ hx
  have hpp1:=s1 _ _ hpp
  refine⟨_,rfl,x,d.qh,dx,fs,_,rfl,hx1,W.qh.cl,W.Xg,lp, .inl ⟨rfl,_,SqL.of hpp1⟩,_,rfl,wy,d.c_Way,dxw,fsw,_,rfl,sS1 _ _ hw,W.c_Way.cl,W.qp,w4,u,_,rfl, .inl (SqL.of (sS1 _ _ hu)),fun l fl=>?_⟩
  exists H1,l,H2,n2,e2,fl
  refine⟨_,rfl,_,rfl,(by show 3≤sizeLine;decide),fun e fe=>?_⟩
  exists H2,e,H3,n3,e3,fe
  have s13:=n2.trans n3
  have sS3:=sS1.trans s13
  have hx3:=s13 _ _ hx1
  have hpp3:=s13 _ _ hpp1
  have sm:=kgK sS3 fx fp hx3 hpp3
  have em:EntAt (rm2 x pp H3) e (used,kaz S,kaT T B hand used S):=
   ⟨l,kcN e3 (kai (n2 _ _ hx1) fe).symm (kai (n2 _ _ hpp1) fe).symm,kcN (n3 _ _ e2) (kai hx1 fl).symm (kai hpp1 fl).symm⟩
  refine⟨pp,_,_,rfl,rfl,hpp3,kau (by rw[JJ];omega),?_⟩
  rw[show ea.map V.ref++[V.ref e]=(ea++[e]).map V.ref by rw[JQ];rfl]
  have b4:But pp H3 (upd H3 pp (.lst ((ea++[e]).map V.ref))):=kaB (nx hpp3)
  have hpp4:(upd H3 pp (.lst ((ea++[e]).map V.ref))) pp=some (.lst ((ea++[e]).map V.ref)):=kae
  generalize upd H3 pp (.lst ((ea++[e]).map V.ref))=H4 at *
  have hx4:=b4 _ _ nxp hx3
  have sm4:Same (rm2 x pp H3) H4:=kdb keH b4 (rm2_p nxp)
  have fmx:rm2 x pp H3 x=none:=rm2_x
  have fmp:rm2 x pp H3 pp=none:=rm2_p nxp
  have hA4:SrcIn d (rm2 x pp H3) H4 x pp (addE T B hand A used S):=⟨dx,fs,ol,ea++[e],hx4,lo,lt,lp,lm,l5,hpp4,sm _ _ hol,P2.snoc (hents.mono fun e q h=>h.same sm) em⟩
  generalize rm2 x pp H3=Hm at *
  have sSm4:=sm.trans sm4
  refine⟨fun σ' H'=>∃Hs2,Same Hs Hs2∧Same Hs2 H'∧Hs2 x=none∧Hs2 pp=none∧SrcIn d Hs2 H' x pp (pickM T (addE T B hand A used S) used S)∧σ'=[some (.ref x),some (.ref wy),some (.int (kaz S)),some (.int (kaT T B hand used S)),none],?_,?_⟩
  ·refine⟨_,rfl,_,rfl,x,d.qh,dx,fs,_,rfl,hx4,W.qh.cl,W.Qf,lt,_,_,rfl,rfl,_,rfl,?_⟩
   have etot:(addE T B hand A used S).tot=A.tot:=rfl
   by_cases c1:kaz S<A.tot
   ·rw[show decide (S.pr.sum+S.cg<A.tot)=true from decide_eq_true c1]
    refine iteT ⟨_,rfl,wy,dxw,fsw,rfl,sSm4 _ _ hw,w8,wy,t,b,y,T,hand,used,rfl,hW.same sSm4,hT.same sSm4,_,rfl,?_⟩
    cases eo:(onlyM T.rs used).isNone with
    | true=>
     have epk:pickM T (addE T B hand A used S) used S=⟨used,kaz S,A.ents++[(used,kaz S,kaT T B hand used S)]⟩:=by
      unfold pickM
      rw[etot,decide_eq_true c1,eo]
      rfl
     refine iteT ⟨_,rfl,wy,d.c_Way,dxw,fsw,_,rfl,sSm4 _ _ hw,W.c_Way.cl,W.qp,w4,u,_,rfl, .inl (SqL.of (sSm4 _ _ hu)),fun q fq=>?_⟩
     exists H4,q,H5,n5,e5,fq
     have hx5:=n5 _ _ hx4
     have hpp5:=n5 _ _ hpp4
     refine⟨_,rfl,x,d.qh,dx,fs,rfl,hx5,W.qh.cl,W.Xf,few (JN l5 (by decide)),?_⟩
     have b6:But x H5 (upd H5 x (.ins d.qh dx (putF "order" (.ref q) fs))):=kaB (nx hx5)
     have hx6:(upd H5 x (.ins d.qh dx (putF "order" (.ref q) fs))) x=some (.ins d.qh dx (putF "order" (.ref q) fs)):=kae
     generalize upd H5 x (.ins d.qh dx (putF "order" (.ref q) fs))=H6 at *
     have hl6:(putF "order" (.ref q) fs).length≤5:=by rw[kf2 lo];exact l5
     refine⟨_,rfl,_,rfl,x,d.qh,dx,_,rfl,hx6,W.qh.cl,W.Qf,few (JN hl6 (by decide)),?_⟩
     have b7:But x H6 (upd H6 x (.ins d.qh dx (putF "total" (.int (S.pr.sum+S.cg)) (putF "order" (.ref q) fs)))):=kaB (nx hx6)
     have hx7:(upd H6 x (.ins d.qh dx (putF "total" (.int (S.pr.sum+S.cg)) (putF "order" (.ref q) fs)))) x=some (.ins d.qh dx (putF "total" (.int (S.pr.sum+S.cg)) (putF "order" (.ref q) fs))):=kae
     generalize upd H6 x (.ins d.qh dx (putF "total" (.int (S.pr.sum+S.cg)) (putF "order" (.ref q) fs)))=H7 at *
     have sm5:Same Hm (rm2 x pp H5):=kgK (sm4.trans n5) fmx fmp hx5 hpp5
     have s57:Same (rm2 x pp H5) H7:=kdb (kdb keH b6 rm2_x) b7 rm2_x
     obtain⟨_,_,_,_,g1,_,_,_,_,_,g7,g8,g9⟩:=id hA4
     refine⟨rm2 x pp H5,sm.trans sm5,s57,rm2_x,rm2_p nxp,?_,rfl⟩
     rw[epk]
     refine⟨dx,_,q,ea++[e],hx7,kfJ lk_at,lk_at,kfJ (kfJ lp),kfJ (kfJ lm),by rw[kf2 (kfJ lt)];exact hl6,b7 _ _ nxp.symm (b6 _ _ nxp.symm hpp5),kcN e5 (kai hx4 fq).symm (kai hpp4 fq).symm,?_⟩
     obtain⟨_,_,_,ea',_,_,_,_,_,_,hpp4',_,hen⟩:=hA4
     rw[hpp4] at hpp4'
     have hee:ea'=ea++[e]:=by
      have h1:=congrArg (fun o=>match o with|some (HO.lst xs)=>xs|_=>[]) hpp4'
      simp only at h1
      exact((Em (fun _ _ h=>V.ref.inj h)).mp h1).symm
     subst hee
     exact hen.mono fun e q h=>h.same sm5
    | false=>
     have epk:pickM T (addE T B hand A used S) used S=addE T B hand A used S:=by
      unfold pickM
      rw[eo,M1,if_neg JS]
     refine iteF ⟨Hm,sm,sm4,fmx,fmp,?_,rfl⟩
     rw[epk]
     exact hA4
   ·have epk:pickM T (addE T B hand A used S) used S=addE T B hand A used S:=by
     unfold pickM
     rw[etot,decide_eq_false c1,MH,if_neg JS]
    rw[show decide (S.pr.sum+S.cg<A.tot)=false from decide_eq_false c1]
    refine iteF (iteF ⟨Hm,sm,sm4,fmx,fmp,?_,rfl⟩)
    rw[epk]
    exact hA4
  have emt:meetM T B hand (n+1) A used S=if kaT T B hand used S<(pickM T (addE T B hand A used S) used S).tot then(folM T B hand used S).foldl (fun A m=>match T.vs[m]? with
   |none=>A
   |some V=>meetM T B hand n A (used++[m]) (aftM V T.ps (kds B) S)) (pickM T (addE T B hand A used S) used S) else pickM T (addE T B hand A used S) used S:=rfl
  rw[emt] at kk
  have hpe:(pickM T (addE T B hand A used S) used S).ents.length=A.ents.length+1:=by
   rw[keI]
   unfold addE
   rw[JW,Np]
  clear hA4 hx4 hpp4 sm4 sSm4 fmx fmp sm b4 em
  generalize pickM T (addE T B hand A used S) used S=P0 at *
  generalize hfm:(fun(A:SrcD)(m:Nat)=>match T.vs[m]? with
   |none=>A
   |some V=>meetM T B hand n A (used++[m]) (aftM V T.ps (kds B) S))=fm at *
  rintro σ' H5 ⟨Hs2,t1,t2,fx2,fp2,hA5,rfl⟩
  obtain⟨dx5,fs5,ol5,ea5,hx5,lo5,lt5,lp5,lm5,l55,hpp5,hol5,hents5⟩:=id hA5
  refine⟨_,rfl,_,rfl,x,d.qh,dx5,fs5,_,rfl,hx5,W.qh.cl,W.Qf,lt5,_,_,rfl,rfl,_,rfl,?_⟩
  by_cases c2:kaT T B hand used S<P0.tot
  ·rw[if_pos c2] at kk
   rw[show decide (kaT T B hand used S<P0.tot)=true from decide_eq_true c2]
   have s05:=t1.trans t2
   refine iteT ⟨_,rfl,wy,dxw,fsw,rfl,s05 _ _ hw,w9,wy,t,b,y,T,B,S,hand,used,rfl,hW.same s05,hT.same s05,tok,hB.same s05,hS.same s05,wf,hl,fun H6 fl' s6 ffl efl=>?_⟩
   have hfl:=kkR (T:=T) (B:=B) (used:=used) (S:=S) hl
   have hx6:=s6 _ _ hx5
   have hpp6:=s6 _ _ hpp5
   have u6:=kgK (t2.trans s6) fx2 fp2 hx6 hpp6
   have efm:rm2 x pp H6 fl'=some (.lst ((folM T B hand used S).map iV)):=kcN efl (kai hx5 ffl).symm (kai hpp5 ffl).symm
   have hA6:SrcIn d (rm2 x pp H6) H6 x pp P0:=⟨dx5,fs5,ol5,ea5,hx6,lo5,lt5,lp5,lm5,l55,hpp6,u6 _ _ hol5,hents5.mono fun e q h=>h.same u6⟩
   have t16:=t1.trans u6
   refine⟨fl',rfl,⟨_,SqL.of efl⟩,kaP (xs:=(folM T B hand used S).map iV) (fun i σ H'=>∃(Hn:Hp)(v4:Option V),Same (rm2 x pp H6) Hn∧Same Hn H'∧Hn x=none∧Hn pp=none∧SrcIn d Hn H' x pp (((folM T B hand used S).take i).foldl fm P0)∧(((folM T B hand used S).take i).foldl fm P0).ents.length≤P0.ents.length+i*fan (remM hand used-1)∧σ=[some (.ref x),some (.ref wy),some (.int (kaz S)),some (.int (kaT T B hand used S)),v4])
    ⟨rm2 x pp H6,none,Same.refl _,keH,rm2_x,rm2_p nxp,hA6,by rw[EJ,List.foldl_nil];omega,rfl⟩ (fun i σ H' _ h=>by obtain⟨Hn,v4,q1,q2,_⟩:=h;exact SqL.of ((q1.trans q2) _ _ efm)) ?_ ?_⟩
   ·rintro i yv σ H' hyv ⟨Hn,v4,q1,q2,fnx,fnp,hAn,hln,rfl⟩
    obtain⟨m,em,rfl⟩:∃m,(folM T B hand used S)[i]?=some m∧yv=iV m:=kbC hyv
    have hmem:=JO em
    have hi:=at_lt em
    obtain⟨hm1,hm2⟩:=kdM (Nh.mp hmem).2
    obtain⟨Vc,hV⟩:=at_of hm1
    have vo:=tok.vs Vc (JO hV)
    have hd:=kf1 (hand:=hand) (used:=used) (n:=m) (by omega) hm2
    have er:remM hand (used++[m])=remM hand used-1:=by omega
    have hfan:fan (remM hand used)=1+remM hand used*fan (remM hand used-1):=by
     obtain⟨r,hr'⟩:∃r,remM hand used=r+1:=⟨remM hand used-1,by omega⟩
     rw[hr']
     rfl
    have hmul:(i+1)*fan (remM hand used-1)≤remM hand used*fan (remM hand used-1):=EE _ (by omega)
    have hmul':(i+1)*fan (remM hand used-1)=i*fan (remM hand used-1)+fan (remM hand used-1):=by rw[Ef,Eg]
    have s0n:=t16.trans q1
    have s0h:=s0n.trans q2
    obtain⟨dxn,fsn,oln,ean,hxn,lon,ltn,lpn,lmn,l5n,hppn,holn,hentsn⟩:=id hAn
    have efi:(((folM T B hand used S).take (i+1)).foldl fm P0)=fm (((folM T B hand used S).take i).foldl fm P0) m:=by rw[take_snoc em,Mw];rfl
    have efm':fm (((folM T B hand used S).take i).foldl fm P0) m=meetM T B hand n (((folM T B hand used S).take i).foldl fm P0) (used++[m]) (aftM Vc T.ps (kds B) S):=by rw[←hfm];simp only[hV]
    have hml:=kgd (T:=T) (B:=B) hl n (((folM T B hand used S).take i).foldl fm P0) (used++[m]) (aftM Vc T.ps (kds B) S)
    rw[←efm',←efi,er] at hml
    refine⟨_,rfl,x,dxn,fsn,rfl,hxn,lmn,_,rfl,wy,dxw,fsw,rfl,s0h _ _ hw,w7,_,rfl,wy,t,b,y,T,B,S,hand,used,m,Vc,rfl,hW.same s0h,hT.same s0h,hB.same s0h,hS.same s0h,wf,vo,hV,by omega,fun H8 wy' y' s8 f8 hY' hy'=>?_⟩
    have hx8:=s8 _ _ hxn
    have hpp8:=s8 _ _ hppn
    have u8:=kgK (q2.trans s8) fnx fnp hx8 hpp8
    have hnx:H' x≠none:=by rw[hxn];intro z;cases z
    have hnp:H' pp≠none:=by rw[hppn];intro z;cases z
    have hYm:WayIs d (rm2 x pp H8) wy' t b y' hand (used++[m]):=by
     obtain⟨f,dxq,fsq,hq,uq,f1,f2,g,h2,h3,h4,h5,h6,h7,h8',h9,h10,h11,h12,h13⟩:=hY'
     exact⟨dxq,fsq,hq,uq,kcN g (fun z=>hnx (z▸f)) (fun z=>hnp (z▸f)),h2,h3,h4,h5,h6,h7,h8',h9,h10,h11,kcN h12 (fun z=>hnx (z▸f1)) (fun z=>hnp (z▸f1)),kcN h13 (fun z=>hnx (z▸f2)) (fun z=>hnp (z▸f2))⟩
    have hym:StndIs d.qc (rm2 x pp H8) y' (aftM Vc T.ps (kds B) S):=by
     obtain⟨f,oq,pq,mq,⟨dq,gq,hq,r⟩,f1,f2,f3,k1,k2,k3⟩:=hy'
     exact⟨oq,pq,mq,⟨dq,gq,kcN hq (fun z=>hnx (z▸f)) (fun z=>hnp (z▸f)),r⟩,kcN k1 (fun z=>hnx (z▸f1)) (fun z=>hnp (z▸f1)),kcN k2 (fun z=>hnx (z▸f2)) (fun z=>hnp (z▸f2)),kcN k3 (fun z=>hnx (z▸f3)) (fun z=>hnp (z▸f3))⟩
    have s0u:=s0n.trans u8
    refine⟨rm2 x pp H8,x,pp,wy',t,b,y',T,B,aftM Vc T.ps (kds B) S,hand,used++[m],_,rfl,keH,rm2_x,rm2_p nxp,⟨dxn,fsn,oln,ean,hx8,lon,ltn,lpn,lmn,l5n,hpp8,u8 _ _ holn,hentsn.mono fun e q h=>h.same u8⟩,hYm,hym,hT.same s0u,tok,hB.same s0u,wf.after vo,hl,hz,by omega,by rw[JW,Np];omega,by rw[er];omega,fun Hs9 H9 v1 v2 v3 v4' hA9=>?_⟩
    refine⟨Hs9,_,(q1.trans u8).trans v1,v2,v3,v4',?_,by omega,rfl⟩
    rw[efi,efm']
    exact hA9
   ·rintro σ H' ⟨Hn,v4,q1,q2,fnx,fnp,hAn,hln,rfl⟩
    rw[JJ,Nt] at hAn
    exact kk Hn H' (t16.trans q1) q2 fnx fnp hAn
  ·rw[if_neg c2] at kk
   rw[show decide (kaT T B hand used S<P0.tot)=false from decide_eq_false c2]
   exact iteF (kk Hs2 H5 t1 t2 fx2 fp2 hA5)
theorem kcY(W:WB K mg d base):∀n:Nat,FO P w W (6+n) d.qY d.qZ ["self","way"] ((kfA d) n)
 |0=>⟨fun _ _ _ _ h=>(kjL h).elim,fun _ _ _ _ _ _ _ _ _ _ _ _ _ h=>(kjL h).elim⟩
 |n+1=>kee W n (kcY W n)
theorem kfr(W:WB K mg d base):FO P w W 16 d.qY d.qZ ["self","way"] ((kfA d) 10):=kcY W 10
noncomputable def bestM(T:TillD)(B:Bask)(hand:List Int):SrcD:=meetM T B hand 10 ⟨[],kaz (stnd0 B),[]⟩ [] (stnd0 B)
inductive kl7 (d:D) (vs:List V) (H:Hp) (Q:VK) (E_:XK):Prop
 |ct (t b h:Addr)(T:TillD)(B:Bask)(hand:List Int)(_:vs=[.ref t, .ref b, .ref h])(_:TillIs d H t T)(_:kbm T)(_:BaskIs d.qe d.qg H b B)(_:Wf T.ps B (stnd0 B))(_:H h=some (.lst (hand.map V.int)))(_:hand.length=T.vs.length)(_:(∀z∈hand,0≤z∧z≤100))(_:remM hand []≤5)(_:∀(H':Hp)(r ol pp:Addr)(ea:List Addr),Same H H'→H pp=none→ol≠pp→H' r=some (.tup [.ref ol, .int (bestM T B hand).tot, .ref pp])→H' ol=some (.lst ((bestM T B hand).ord.map iV))→H' pp=some (.lst (ea.map V.ref))→P2 (fun e q=>EntAt (Vs.rmv pp H') e q) ea (bestM T B hand).ents→Q (.ref r) H'):kl7 d vs H Q E_
theorem Xw:kas ["till","basket","hand","way","search"] ["till","basket","hand"] (kah kjY):=by ac_rfl
theorem kmV(W:WB K mg d base):FO P w W 17 d.Yq d.Yr ["till","basket","hand"] (kl7 d):=by
 exists W.ZU.F,Xw
 ·obtain⟨t,b,h,T,B,hand,rfl,hT,tok,hB,wf0,hh,hl,hz,hrem,kk⟩:=h
  exists Qj,kdn,W
  exists Us,kfs,W
  exists Ut,kfr,W
  exists hr3,3,hr,0
  exists hr5,5,hr,0
  refine⟨_,kab (psl (i:=3) Xw.nd (kbp (W.qL.mk' W.c_Way) Qj hr5 rfl W.c_Way.m W.qL.b .nil pass0 (kaa (pv 0) (kaa (pv 1) (kaa (pv 2) kad)))))
   (kab (psl (i:=4) Xw.nd (kbp (W.Xh.mk' W.qh) Us hr3 rfl W.qh.m W.Xh.b .nil pass0 (kaa (pv 3) kad)))
   (kab (ka1 (kdm (pv 4) W.qh.cl W.Qg.me Ut hr W.Qg.b .nil pass0 (kaa (pv 3) kad)))
   (kag (kao (kb0 (kaa (kaj (K:=K) (pv 4) rfl) (kaa (kaj (K:=K) (pv 4) rfl) (kaa (kaj (K:=K) (pv 4) rfl) kad)))))))),?_⟩
  refine⟨_,rfl,_,rfl,_,rfl,kkg hh hB wf0.nl wf0.ok fun H1 wy y s1 fwy fy hwy hy=>?_⟩
  have hW1:=hwy.at.most (m':=7) (by decide)
  refine⟨_,rfl,fun x dx fx fdx ndx=>⟨H1,x,dx,wy,t,b,y,stnd0 B,hand,[],rfl,fx,kbh fx fdx,kae,hW1,hy,fun H2 ol pp fs s2 fol fpp nop hx2 l1 l2 l3 l4 l5 eol epp=>⟨rfl,?_⟩⟩⟩
  have sm:=kgK s2 fx fpp hx2 epp
  have nxp:x≠pp:=ne_of hx2 epp (by intro z;cases z)
  have s0m:=s1.trans sm
  have hfan:fan (remM hand [])≤1000:=JN (kdJ hrem) (by decide)
  refine⟨_,rfl,x,dx,fs,rfl,hx2,l4,_,rfl,rm2 x pp H2,x,pp,wy,t,b,y,T,B,stnd0 B,hand,[],⟨[],kaz (stnd0 B),[]⟩,rfl,keH,rm2_x,rm2_p nxp,⟨dx,fs,ol,[],hx2,l1,l2,l3,l4,JN l5 (by decide),epp,kcN eol (ne_of eol hx2 (by intro z;cases z)) nop, .nil⟩,hW1.same sm,hy.same sm,hT.same s0m,tok,hB.same s0m,wf0,hl,hz,by omega,by decide,by rw[MQ];omega,fun Hs3 H3 v1 v2 v3 v4 hA=>?_⟩
  obtain⟨dx3,fs3,ol3,ea3,hx3,lo,lt,lp,lm,l53,hpp3,hol3,hents⟩:=hA
  refine⟨_,rfl,x,d.qh,dx3,fs3,_,rfl,hx3,W.qh.cl,W.Xf,lo,_,rfl,x,d.qh,dx3,fs3,_,rfl,hx3,W.qh.cl,W.Qf,lt,_,rfl,x,d.qh,dx3,fs3,_,rfl,hx3,W.qh.cl,W.Xg,lp,(by show 3≤sizeLine;decide),fun r fr=>?_⟩
  have n4:=kan (o:=.tup [.ref ol3, .int (bestM T B hand).tot, .ref pp]) fr
  have e4:(upd H3 r (.tup [.ref ol3, .int (bestM T B hand).tot, .ref pp])) r=some (.tup [.ref ol3, .int (bestM T B hand).tot, .ref pp]):=kae
  have hg:∀H4,upd H3 r (.tup [.ref ol3, .int (bestM T B hand).tot, .ref pp])=H4→Q (.ref r) H4:=fun H4 hH4=>by
   rw[hH4] at n4 e4
   have hpp4:=n4 _ _ hpp3
   have s34:Same Hs3 (Vs.rmv pp H4):=kdb (v2.trans n4) (khE (nx hpp4)) v4
   refine kk H4 r ol3 pp ea3 ?_ (s1.free fpp) (fun z=>?_) e4 (n4 _ _ (v2 _ _ hol3)) hpp4 (hents.mono fun e q h=>h.same s34)
   ·exact((s0m.trans v1).trans v2).trans n4
   ·rw[z,v4] at hol3
    cases hol3
  exact hg _ rfl
noncomputable def kyO(u:List Nat):List Key:=u.map fun(n:Nat)=>Sum.inl (n:Int)
theorem kiK(u:List Nat):(kyO u).map kV=u.map iV:=by
 unfold kyO
 rw[J8]
 rfl
theorem kkz{u v:List Nat}(h:kyO u=kyO v):u=v:=(Em (fun _ _ h=>by injection h with h;omega)).mp h
noncomputable def WayR(d:D)(H:Hp)(t b:Addr)(ps:List (Option Nat))(B:Bask)(hand:List Int)(wy:Addr)(r:List Nat×Stnd):Prop:=∃x,WayIs d H wy t b x hand r.1∧StndIs d.qc H x r.2∧Wf ps B r.2
theorem WayR.same{d:D}{H H':Hp}{t b:Addr}{ps:List (Option Nat)}{B:Bask}{hand:List Int}{wy:Addr}{r:List Nat×Stnd}(s:Same H H'):WayR d H t b ps B hand wy r→WayR d H' t b ps B hand wy r:=fun⟨x,h1,h2,h3⟩=>⟨x,h1.same s,h2.same s,h3⟩
inductive kib (d:D) (vs:List V) (H:Hp) (Q:VK) (E_:XK):Prop
 |ct (wy t b g:Addr)(T:TillD)(B:Bask)(hand:List Int)(r:List Nat×Stnd)(gk:List (List Key×V))(_:vs=[.ref wy, .ref g])(_:WayR d H t b T.ps B hand wy r)(_:TillIs d H t T)(_:kbm T)(_:BaskIs d.qe d.qg H b B)(_:hand.length=T.vs.length)(_:r.1.length≤64)(_:H g=some (.dT gk))(_:∀(H':Hp),Same H H'→Q (.bl ((folM T B hand r.1 r.2).all fun n=>(valV gk (kyO (r.1++[n]))).isSome)) H'):kib d vs H Q E_
theorem VH:kas ["way","entered","number"] ["way","entered"] (kah kbU):=by ac_rfl
theorem kd1(W:WB K mg d base):FO P w W 7 d.YC d.YD ["way","entered"] (kib d):=by
 exists W.ZY.F,VH
 ·obtain⟨wy,t,b,g,T,B,hand,r,gk,rfl,⟨x,hW,hS,wf⟩,hT,tok,hB,hl,h64,hg,kk⟩:=h
  obtain⟨dxw,fsw,h,u,hw,w1,w2,w3,w4,w5,w6,w7,w8,w9,w10,hh,hu⟩:=id hW
  exists Xv,kcO,W
  refine⟨_,kab (kaZ PassesOwn.never rfl (kaE (K:=K) (kbK (pv 0) W.c_Way.cl W.Qe.me Xv hr W.Qe.b .nil pass0)) (pgn (i:=2) VH.nd)
   (kag (ps_if (kl9 (kgO (hu_of hr) (kaA (r:=kgL K) kdN (by rfl) W.B.tuple kgp (kaa (pe_op keN (kaj (K:=K) (pv 0) rfl) (kaS (kaa (pv 2) kad))) kad)) (pv 1))) (kag (kao pe_bl)) (kap))))
   (kag (kao pe_bl)),?_⟩
  refine⟨_,rfl,wy,dxw,fsw,rfl,hw,w9,wy,t,b,x,T,B,r.2,hand,r.1,rfl,hW,hT,tok,hB,hS,wf,hl,fun H1 f s1 ff ef=>?_⟩
  refine⟨f,rfl,⟨_,SqL.of ef⟩,kaP (xs:=(folM T B hand r.1 r.2).map iV) (fun i σ H'=>Same H1 H'∧(∀j n,j<i→(folM T B hand r.1 r.2)[j]?=some n→(valV gk (kyO (r.1++[n]))).isSome=true)∧∃(v2:Option V),σ=[some (.ref wy),some (.ref g),v2])
   ⟨Same.refl _,fun j n hj=>by omega,none,rfl⟩ (fun i σ H' _ h=>SqL.of (h.1 _ _ ef)) ?_ ?_⟩
  ·rintro i y σ H2 hy ⟨s2,hall,v2,rfl⟩
   obtain⟨n,en,rfl⟩:=kbC hy
   have s02:=s1.trans s2
   refine⟨_,rfl,wy,d.c_Way,dxw,fsw,_,rfl,s02 _ _ hw,W.c_Way.cl,W.qp,w4,_,rfl,(by show 1≤sizeLine;decide),fun a3 fa3=>?_⟩
   exists H2,a3,H3,n3,e3,fa3
   refine⟨u,a3,_,_,rfl,rfl,(s02.trans n3) _ _ hu,e3,JY (kau (by rw[JJ];show r.1.length+1≤1000;omega)),fun c fc=>?_⟩
   have ec:r.1.map iV++[iV n]=(r.1++[n]).map iV:=by
    rw[JQ]
    rfl
   rw[ec]
   exists H3,c,H4,n4,e4,fc
   refine⟨c,_,rfl,SqL.of e4,fun k5 fk5=>?_⟩
   exists H4,k5,H5,n5,e5,fk5
   have s25:=(n3.trans n4).trans n5
   have hget:=DGet.t (k:=kyO (r.1++[n])) ((s02.trans s25) _ _ hg) (show H5 k5=some (.tup ((kyO (r.1++[n])).map kV)) by rw[kiK];exact e5)
   refine⟨_,rfl,g,_,rfl,hget,_,rfl,?_⟩
   cases c9:(valV gk (kyO (r.1++[n]))).isSome with
   | true=>
    refine iteF ⟨s2.trans s25,fun j m hj em=>?_,_,rfl⟩
    by_cases e:j=i
    ·subst e
     rw[en] at em
     cases em
     exact c9
    ·exact hall j m (by omega) em
   |false=>
    refine iteT ?_
    have:=kk H5 (s02.trans s25)
    rw[show((folM T B hand r.1 r.2).all fun n=>(valV gk (kyO (r.1++[n]))).isSome)=false from List.all_eq_false.mpr ⟨n,JO en,by rw[c9];exact JS⟩] at this
    exact this
  ·rintro σ H2 ⟨s2,hall,v2,rfl⟩
   rw[JJ] at hall
   have:=kk H2 (s1.trans s2)
   rw[show((folM T B hand r.1 r.2).all fun n=>(valV gk (kyO (r.1++[n]))).isSome)=true from Mm.mpr fun n hn=>by
    obtain⟨j,ej⟩:=NU hn
    exact hall j n (at_lt ej) ej] at this
   exact this
noncomputable def kh3(T:TillD)(B:Bask)(hand:List Int)(rs:List (List Nat×Stnd))(qs:List (List Nat×Int×Int))(total:Int):Prop:=(∃r∈rs,r.1=[])∧∀(i:Nat)(r:List Nat×Stnd)(q:List Nat×Int×Int),rs[i]?=some r→qs[i]?=some q→q.2.2<total→∀n∈folM T B hand r.1 r.2,∃r'∈rs,r'.1=r.1++[n]
inductive kgy (d:D) (vs:List V) (H:Hp) (Q:VK) (E_:XK):Prop
 |ct (wl pp t b:Addr)(total:Int)(wa ea:List Addr)(T:TillD)(B:Bask)(hand:List Int)(rs:List (List Nat×Stnd))(qs:List (List Nat×Int×Int))(_:vs=[.ref wl, .ref pp, .int total])(_:H wl=some (.lst (wa.map V.ref)))(_:H pp=some (.lst (ea.map V.ref)))(_:P2 (WayR d H t b T.ps B hand) wa rs)(_:P2 (fun e q=>EntAt H e q) ea qs)(_:rs.length=qs.length)(_:rs.length≤1000)(_:(∀r∈rs,r.1.length≤64))(_:TillIs d H t T)(_:kbm T)(_:BaskIs d.qe d.qg H b B)(_:hand.length=T.vs.length)(_:∀(H':Hp)(c:Bool),Same H H'→(c=true↔kh3 T B hand rs qs total)→Q (.bl c) H'):kgy d vs H Q E_
theorem Qn:kas ["ways","paper","total","entered","way","entry"] ["ways","paper","total"] (kah kbE):=by ac_rfl
theorem kdx(W:WB K mg d base):FO P w W 8 d.YA d.YB ["ways","paper","total"] (kgy d):=by
 exists W.ZX.F,Qn
 ·obtain⟨wl,pp,t,b,total,wa,ea,T,B,hand,rs,qs,rfl,hwl,hpp,hwa,hea,hlen,lrs,h64,hT,tok,hB,hl,kk⟩:=h
  have lwa:=hwa.len
  have lea:=hea.len
  exists Uu,kd1,W
  refine⟨_,kab (psl (i:=3) Qn.nd kiB)
   (kab (kaZ PassesOwn.never rfl (kaE (K:=K) (pv 0)) (pgn (i:=4) Qn.nd)
   (kag (kj5 (hu_of hr) (pv 3) (kaA (r:=kgL K) kdN (by rfl) W.B.tuple kgp (kaa (kaj (K:=K) (pv 4) rfl) kad)) pe_bl rfl)))
   (kab (ps_if (kl9 (kgO (hu_of hr) (kb0 kad) (pv 3))) (kag (kao pe_bl)) (kap))
   (kab (kaZ PassesOwn.never rfl (kdX rfl W.B.zip (kaa (pv 0) (kaa (pv 1) kad))) (kbb (K:=K) (n:=2) rfl (kay (pgn (i:=4) Qn.nd) (kay (pgn (i:=5) Qn.nd) kba)))
   (kag (ps_if (PW.pt (ka7 (kam op_lt (pe_ix (r:=rIxT K) kcR (pv 5) kaf (fun _ _=>rfl)) (pv 2) (kat _)) (kaV (kix (ka0 (pcl Uu hr W.ZY (kaa (pv 4) (kaa (pv 3) kad)))))))) (kag (kao pe_bl)) (kap))))
   (kag (kao pe_bl))))),?_⟩
  intro m fm
  exists H,m,H1,n1,e1,fm
  refine⟨_,rfl,wl,rfl,⟨_,SqL.of (n1 _ _ hwl)⟩,kaP (xs:=wa.map V.ref) (fun i σ H'=>Same H H'∧∃(kvs:List (List Key×V))(v4:Option V),H' m=some (.dT kvs)∧kvs.length≤i∧(∀u,(valV kvs (kyO u)).isSome=true↔∃r∈rs.take i,r.1=u)∧σ=[some (.ref wl),some (.ref pp),some (.int total),some (.ref m),v4,none])
   ⟨n1,[],none,e1,JK _,fun u=>by simp[valV],rfl⟩ (fun i σ H' _ h=>SqL.of (h.1 _ _ hwl)) ?_ ?_⟩
  ·rintro i y σ H' hy ⟨s,kvs,v4,em,lk,hk,rfl⟩
   obtain⟨wy,ew,rfl⟩:=kbj hy
   obtain⟨r,er,x,hW,hS,wf⟩:=hwa.at ew
   have hi:=at_lt er
   obtain⟨dxw,fsw,h,u,hw,w1,w2,w3,w4,w5,w6,w7,w8,w9,w10,hh,hu⟩:=id hW
   refine⟨_,rfl,_,rfl,wy,d.c_Way,dxw,fsw,_,rfl,s _ _ hw,W.c_Way.cl,W.qp,w4,u,_,rfl,SqL.of (s _ _ hu),fun k fk=>?_⟩
   exists H',k,H2,n2,e2,fk
   have em2:=n2 _ _ em
   refine⟨m,_,rfl,DPut.t (k:=kyO r.1) em2 (by rw[kiK];exact e2) (kau (by omega)),kaw fm (s.trans n2) (nx em2),_,_,kae,JN (kcI _ _ _) (by omega),fun u'=>?_,rfl⟩
   rw[kh7,take_snoc er]
   by_cases c:kyO u'=kyO r.1
   ·rw[if_pos c]
    exact⟨fun _=>⟨r,Nw _ J0,(kkz c).symm⟩,fun _=>rfl⟩
   ·rw[if_neg c,hk u']
    constructor
    ·rintro⟨z,hz,e⟩
     exact⟨z,MU _ hz,e⟩
    ·rintro⟨z,hz,e⟩
     rcases Nk.mp hz with h|h
     ·exact⟨z,h,e⟩
     ·have ez:z=r:=by simpa using h
      rw[ez] at e
      exact absurd (by rw[e]) c
  rintro σ H2 ⟨s2,kvs,v4,em,lk,hk,rfl⟩
  rw[JJ,lwa,Nt] at hk
  refine⟨(by show 0≤sizeLine;decide),fun k3 fk3=>?_⟩
  exists H2,k3,H3,n3,e3,fk3
  have hget:=DGet.t (k:=kyO []) (n3 _ _ em) (show H3 k3=some (.tup ((kyO []).map kV)) by exact e3)
  refine⟨_,rfl,m,_,rfl,hget,_,rfl,?_⟩
  have s03:=s2.trans n3
  cases c0:(valV kvs (kyO [])).isSome with
  |false=>
   refine iteT (kk H3 false s03 ⟨fun z=>(by cases z),fun z=>?_⟩)
   have:=(hk []).mpr z.1
   rw[c0] at this
   cases this
  | true=>
   have hnil:=(hk []).mp c0
   refine iteF ?_
   refine⟨_,rfl,_,rfl,wl,pp,_,_,rfl,s03 _ _ hwl,s03 _ _ hpp,kgi (xs:=wa.map V.ref) (ys:=ea.map V.ref) (fun i σ H'=>Same H3 H'∧(∀(j:Nat)(r:List Nat×Stnd)(q:List Nat×Int×Int),j<i→rs[j]?=some r→qs[j]?=some q→q.2.2<total→∀n∈folM T B hand r.1 r.2,∃r'∈rs,r'.1=r.1++[n])∧∃(v4 v5:Option V),σ=[some (.ref wl),some (.ref pp),some (.int total),some (.ref m),v4,v5])
    ⟨Same.refl _,fun j r q hj=>by omega,_,_,rfl⟩ (fun i σ H' _ h=>⟨(s03.trans h.1) _ _ hwl,(s03.trans h.1) _ _ hpp⟩) ?_ ?_⟩
   ·rintro i y1 y2 t2 σ H4 hy1 hy2 ⟨s4,hall,v4,v5,rfl⟩ ht2
    obtain⟨wy,ew,rfl⟩:=kbj hy1
    obtain⟨e,ee,rfl⟩:=kbj hy2
    obtain⟨r,er,hWR⟩:=hwa.at ew
    obtain⟨q,eq,l,he,hle⟩:=hea.at ee
    exists H4,t2,H5,n5,e5,ht2
    have s35:=s4.trans n5
    have s05:=s03.trans s35
    refine⟨t2,_,rfl,SqT.of e5,rfl,_,_,rfl,_,_,rfl,rfl,?_⟩
    refine⟨_,rfl,e,_,_,_,rfl,rfl,SqT.of (s05 _ _ he),rfl,_,rfl,_,_,rfl,rfl,_,rfl,?_⟩
    have hnext:∀H6,Same H3 H6→(q.2.2<total→∀n∈folM T B hand r.1 r.2,∃r'∈rs,r'.1=r.1++[n])→(Same H3 H6∧(∀(j:Nat)(r:List Nat×Stnd)(q:List Nat×Int×Int),j<i+1→rs[j]?=some r→qs[j]?=some q→q.2.2<total→∀n∈folM T B hand r.1 r.2,∃r'∈rs,r'.1=r.1++[n])∧∃(v4 v5:Option V),[some (.ref wl),some (.ref pp),some (.int total),some (.ref m),some (.ref wy),some (.ref e)]=[some (.ref wl),some (.ref pp),some (.int total),some (.ref m),v4,v5]):=fun H6 s6 hq=>⟨s6,fun j r' q' hj er' eq'=>by
     by_cases c:j=i
     ·subst c
      rw[er] at er'
      rw[eq] at eq'
      cases er'
      cases eq'
      exact hq
     ·exact hall j r' q' (by omega) er' eq',_,_,rfl⟩
    by_cases c:q.2.2<total
    ·rw[decide_eq_true c]
     refine iteT ?_
     refine⟨_,rfl,_,rfl,wy,t,b,m,T,B,hand,r,kvs,rfl,hWR.same s05,hT.same s05,tok,hB.same s05,hl,h64 r (JO er),(n3.trans s35) _ _ em,fun H6 s6=>?_⟩
     cases ca:(folM T B hand r.1 r.2).all fun n=>(valV kvs (kyO (r.1++[n]))).isSome with
     |true=>exact⟨_,rfl,iteF (hnext H6 (s35.trans s6) fun _ n hn=>(hk _).mp (Mm.mp ca n hn))⟩
     |false=>
      refine⟨_,rfl,iteT (kk H6 false (s05.trans s6) ⟨fun z=>(by cases z),fun z=>?_⟩)⟩
      rw[Mm.mpr fun n hn=>(hk _).mpr (z.2 i r q er eq c n hn)] at ca
      cases ca
    ·rw[decide_eq_false c]
     exact iteF (iteF (hnext H5 s35 fun z=>absurd z c))
   ·rintro σ H4 ⟨s4,hall,v4,v5,rfl⟩
    refine kk H4 true (s03.trans s4) ⟨fun _=>⟨hnil,fun i r q er eq=>hall i r q ?_ er eq⟩,fun _=>rfl⟩
    rw[JJ,JJ]
    have:=at_lt er
    omega
theorem ke6{us vs:List Nat}:eqVs (us.map iV) (vs.map iV)=decide (us=vs):=by
 have e:∀u:List Nat,u.map iV=(u.map fun(n:Nat)=>(n:Int)).map V.int:=fun u=>by rw[J8];rfl
 rw[e,e,ke7]
 by_cases c:us=vs
 ·rw[c]
  simp
 ·rw[decide_eq_false c]
  exact decide_eq_false fun z=>c ((Em (fun _ _ h=>by omega)).mp z)
inductive kjO (d:D) (vs:List V) (H:Hp) (Q:VK) (E_:XK):Prop
 |ct (wy t b e:Addr)(T:TillD)(B:Bask)(hand:List Int)(r:List Nat×Stnd)(q:List Nat×Int×Int)(_:vs=[.ref wy, .ref e])(_:WayR d H t b T.ps B hand wy r)(_:TillIs d H t T)(_:kbm T)(_:BaskIs d.qe d.qg H b B)(_:hand.length=T.vs.length)(_:(∀z∈hand,0≤z∧z≤100))(_:r.1.length≤64)(_:EntAt H e q)(_:∀(H':Hp)(c:Bool),Same H H'→(c=true↔r.1=q.1∧kaz r.2=q.2.1∧kaT T B hand r.1 r.2=q.2.2)→Q (.bl c) H'):kjO d vs H Q E_
theorem kfi:kas ["way","entry"] ["way","entry"] (kah kcC):=by ac_rfl
theorem kfn(W:WB K mg d base):FO P w W 6 d.Yy d.Yz ["way","entry"] (kjO d):=by
 exists W.ZW.F,kfi
 ·obtain⟨wy,t,b,e,T,B,hand,r,q,rfl,⟨x,hW,hS,wf⟩,hT,tok,hB,hl,hz,h64,⟨l,he,hle⟩,kk⟩:=h
  obtain⟨dxw,fsw,h,u,hw,w1,w2,w3,w4,w5,w6,w7,w8,w9,w10,hh,hu⟩:=id hW
  obtain⟨o,pp,mk,⟨dxs,fss,hxs,l1,l2,l3,l4,l5⟩,ho,hpp,hmk⟩:=id hS
  exists qE,ka2,W
  exists Xu,kc0,W
  exists hr1,1,hr,0
  refine⟨_,kag (kao (kce (kkd hr.units) (kb0 (kaa (kaj (K:=K) (pv 0) rfl) (kaa (kbK (kaj (K:=K) (pv 0) rfl) W.qc.cl W.qu.me qE hr1 W.qu.b .nil pass0) (kaa (pcl Xu hr W.QY (kaa (pv 0) kad)) kad)))) (pv 1) (kat _))),?_⟩
  refine⟨_,rfl,wy,d.c_Way,dxw,fsw,_,rfl,hw,W.c_Way.cl,W.qp,w4,_,rfl,wy,d.c_Way,dxw,fsw,_,rfl,hw,W.c_Way.cl,W.qx,w5,x,dxs,fss,rfl,hxs,l5,x,o,pp,mk,r.2.cg,r.2.pr,rfl,⟨dxs,fss,hxs,l1,l2,l3,l4,l5⟩,hpp,?_⟩
  refine⟨_,rfl,wy,t,b,x,T,B,r.2,hand,r.1,rfl,hW,hT,tok,hB,hS,wf,hl,hz,h64,fun H1 s1=>?_⟩
  refine⟨(by show 3≤sizeLine;decide),fun p fp=>?_⟩
  exists H1,p,H2,n2,e2,fp
  have s2:=s1.trans n2
  have e2':H2 p=some (.tup [.ref u, .int (kaz r.2), .int (kaT T B hand r.1 r.2)]):=e2
  refine⟨_,rfl,p,e,_,_,fun j=>if j=0 then eqVs (r.1.map iV) (q.1.map iV) else if j=1 then eqV (.int (kaz r.2)) (.int q.2.1) else eqV (.int (kaT T B hand r.1 r.2)) (.int q.2.2),rfl,rfl,SqT.of e2',SqT.of (s2 _ _ he),rfl,fun j x y hx hy=>?_,?_⟩
  ·match j,hx,hy with
   |0,hx,hy=>
    cases hx
    cases hy
    exact .lst (s2 _ _ hu) (s2 _ _ hle) (kbB _) (kbB _)
   |1,hx,hy=>
    cases hx
    cases hy
    exact .flat rfl rfl
   |2,hx,hy=>
    cases hx
    cases hy
    exact .flat rfl rfl
   |j+3,hx,hy=>cases hx
  ·refine kk H2 _ s2 ?_
   show((eqVs (r.1.map iV) (q.1.map iV)&&(kaz r.2==q.2.1&&(kaT T B hand r.1 r.2==q.2.2&&true)))=true)↔_
   rw[ke6,NL,NL,MN,decide_eq_true_iff,beq_iff_eq,beq_iff_eq]
noncomputable abbrev TO:=Int×List Nat
noncomputable def nI(u:List Nat):List Int:=u.map fun(n:Nat)=>(n:Int)
noncomputable def ltO(p q:TO):Bool:=if p.1=q.1 then SeqAt.lexL (nI p.2) (nI q.2) else decide (p.1<q.1)
theorem lex_trans:∀{a b c:List Int},SeqAt.lexL a b=true→SeqAt.lexL b c=true→SeqAt.lexL a c=true
 |[],[],_,h,_=>by cases h
 |[],_::_,[],_,h=>by cases h
 |[],_::_,_::_,_,_=>rfl
 |_::_,[],_,h,_=>by cases h
 |_::_,_::_,[],_,h=>by cases h
 | x::a,y::b,z::c,h,k=>by
  have h':(if x=y then SeqAt.lexL a b else decide (x<y))=true:=h
  have k':(if y=z then SeqAt.lexL b c else decide (y<z))=true:=k
  show(if x=z then SeqAt.lexL a c else decide (x<z))=true
  by_cases e1:x=y
  ·rw[if_pos e1] at h'
   by_cases e2:y=z
   ·rw[if_pos e2] at k'
    rw[if_pos (e1.trans e2)]
    exact lex_trans h' k'
   ·rw[if_neg e2,decide_eq_true_iff] at k'
    rw[if_neg (fun z=>e2 (e1.symm.trans z)),decide_eq_true_iff,e1]
    exact k'
  ·rw[if_neg e1,decide_eq_true_iff] at h'
   by_cases e2:y=z
   ·rw[←e2,if_neg e1,decide_eq_true_iff]
    exact h'
   ·rw[if_neg e2,decide_eq_true_iff] at k'
    rw[if_neg (by omega),decide_eq_true_iff]
    omega
theorem khO:∀{a b:List Int},SeqAt.lexL a b=false→SeqAt.lexL b a=false→a=b
 |[],[],_,_=>rfl
 |[],_::_,h,_=>by cases h
 |_::_,[],_,h=>by cases h
 | x::a,y::b,h,k=>by
  have h':(if x=y then SeqAt.lexL a b else decide (x<y))=false:=h
  have k':(if y=x then SeqAt.lexL b a else decide (y<x))=false:=k
  by_cases e:x=y
  ·rw[if_pos e] at h'
   rw[if_pos e.symm] at k'
   rw[e,khO h' k']
  ·rw[if_neg e,decide_eq_false_iff_not] at h'
   rw[if_neg (Ne.symm e),decide_eq_false_iff_not] at k'
   omega
theorem knz{u v:List Nat}(h:nI u=nI v):u=v:=(Em (fun _ _ h=>by omega)).mp h
theorem kko(p:TO):ltO p p=false:=by
 unfold ltO
 rw[if_pos rfl]
 exact kcH _
theorem kkn{p q r:TO}(h:ltO p q=true)(k:ltO q r=true):ltO p r=true:=by
 unfold ltO at h k⊢
 by_cases e1:p.1=q.1
 ·rw[if_pos e1] at h
  by_cases e2:q.1=r.1
  ·rw[if_pos e2] at k
   rw[if_pos (e1.trans e2)]
   exact lex_trans h k
  ·rw[if_neg e2] at k
   rw[if_neg (fun z=>e2 (e1.symm.trans z)),e1]
   exact k
 ·rw[if_neg e1,decide_eq_true_iff] at h
  by_cases e2:q.1=r.1
  ·rw[←e2,if_neg e1,decide_eq_true_iff]
   exact h
  ·rw[if_neg e2,decide_eq_true_iff] at k
   rw[if_neg (by omega),decide_eq_true_iff]
   omega
theorem km1{p q:TO}(h:ltO p q=false)(k:ltO q p=false):p=q:=by
 unfold ltO at h k
 by_cases e:p.1=q.1
 ·rw[if_pos e] at h
  rw[if_pos e.symm] at k
  exact Prod.ext e (knz (khO h k))
 ·rw[if_neg e,decide_eq_false_iff_not] at h
  rw[if_neg (Ne.symm e),decide_eq_false_iff_not] at k
  omega
noncomputable def IsMin(l:List TO)(p:TO):Prop:=p∈l∧∀q∈l,ltO q p=false
theorem IsMin.one{l:List TO}{p q:TO}(h:IsMin l p)(k:IsMin l q):p=q:=km1 (k.2 p h.1) (h.2 q k.1)
theorem kiZ{l:List TO}{bt:Nat→Nat→Bool}(hb:∀i j p q,l[i]?=some p→l[j]?=some q→bt i j=ltO p q):∀(k:Nat),k<l.length→∃p,l[argBest bt k]?=some p∧∀j q,j≤k→l[j]?=some q→ltO q p=false
 |0,h=>by
  obtain⟨p,ep⟩:=at_of h
  refine⟨p,ep,fun j q hj eq=>?_⟩
  have:j=0:=by omega
  subst this
  rw[ep] at eq
  cases eq
  exact kko _
 | k +1,h=>by
  obtain⟨p,ep,hp⟩:=kiZ hb k (by omega)
  obtain⟨q,eq⟩:=at_of h
  have e:=hb _ _ q p eq ep
  by_cases c:ltO q p=true
  ·refine⟨q,by unfold argBest;rw[e,c,if_pos rfl];exact eq,fun j z hj ez=>?_⟩
   by_cases cj:j=k+1
   ·subst cj
    rw[eq] at ez
    cases ez
    exact kko _
   ·cases cz:ltO z q with
    |false=>rfl
    |true=>
     have:=kkn cz c
     rw[hp j z (by omega) ez] at this
     cases this
  ·have c':ltO q p=false:=by simpa using c
   refine⟨p,by unfold argBest;rw[e,c',if_neg JS];exact ep,fun j z hj ez=>?_⟩
   by_cases cj:j=k+1
   ·subst cj
    rw[eq] at ez
    cases ez
    exact c'
   ·exact hp j z (by omega) ez
noncomputable def letL(T:TillD)(rs:List (List Nat×Stnd)):List TO:=(rs.filter fun r=>(onlyM T.rs r.1).isNone).map fun r=>(kaz r.2,r.1)
inductive kjP (d:D) (vs:List V) (H:Hp) (Q:VK) (E_:XK):Prop
 |ct (wl t b:Addr)(wa:List Addr)(T:TillD)(B:Bask)(hand:List Int)(rs:List (List Nat×Stnd))(_:vs=[.ref wl])(_:H wl=some (.lst (wa.map V.ref)))(_:P2 (WayR d H t b T.ps B hand) wa rs)(_:rs.length≤1000)(_:TillIs d H t T)(_:0<(letL T rs).length)(_:∀(H':Hp)(p u:Addr)(x:TO),Same H H'→H' p=some (.tup [.int x.1, .ref u])→H' u=some (.lst (x.2.map iV))→IsMin (letL T rs) x→Q (.ref p) H'):kjP d vs H Q E_
theorem kdc:kas ["ways"] ["ways"] (kah kbo):=by ac_rfl
theorem kdd(W:WB K mg d base):FO P w W 3 d.YE d.YF ["ways"] (kjP d):=by
 exists W.ZZ.F,kdc
 ·obtain⟨wl,t,b,wa,T,B,hand,rs,rfl,hwl,hwa,lrs,hT,hpos,kk⟩:=h
  have lwa:=hwa.len
  exists Ql,kbY,W
  exists qE,ka2,W
  exists hr1,1,hr,0
  refine⟨_,kag (kao (kaq (r:=rMinP K) (kk6 rfl hr.units) (by rfl) W.B.min b_min (kaa (kev (N:=["way"]) (CompScope.plain rfl (by decide +kernel) (by decide +kernel) (by decide +kernel) (nd1 _)) rfl (kaE (K:=K) (pv 0)) (fun _ _ _ _=>pgn (i:=0) (nd1 _)) (fun _ _ _ _=>kf5 (ka0 (kbK (pv 0) W.c_Way.cl W.qN.me Ql hr W.qN.b .nil pass0))) (fun _ _ _ _=>(kb0 (kaa (kbK (kaj (K:=K) (pv 0) rfl) W.qc.cl W.qu.me qE hr1 W.qu.b .nil pass0) (kaa (kaj (K:=K) (pv 0) rfl) kad))))) kad))),?_⟩
  refine⟨_,rfl,wl,rfl,⟨_,SqL.of hwl⟩,kji (xs:=wa.map V.ref) (fun i σ ys H'=>Same H H'∧∃(ps:List PrI)(v0:Option V),ys=ps.map (fun p=>V.ref p.1)∧(∀p∈ps,H' p.1=some (.tup [.int p.2.1, .ref p.2.2.1])∧H' p.2.2.1=some (.lst (p.2.2.2.map V.int)))∧ps.map (fun p=>p.2.1)=(letL T (rs.take i)).map (fun x=>x.1)∧ps.map (fun p=>p.2.2.2)=(letL T (rs.take i)).map (fun x=>nI x.2)∧σ=[v0])
   ⟨Same.refl _,[],none,rfl,fun p hp=>by simp at hp,rfl,rfl,rfl⟩ (JY (kau (by rw[JJ];omega))) ?_ ?_ ?_⟩
  ·rintro i σ ys H' hi ⟨s1,ps,v0,rfl,_,hpe,_,_⟩
   refine⟨SqL.of (s1 _ _ hwl),?_⟩
   have:=congrArg NA hpe
   rw[JJ,JJ] at this
   rw[JJ,this]
   unfold letL
   rw[JJ]
   exact JN (MC _ _) (by rw[Na];omega)
  ·rintro i y σ ys H' hy ⟨s1,ps,v0,rfl,hps,hp1,hp2,rfl⟩
   obtain⟨wy,ew,rfl⟩:=kbj hy
   obtain⟨r,er,x,hW,hS,wf⟩:=hwa.at ew
   obtain⟨dxw,fsw,h,u,hw,w1,w2,w3,w4,w5,w6,w7,w8,w9,w10,hh,hu⟩:=id hW
   obtain⟨o,pp,mk,⟨dxs,fss,hxs,l1,l2,l3,l4,l5⟩,ho,hpp,hmk⟩:=id hS
   refine⟨_,rfl,wy,dxw,fsw,rfl,s1 _ _ hw,w8,wy,t,b,x,T,hand,r.1,rfl,hW.same s1,hT.same s1,_,rfl,?_⟩
   have elet:letL T (rs.take (i+1))=letL T (rs.take i)++(if(onlyM T.rs r.1).isNone=true then [(kaz r.2,r.1)] else []):=by
    unfold letL
    rw[take_snoc er,Mq,JQ,Mr,Ek]
    split <;> rfl
   cases c:(onlyM T.rs r.1).isNone with
   | false=>
    refine iteF ⟨s1,ps,_,rfl,hps,?_,?_,rfl⟩
    ·rw[elet,c,if_neg JS,Nl]
     exact hp1
    ·rw[elet,c,if_neg JS,Nl]
     exact hp2
   | true=>
    refine iteT ⟨_,rfl,wy,d.c_Way,dxw,fsw,_,rfl,s1 _ _ hw,W.c_Way.cl,W.qx,w5,x,dxs,fss,rfl,s1 _ _ hxs,l5,x,o,pp,mk,r.2.cg,r.2.pr,rfl,⟨dxs,fss,s1 _ _ hxs,l1,l2,l3,l4,l5⟩,s1 _ _ hpp,_,rfl,wy,d.c_Way,dxw,fsw,_,rfl,s1 _ _ hw,W.c_Way.cl,W.qp,w4,(by show 2≤sizeLine;decide),fun p fp=>?_⟩
    exists H',p,H2,n2,e2,fp
    refine⟨s1.trans n2,ps++[(p,kaz r.2,u,nI r.1)],_,?_,fun p' hp'=>?_,?_,?_,rfl⟩
    ·rw[JQ]
     rfl
    ·rcases Nk.mp hp' with h'|h'
     ·exact⟨n2 _ _ (hps p' h').1,n2 _ _ (hps p' h').2⟩
     ·have ep:p'=(p,kaz r.2,u,nI r.1):=by simpa using h'
      rw[ep]
      refine⟨e2,?_⟩
      have:=(s1.trans n2) _ _ hu
      show H2 u=some (.lst ((nI r.1).map V.int))
      unfold nI
      rw[J8]
      exact this
    ·rw[elet,c,if_pos rfl,JQ,JQ,hp1]
     rfl
    ·rw[elet,c,if_pos rfl,JQ,JQ,hp2]
     rfl
  ·rintro σ ys H1 ⟨s1,ps,v0,rfl,hps,hp1,hp2,rfl⟩ D fD
   exists H1,D,H2,n2,e2,fD
   rw[JJ,lwa,Nt] at hp1 hp2
   have len:ps.length=(letL T rs).length:=by
    have:=congrArg NA hp1
    rw[JJ,JJ] at this
    exact this
   have hat:∀(i:Nat)(p:PrI)(x:TO),ps[i]?=some p→(letL T rs)[i]?=some x→p.2.1=x.1∧p.2.2.2=nI x.2:=fun i p x ep ex=>by
    have h1:=congrArg (fun l=>l[i]?) hp1
    have h2:=congrArg (fun l=>l[i]?) hp2
    simp only[JU,ep,ex,Mf] at h1 h2
    exact⟨Option.some.inj h1,Option.some.inj h2⟩
   obtain⟨x,ex,hx⟩:=kiZ (l:=letL T rs) (bt:=ltQ ps) (fun i j p q ep eq=>by
    obtain⟨p',ep'⟩:=at_of (xs:=ps) (i:=i) (by rw[len];exact at_lt ep)
    obtain⟨q',eq'⟩:=at_of (xs:=ps) (i:=j) (by rw[len];exact at_lt eq)
    obtain⟨a1,a2⟩:=hat i p' p ep' ep
    obtain⟨b1,b2⟩:=hat j q' q eq' eq
    unfold ltQ
    rw[ep',eq']
    show ltP p' q'=ltO p q
    unfold ltP ltO
    rw[a1,a2,b1,b2]) ((letL T rs).length-1) (by omega)
   refine⟨D,ps,rfl,SqL.of e2,fun p hp=>⟨n2 _ _ (hps p hp).1,n2 _ _ (hps p hp).2⟩,by omega,fun p ep=>?_⟩
   rw[len] at ep
   obtain⟨a1,a2⟩:=hat _ p x ep ex
   obtain⟨q1,q2⟩:=hps p (JO ep)
   rw[a1] at q1
   rw[a2] at q2
   refine kk H2 p.1 p.2.2.1 x (s1.trans n2) (n2 _ _ q1) ?_ ⟨JO ex,fun q hq=>?_⟩
   ·have:=n2 _ _ q2
    unfold nI at this
    rw[J8] at this
    exact this
   ·obtain⟨j,ej⟩:=NU hq
    exact hx j q (by have:=at_lt ej;omega) ej
noncomputable def EntW(T:TillD)(B:Bask)(hand:List Int)(q:List Nat×Int×Int):Prop:=(walkM T B hand q.1 [] (stnd0 B)).1=q.1∧kaz (walkM T B hand q.1 [] (stnd0 B)).2=q.2.1∧kaT T B hand q.1 (walkM T B hand q.1 [] (stnd0 B)).2=q.2.2
noncomputable def letQ(T:TillD)(qs:List (List Nat×Int×Int)):List TO:=(qs.filter fun q=>(onlyM T.rs q.1).isNone).map fun q=>(q.2.1,q.1)
noncomputable def kfh(T:TillD)(B:Bask)(hand:List Int)(order:List Nat)(total:Int)(qs:List (List Nat×Int×Int)):Prop:=(∀q∈qs,EntW T B hand q)∧(∃q∈qs,q.1=[])∧(∀q∈qs,q.2.2<total→∀n∈folM T B hand q.1 (walkM T B hand q.1 [] (stnd0 B)).2,∃q'∈qs,q'.1=q.1++[n])∧IsMin (letQ T qs) (total,order)
theorem kmj:∀{qs:List (List Nat×Int×Int)},(∀q∈qs,EntW T B hand q)→letL T (qs.map fun q=>walkM T B hand q.1 [] (stnd0 B))=letQ T qs
 |[],_=>rfl
 |q::qs,h=>by
  have ih:=kmj (qs:=qs) fun q' hq=>h q' (JZ _ hq)
  obtain⟨h1,h2,h3⟩:=h q J0
  unfold letL letQ at ih⊢
  rw[JV,Mr,Mr,h1]
  split
  ·rw[JV,JV,ih,h1,h2]
  ·exact ih
theorem kgS(rs:List Rul):(onlyM rs []).isNone=true:=by
 unfold onlyM
 rw[List.find?_eq_none.mpr fun r _=>by unfold loneM;simp]
 rfl
theorem kfw:∀(o u:List Nat)(S:Stnd),∃p s,o=p++s∧(walkM T B hand o u S).1=u++p
 |[],u,S=>⟨[],[],rfl,by unfold walkM;rw[Nl]⟩
 | n::o,u,S=>by
  unfold walkM
  cases e:T.vs[n]? with
  |none=>exact⟨[],n::o,rfl,by rw[Nl]⟩
  | some V=>
   simp only
   by_cases c:dueM V T B hand u S n=.non
   ·rw[if_pos c]
    obtain⟨p,s,h1,h2⟩:=kfw o (u++[n]) (aftM V T.ps (kds B) S)
    exact⟨n::p,s,by rw[h1];rfl,by rw[h2,Nm];rfl⟩
   ·rw[if_neg c]
    exact⟨[],n::o,rfl,by rw[Nl]⟩
inductive khs (d:D) (vs:List V) (H:Hp) (Q:VK) (E_:XK):Prop
 |ct (t b h o pp:Addr)(total:Int)(ea:List Addr)(T:TillD)(B:Bask)(hand:List Int)(order:List Nat)(qs:List (List Nat×Int×Int))(_:vs=[.ref t, .ref b, .ref h, .ref o, .int total, .ref pp])(_:TillIs d H t T)(_:kbm T)(_:BaskIs d.qe d.qg H b B)(_:Wf T.ps B (stnd0 B))(_:H h=some (.lst (hand.map V.int)))(_:hand.length=T.vs.length)(_:(∀z∈hand,0≤z∧z≤100))(_:H o=some (.lst (order.map iV)))(_:H pp=some (.lst (ea.map V.ref)))(_:P2 (fun e q=>EntAt H e q) ea qs)(_:qs.length≤1000)(_:(∀q∈qs,(∀n∈q.1,n<T.vs.length)∧q.1.length<64))(_:∀(H':Hp)(c:Bool),Same H H'→(c=true↔kfh T B hand order total qs)→Q (.bl c) H'):khs d vs H Q E_
theorem QH:kas ["till","basket","hand","order","total","paper","ways","way","entry"] ["till","basket","hand","order","total","paper"] (kah kfZ):=by ac_rfl
theorem klx(W:WB K mg d base):FO P w W 9 d.Yw d.Yx ["till","basket","hand","order","total","paper"] (khs d):=by
 exists W.qJ.F,QH
 ·obtain⟨t,b,h,o,pp,total,ea,T,B,hand,order,qs,rfl,hT,tok,hB,wf0,hh,hl,hz,ho,hpp,hea,lqs,hqs,kk⟩:=h
  have lea:=hea.len
  exists Xt,kgT,W
  exists Uv,kfn,W
  exists Uw,kdd,W
  exists Ux,kdx,W
  exists hr3,3,hr,0
  exists hr6,6,hr,0
  exists hr7,7,hr,0
  refine⟨_,kab (kf3 (N:=["entry","till","basket","hand"]) (CompScope.of (N:=["entry","till","basket","hand"]) (cap:=[none,some 0,some 1,some 2]) (kah kfZ).names ["till","basket","hand","order","total","paper","ways","way","entry"] rfl rfl (by decide +kernel)) rfl (kaE (K:=K) (pv 5)) (fun _ _ _ _=>pgn (i:=0) (show(["entry","till","basket","hand"]:List Str).Nodup by decide +kernel)) (fun _ _ _ _=>(pcl Xt hr7 W.QX (kaa (pv 1) (kaa (pv 2) (kaa (pv 3) (kaa (pe_ix (r:=rIxT K) kcR (pv 0) kaf (fun _ _=>rfl)) kad)))))) (pgn (i:=6) QH.nd))
   (kab (kaZ PassesOwn.never rfl (kdX rfl W.B.zip (kaa (pv 6) (kaa (pv 5) kad))) (kbb (K:=K) (n:=2) rfl (kay (pgn (i:=7) QH.nd) (kay (pgn (i:=8) QH.nd) kba)))
   (kag (ps_if (kix (ka0 (pcl Uv hr6 W.ZW (kaa (pv 7) (kaa (pv 8) kad))))) (kag (kao pe_bl)) (kap))))
   (kag (kao (knv (pcl Ux hr W.ZX (kaa (pv 6) (kaa (pv 5) (kaa (pv 4) kad)))) (kmc (kce (kkd hr.units) (pcl Uw hr3 W.ZZ (kaa (pv 6) kad)) (kb0 (kaa (pv 4) (kaa (pv 3) kad))) (kat _))))))),?_⟩
  refine⟨_,rfl,pp,rfl,⟨_,SqL.of hpp⟩,kbf (xs:=ea.map V.ref) (fun i σ ys H'=>Same H H'∧∃(wa:List Addr)(v0:Option V),ys=wa.map V.ref∧P2 (WayR d H' t b T.ps B hand) wa ((qs.take i).map fun q=>walkM T B hand q.1 [] (stnd0 B))∧σ=[v0,some (.ref t),some (.ref b),some (.ref h)])
   ⟨Same.refl _,[],none,rfl, .nil,rfl⟩ (by rw[JJ,lea];exact JY (kau (by omega))) ?_ ?_ ?_⟩
  ·rintro i σ ys H' hi ⟨s1,wa,v0,rfl,hwa,rfl⟩
   refine⟨SqL.of (s1 _ _ hpp),?_⟩
   rw[JJ,hwa.len,JJ,Na]
   rw[JJ,lea] at hi
   omega
  ·rintro i y σ ys H' hy ⟨s1,wa,v0,rfl,hwa,rfl⟩
   obtain⟨e,ee,rfl⟩:=kbj hy
   obtain⟨q,eq,l,he,hle⟩:=hea.at ee
   obtain⟨hq1,hq2⟩:=hqs q (JO eq)
   refine⟨_,rfl,_,rfl,_,rfl,_,rfl,e,_,_,_,rfl,rfl,SqT.of (s1 _ _ he),rfl,t,b,h,l,T,B,hand,q.1,rfl,hT.same s1,tok,hB.same s1,wf0,s1 _ _ hh,s1 _ _ hle,hl,hq1,hq2,fun H2 wy x s2 _ hW hS wf=>?_⟩
   refine⟨s1.trans s2,wa++[wy],_,by rw[JQ];rfl,?_,rfl⟩
   rw[take_snoc eq,JQ]
   exact P2.snoc (hwa.mono fun a r h=>h.same s2) ⟨x,hW,hS,wf⟩
  rintro σ ys H1 ⟨s1,wa,v0,rfl,hwa,rfl⟩ wl fwl
  exists H1,wl,H2,n2,e2,fwl
  rw[JJ,lea,Nt] at hwa
  have s02:=s1.trans n2
  have hwa2:=hwa.mono fun a r h=>h.same n2
  have lwa:=hwa.len
  rw[JJ] at lwa
  have hr64:∀r∈(qs.map fun q=>walkM T B hand q.1 [] (stnd0 B)),r.1.length≤64:=fun r hr=>by
   obtain⟨q,hq,rfl⟩:=J4.mp hr
   obtain⟨p,s,e1,e2⟩:=kfw (T:=T) (B:=B) (hand:=hand) q.1 [] (stnd0 B)
   have:=(hqs q hq).2
   rw[e1,JW] at this
   rw[e2,NH]
   omega
  clear hwa
  refine⟨_,rfl,_,rfl,wl,pp,_,_,rfl,e2,s02 _ _ hpp,kgi (xs:=wa.map V.ref) (ys:=ea.map V.ref) (fun i σ H'=>Same H2 H'∧(∀q∈qs.take i,EntW T B hand q)∧∃(v7 v8:Option V),σ=[some (.ref t),some (.ref b),some (.ref h),some (.ref o),some (.int total),some (.ref pp),some (.ref wl),v7,v8])
   ⟨Same.refl _,fun q hq=>by simp at hq,_,_,rfl⟩ (fun i σ H' _ h=>⟨h.1 _ _ e2,(s02.trans h.1) _ _ hpp⟩) ?_ ?_⟩
  ·rintro i y1 y2 t2 σ H3 hy1 hy2 ⟨s3,hall,v7,v8,rfl⟩ ht2
   obtain⟨wy,ew,rfl⟩:=kbj hy1
   obtain⟨e,ee,rfl⟩:=kbj hy2
   obtain⟨r,er,hWR⟩:=hwa2.at ew
   obtain⟨q,eq,hE⟩:=hea.at ee
   rw[JU,eq] at er
   cases er
   exists H3,t2,H4,n4,e4,ht2
   have s24:=s3.trans n4
   have s04:=s02.trans s24
   refine⟨t2,_,rfl,SqT.of e4,rfl,_,_,rfl,_,_,rfl,rfl,?_⟩
   refine⟨_,rfl,_,rfl,wy,t,b,e,T,B,hand,_,q,rfl,hWR.same s24,hT.same s04,tok,hB.same s04,hl,hz,hr64 _ (Mh (f:=fun q=>walkM T B hand q.1 [] (stnd0 B)) (JO eq)),hE.same s04,fun H5 c s5 hc=>?_⟩
   have hcE:c=true↔EntW T B hand q:=by
    rw[hc]
    unfold EntW
    constructor
    ·rintro⟨h1,h2,h3⟩
     rw[h1] at h3
     exact⟨h1,h2,h3⟩
    ·rintro⟨h1,h2,h3⟩
     rw[h1]
     exact⟨rfl,h2,h3⟩
   cases c with
   | true=>
    refine⟨_,rfl,iteF ⟨s24.trans s5,fun q' hq'=>?_,_,_,rfl⟩⟩
    rw[take_snoc eq] at hq'
    rcases Nk.mp hq' with h'|h'
    ·exact hall q' h'
    ·have e':q'=q:=by simpa using h'
     rw[e']
     exact hcE.mp rfl
   |false=>
    refine⟨_,rfl,iteT (kk H5 false (s04.trans s5) ⟨fun z=>(by cases z),fun z=>?_⟩)⟩
    exact hcE.mpr (z.1 q (JO eq))
  rintro σ H3 ⟨s3,hall,v7,v8,rfl⟩
  rw[JJ,JJ,lwa,lea,Mt,Nt] at hall
  have s03:=s02.trans s3
  have hwa3:=hwa2.mono fun a r h=>h.same s3
  refine⟨_,rfl,_,rfl,_,rfl,wl,pp,t,b,total,wa,ea,T,B,hand,_,qs,rfl,s3 _ _ e2,s03 _ _ hpp,hwa3,hea.mono fun e q h=>h.same s03,by rw[JJ],by rw[JJ];omega,hr64,hT.same s03,tok,hB.same s03,hl,fun H4 c s4 hc=>?_⟩
  have s04:=s03.trans s4
  have hno:kh3 T B hand (qs.map fun q=>walkM T B hand q.1 [] (stnd0 B)) qs total↔(∃q∈qs,q.1=[])∧(∀q∈qs,q.2.2<total→∀n∈folM T B hand q.1 (walkM T B hand q.1 [] (stnd0 B)).2,∃q'∈qs,q'.1=q.1++[n]):=by
   unfold kh3
   constructor
   ·rintro⟨⟨r,hr,hn⟩,h2⟩
    obtain⟨q,hq,rfl⟩:=J4.mp hr
    refine⟨⟨q,hq,by rw[←(hall q hq).1];exact hn⟩,fun q hq ht n hn=>?_⟩
    obtain⟨i,ei⟩:=NU hq
    obtain⟨r',hr',e'⟩:=h2 i (walkM T B hand q.1 [] (stnd0 B)) q (by rw[JU,ei];rfl) ei ht n (by rw[(hall q hq).1];exact hn)
    obtain⟨q',hq',rfl⟩:=J4.mp hr'
    rw[(hall q' hq').1,(hall q hq).1] at e'
    exact⟨q',hq',e'⟩
   ·rintro⟨⟨q,hq,hn⟩,h2⟩
    refine⟨⟨_,Mh (f:=fun q=>walkM T B hand q.1 [] (stnd0 B)) hq,by rw[(hall q hq).1];exact hn⟩,fun i r q er eq ht n hn=>?_⟩
    rw[JU,eq] at er
    cases er
    have hq:=JO eq
    rw[(hall q hq).1] at hn
    obtain⟨q',hq',e'⟩:=h2 q hq ht n hn
    exact⟨_,Mh (f:=fun q=>walkM T B hand q.1 [] (stnd0 B)) hq',by rw[(hall q' hq').1,(hall q hq).1];exact e'⟩
  cases c with
  |false=>
   refine⟨_,rfl,iteF (kk H4 false s04 ⟨fun z=>(by cases z),fun z=>?_⟩)⟩
   exact hc.mpr (hno.mpr ⟨z.2.1,z.2.2.1⟩)
  | true=>
   have hn2:=hno.mp (hc.mp rfl)
   have hlet:=kmj (T:=T) (B:=B) (hand:=hand) hall
   obtain⟨q0,hq0,en0⟩:=hn2.1
   have hpos:0<(letQ T qs).length:=by
    refine List.length_pos_of_mem (a:=(q0.2.1,q0.1)) ?_
    unfold letQ
    exact J4.mpr ⟨q0,Nh.mpr ⟨hq0,by rw[en0];exact kgS _⟩,rfl⟩
   refine⟨_,rfl,iteT ?_⟩
   refine⟨_,rfl,wl,t,b,wa,T,B,hand,_,rfl,(s3.trans s4) _ _ e2,hwa3.mono fun a r h=>h.same s4,by rw[JJ];omega,hT.same s04,by rw[hlet];exact hpos,fun H5 p u x s5 ep eu hmin=>?_⟩
   rw[hlet] at hmin
   refine⟨_,rfl,_,rfl,(by show 2≤sizeLine;decide),fun p6 fp6=>?_⟩
   exists H5,p6,H6,n6,e6,fp6
   have s56:=s5.trans n6
   refine⟨p,p6,_,_,fun j=>if j=0 then eqV (.int x.1) (.int total) else eqVs (x.2.map iV) (order.map iV),rfl,rfl,SqT.of (n6 _ _ ep),SqT.of e6,rfl,fun j x' y' hx' hy'=>?_,?_⟩
   ·match j,hx',hy' with
    |0,hx',hy'=>
     cases hx'
     cases hy'
     exact .flat rfl rfl
    |1,hx',hy'=>
     cases hx'
     cases hy'
     exact .lst (n6 _ _ eu) ((s04.trans s56) _ _ ho) (kbB _) (kbB _)
    |j+2,hx',hy'=>cases hx'
   ·refine kk H6 _ (s04.trans s56) ?_
    show((x.1==total&&(eqVs (x.2.map iV) (order.map iV)&&true))=true)↔_
    rw[ke6,MN,NL,decide_eq_true_iff,beq_iff_eq]
    constructor
    ·rintro⟨h1,h2⟩
     have ex:x=(total,order):=Prod.ext h1 h2
     rw[ex] at hmin
     exact⟨hall,hn2.1,hn2.2,hmin⟩
    ·rintro⟨_,_,_,h4⟩
     have ex:=hmin.one h4
     rw[ex]
     exact⟨rfl,rfl⟩
inductive kik (K:JL) (vs:List V) (H:Hp) (Q:VK) (E_:XK):Prop
 |ct (a:Addr)(ns:List Int)(n:Int)(_:vs=[.ref a, .int n])(_:SqL K H a (ns.map V.int))(_:0≤n)(_:∀z:Int,Q (.int z) H):kik K vs H Q E_
theorem keD:kas ["_law_script","_law_k"] ["_law_script","_law_k"] (kah kct):=by ac_rfl
theorem kc1(W:WB K mg d base):FO P w W 1 d.YG d.YH ["_law_script","_law_k"] (kik K):=by
 exists W.qQ.F,keD
 ·obtain⟨a,ns,n,rfl,hS,n0,kk⟩:=h
  refine⟨_,kab (ps_if (kam op_lt (pv 1) (kaq (r:=kaK K) kar (by rfl) W.B.len b_len (kaa (pv 0) kad)) (kat _)) (kag (kao (pe_ix (r:=rIxL K) kaO (pv 0) (pv 1) (fun _ _=>rfl)))) (kap))
   (kag (kao kaf)),?_⟩
  obtain⟨m,rfl⟩:=Int.eq_ofNat_of_zero_le n0
  refine⟨_,rfl,_,rfl,a,_,rfl, .inl hS,_,_,rfl,rfl,_,rfl,ite2 (fun h=>?_) (fun _=>kk 0)⟩
  have hn:m<ns.length:=by
   have:(m:Int)<((ns.map V.int).length:Nat):=by simpa using h
   rw[JJ] at this
   omega
  obtain⟨z,ez⟩:=at_of hn
  exact⟨_,rfl,_,rfl,a,_,_,_,rfl,rfl,hS,kaY (v:=.int z) (by rw[JU,ez];rfl),kk z⟩
theorem khv:kas ["_law_cell","_law_factor","_law_prime"] ["_law_cell","_law_factor","_law_prime"] (kah kdU):=by ac_rfl
theorem kbq(W:WB K mg d base):FO P w W 1 d.YI d.YJ ["_law_cell","_law_factor","_law_prime"] spMix:=by
 exists W.qw.F,khv
 ·obtain⟨c,f,p,rfl,hf,hp,k⟩:=h
  refine⟨_,kag (kao (pe_op kaC (pe_op kcy (pv 0) (pv 1)) (pv 2))),?_⟩
  exact⟨_,rfl,_,rfl,_,_,rfl,rfl, .inr hf,_,rfl,_,_,rfl,rfl,hp,k⟩
inductive kjT (vs:List V) (H:Hp) (Q:VK) (E_:XK):Prop
 |ct (c:Int)(_:vs=[.int c])(_:∀z:Int,0≤z→z≤1000000000000→Q (.int z) H):kjT vs H Q E_
theorem VI:kas ["_law_cell","_law_how"] ["_law_cell"] (kah kcs):=by ac_rfl
theorem keT(W:WB K mg d base):FO P w W 2 d.YK d.YL ["_law_cell"] kjT:=by
 exists W.Z9.F,VI
 ·obtain⟨c,rfl,kk⟩:=h
  exists qq,kbq,W
  refine⟨_,kab (psl (i:=1) VI.nd (pe_op kaC (pv 0) kaf))
   (kab (ps_if (kam op_eq (pv 1) kaf (kat _)) (kag (kao (pe_op kaC (pe_op kaD (pv 0) kaf) kaf))) (kap))
   (kab (ps_if (kam op_eq (pv 1) kaf (kat _)) (kag (kao (pe_op kaC (pe_op kcy (pe_op kaD (pv 0) kaf) kaf) kaf))) (kap))
   (kab (ps_if (kam op_eq (pv 1) kaf (kat _)) (kag (kao (pe_op kdg kaf (pe_op kaC (pe_op kaD (pv 0) kaf) kaf)))) (kap))
   (kab (ps_if (kam op_eq (pv 1) kaf (kat _)) (kag (kao (pe_op kcy kaf (pe_op kaC (pe_op kaD (pv 0) kaf) kaf)))) (kap))
   (kag (kao (pe_op kb3 kaf (pe_op kaC (pcl qq hr W.qw (kaa (pv 0) (kaa kaf (kaa kaf kad)))) kaf)))))))),?_⟩
  refine⟨_,rfl,_,_,rfl,rfl,(by show(0:Int)<5;decide),?_⟩
  refine⟨_,rfl,rfl,_,rfl,ite2 (fun _=>?_) (fun _=>?_)⟩
  ·exact⟨_,rfl,_,_,rfl,rfl,⟨by decide,by decide⟩,_,_,rfl,rfl,(by show(0:Int)<7;decide),kk (c/5%7) (by omega) (by omega)⟩
  refine⟨_,rfl,rfl,_,rfl,ite2 (fun _=>?_) (fun _=>?_)⟩
  ·exact⟨_,rfl,_,_,rfl,rfl,⟨by decide,by decide⟩,_,_,rfl,rfl, .inr ⟨by decide,by decide⟩,_,_,rfl,rfl,(by show(0:Int)<1000000000001;decide),kk (c/5*2862933555777941757%1000000000001) (by omega) (by omega)⟩
  refine⟨_,rfl,rfl,_,rfl,ite2 (fun _=>?_) (fun _=>?_)⟩
  ·exact⟨_,rfl,_,_,rfl,rfl,⟨by decide,by decide⟩,_,_,rfl,rfl,(by show(0:Int)<3;decide),_,_,rfl,rfl,kk (1000000000000-c/5%3) (by omega) (by omega)⟩
  refine⟨_,rfl,rfl,_,rfl,ite2 (fun _=>?_) (fun _=>?_)⟩
  ·exact⟨_,rfl,_,_,rfl,rfl,⟨by decide,by decide⟩,_,_,rfl,rfl,(by show(0:Int)<40;decide),_,_,rfl,rfl, .inl ⟨by decide,by decide⟩,kk (100*(c/5%40)) (by omega) (by omega)⟩
  exact⟨_,rfl,c,48271,2147483647,rfl,⟨by decide,by decide⟩,by decide,_,_,rfl,rfl,(by show(0:Int)<5000;decide),_,_,rfl,rfl,kk (1+c*48271%2147483647%5000) (by omega) (by omega)⟩
inductive kij (vs:List V) (H:Hp) (Q:VK) (E_:XK):Prop
 |ct (c s:Int)(_:vs=[.int c, .int s])(_:∀z:Int,0≤z→z≤1000000000000→Q (.int z) H):kij vs H Q E_
theorem keC:kas ["_law_cell","_law_scale"] ["_law_cell","_law_scale"] (kah kcr):=by ac_rfl
theorem kbz(W:WB K mg d base):FO P w W 3 d.YM d.YN ["_law_cell","_law_scale"] kij:=by
 exists W.qH.F,keC
 ·obtain⟨c,s',rfl,kk⟩:=h
  exists Uy,keT,W
  refine⟨_,kab (ps_if (kam op_eq (pv 1) kaf (kat _)) (kag (kao (pe_op kaC (pv 0) kaf))) (kap))
   (kab (ps_if (kam op_eq (pv 1) kaf (kat _)) (kag (kao (pe_op kcy kaf (pe_op kaC (pv 0) kaf)))) (kap))
   (kab (ps_if (kam op_eq (pv 1) kaf (kat _)) (kag (kao (pe_op kaC (pe_op kcy (pv 0) kaf) kaf))) (kap))
   (kag (kao (pcl Uy hr W.Z9 (kaa (pv 0) kad)))))),?_⟩
  refine⟨_,rfl,rfl,_,rfl,ite2 (fun _=>?_) (fun _=>?_)⟩
  ·exact⟨_,rfl,_,_,rfl,rfl,(by show(0:Int)<10;decide),kk (c%10) (by omega) (by omega)⟩
  refine⟨_,rfl,rfl,_,rfl,ite2 (fun _=>?_) (fun _=>?_)⟩
  ·exact⟨_,rfl,_,_,rfl,rfl,(by show(0:Int)<60;decide),_,_,rfl,rfl, .inl ⟨by decide,by decide⟩,kk (50*(c%60)) (by omega) (by omega)⟩
  refine⟨_,rfl,rfl,_,rfl,ite2 (fun _=>?_) (fun _=>?_)⟩
  ·exact⟨_,rfl,_,_,rfl,rfl, .inr ⟨by decide,by decide⟩,_,_,rfl,rfl,(by show(0:Int)<1000000000001;decide),kk (c*2862933555777941757%1000000000001) (by omega) (by omega)⟩
  exact⟨_,rfl,c,rfl,kk⟩
inductive kig (d:D) (vs:List V) (H:Hp) (Q:VK) (E_:XK):Prop
 |ct (c:Int)(n:Nat)(s m:Int)(_:vs=[.int c,iV n, .int s, .int m])(_:0<n)(_:0≤m)(_:m≤7)(_:∀(H':Hp)(x:Addr)(r:Row),Same H H'→H x=none→LineAt d.qe H' x r→r.Ok→(0≤r.kd∧r.kd<(n:Int))→r.mn≤m→Q (.ref x) H'):kig d vs H Q E_
theorem qT:kas ["_law_cell","_law_kinds","_law_scale","_law_most","_law_mixed","_law_special","_law_many"] ["_law_cell","_law_kinds","_law_scale","_law_most"] (kah kcp):=by ac_rfl
theorem keR(W:WB K mg d base):FO P w W 4 d.YO d.YQ ["_law_cell","_law_kinds","_law_scale","_law_most"] (kig d):=by
 exists W.Va.F,qT
 ·obtain⟨c,n,s',m,rfl,hn,hm0,hm7,kk⟩:=h
  exists qq,kbq,W
  exists qy,kbz,W
  exists Uz,kgW,W
  exists hr1,1,hr,0
  exists hr2,2,hr,0
  refine⟨_,kab (psl (i:=4) qT.nd (pcl qq hr1 W.qw (kaa (pv 0) (kaa kaf (kaa kaf kad)))))
   (kab (psl (i:=5) qT.nd kby)
   (kab (kcc (ps_if (kam op_eq (pe_op kaC (pv 4) kaf) kaf (kat _)) (kag (psl (i:=5) qT.nd (pcl qy hr W.qH (kaa (pe_op kaD (pv 0) kaf) (kaa (pv 2) kad))))) (kap)))
   (kab (psl (i:=6) qT.nd (pe_op kaC (pe_op kaD (pv 4) kaf) kaf))
   (kab (kcc (ps_if (kam op_eq (pe_op kaC (pe_op kaD (pv 4) kaf) kaf) kaf (kat _)) (kag (psl (i:=6) qT.nd (pe_op kaC (pe_op kaD (pv 4) kaf) kaf))) (kap)))
   (kag (kao (kbp (W.Xc.mk' W.qe) Uz hr2 rfl W.qe.m W.Xc.b .nil pass0 (kaa (pe_op kaC (pe_op kaD (pv 4) kaf) (pv 1)) (kaa (pcl qy hr W.qH (kaa (pe_op kaD (pv 0) kaf) (kaa (pv 2) kad))) (kaa (kaq (kbP rfl) (by rfl) W.B.min b_min (kaa (pv 6) (kaa (pv 3) kad))) (kaa (pv 5) kad))))))))))),?_⟩
  refine⟨_,rfl,c,16807,2147483399,rfl,⟨by decide,by decide⟩,by decide,?_⟩
  have hx0:0≤c*16807%2147483399:=by omega
  generalize c*16807%2147483399=mx at *
  refine⟨fun σ' H'=>H'=H∧∃sp:Option Int,(∀z,sp=some z→0≤z∧z≤1000000000000)∧σ'=[some (.int c),some (iV n),some (.int s'),some (.int m),some (.int mx),some (oV sp),none],?_,?_⟩
  ·refine⟨_,rfl,_,_,rfl,rfl,(by show(0:Int)<3;decide),rfl,_,rfl,ite2 (fun _=>?_) (fun _=>⟨rfl,none,(fun z e=>by cases e),rfl⟩)⟩
   exact⟨_,rfl,_,_,rfl,rfl,⟨by decide,by decide⟩,_,rfl,_,_,rfl,fun z z0 z1=>⟨rfl,some z,(fun y e=>by cases e;exact⟨z0,z1⟩),rfl⟩⟩
  rintro σ' H' ⟨rfl,sp,hsp,rfl⟩
  refine⟨_,rfl,_,_,rfl,rfl,⟨by decide,by decide⟩,_,_,rfl,rfl,(by show(0:Int)<4;decide),?_⟩
  refine⟨fun σ' H2=>H2=H'∧∃mn:Int,0≤mn∧mn≤7∧σ'=[some (.int c),some (iV n),some (.int s'),some (.int m),some (.int mx),some (oV sp),some (.int mn)],?_,?_⟩
  ·refine⟨_,rfl,_,_,rfl,rfl,⟨by decide,by decide⟩,_,_,rfl,rfl,(by show(0:Int)<8;decide),rfl,_,rfl,ite2 (fun _=>?_) (fun _=>⟨rfl,mx/3%4,by omega,by omega,rfl⟩)⟩
   exact⟨_,rfl,_,_,rfl,rfl,⟨by decide,by decide⟩,_,_,rfl,rfl,(by show(0:Int)<8;decide),rfl,mx/96%8,by omega,by omega,rfl⟩
  rintro σ' H2 ⟨rfl,mn,hmn0,hmn7,rfl⟩
  have k0:0≤mx/768%(n:Int):=Int.emod_nonneg _ (by omega)
  have k1:mx/768%(n:Int)<(n:Int):=Int.emod_lt_of_pos _ (by omega)
  refine⟨_,rfl,_,_,rfl,rfl,⟨by decide,by decide⟩,_,rfl,_,_,rfl,rfl,(by show(0:Int)<(n:Int);omega),_,rfl,_,_,rfl,rfl,⟨by decide,by decide⟩,_,rfl,_,_,rfl,fun pz p0 p1=>?_⟩
  have hq:0≤(if m<mn then m else mn)∧(if m<mn then m else mn)≤m:=by split <;> omega
  refine⟨_,rfl,_,rfl,_,_,rfl,_,rfl,kmZ (r:=⟨mx/768%(n:Int),pz,if m<mn then m else mn,sp⟩) fun H1 y s1 fy hy=>?_⟩
  generalize (if m<mn then m else mn)=q at *
  exact kk H1 y _ s1 fy hy ⟨p0,p1,hq.1,(by show q≤60;omega),hsp⟩ ⟨k0,k1⟩ hq.2
inductive kgz (d:D) (vs:List V) (H:Hp) (Q:VK) (E_:XK):Prop
 |ct (c:Int)(ps:List (Option Nat))(s:Int)(_:vs=[.int c,iV ps.length, .int s])(_:0<ps.length)(_:∀(H':Hp)(x:Addr)(M:Mks),Same H H'→H x=none→MksIs d.qf H' x M→MksOk ps M→Q (.ref x) H'):kgz d vs H Q E_
theorem qF:kas ["_law_cell","_law_kinds","_law_scale","_law_mixed","_law_kind","_law_needs","_law_most","_law_more"] ["_law_cell","_law_kinds","_law_scale"] (kah kb9):=by ac_rfl
theorem keo(W:WB K mg d base):FO P w W 4 d.YR d.YS ["_law_cell","_law_kinds","_law_scale"] (kgz d):=by
 exists W.Vb.F,qF
 ·obtain⟨c,ps,s',rfl,hn,kk⟩:=h
  exists qq,kbq,W
  exists qy,kbz,W
  exists Xk,kdC,W
  exists hr1,1,hr,0
  exists hr2,2,hr,0
  refine⟨_,kab (psl (i:=3) qF.nd (pcl qq hr1 W.qw (kaa (pv 0) (kaa kaf (kaa kaf kad)))))
   (kab (psl (i:=4) qF.nd kby)
   (kab (kcc (ps_if (kam op_eq (pe_op kaC (pv 3) kaf) kaf (kat _)) (kag (psl (i:=4) qF.nd (pe_op kaC (pe_op kaD (pv 3) kaf) (pv 1)))) (kap)))
   (kab (psl (i:=5) qF.nd kaf)
   (kab (kcc (ps_if (kam op_eq (pe_op kaC (pe_op kaD (pv 3) kaf) kaf) kaf (kat _)) (kag (psl (i:=5) qF.nd (pcl qy hr W.qH (kaa (pe_op kaD (pv 0) kaf) (kaa (pv 2) kad))))) (kap)))
   (kab (psl (i:=6) qF.nd kby)
   (kab (kcc (ps_if (kam op_eq (pe_op kaC (pe_op kaD (pv 3) kaf) kaf) kaf (kat _)) (kag (psl (i:=6) qF.nd (pcl qy hr W.qH (kaa (pe_op kaD (pv 0) kaf) (kaa (pv 2) kad))))) (kap)))
   (kab (psl (i:=7) qF.nd (pe_op kaD (pv 3) kaf))
   (kag (kao (kbp (W.Qv.mk' W.qf) Xk hr2 rfl W.qf.m W.Qv.b .nil pass0 (kaa (pv 4) (kaa (pv 5) (kaa (pv 6) (kaa (kce op_eq (pe_op kaC (pv 7) kaf) kaf (kat _)) (kaa (kce op_eq (pe_op kaC (pe_op kaD (pv 7) kaf) kaf) kaf (kat _)) (kaa (kce op_eq (pe_op kaC (pe_op kaD (pv 7) kaf) kaf) kaf (kat _)) kad)))))))))))))))),?_⟩
  refine⟨_,rfl,c,39373,2147483587,rfl,⟨by decide,by decide⟩,by decide,?_⟩
  have hx0:0≤c*39373%2147483587:=by omega
  generalize c*39373%2147483587=mx at *
  refine⟨fun σ' H'=>H'=H∧∃kd:Option Nat,(∀k,kd=some k→k<ps.length)∧σ'=[some (.int c),some (iV ps.length),some (.int s'),some (.int mx),some (pV kd),none,none,none],?_,?_⟩
  ·refine⟨_,rfl,_,_,rfl,rfl,(by show(0:Int)<2;decide),rfl,_,rfl,ite2 (fun _=>?_) (fun _=>⟨rfl,none,(fun z e=>by cases e),rfl⟩)⟩
   have k0:0≤mx/2%(ps.length:Int):=Int.emod_nonneg _ (by omega)
   have k1:mx/2%(ps.length:Int)<(ps.length:Int):=Int.emod_lt_of_pos _ (by omega)
   refine⟨_,rfl,_,_,rfl,rfl,⟨by decide,by decide⟩,_,rfl,_,_,rfl,rfl,(by show(0:Int)<(ps.length:Int);omega),rfl,some (mx/2%(ps.length:Int)).toNat,(fun k e=>by cases e;omega),?_⟩
   show _=[some (V.int c),some (iV ps.length),some (V.int s'),some (V.int mx),some (V.int (((mx/2%(ps.length:Int)).toNat:Nat):Int)),none,none,none]
   rw[Int.toNat_of_nonneg k0]
   rfl
  rintro σ' H' ⟨rfl,kd,hkd,rfl⟩
  refine⟨fun σ' H2=>H2=H'∧∃nd:Int,(0≤nd∧nd≤1000000000000)∧σ'=[some (.int c),some (iV ps.length),some (.int s'),some (.int mx),some (pV kd),some (.int nd),none,none],?_,?_⟩
  ·refine⟨_,rfl,_,_,rfl,rfl,⟨by decide,by decide⟩,_,_,rfl,rfl,(by show(0:Int)<4;decide),rfl,_,rfl,ite2 (fun _=>?_) (fun _=>⟨rfl,0,⟨by decide,by decide⟩,rfl⟩)⟩
   exact⟨_,rfl,_,_,rfl,rfl,⟨by decide,by decide⟩,_,rfl,_,_,rfl,fun z z0 z1=>⟨rfl,z,⟨z0,z1⟩,rfl⟩⟩
  rintro σ' H2 ⟨rfl,nd,hnd,rfl⟩
  refine⟨fun σ' H3=>H3=H2∧∃mo:Option Int,(∀z,mo=some z→0≤z∧z≤1000000000000)∧σ'=[some (.int c),some (iV ps.length),some (.int s'),some (.int mx),some (pV kd),some (.int nd),some (oV mo),none],?_,?_⟩
  ·refine⟨_,rfl,_,_,rfl,rfl,⟨by decide,by decide⟩,_,_,rfl,rfl,(by show(0:Int)<4;decide),rfl,_,rfl,ite2 (fun _=>?_) (fun _=>⟨rfl,none,(fun z e=>by cases e),rfl⟩)⟩
   exact⟨_,rfl,_,_,rfl,rfl,⟨by decide,by decide⟩,_,rfl,_,_,rfl,fun z z0 z1=>⟨rfl,some z,(fun y e=>by cases e;exact⟨z0,z1⟩),rfl⟩⟩
  rintro σ' H3 ⟨rfl,mo,hmo,rfl⟩
  refine⟨_,rfl,_,_,rfl,rfl,⟨by decide,by decide⟩,?_⟩
  have fin:∀b1 b2 b3:Bool,∀x dx,H3 x=none→H3 dx=none→dx≠x→kes d.qf [.ref x,pV kd, .int nd,oV mo, .bl b1, .bl b2, .bl b3] (upd (upd H3 dx (.own x)) x (.ins d.qf dx [])) (fun v H2=>v=.non∧Q (.ref x) H2) E0:=fun b1 b2 b3=>kiH (M:=⟨kd,nd,mo,b1,b2,b3⟩) fun H1 x s1 fx hM=>kk H1 x _ s1 fx hM ⟨hkd,hnd,hmo⟩
  refine⟨_,rfl,_,rfl,_,rfl,_,rfl,_,_,rfl,rfl,(by show(0:Int)<9;decide),rfl,_,rfl,_,_,rfl,rfl,⟨by decide,by decide⟩,_,_,rfl,rfl,(by show(0:Int)<4;decide),rfl,_,rfl,_,_,rfl,rfl,⟨by decide,by decide⟩,_,_,rfl,rfl,(by show(0:Int)<4;decide),rfl,?_⟩
  exact fin _ _ _
theorem at3V{a b c:V}{i:Int}(h0:0≤i)(h3:i<3):∃v,atI [a,b,c] i=some v∧(v=a∨v=b∨v=c):=by
 obtain⟨n,rfl⟩:=Int.eq_ofNat_of_zero_le h0
 have hn:n<3:=by omega
 match n,hn with
 |0,_=>exact⟨a,rfl, .inl rfl⟩
 |1,_=>exact⟨b,rfl, .inr (.inl rfl)⟩
 |2,_=>exact⟨c,rfl, .inr (.inr rfl)⟩
inductive kgx (d:D) (vs:List V) (H:Hp) (Q:VK) (E_:XK):Prop
 |ct (c:Int)(ps:List (Option Nat))(s:Int)(_:vs=[.int c,iV ps.length, .int s])(_:0<ps.length)(_:Tbs d H)(_:∀(H':Hp)(x:Addr)(V:Vch),Same H H'→H x=none→VchIs d H' x V→VchOk ps V→Q (.ref x) H'):kgx d vs H Q E_
theorem Xx:kas ["_law_cell","_law_kinds","_law_scale","_law_mixed","_law_marks"] ["_law_cell","_law_kinds","_law_scale"] (kah kbG):=by ac_rfl
theorem kdz(W:WB K mg d base):FO P w W 6 d.YT d.YU ["_law_cell","_law_kinds","_law_scale"] (kgx d):=by
 exists W.Vd.F,Xx
 ·obtain⟨c,ps,s',rfl,hn,htb0,kk⟩:=h
  exists qq,kbq,W
  exists UA,keo,W
  exists UB,khJ,W
  exists qy,kbz,W
  exists UC,kf9,W
  exists UD,kep,W
  exists UE,kft,W
  exists UF,keq,W
  exists hr1,1,hr,0
  exists hr3,3,hr,0
  exists hr4,4,hr,0
  refine⟨_,kab (psl (i:=3) Xx.nd (pcl qq hr1 W.qw (kaa (pv 0) (kaa kaf (kaa kaf kad)))))
   (kab (psl (i:=4) Xx.nd (pcl UA hr4 W.Vb (kaa (pv 0) (kaa (pv 1) (kaa (pv 2) kad)))))
   (kab (ps_if (kam op_eq (pe_op kaC (pv 3) kaf) kaf (kat _)) (kag (kao (kbp (W.Q3.mk' W.c_Off) UB hr rfl W.c_Off.m W.Q3.b .nil pass0 (kaa (pcl qy hr3 W.qH (kaa (pe_op kaD (pv 0) kaf) (kaa (pv 2) kad))) (kaa (pv 4) kad))))) (kap))
   (kab (ps_if (kam op_eq (pe_op kaC (pv 3) kaf) kaf (kat _)) (kag (kao (kbp (W.Q5.mk' W.qi) UC hr rfl W.qi.m W.Q5.b .nil pass0 (kaa (pe_ix (r:=rIxL K) kaO (kaS (kaa kaf (kaa kaf (kaa (pe_op kb3 kaf (pe_op kaC (pe_op kaD (pv 3) kaf) kaf)) kad)))) (pe_op kaC (pe_op kaD (pv 3) kaf) kaf) (fun _ _=>rfl)) (kaa (kce op_eq (pe_op kaC (pe_op kaD (pv 3) kaf) kaf) kaf (kat _)) (kaa (pv 4) kad)))))) (kap))
   (kab (ps_if (kam op_eq (pe_op kaC (pv 3) kaf) kaf (kat _)) (kag (kao (kbp (W.Q7.mk' W.qk) UD hr rfl W.qk.m W.Q7.b .nil pass0 (kaa (pe_op kb3 kaf (pe_op kaC (pe_op kaD (pv 3) kaf) kaf)) (kaa (pv 4) kad))))) (kap))
   (kab (ps_if (kam op_eq (pe_op kaC (pv 3) kaf) kaf (kat _)) (kag (kao (kbp (W.Q8.mk' W.qj) UE hr rfl W.qj.m W.Q8.b .nil pass0 (kaa (pe_op kb3 kaf (pe_op kaC (pe_op kaD (pv 3) kaf) kaf)) (kaa (pcl qy hr3 W.qH (kaa (pe_op kaD (pv 0) kaf) (kaa (pv 2) kad))) (kaa (pv 4) kad)))))) (kap))
   (kag (kao (kbp (W.Q9.mk' W.ql) UF hr rfl W.ql.m W.Q9.b .nil pass0 (kaa (pv 4) kad))))))))),?_⟩
  refine⟨_,rfl,c,40692,2147483579,rfl,⟨by decide,by decide⟩,by decide,?_⟩
  have hx0:0≤c*40692%2147483579:=by omega
  generalize c*40692%2147483579=mx at *
  refine⟨_,rfl,_,rfl,_,rfl,c,ps,s',rfl,hn,fun H1 mA M s1 f1 hM hMo=>?_⟩
  have htb:Tbs d H1:=Tbs.same s1 htb0
  have fin:∀(so:Srt)(H2:Hp)(x:Addr),Same H1 H2→H1 x=none→VchIs d H2 x ⟨so,M⟩→SrtOk so→Q (.ref x) H2:=fun so H2 x s2 f2 hV hso=>kk H2 x _ (s1.trans s2) (s1.free f2) hV ⟨hso,hMo⟩
  refine⟨_,rfl,_,_,rfl,rfl,(by show(0:Int)<5;decide),rfl,_,rfl,ite2 (fun _=>?_) (fun _=>?_)⟩
  ·exact⟨_,rfl,_,_,rfl,rfl,⟨by decide,by decide⟩,_,rfl,_,_,rfl,fun z z0 z1=>⟨_,rfl,kg2 (so:=.off z) ⟨_,rfl⟩ rfl hM fun H2 x s2 f2 hV=>fin (.off z) H2 x s2 f2 hV ⟨z0,z1⟩⟩⟩
  refine⟨_,rfl,_,_,rfl,rfl,(by show(0:Int)<5;decide),rfl,_,rfl,ite2 (fun _=>?_) (fun _=>?_)⟩
  ·refine⟨_,rfl,_,_,rfl,rfl,⟨by decide,by decide⟩,_,_,rfl,rfl,(by show(0:Int)<1000;decide),_,_,rfl,rfl,(by show 3≤sizeLine;decide),fun l fl=>?_⟩
   obtain⟨v,e,hv⟩:=at3V (a:=.int 1000) (b:=.int 500) (c:=.int (1+mx/10%1000)) (i:=mx/5%3) (by omega) (by omega)
   obtain⟨sh,rfl,hsh⟩:∃sh:Int,v=.int sh∧1≤sh∧sh≤1000:=by
    rcases hv with rfl|rfl|rfl
    ·exact⟨1000,rfl,by decide,by decide⟩
    ·exact⟨500,rfl,by decide,by decide⟩
    ·exact⟨_,rfl,by omega,by omega⟩
   have s2:=kan (o:=.lst [V.int 1000,V.int 500,V.int (1+mx/10%1000)]) fl
   have e2:(upd H1 l (.lst [V.int 1000,V.int 500,V.int (1+mx/10%1000)])) l=some (.lst [V.int 1000,V.int 500,V.int (1+mx/10%1000)]):=kae
   have hM2:=hM.same s2
   have htb2:=Tbs.same s2 htb
   have fin2:∀(b:Bool)(H2:Hp)(x:Addr),Same (upd H1 l (.lst [V.int 1000,V.int 500,V.int (1+mx/10%1000)])) H2→(upd H1 l (.lst [V.int 1000,V.int 500,V.int (1+mx/10%1000)])) x=none→VchIs d H2 x ⟨.share sh b,M⟩→Q (.ref x) H2:=fun b H2 x s3 f3 hV=>fin (.share sh b) H2 x (s2.trans s3) (s2.free f3) hV hsh
   generalize upd H1 l (.lst [V.int 1000,V.int 500,V.int (1+mx/10%1000)])=H2 at *
   refine⟨_,rfl,_,_,rfl,rfl,⟨by decide,by decide⟩,_,_,rfl,rfl,(by show(0:Int)<3;decide),l,_,_,_,rfl,rfl,SqL.of e2,e,?_⟩
   have mk:∀b:Bool,∀x dx,H2 x=none→H2 dx=none→dx≠x→kd9 d.qi d.qf (fun so=>∃s b,so=.share s b) (.ref x::([.int sh, .bl b]++[.ref mA])) (upd (upd H2 dx (.own x)) x (.ins d.qi dx [])) (fun v H2=>v=.non∧Q (.ref x) H2) E0:=fun b=>kg2 (so:=.share sh b) ⟨_,_,rfl⟩ rfl hM2 (fun H3 x s3 f3 hV=>fin2 b H3 x s3 f3 hV) htb2
   refine⟨_,rfl,_,_,rfl,rfl,⟨by decide,by decide⟩,_,_,rfl,rfl,(by show(0:Int)<2;decide),rfl,_,rfl,?_⟩
   exact mk _
  refine⟨_,rfl,_,_,rfl,rfl,(by show(0:Int)<5;decide),rfl,_,rfl,ite2 (fun _=>?_) (fun _=>?_)⟩
  ·exact⟨_,rfl,_,_,rfl,rfl,⟨by decide,by decide⟩,_,_,rfl,rfl,(by show(0:Int)<3;decide),_,_,rfl,rfl,_,rfl,kg2 (so:=.cheap (2+mx/5%3)) ⟨_,rfl⟩ rfl hM fun H2 x s2 f2 hV=>fin _ H2 x s2 f2 hV ⟨by omega,by omega⟩⟩
  refine⟨_,rfl,_,_,rfl,rfl,(by show(0:Int)<5;decide),rfl,_,rfl,ite2 (fun _=>?_) (fun _=>?_)⟩
  ·exact⟨_,rfl,_,_,rfl,rfl,⟨by decide,by decide⟩,_,_,rfl,rfl,(by show(0:Int)<3;decide),_,_,rfl,rfl,_,rfl,_,_,rfl,rfl,⟨by decide,by decide⟩,_,rfl,_,_,rfl,fun z z0 z1=>⟨_,rfl,kg2 (so:=.bund (2+mx/5%3) z) ⟨_,_,rfl⟩ rfl hM fun H2 x s2 f2 hV=>fin _ H2 x s2 f2 hV ⟨by omega,by omega,z0,z1⟩⟩⟩
  exact⟨_,rfl,kg2 (so:=.carr) rfl rfl hM fun H2 x s2 f2 hV=>fin _ H2 x s2 f2 hV trivial⟩
inductive kjJ (vs:List V) (H:Hp) (Q:VK) (E_:XK):Prop
 |ct (c:Int)(_:vs=[.int c])(_:∀(H':Hp)(p:Addr)(ps:List (Option Nat)),Same H H'→H p=none→H' p=some (.lst (ps.map pV))→Good ps→ps.length≤20→0<ps.length→Q (.ref p) H'):kjJ vs H Q E_
theorem qU:kas ["_law_cell","_law_parents","_law_many","_law_k","_law_mixed"] ["_law_cell"] (kah kbH):=by ac_rfl
theorem kdA(W:WB K mg d base):FO P w W 2 d.YV d.YW ["_law_cell"] kjJ:=by
 exists W.Ve.F,qU
 ·obtain⟨c,rfl,kk⟩:=h
  exists qq,kbq,W
  refine⟨_,kab (psl (i:=1) qU.nd (kaS kad))
   (kab (psl (i:=2) qU.nd (pe_op kb3 kaf (pe_op kaC (pv 0) kaf)))
   (kab (kcc (ps_if (kam op_eq (pe_op kaC (pe_op kaD (pv 0) kaf) kaf) kaf (kat _)) (kag (psl (i:=2) qU.nd kaf)) (kap)))
   (kab (kaZ PassesOwn.never rfl (kdv rfl W.B.range (kaa (pv 2) kad)) (pgn (i:=3) qU.nd)
   (kab (psl (i:=4) qU.nd (pcl qq hr W.qw (kaa (pe_op kb3 (pv 0) (pe_op kcy (pe_op kcy kaf (pv 3)) (pv 3))) (kaa kaf (kaa kaf kad)))))
   (kag (ka1 (pe_bm NK N3 N4 kbd (pv 1) (kaa (kmd (keu (PW.pt (pw_or (kam op_eq (pv 3) kaf (kat _)) (kj4 (kam op_eq (pe_op kaC (pv 4) kaf) kaf (kat _))))) kby (pe_op kaC (pe_op kaD (pv 4) kaf) (pv 3)))) kad))))))
   (kag (kao (pv 1)))))),?_⟩
  refine⟨by decide,fun p fp=>?_⟩
  exists H,p,H1,n1,e1,fp
  refine⟨_,rfl,_,_,rfl,rfl,(by show(0:Int)<5;decide),_,_,rfl,rfl,?_⟩
  refine⟨fun σ' H'=>H'=H1∧∃m:Nat,0<m∧m≤20∧σ'=[some (.int c),some (.ref p),some (iV m),none,none],?_,?_⟩
  ·refine⟨_,rfl,_,_,rfl,rfl,⟨by decide,by decide⟩,_,_,rfl,rfl,(by show(0:Int)<8;decide),rfl,_,rfl,ite2 (fun _=>⟨rfl,20,by decide,by decide,rfl⟩) (fun _=>⟨rfl,(1+c%5).toNat,by omega,by omega,?_⟩)⟩
   show _=[some (V.int c),some (.ref p),some (V.int (((1+c%5).toNat:Nat):Int)),none,none]
   rw[Int.toNat_of_nonneg (by omega)]
   rfl
  rintro σ' H' ⟨rfl,m,hm0,hm20,rfl⟩
  refine⟨_,rfl,_,rfl,by omega,by omega,?_⟩
  rw[Int.toNat_natCast]
  refine ke1 (fun i σ H'=>Same H H'∧∃(ps:List (Option Nat))(v3 v4:Option V),σ=[some (.int c),some (.ref p),some (iV m),v3,v4]∧H' p=some (.lst (ps.map pV))∧ps.length=i∧Good ps)
   ⟨n1,[],none,none,rfl,e1,rfl,klM⟩ ?_ ?_
  ·rintro i σ H' hi ⟨s2,ps,v3,v4,rfl,hp2,hl,hg⟩
   rw[Int.zero_add]
   refine⟨_,rfl,_,rfl,_,_,rfl,rfl, .inl ⟨by decide,by decide⟩,_,rfl,_,_,rfl,rfl, .inr ⟨by omega,by omega⟩,_,_,rfl,rfl,_,48271,2147483647,rfl,⟨by decide,by decide⟩,by decide,?_⟩
   dsimp only
   have hx0:0≤(c+7*(i:Int)*(i:Int))*48271%2147483647:=by omega
   generalize (c+7*(i:Int)*(i:Int))*48271%2147483647=mx at *
   refine⟨_,rfl, .inl ⟨rfl,_,SqL.of hp2⟩,?_⟩
   refine⟨fun v H3=>H3=H'∧∃o:Option Nat,v=pV o∧∀k,o=some k→k<i,?_,?_⟩
   ·refine⟨_,rfl,rfl,_,rfl,?_⟩
    show if decide (iV i=iV 0)=true then _ else _
    rw[khb]
    by_cases h0:i=0
    ·rw[decide_eq_true h0]
     exact iteT (iteT ⟨rfl,none,rfl,fun k e=>by cases e⟩)
    ·rw[decide_eq_false h0]
     have k0:0≤mx/4%(i:Int):=Int.emod_nonneg _ (by omega)
     have k1:mx/4%(i:Int)<(i:Int):=Int.emod_lt_of_pos _ (by omega)
     refine iteF ⟨_,rfl,_,_,rfl,rfl,(by show(0:Int)<4;decide),rfl,_,rfl,ite2 (fun _=>⟨rfl,none,rfl,fun k e=>by cases e⟩) (fun _=>?_)⟩
     refine⟨_,rfl,_,_,rfl,rfl,⟨by decide,by decide⟩,_,rfl,_,_,rfl,rfl,(by show(0:Int)<(i:Int);omega),rfl,some (mx/4%(i:Int)).toNat,?_,fun k e=>by cases e;omega⟩
     show V.int _=V.int (((mx/4%(i:Int)).toNat:Nat):Int)
     rw[Int.toNat_of_nonneg k0]
   rintro v H3 ⟨rfl,o,rfl,ho⟩
   refine⟨p,_,_,rfl,rfl,hp2,kau (by rw[JJ];omega),?_⟩
   refine⟨kaw fp s2 (nx hp2),ps++[o],_,_,rfl,?_,by simp[hl],kkP hg (fun k e=>by rw[hl];exact ho k e)⟩
   rw[kae]
   simp
  ·rintro σ H' ⟨s2,ps,v3,v4,rfl,hp2,hl,hg⟩
   exact⟨_,rfl,kk H' p ps s2 fp hp2 hg (by omega) (by omega)⟩
theorem keB:∀(l:List Int)(j:Nat)(x z:Int),l[j]?=some z→(l.set j x).sum=l.sum-z+x
 |[],j,x,z,h=>by simp at h
 |a::l,0,x,z,h=>by
  have e:a=z:=by simpa using h
  subst e
  simp[Nf]
  omega
 |a::l,j+1,x,z,h=>by
  have ih:=keB l j x z (by simpa using h)
  rw[EI,Nf,ih,Nf]
  omega
theorem kiq{l:List Int}{j:Nat}{x:Int}(h:∀z∈l,0≤z)(hx:0≤x):∀z∈l.set j x,0≤z:=fun z hz=>by
 rcases En hz with h'|h'
 ·exact h z h'
 ·rw[h'];exact hx
theorem kgu:∀n:Nat,(JR n (0:Int)).sum=0
 |0=>rfl
 |n+1=>by rw[Mc,Nf,kgu n];rfl
inductive kih (vs:List V) (H:Hp) (Q:VK) (E_:XK):Prop
 |ct (mh vo:Addr)(ks:List Int)(va:List Addr)(m:Nat)(f:Int)(_:vs=[.ref mh, .ref vo,iV m, .int f])(_:H mh=some (.lst (ks.map V.int)))(_:H vo=some (.lst (va.map V.ref)))(_:ks.length≤100)(_:va.length≤8)(_:m≤20)(_:∀(H':Hp)(p:Addr)(hand:List Int),Same H H'→H p=none→H' p=some (.lst (hand.map V.int))→hand.length=va.length→(∀z∈hand,0≤z)→hand.sum≤(m:Int)→Q (.ref p) H'):kih vs H Q E_
theorem QI:kas ["_law_more_held","_law_vouchers","_law_most_held","_law_first","_law_hand","_law_k","_law_number"] ["_law_more_held","_law_vouchers","_law_most_held","_law_first"] (kah kcq):=by ac_rfl
theorem keS(W:WB K mg d base):FO P w W 1 d.YX d.YY ["_law_more_held","_law_vouchers","_law_most_held","_law_first"] kih:=by
 exists W.Vf.F,QI
 ·obtain⟨mh,vo,ks,va,m,f,rfl,hmh,hvo,hk,h8,hm,kk⟩:=h
  refine⟨_,kab (kf3 (N:=["_law_voucher"]) (CompScope.plain rfl (by decide +kernel) (by decide +kernel) (by decide +kernel) (nd1 _)) rfl (kaE (K:=K) (pv 1)) (fun _ _ _ _=>pgn (i:=0) (nd1 _)) (fun _ _ _ _=>kaf) (pgn (i:=4) QI.nd))
   (kab (kaZ PassesOwn.never rfl (kdv rfl W.B.range (kaa (kaq (kbP rfl) (by rfl) W.B.min b_min (kaa (kaq (r:=kaK K) kar (by rfl) W.B.len b_len (kaa (pv 4) kad)) (kaa (pv 2) kad))) kad)) (pgn (i:=5) QI.nd)
   (kag (kdf kaf (kfB (pv 4) (pe_op kaC (pe_op kb3 (pv 3) (pv 5)) (kaq (r:=kaK K) kar (by rfl) W.B.len b_len (kaa (pv 4) kad))) set_list))))
   (kab (kaZ PassesOwn.never rfl (kaE (K:=K) (pv 0)) (pgn (i:=6) QI.nd)
   (kag (ps_if (PW.pt (ka7 (kam op_gt (kaq (r:=kaK K) kar (by rfl) W.B.len b_len (kaa (pv 4) kad)) kaf (kat _)) (ka7 (kam op_lt (kaq (r:=rSum K) (kcM rfl) (by rfl) W.B.sum b_sum (kaa (pv 4) kad)) (pv 2) (kat _)) (kaV (kam op_lt (pe_ix (r:=rIxL K) kaO (pv 4) (pe_op kaC (pv 6) (kaq (r:=kaK K) kar (by rfl) W.B.len b_len (kaa (pv 4) kad))) (fun _ _=>rfl)) kaf (kat _)))))) (kag (kmM (pv 4) (pe_op kaC (pv 6) (kaq (r:=kaK K) kar (by rfl) W.B.len b_len (kaa (pv 4) kad))) klO kaf kmm set_list)) (kag (ps_if (PW.pt (ka7 (kam op_gt (kaq (r:=kaK K) kar (by rfl) W.B.len b_len (kaa (pv 4) kad)) kaf (kat _)) (kaV (kam op_eq (pe_op kaC (pe_op kaD (pv 6) kaf) kaf) kaf (kat _))))) (kag (kdf kaf (kfB (pv 4) (pe_op kaC (pv 6) (kaq (r:=kaK K) kar (by rfl) W.B.len b_len (kaa (pv 4) kad))) set_list))) (kap))))))
   (kag (kao (pv 4))))),?_⟩
  refine⟨_,rfl,vo,rfl,⟨_,SqL.of hvo⟩,kbf (xs:=va.map V.ref) (fun i σ ys H'=>H'=H∧ys=(JR i (0:Int)).map V.int∧∃v0:Option V,σ=[v0]) ⟨rfl,rfl,none,rfl⟩ (by rw[JJ];exact JY (kau (by omega))) ?_ ?_ ?_⟩
  ·rintro i σ ys H' hi ⟨rfl,rfl,_⟩
   exact⟨SqL.of hvo,by simp⟩
  ·rintro i y σ ys H' hy ⟨rfl,rfl,v0,rfl⟩
   refine⟨rfl,?_,_,rfl⟩
   rw[El,JQ]
   rfl
  rintro σ ys H' ⟨rfl,rfl,v0,rfl⟩ p fp
  rw[JJ]
  exists H',p,H1,n1,e1,fp
  refine⟨_,rfl,p,_,rfl, .inl (SqL.of e1),_,rfl,_,_,rfl,?_⟩
  have hL:((((JR va.length (0:Int)).map V.int).length:Nat):Int)=(va.length:Int):=by simp
  rw[hL]
  have hq:0≤(if(m:Int)<(va.length:Int) then(m:Int) else(va.length:Int))∧(if(m:Int)<(va.length:Int) then(m:Int) else(va.length:Int))≤(m:Int)∧(if(m:Int)<(va.length:Int) then(m:Int) else(va.length:Int))≤(va.length:Int):=by split <;> omega
  generalize (if(m:Int)<(va.length:Int) then(m:Int) else(va.length:Int))=q at *
  refine⟨_,rfl,by omega,by omega,?_⟩
  refine ke1 (fun i σ H2=>Same H' H2∧∃(hand:List Int)(v5:Option V),H2 p=some (.lst (hand.map V.int))∧hand.length=va.length∧(∀z∈hand,0≤z)∧hand.sum≤(i:Int)∧σ=[some (.ref mh),some (.ref vo),some (iV m),some (.int f),some (.ref p),v5,none])
   ⟨n1,_,none,e1,by simp,(fun z hz=>by rw[(EL.mp hz).2];exact Int.le_refl _),by rw[kgu];exact Int.le_refl _,rfl⟩ ?_ ?_
  ·rintro i σ H2 hi ⟨s2,hand,v5,e2,hl,hnn,hsum,rfl⟩
   rw[Int.zero_add]
   have hl0:0<hand.length:=by omega
   have k0:0≤(f+(i:Int))%(hand.length:Int):=Int.emod_nonneg _ (by omega)
   have k1:(f+(i:Int))%(hand.length:Int)<(hand.length:Int):=Int.emod_lt_of_pos _ (by omega)
   obtain⟨j,ej⟩:=Int.eq_ofNat_of_zero_le k0
   obtain⟨z,ez⟩:=at_of (xs:=hand) (i:=j) (by omega)
   have hz:=hnn z (JO ez)
   refine⟨_,rfl,_,rfl,_,rfl,_,_,rfl,rfl,_,rfl,p,_,rfl, .inl (SqL.of e2),_,_,rfl,rfl,(by rw[JJ];omega),p,_,_,j,rfl,rfl,e2,(by rw[JJ];show ixN hand.length ((f+(i:Int))%((hand.length:Nat):Int))=some j;rw[ej];exact kd4 (by omega)),?_⟩
   rw[←Mg]
   refine⟨kaw fp s2 (nx e2),hand.set j 1,_,kae,by rw[Mb];exact hl,kiq hnn (by decide),?_,rfl⟩
   rw[keB hand j 1 z ez]
   omega
  rintro σ H2 ⟨s2,hand0,v5,e2,hl0,hnn0,hsum0,rfl⟩
  refine⟨_,rfl,mh,rfl,⟨_,SqL.of (s2 _ _ hmh)⟩,kaP (xs:=ks.map V.int) (fun i σ H3=>Same H' H3∧∃(hand:List Int)(v6:Option V),H3 p=some (.lst (hand.map V.int))∧hand.length=va.length∧(∀z∈hand,0≤z)∧hand.sum≤(m:Int)∧σ=[some (.ref mh),some (.ref vo),some (iV m),some (.int f),some (.ref p),v5,v6])
   ⟨s2,hand0,none,e2,hl0,hnn0,by omega,rfl⟩ (fun i σ H3 _ h=>SqL.of (h.1 _ _ hmh)) ?_ ?_⟩
  ·rintro i y σ H3 hy ⟨s3,hand,v6,e3,hl,hnn,hsum,rfl⟩
   obtain⟨k,_,rfl⟩:∃z,ks[i]?=some z∧y=V.int z:=kbC hy
   have hL3:(((hand.map V.int).length:Nat):Int)=(hand.length:Int):=by rw[JJ]
   refine⟨_,rfl,p,_,rfl, .inl (SqL.of e3),_,_,rfl,rfl,_,rfl,?_⟩
   by_cases h0:0<hand.length
   ·have k0:0≤k%(hand.length:Int):=Int.emod_nonneg _ (by omega)
    have k1:k%(hand.length:Int)<(hand.length:Int):=Int.emod_lt_of_pos _ (by omega)
    obtain⟨j,ej⟩:=Int.eq_ofNat_of_zero_le k0
    obtain⟨z,ez⟩:=at_of (xs:=hand) (i:=j) (by omega)
    have hz:=hnn z (JO ez)
    have atJ:atI (hand.map V.int) (k%(((hand.map V.int).length:Nat):Int))=some (V.int z):=by rw[hL3,ej];exact kaY (by rw[JU,ez];rfl)
    have ixJ:ixN (hand.map V.int).length (k%(((hand.map V.int).length:Nat):Int))=some j:=by rw[hL3,ej];exact kd4 (by rw[JJ];omega)
    have hpos:(0:Int)<(((hand.map V.int).length:Nat):Int):=by omega
    rw[show decide ((((hand.map V.int).length:Nat):Int) > 0)=true from decide_eq_true (by omega)]
    refine iteT ⟨_,rfl,p,hand,rfl,SqL.of e3,_,rfl,_,_,rfl,rfl,_,rfl,?_⟩
    by_cases hs:hand.sum<(m:Int)
    ·rw[show decide (hand.sum<(m:Int))=true from decide_eq_true hs]
     refine iteT ⟨_,rfl,_,rfl,_,rfl,p,_,rfl, .inl (SqL.of e3),_,_,rfl,rfl,hpos,p,_,_,_,rfl,rfl,SqL.of e3,atJ,_,_,rfl,rfl,_,rfl,ite2 (fun _=>?_) (fun _=>?_)⟩
     ·refine⟨_,rfl,_,rfl,_,rfl,p,_,rfl, .inl (SqL.of e3),_,_,rfl,rfl,hpos,p,_,_,_,rfl,rfl,SqL.of e3,atJ,_,_,rfl,rfl,p,_,_,j,rfl,rfl,e3,ixJ,?_⟩
      rw[←Mg]
      refine⟨kaw fp s3 (nx e3),hand.set j (z+1),_,kae,by rw[Mb];exact hl,kiq hnn (by omega),?_,rfl⟩
      rw[keB hand j (z+1) z ez]
      omega
     ·refine⟨_,rfl,p,_,rfl, .inl (SqL.of e3),_,_,rfl,rfl,_,rfl,?_⟩
      rw[show decide ((((hand.map V.int).length:Nat):Int) > 0)=true from decide_eq_true (by omega)]
      refine iteT ⟨_,rfl,_,_,rfl,rfl,⟨by decide,by decide⟩,_,_,rfl,rfl,(by show(0:Int)<3;decide),rfl,_,rfl,ite2 (fun _=>?_) (fun _=>⟨s3,hand,_,e3,hl,hnn,hsum,rfl⟩)⟩
      refine⟨_,rfl,_,rfl,_,rfl,p,_,rfl, .inl (SqL.of e3),_,_,rfl,rfl,hpos,p,_,_,j,rfl,rfl,e3,ixJ,?_⟩
      rw[←Mg]
      refine⟨kaw fp s3 (nx e3),hand.set j 0,_,kae,by rw[Mb];exact hl,kiq hnn (by decide),?_,rfl⟩
      rw[keB hand j 0 z ez]
      omega
    ·rw[show decide (hand.sum<(m:Int))=false from decide_eq_false hs]
     refine iteF (iteF ?_)
     refine⟨_,rfl,p,_,rfl, .inl (SqL.of e3),_,_,rfl,rfl,_,rfl,?_⟩
     rw[show decide ((((hand.map V.int).length:Nat):Int) > 0)=true from decide_eq_true (by omega)]
     refine iteT ⟨_,rfl,_,_,rfl,rfl,⟨by decide,by decide⟩,_,_,rfl,rfl,(by show(0:Int)<3;decide),rfl,_,rfl,ite2 (fun _=>?_) (fun _=>⟨s3,hand,_,e3,hl,hnn,hsum,rfl⟩)⟩
     refine⟨_,rfl,_,rfl,_,rfl,p,_,rfl, .inl (SqL.of e3),_,_,rfl,rfl,hpos,p,_,_,j,rfl,rfl,e3,ixJ,?_⟩
     rw[←Mg]
     refine⟨kaw fp s3 (nx e3),hand.set j 0,_,kae,by rw[Mb];exact hl,kiq hnn (by decide),?_,rfl⟩
     rw[keB hand j 0 z ez]
     omega
   ·rw[show decide ((((hand.map V.int).length:Nat):Int) > 0)=false from decide_eq_false (by omega)]
    refine iteF (iteF ⟨_,rfl,p,_,rfl, .inl (SqL.of e3),_,_,rfl,rfl,_,rfl,?_⟩)
    rw[show decide ((((hand.map V.int).length:Nat):Int) > 0)=false from decide_eq_false (by omega)]
    exact iteF (iteF ⟨s3,hand,_,e3,hl,hnn,hsum,rfl⟩)
  ·rintro σ H3 ⟨s3,hand,v6,e3,hl,hnn,hsum,rfl⟩
   exact⟨_,rfl,kk H3 p hand s3 fp e3 hl hnn hsum⟩
noncomputable def mans(rs:List Row):List Nat:=rs.map fun r=>r.mn.toNat
theorem kgP:∀(rs:List Row)(k:Nat),((rs.zipIdx k).map fun p=>JR p.1.mn.toNat p.2).flatten.length=(mans rs).sum
 |[],k=>rfl
 |r::rs,k=>by
  rw[ED,JV,Ni,JW,Ml,kgP rs (k+1)]
  rfl
theorem kls(rs:List Row):(ownN rs).length=(mans rs).sum:=kgP rs 0
theorem kiI:∀{rs:List Row},(∀r∈rs,0≤r.mn)→(rs.map fun r=>r.mn).sum=(((mans rs).sum:Nat):Int)
 |[],_=>rfl
 |r::rs,h=>by
  have h0:=h r J0
  have ih:=kiI (rs:=rs) fun r hr=>h r (JZ _ hr)
  unfold mans at ih⊢
  rw[JV,JV,Nf,Nf,ih]
  omega
theorem kl8:∀(l:List Nat)(j x:Nat),(l.set j x).sum≤l.sum+x
 |[],j,x=>by simp
 |a::l,0,x=>by simp[Nf];omega
 |a::l,j+1,x=>by
  have:=kl8 l j x
  rw[EI,Nf,Nf]
  omega
theorem VchIs.lst{d:D}{H:Hp}{l v:Addr}{V:Vch}{xs:List L2.V}{o:HO}(hl:H l=some (.lst xs))(tb:Tbs d (upd H l o)):VchIs d H v V→VchIs d (upd H l o) v V:=fun⟨mA,dv,fv,h1,h2,h3,⟨dm,fm,h4,h5⟩,h6,_⟩=>
 ⟨mA,dv,fv,by rw[kak (ne_of h1 hl (by intro z;cases z))];exact h1,h2,h3,⟨dm,fm,by rw[kak (ne_of h4 hl (by intro z;cases z))];exact h4,h5⟩,h6,tb⟩
theorem P2.put{α β:Type}{R: α→β→Prop}{a: α}{b: β}(r:R a b):∀{as:List α}{bs:List β}(i:Nat),P2 R as bs→P2 R (as.set i a) (bs.set i b)
 |_,_,_, .nil=>.nil
 |_,_,0, .cons _ t=>.cons r t
 |_,_,i+1, .cons q t=>.cons q (P2.put r i t)
theorem kk9{ss:List Str}{i:Int}(h0:0≤i)(h:i<((ss.length:Nat):Int)):∃z,z∈ss∧atI (ss.map V.str) i=some (.str z):=by
 obtain⟨n,rfl⟩:=Int.eq_ofNat_of_zero_le h0
 obtain⟨z,ez⟩:=at_of (xs:=ss) (i:=n) (by omega)
 exact⟨z,JO ez,kaY (by rw[JU,ez];rfl)⟩
theorem RulIs.put{H:Hp}{a l:Addr}{r:Rul}{xs ys:List L2.V}(hl:H l=some (.lst xs))(h:RulIs H a r):RulIs (upd H l (.lst ys)) a r:=by
 have h':H a=some (.tup [.str r.w,iV r.a,iV r.b]):=h
 show(upd H l (.lst ys)) a=_
 rw[kak (ne_of h' hl (by intro z;cases z))]
 exact h'
noncomputable def RowW(n:Nat)(r:Row):Prop:=r.Ok∧(0≤r.kd∧r.kd<(n:Int))∧r.mn≤7
theorem two'{c:Bool}{T A B:Prop}(hT:B→T)(hB:B):if c=true then T else(if false=true then A else B):=by
 cases c with
 |true=>exact iteT (hT hB)
 |false=>exact iteF (iteF hB)
structure Ap4 (ln vc lk mo:Addr):Prop where
 lv:ln≠vc
 ll:ln≠lk
 lm:ln≠mo
 vl:vc≠lk
 vm:vc≠mo
 km:lk≠mo
structure WldS (d:D) (H:Hp) (ln vc lk mo:Addr) (la va:List Addr) (rs:List Row) (vs:List Vch) (ls ks:List Int):Prop where
 eln:H ln=some (.lst (la.map V.ref))
 evc:H vc=some (.lst (va.map V.ref))
 elk:H lk=some (.lst (ls.map V.int))
 emo:H mo=some (.lst (ks.map V.int))
 hln:Lines d.qe H la rs
 hvc:P2 (fun v V=>VchIs d H v V) va vs
theorem WldS.same{d:D}{H H':Hp}{ln vc lk mo:Addr}{la va:List Addr}{rs:List Row}{vs:List Vch}{ls ks:List Int}(s:Same H H')(h:WldS d H ln vc lk mo la va rs vs ls ks):WldS d H' ln vc lk mo la va rs vs ls ks:=
 ⟨s _ _ h.eln,s _ _ h.evc,s _ _ h.elk,s _ _ h.emo,h.hln.same s,h.hvc.mono fun v V q=>q.same s⟩
section
variable {d:D} {H:Hp} {ln vc lk mo:Addr} {la va:List Addr} {rs:List Row} {vs:List Vch} {ls ks:List Int}
theorem WldS.putL(a:Ap4 ln vc lk mo){la':List Addr}{rs':List Row}(h:WldS d H ln vc lk mo la va rs vs ls ks)(tb:Tbs d (upd H ln (.lst (la'.map V.ref))))(hl:Lines d.qe H la' rs'):WldS d (upd H ln (.lst (la'.map V.ref))) ln vc lk mo la' va rs' vs ls ks:=
 ⟨kae,by rw[kak a.lv.symm];exact h.evc,by rw[kak a.ll.symm];exact h.elk,by rw[kak a.lm.symm];exact h.emo,hl.set h.eln,h.hvc.mono fun v V q=>q.lst h.eln tb⟩
theorem WldS.putV(a:Ap4 ln vc lk mo){va':List Addr}{vs':List Vch}(h:WldS d H ln vc lk mo la va rs vs ls ks)(tb:Tbs d (upd H vc (.lst (va'.map V.ref))))(hv:P2 (fun v V=>VchIs d H v V) va' vs'):WldS d (upd H vc (.lst (va'.map V.ref))) ln vc lk mo la va' rs vs' ls ks:=
 ⟨by rw[kak a.lv];exact h.eln,kae,by rw[kak a.vl.symm];exact h.elk,by rw[kak a.vm.symm];exact h.emo,h.hln.set h.evc,hv.mono fun v V q=>q.lst h.evc tb⟩
theorem WldS.putK(a:Ap4 ln vc lk mo){ls':List Int}(h:WldS d H ln vc lk mo la va rs vs ls ks)(tb:Tbs d (upd H lk (.lst (ls'.map V.int)))):WldS d (upd H lk (.lst (ls'.map V.int))) ln vc lk mo la va rs vs ls' ks:=
 ⟨by rw[kak a.ll];exact h.eln,by rw[kak a.vl];exact h.evc,kae,by rw[kak a.km.symm];exact h.emo,h.hln.set h.elk,h.hvc.mono fun v V q=>q.lst h.elk tb⟩
theorem WldS.putM(a:Ap4 ln vc lk mo){ks':List Int}(h:WldS d H ln vc lk mo la va rs vs ls ks)(tb:Tbs d (upd H mo (.lst (ks'.map V.int)))):WldS d (upd H mo (.lst (ks'.map V.int))) ln vc lk mo la va rs vs ls ks':=
 ⟨by rw[kak a.lm];exact h.eln,by rw[kak a.vm];exact h.evc,by rw[kak a.km];exact h.elk,kae,h.hln.set h.emo,h.hvc.mono fun v V q=>q.lst h.emo tb⟩
end
structure NumW (n:Nat) (ps:List (Option Nat)) (rs:List Row) (vs:List Vch) (ls ks:List Int):Prop where
 rows:∀r∈rs,RowW n r
 vok:∀V∈vs,VchOk ps V
 pcs:(mans rs).sum≤24
 lr:rs.length≤12
 lv:vs.length≤8
 ll:ls.length≤3
 lk:ks.length≤6
inductive kjB (K:JL) (d:D) (vs:List V) (H:Hp) (Q:VK) (E_:XK):Prop
 |ct (a:Addr)(ns:List Int)(mv mh:Nat)(_:vs=[.ref a,iV mv,iV mh])(_:SqL K H a (ns.map V.int))(_:ns.length≤63)(_:mv≤8)(_:mh≤20)(_:Tbs d H)(_:∀(H':Hp)(w t b h:Addr)(T:TillD)(B:Bask)(hand:List Int),Same H H'→H h=none→H' w=some (.tup [.ref t, .ref b, .ref h])→TillIs d H' t T→kbm T→BaskIs d.qe d.qg H' b B→Wf T.ps B (stnd0 B)→H' h=some (.lst (hand.map V.int))→hand.length=T.vs.length→(∀z∈hand,0≤z)→hand.sum≤(mh:Int)→T.rs.length≤3→(∀r∈T.rs,r.a<T.vs.length∧r.b<T.vs.length)→Q (.ref w) H'):kjB K d vs H Q E_
theorem qm:kas ["_law_script","_law_most_vouchers","_law_most_held","_law_scale","_law_parents","_law_lines","_law_vouchers","_law_links","_law_more_held","_law_flag","_law_most_lines","_law_most_pieces","_law_cell","_law_mixed","_law_left","_law_rules","_law_link","_law_one","_law_basket","_law_till"] ["_law_script","_law_most_vouchers","_law_most_held"] (kah kb8):=by ac_rfl
theorem ken(W:WB K mg d base):FO P w W 7 d.YZ d.Y0 ["_law_script","_law_most_vouchers","_law_most_held"] (kjB K d):=by
 exists W.QZ.F,qm
 ·obtain⟨a,ns,mv,mh,rfl,hS,hn,hmv,hmh,htb0,kk⟩:=h
  exists qV,kc1,W
  exists UG,kdA,W
  exists qq,kbq,W
  exists UH,keR,W
  exists UI,kdz,W
  exists UJ,kfu,W
  exists qy,kbz,W
  exists UK,kgV,W
  exists UL,keS,W
  exists hr1,1,hr,0
  exists hr2,2,hr,0
  exists hr3,3,hr,0
  exists hr4,4,hr,0
  refine⟨_,kab (psl (i:=3) qm.nd (pe_op kaC (pcl qV hr1 W.qQ (kaa (pv 0) (kaa kaf kad))) kaf))
   (kab (psl (i:=4) qm.nd (pcl UG hr2 W.Ve (kaa (pe_op kaD (pcl qV hr1 W.qQ (kaa (pv 0) (kaa kaf kad))) kaf) kad)))
   (kab (psl (i:=5) qm.nd (kaS kad))
   (kab (psl (i:=6) qm.nd (kaS kad))
   (kab (psl (i:=7) qm.nd (kaS kad))
   (kab (psl (i:=8) qm.nd (kaS kad))
   (kab (psl (i:=9) qm.nd (pcl qq hr1 W.qw (kaa (pcl qV hr1 W.qQ (kaa (pv 0) (kaa kaf kad))) (kaa kaf (kaa kaf kad)))))
   (kab (psl (i:=10) qm.nd kaf)
   (kab (psl (i:=11) qm.nd kaf)
   (kab (kcc (ps_if (kam op_eq (pe_op kaC (pv 9) kaf) kaf (kat _)) (kag (psl (i:=1) qm.nd kaf)) (kap)))
   (kab (kcc (ps_if (kam op_eq (pe_op kaC (pe_op kaD (pv 9) kaf) kaf) kaf (kat _)) (kab (psl (i:=10) qm.nd kaf)
   (kag (psl (i:=11) qm.nd kaf))) (kap)))
   (kab (kaZ PassesOwn.never rfl (kaE (K:=K) (kbn (r:=rSlL K) kbR (pv 0) (kbI kaf) kcd)) (pgn (i:=12) qm.nd)
   (kab (psl (i:=13) qm.nd (pcl qq hr1 W.qw (kaa (pv 12) (kaa kaf (kaa kaf kad)))))
   (kag (ps_if (PW.pt (ka7 (kam op_lt (pe_op kaC (pv 13) kaf) kaf (kat _)) (kaV (kam op_lt (kaq (r:=kaK K) kar (by rfl) W.B.len b_len (kaa (pv 5) kad)) (pv 10) (kat _))))) (kab (psl (i:=14) qm.nd (kaq (kfb rfl) (by rfl) W.B.max b_max (kaa kaf (kaa (pe_op kdg kaf (kaq (r:=rSum K) (kcM rfl) (by rfl) W.B.sum b_sum (kaa (kcw (N:=["_law_line"]) (CompScope.plain rfl (by decide +kernel) (by decide +kernel) (by decide +kernel) (nd1 _)) rfl (kaE (K:=K) (pv 5)) (fun _ _ _ _=>pgn (i:=0) (nd1 _)) (fun _ _ _ _=>(kaj (K:=K) (pv 0) rfl))) kad))) kad))))
   (kag (ka1 (pe_bm NK N3 N4 kbd (pv 5) (kaa (pcl UH hr4 W.Va (kaa (pv 12) (kaa (kaq (r:=kaK K) kar (by rfl) W.B.len b_len (kaa (pv 4) kad)) (kaa (pv 3) (kaa (kaq (kbP rfl) (by rfl) W.B.min b_min (kaa (pv 14) (kaa (pv 11) kad))) kad))))) kad))))) (kag (ps_if (PW.pt (ka7 (kam op_lt (pe_op kaC (pv 13) kaf) kaf (kat _)) (kaV (kam op_lt (kaq (r:=kaK K) kar (by rfl) W.B.len b_len (kaa (pv 6) kad)) (pv 1) (kat _))))) (kag (ka1 (pe_bm NK N3 N4 kbd (pv 6) (kaa (pcl UI hr W.Vd (kaa (pv 12) (kaa (kaq (r:=kaK K) kar (by rfl) W.B.len b_len (kaa (pv 4) kad)) (kaa (pv 3) kad)))) kad)))) (kag (ps_if (PW.pt (ka7 (kam op_eq (pe_op kaC (pv 13) kaf) kaf (kat _)) (kaV (kam op_lt (kaq (r:=kaK K) kar (by rfl) W.B.len b_len (kaa (pv 7) kad)) kaf (kat _))))) (kag (ka1 (pe_bm NK N3 N4 kbd (pv 7) (kaa (pe_op kaD (pv 13) kaf) kad)))) (kag (ps_if (kam op_lt (kaq (r:=kaK K) kar (by rfl) W.B.len b_len (kaa (pv 8) kad)) kaf (kat _)) (kag (ka1 (pe_bm NK N3 N4 kbd (pv 8) (kaa (pe_op kaD (pv 13) kaf) kad)))) (kap)))))))))))
   (kab (kcc (ps_if (PW.pt (ka7 (kam op_eq (pe_op kaC (pe_op kaD (pv 9) kaf) kaf) kaf (kat _)) (kaV (kam op_gt (kaq (r:=kaK K) kar (by rfl) W.B.len b_len (kaa (pv 6) kad)) kaf (kat _))))) (kag (kdf (pe_ix (r:=rIxL K) kaO (pv 6) kaf (fun _ _=>rfl)) (kfB (pv 6) kaf set_list))) (kap)))
   (kab (kcc (ps_if (PW.pt (ka7 (kam op_eq (pe_op kaC (pe_op kaD (pv 9) kaf) kaf) kaf (kat _)) (kaV (kam op_gt (kaq (r:=kaK K) kar (by rfl) W.B.len b_len (kaa (pv 5) kad)) kaf (kat _))))) (kag (kdf (pe_ix (r:=rIxL K) kaO (pv 5) kaf (fun _ _=>rfl)) (kfB (pv 5) kaf set_list))) (kap)))
   (kab (psl (i:=15) qm.nd (kaS kad))
   (kab (kaZ PassesOwn.never rfl (kaE (K:=K) (pv 7)) (pgn (i:=16) qm.nd)
   (kag (ps_if (kam op_gt (kaq (r:=kaK K) kar (by rfl) W.B.len b_len (kaa (pv 6) kad)) kaf (kat _)) (kab (psl (i:=17) qm.nd (pe_op kaC (pe_op kaD (pv 16) kaf) (kaq (r:=kaK K) kar (by rfl) W.B.len b_len (kaa (pv 6) kad))))
   (kag (ka1 (pe_bm NK N3 N4 kbd (pv 15) (kaa (kb0 (kaa (pe_ix (r:=rIxL K) kaO (kaS (kaa kbM (kaa kbM (kaa kbM kad)))) (pe_op kaC (pv 16) kaf) (fun _ _=>rfl)) (kaa (pv 17) (kaa (pe_op kaC (pe_op kaD (pv 16) kaf) (kaq (r:=kaK K) kar (by rfl) W.B.len b_len (kaa (pv 6) kad))) kad)))) kad))))) (kap))))
   (kab (psl (i:=12) qm.nd (pcl qV hr1 W.qQ (kaa (pv 0) (kaa kaf kad))))
   (kab (psl (i:=18) qm.nd (kbp (W.Xe.mk' W.qg) UJ hr2 rfl W.qg.m W.Xe.b .nil pass0 (kaa (pv 5) (kaa (pcl qy hr3 W.qH (kaa (pe_op kaD (pv 12) kaf) (kaa (pv 3) kad))) (kaa (kce op_eq (pe_op kaC (pv 12) kaf) kaf (kat _)) kad)))))
   (kab (psl (i:=19) qm.nd (kbp (W.Xi.mk' W.qd) UK hr2 rfl W.qd.m W.Xi.b .nil pass0 (kaa (pv 4) (kaa (pv 6) (kaa (pv 15) (kaa (pe_ix (r:=rIxL K) kaO (kaS (kaa kbM (kaa kbM kad))) (pe_op kaC (pe_op kaD (pv 12) kaf) kaf) (fun _ _=>rfl)) kad))))))
   (kag (kao (kb0 (kaa (pv 19) (kaa (pv 18) (kaa (pcl UL hr1 W.Vf (kaa (pv 8) (kaa (pv 6) (kaa (pv 2) (kaa (pe_op kaD (pv 9) kaf) kad))))) kad)))))))))))))))))))))))),?_⟩
  refine⟨_,rfl,a,ns,0,rfl,hS,by decide,fun z0=>⟨_,_,rfl,rfl,(by show(0:Int)<4;decide),?_⟩⟩
  dsimp only
  generalize z0%4=sc
  refine⟨_,rfl,a,ns,0,rfl,hS,by decide,fun z1=>⟨_,_,rfl,rfl,⟨by decide,by decide⟩,_,rfl,fun H1 p ps s1 f1 hp hg hl20 hl0=>?_⟩⟩
  refine⟨by decide,fun ln fln=>?_⟩
  exists H1,ln,H2,n2,e2,fln
  refine⟨by decide,fun vc fvc=>?_⟩
  exists H2,vc,H3,n3,e3,fvc
  refine⟨by decide,fun lk flk=>?_⟩
  exists H3,lk,H4,n4,e4,flk
  refine⟨by decide,fun mo fmo=>?_⟩
  exists H4,mo,H5,n5,e5,fmo
  have ap:Ap4 ln vc lk mo:=⟨kai e2 fvc,kai (n3 _ _ e2) flk,kai ((n3.trans n4) _ _ e2) fmo,kai e3 flk,kai (n4 _ _ e3) fmo,kai e4 fmo⟩
  have s15:=((n2.trans n3).trans n4).trans n5
  have fvc1:H1 vc=none:=n2.free fvc
  have flk1:H1 lk=none:=(n2.trans n3).free flk
  have fmo1:H1 mo=none:=((n2.trans n3).trans n4).free fmo
  have htb1:Tbs d H1:=Tbs.same s1 htb0
  have w0:WldS d H5 ln vc lk mo [] [] [] [] [] []:=⟨((n3.trans n4).trans n5) _ _ e2,(n4.trans n5) _ _ e3,n5 _ _ e4,e5, .nil, .nil⟩
  clear e2 e3 e4 e5 n2 n3 n4 n5 fvc flk fmo
  have s05:=s1.trans s15
  refine⟨_,rfl,a,ns,1,rfl,s05.seq hS,by decide,fun z2=>⟨_,16807,2147483399,rfl,⟨by decide,by decide⟩,by decide,?_⟩⟩
  generalize z2*16807%2147483399=fl
  refine⟨fun σ' H'=>H'=H5∧∃mv':Nat,mv'≤8∧σ'=[some (.ref a),some (iV mv'),some (iV mh),some (.int sc),some (.ref p),some (.ref ln),some (.ref vc),some (.ref lk),some (.ref mo),some (.int fl),some (iV 4),some (iV 7),none,none,none,none,none,none,none,none],?_,?_⟩
  ·exact⟨_,rfl,_,_,rfl,rfl,(by show(0:Int)<8;decide),rfl,_,rfl,ite2 (fun _=>⟨rfl,8,by decide,rfl⟩) (fun _=>⟨rfl,mv,hmv,rfl⟩)⟩
  rintro σ' H' ⟨rfl,mv',hmv',rfl⟩
  refine⟨fun σ' H2=>H2=H'∧∃ml mp:Nat,ml≤12∧mp≤7∧σ'=[some (.ref a),some (iV mv'),some (iV mh),some (.int sc),some (.ref p),some (.ref ln),some (.ref vc),some (.ref lk),some (.ref mo),some (.int fl),some (iV ml),some (iV mp),none,none,none,none,none,none,none,none],?_,?_⟩
  ·exact⟨_,rfl,_,_,rfl,rfl,⟨by decide,by decide⟩,_,_,rfl,rfl,(by show(0:Int)<8;decide),rfl,_,rfl,ite2 (fun _=>⟨rfl,12,1,by decide,by decide,rfl⟩) (fun _=>⟨rfl,4,7,by decide,by decide,rfl⟩)⟩
  rintro σ' H2 ⟨rfl,ml,mp,hml,hmp,rfl⟩
  refine⟨_,rfl,_,rfl,a,_,rfl,s05.seq hS,fun l6 fl6=>?_⟩
  obtain⟨ms,ems,lms⟩:=kiV ns (some 2) none
  rw[ems]
  exists H2,l6,H6,n6,e6,fl6
  have nl6:∀{x:Addr}{o:HO},H2 x=some o→l6≠x:=fun e=>(kai e fl6).symm
  have nln:=nl6 w0.eln
  have nvc:=nl6 w0.evc
  have nlk:=nl6 w0.elk
  have nmo:=nl6 w0.emo
  refine⟨l6,rfl,⟨_,SqL.of e6⟩,kaP (xs:=ms.map V.int) (fun i σ H'=>Same H1 H'∧H' l6=some (.lst (ms.map V.int))∧∃(la va:List Addr)(rs:List Row)(vs:List Vch)(ls ks:List Int)(v12 v13 v14:Option V),WldS d H' ln vc lk mo la va rs vs ls ks∧NumW ps.length ps rs vs ls ks∧(mans rs).sum≤12∧σ=[some (.ref a),some (iV mv'),some (iV mh),some (.int sc),some (.ref p),some (.ref ln),some (.ref vc),some (.ref lk),some (.ref mo),some (.int fl),some (iV ml),some (iV mp),v12,v13,v14,none,none,none,none,none])
   ⟨s15.trans n6,e6,[],[],[],[],[],[],none,none,none,w0.same n6,⟨(fun r h=>by simp at h),(fun r h=>by simp at h),by decide,by decide,by decide,by decide,by decide⟩,by decide,rfl⟩ (fun i σ H' _ h=>SqL.of h.2.1) ?_ ?_⟩
  ·rintro i y σ Hi hy ⟨si,el6,la,va,rs,vs,ls,ks,v12,v13,v14,w,N,hpc,rfl⟩
   obtain⟨c,_,rfl⟩:∃z,ms[i]?=some z∧y=V.int z:=kbC hy
   have htb:∀{H':Hp},Same H1 H'→Tbs d H':=fun s=>Tbs.same s htb1
   have lla:=w.hln.len
   have lva:=w.hvc.len
   refine⟨_,rfl,c,69621,2147483629,rfl,⟨by decide,by decide⟩,by decide,?_⟩
   generalize c*69621%2147483629=mx
   refine⟨_,rfl,_,_,rfl,rfl,(by show(0:Int)<8;decide),_,_,rfl,rfl,_,rfl,two' (fun els=>?_) ?_⟩
   ·
    refine⟨_,rfl,ln,_,rfl, .inl (SqL.of w.eln),_,rfl,_,_,rfl,rfl,_,rfl,ite2 (fun h2=>?_) (fun _=>els)⟩
    clear els
    have hlt:la.length<ml:=by
     have:=of_decide_eq_true h2
     rw[JJ] at this
     omega
    refine⟨_,rfl,ln,rfl,⟨_,SqL.of w.eln⟩,kbf (xs:=la.map V.ref) (fun i σ ys H'=>H'=Hi∧ys=((rs.take i).map fun r=>r.mn).map V.int∧∃v0:Option V,σ=[v0]) ⟨rfl,rfl,none,rfl⟩ (by rw[JJ];exact JY (kau (by omega))) ?_ ?_ ?_⟩
    ·rintro i σ ys H' hi ⟨rfl,rfl,_⟩
     rw[JJ] at hi
     exact⟨SqL.of w.eln,by rw[JJ,JJ,Na];omega⟩
    ·rintro i y σ ys H' hy ⟨rfl,rfl,v0,rfl⟩
     obtain⟨x,ex,rfl⟩:=kbj hy
     obtain⟨r,er,dx,fs,hx,k1,k2,k3,k4⟩:=w.hln.at ex
     refine⟨_,rfl,x,d.qe,dx,fs,_,rfl,hx,W.qe.cl,W.q9,k3,rfl,?_,_,rfl⟩
     rw[take_snoc er,JQ,JQ]
     rfl
    rintro σ ys H' ⟨rfl,rfl,v0,rfl⟩ q fq
    rw[JJ,lla,Nt]
    have hsm:=kiI (rs:=rs) fun r hr=>(N.rows r hr).1.mn0
    exists H',q,Hq,nq,eq,fq
    refine⟨q,_,rfl,SqL.of eq,_,_,rfl,rfl,_,_,rfl,?_⟩
    rw[hsm]
    have wq:=w.same nq
    have hleft:0≤(if(12:Int)-(((mans rs).sum:Nat):Int) > 0 then(12:Int)-(((mans rs).sum:Nat):Int) else 0)∧(((mans rs).sum:Nat):Int)+(if(12:Int)-(((mans rs).sum:Nat):Int) > 0 then(12:Int)-(((mans rs).sum:Nat):Int) else 0)≤12:=by split <;> omega
    generalize (if(12:Int)-(((mans rs).sum:Nat):Int) > 0 then(12:Int)-(((mans rs).sum:Nat):Int) else 0)=left at *
    have hm:0≤(if(mp:Int)<left then(mp:Int) else left)∧(if(mp:Int)<left then(mp:Int) else left)≤7∧(if(mp:Int)<left then(mp:Int) else left)≤left:=by split <;> omega
    refine⟨_,rfl, .inl ⟨rfl,_,SqL.of wq.eln⟩,_,rfl,_,rfl,p,_,rfl, .inl (SqL.of ((si.trans nq) _ _ hp)),_,rfl,_,rfl,_,rfl,_,_,rfl,c,ps.length,sc,(if(mp:Int)<left then(mp:Int) else left),(by rw[JJ];rfl),hl0,hm.1,hm.2.1,fun H7 x r s7 f7 hx hok hkd hmn=>?_⟩
    generalize (if(mp:Int)<left then(mp:Int) else left)=mm at *
    have w7:=wq.same s7
    have s17:=(si.trans nq).trans s7
    refine⟨ln,_,_,rfl,rfl,w7.eln,kau (by rw[JJ];omega),?_⟩
    have s8:=kaw (o:=.lst ((la++[x]).map V.ref)) fln s17 (nx w7.eln)
    rw[show la.map V.ref++[V.ref x]=(la++[x]).map V.ref by rw[JQ];rfl]
    have hpc':(mans (rs++[r])).sum≤12:=by
     have:mans (rs++[r])=mans rs++[r.mn.toNat]:=by unfold mans;rw[JQ];rfl
     rw[this,NP]
     have:=hok.mn0
     simp only[Nf,MF]
     omega
    refine⟨s8,by rw[kak nln];exact(nq.trans s7) _ _ el6,la++[x],va,rs++[r],vs,ls,ks,_,_,_,w7.putL ap (htb s8) (P2.snoc w7.hln hx),⟨fun r' hr'=>?_,N.vok,by omega,by rw[JW,Np];omega,N.lv,N.ll,N.lk⟩,hpc',rfl⟩
    rcases Nk.mp hr' with h|h
    ·exact N.rows r' h
    ·have e:r'=r:=by simpa using h
     rw[e]
     exact⟨hok,hkd,by omega⟩
   refine⟨_,rfl,_,_,rfl,rfl,(by show(0:Int)<8;decide),_,_,rfl,rfl,_,rfl,two' (fun els=>?_) ?_⟩
   ·
    refine⟨_,rfl,vc,_,rfl, .inl (SqL.of w.evc),_,rfl,_,_,rfl,rfl,_,rfl,ite2 (fun h2=>?_) (fun _=>els)⟩
    clear els
    have hlt:va.length<mv':=by
     have:=of_decide_eq_true h2
     rw[JJ] at this
     omega
    refine⟨_,rfl, .inl ⟨rfl,_,SqL.of w.evc⟩,_,rfl,_,rfl,p,_,rfl, .inl (SqL.of (si _ _ hp)),_,rfl,c,ps,sc,(by rw[JJ];rfl),hl0,htb si,fun H7 x V s7 f7 hx hok=>?_⟩
    have w7:=w.same s7
    have s17:=si.trans s7
    refine⟨vc,_,_,rfl,rfl,w7.evc,kau (by rw[JJ];omega),?_⟩
    have s8:=kaw (o:=.lst ((va++[x]).map L2.V.ref)) fvc1 s17 (nx w7.evc)
    rw[show va.map L2.V.ref++[L2.V.ref x]=(va++[x]).map L2.V.ref by rw[JQ];rfl]
    refine⟨s8,by rw[kak nvc];exact s7 _ _ el6,la,va++[x],rs,vs++[V],ls,ks,_,_,_,w7.putV ap (htb s8) (P2.snoc w7.hvc hx),⟨N.rows,fun V' hV'=>?_,N.pcs,N.lr,by rw[JW,Np];omega,N.ll,N.lk⟩,hpc,rfl⟩
    rcases Nk.mp hV' with h|h
    ·exact N.vok V' h
    ·have e:V'=V:=by simpa using h
     rw[e]
     exact hok
   refine⟨_,rfl,_,_,rfl,rfl,(by show(0:Int)<8;decide),rfl,_,rfl,two' (fun els=>?_) ?_⟩
   ·
    refine⟨_,rfl,lk,_,rfl, .inl (SqL.of w.elk),_,_,rfl,rfl,_,rfl,ite2 (fun h2=>?_) (fun _=>els)⟩
    clear els
    have hlt:ls.length<3:=by
     have:=of_decide_eq_true h2
     rw[JJ] at this
     omega
    refine⟨_,rfl, .inl ⟨rfl,_,SqL.of w.elk⟩,_,rfl,_,_,rfl,rfl,⟨by decide,by decide⟩,lk,_,_,rfl,rfl,w.elk,kau (by rw[JJ];omega),?_⟩
    have s8:=kaw (o:=.lst ((ls++[mx/8]).map V.int)) flk1 si (nx w.elk)
    rw[show ls.map V.int++[V.int (mx/8)]=(ls++[mx/8]).map V.int by rw[JQ];rfl]
    exact⟨s8,by rw[kak nlk];exact el6,la,va,rs,vs,ls++[mx/8],ks,_,_,_,w.putK ap (htb s8),⟨N.rows,N.vok,N.pcs,N.lr,N.lv,by rw[JW,Np];omega,N.lk⟩,hpc,rfl⟩
   refine⟨_,rfl,mo,_,rfl, .inl (SqL.of w.emo),_,_,rfl,rfl,_,rfl,ite2 (fun h2=>?_) (fun _=>⟨si,el6,la,va,rs,vs,ls,ks,_,_,_,w,N,hpc,rfl⟩)⟩
   have hlt:ks.length<6:=by
    have:=of_decide_eq_true h2
    rw[JJ] at this
    omega
   refine⟨_,rfl, .inl ⟨rfl,_,SqL.of w.emo⟩,_,rfl,_,_,rfl,rfl,⟨by decide,by decide⟩,mo,_,_,rfl,rfl,w.emo,kau (by rw[JJ];omega),?_⟩
   have s8:=kaw (o:=.lst ((ks++[mx/8]).map V.int)) fmo1 si (nx w.emo)
   rw[show ks.map V.int++[V.int (mx/8)]=(ks++[mx/8]).map V.int by rw[JQ];rfl]
   exact⟨s8,by rw[kak nmo];exact el6,la,va,rs,vs,ls,ks++[mx/8],_,_,_,w.putM ap (htb s8),⟨N.rows,N.vok,N.pcs,N.lr,N.lv,N.ll,by rw[JW,Np];omega⟩,hpc,rfl⟩
  rintro σ Hi ⟨si,_,la,va,rs,vs,ls,ks,v12,v13,v14,w,N,hpc,rfl⟩
  have htb:∀{H':Hp},Same H1 H'→Tbs d H':=fun s=>Tbs.same s htb1
  refine⟨fun σ' H'=>Same H1 H'∧∃(va':List Addr)(vs':List Vch),WldS d H' ln vc lk mo la va' rs vs' ls ks∧NumW ps.length ps rs vs' ls ks∧σ'=[some (.ref a),some (iV mv'),some (iV mh),some (.int sc),some (.ref p),some (.ref ln),some (.ref vc),some (.ref lk),some (.ref mo),some (.int fl),some (iV ml),some (iV mp),v12,v13,v14,none,none,none,none,none],?_,?_⟩
  ·refine⟨_,rfl,_,_,rfl,rfl,⟨by decide,by decide⟩,_,_,rfl,rfl,(by show(0:Int)<4;decide),rfl,_,rfl,two' (fun els=>?_) ⟨si,va,vs,w,N,rfl⟩⟩
   refine⟨_,rfl,vc,_,rfl, .inl (SqL.of w.evc),_,_,rfl,rfl,_,rfl,ite2 (fun h2=>?_) (fun _=>els)⟩
   have hlt:1<va.length:=by
    have:=of_decide_eq_true h2
    rw[JJ] at this
    omega
   obtain⟨x0,ex⟩:=at_of (xs:=va) (i:=0) (by omega)
   obtain⟨V0,eV,hV0⟩:=w.hvc.at ex
   refine⟨_,rfl,vc,_,_,_,rfl,rfl,SqL.of w.evc,(show atI (va.map L2.V.ref) ((0:Nat):Int)=_ from kaY (v:=.ref x0) (by rw[JU,ex];rfl)),_,rfl,vc,_,_,1,rfl,rfl,w.evc,(show ixN (va.map L2.V.ref).length ((1:Nat):Int)=some 1 from kd4 (by rw[JJ];omega)),?_⟩
   rw[←Mg]
   have s8:=kaw (o:=.lst ((va.set 1 x0).map L2.V.ref)) fvc1 si (nx w.evc)
   refine⟨s8,va.set 1 x0,vs.set 1 V0,w.putV ap (htb s8) (P2.put hV0 1 w.hvc),⟨N.rows,fun V' hV'=>?_,N.pcs,N.lr,by rw[Mb];exact N.lv,N.ll,N.lk⟩,rfl⟩
   rcases En hV' with h|h
   ·exact N.vok V' h
   ·rw[h]
    exact N.vok V0 (JO eV)
  clear w N si
  rintro σ' Hj ⟨si,va',vs',w,N,rfl⟩
  refine⟨fun σ' H'=>Same H1 H'∧∃(la':List Addr)(rs':List Row),WldS d H' ln vc lk mo la' va' rs' vs' ls ks∧NumW ps.length ps rs' vs' ls ks∧σ'=[some (.ref a),some (iV mv'),some (iV mh),some (.int sc),some (.ref p),some (.ref ln),some (.ref vc),some (.ref lk),some (.ref mo),some (.int fl),some (iV ml),some (iV mp),v12,v13,v14,none,none,none,none,none],?_,?_⟩
  ·refine⟨_,rfl,_,_,rfl,rfl,⟨by decide,by decide⟩,_,_,rfl,rfl,(by show(0:Int)<4;decide),rfl,_,rfl,two' (fun els=>?_) ⟨si,la,rs,w,N,rfl⟩⟩
   refine⟨_,rfl,ln,_,rfl, .inl (SqL.of w.eln),_,_,rfl,rfl,_,rfl,ite2 (fun h2=>?_) (fun _=>els)⟩
   have hlt:1<la.length:=by
    have:=of_decide_eq_true h2
    rw[JJ] at this
    omega
   obtain⟨x0,ex⟩:=at_of (xs:=la) (i:=0) (by omega)
   obtain⟨r0,er,hr0⟩:=w.hln.at ex
   have hm0:=JO er
   have hr7:=(N.rows r0 hm0).2.2
   refine⟨_,rfl,ln,_,_,_,rfl,rfl,SqL.of w.eln,(show atI (la.map V.ref) ((0:Nat):Int)=_ from kaY (v:=.ref x0) (by rw[JU,ex];rfl)),_,rfl,ln,_,_,1,rfl,rfl,w.eln,(show ixN (la.map V.ref).length ((1:Nat):Int)=some 1 from kd4 (by rw[JJ];omega)),?_⟩
   rw[←Mg]
   have s8:=kaw (o:=.lst ((la.set 1 x0).map V.ref)) fln si (nx w.eln)
   refine⟨s8,la.set 1 x0,rs.set 1 r0,w.putL ap (htb s8) (P2.put hr0 1 w.hln),⟨fun r' hr'=>?_,N.vok,?_,by rw[Mb];exact N.lr,N.lv,N.ll,N.lk⟩,rfl⟩
   ·rcases En hr' with h|h
    ·exact N.rows r' h
    ·rw[h]
     exact N.rows r0 hm0
   ·unfold mans
    rw[Mg]
    refine JN (kl8 _ _ _) ?_
    show(mans rs).sum+r0.mn.toNat≤24
    omega
  clear w N si
  rintro σ' Hk ⟨si,la',rs',w,N,rfl⟩
  have lva:=w.hvc.len
  refine⟨by decide,fun rl frl=>?_⟩
  exists Hk,rl,H7,n7,e7,frl
  have hL:(((va'.map V.ref).length:Nat):Int)=(vs'.length:Int):=by rw[JJ];omega
  refine⟨_,rfl,lk,rfl,⟨_,SqL.of (n7 _ _ w.elk)⟩,kaP (xs:=ls.map V.int) (fun i σ H'=>Same Hk H'∧∃(ra:List Addr)(us:List Rul)(v16 v17:Option V),H' rl=some (.lst (ra.map V.ref))∧P2 (fun a r=>RulIs H' a r) ra us∧(∀r∈us,r.a<vs'.length∧r.b<vs'.length)∧us.length≤i∧σ=[some (.ref a),some (iV mv'),some (iV mh),some (.int sc),some (.ref p),some (.ref ln),some (.ref vc),some (.ref lk),some (.ref mo),some (.int fl),some (iV ml),some (iV mp),v12,v13,v14,some (.ref rl),v16,v17,none,none])
   ⟨n7,[],[],none,none,e7, .nil,(fun r h=>by simp at h),JK _,rfl⟩ (fun i σ H' _ h=>SqL.of (h.1 _ _ w.elk)) ?_ ?_⟩
  ·rintro i y σ H8 hy ⟨s8,ra,us,v16,v17,erl,hra,hub,hul,rfl⟩
   obtain⟨k,ek,rfl⟩:∃z,ls[i]?=some z∧y=V.int z:=kbC hy
   have hi3:=at_lt ek
   have hl3:=N.ll
   have lra:=hra.len
   refine⟨_,rfl,vc,_,rfl, .inl (SqL.of (s8 _ _ w.evc)),_,_,rfl,rfl,_,rfl,ite2 (fun h2=>?_) (fun _=>⟨s8,ra,us,_,_,erl,hra,hub,Nat.le_succ_of_le hul,rfl⟩)⟩
   have h0:(0:Int)<(vs'.length:Int):=by
    have:=of_decide_eq_true h2
    rw[hL] at this
    omega
   have q0:0≤k/3%(vs'.length:Int):=Int.emod_nonneg _ (by omega)
   have q1:k/3%(vs'.length:Int)<(vs'.length:Int):=Int.emod_lt_of_pos _ h0
   have q2:0≤k/24%(vs'.length:Int):=Int.emod_nonneg _ (by omega)
   have q3:k/24%(vs'.length:Int)<(vs'.length:Int):=Int.emod_lt_of_pos _ h0
   refine⟨_,rfl,_,_,rfl,rfl,⟨by decide,by decide⟩,_,rfl,vc,_,rfl, .inl (SqL.of (s8 _ _ w.evc)),_,_,rfl,rfl,(by rw[hL];exact h0),?_⟩
   refine⟨_,rfl, .inl ⟨rfl,_,SqL.of erl⟩,(by show 3≤sizeLine;decide),fun l9 fl9=>?_⟩
   exists H8,l9,H9,n9,e9,fl9
   obtain⟨wd,_,ewd⟩:=kk9 (ss:=["only","never","ahead"]) (i:=k%3) (by omega) (by show k%3<3;omega)
   refine⟨_,rfl,_,_,rfl,rfl,(by show(0:Int)<3;decide),l9,_,_,_,rfl,rfl,SqL.of e9,ewd,_,rfl,_,rfl,_,_,rfl,rfl,⟨by decide,by decide⟩,_,rfl,vc,_,rfl, .inl (SqL.of ((s8.trans n9) _ _ w.evc)),_,_,rfl,rfl,(by rw[hL];exact h0),(by show 3≤sizeLine;decide),fun q fq=>?_⟩
   obtain⟨ua,eua⟩:=Int.eq_ofNat_of_zero_le q0
   obtain⟨ub,eub⟩:=Int.eq_ofNat_of_zero_le q2
   exists H9,q,HA,nA,eA,fq
   have hrA:RulIs HA q ⟨wd,ua,ub⟩:=by
    show HA q=some (.tup [.str wd,V.int ((ua:Nat):Int),V.int ((ub:Nat):Int)])
    rw[←eua,←eub,←hL]
    exact eA
   have erlA:=(n9.trans nA) _ _ erl
   refine⟨rl,_,_,rfl,rfl,erlA,kau (by rw[JJ];omega),?_⟩
   refine⟨kaw frl ((s8.trans n9).trans nA) (nx erlA),ra++[q],us++[⟨wd,ua,ub⟩],_,_,by rw[kae,JQ];rfl,P2.snoc (hra.mono fun a r h=>RulIs.put erlA ((n9.trans nA) _ _ h)) (RulIs.put erlA hrA),fun r hr=>?_,by rw[JW,Np];omega,rfl⟩
   rcases Nk.mp hr with h|h
   ·exact hub r h
   ·have e:r=⟨wd,ua,ub⟩:=by simpa using h
    rw[e]
    exact⟨by show ua<vs'.length;omega,by show ub<vs'.length;omega⟩
  rintro σ H8 ⟨s8,ra,us,v16,v17,erl,hra,hub,hul,rfl⟩
  rw[JJ] at hul
  have s18:=si.trans s8
  have w8:=w.same s8
  refine⟨_,rfl,a,ns,1,rfl,(s1.trans s18).seq hS,by decide,fun z3=>?_⟩
  refine⟨_,rfl,_,rfl,_,_,rfl,rfl,⟨by decide,by decide⟩,_,rfl,_,_,rfl,fun cg c0 c1=>?_⟩
  refine⟨_,rfl,_,_,rfl,rfl,(by show(0:Int)<3;decide),rfl,km0 (SqL.of w8.eln) fun H9 b l' s9 f9 fl' hl' hb'=>?_⟩
  obtain⟨mb,hb⟩:∃mb:Bool,BaskAt d.qg H9 b l' cg mb:=⟨_,hb'⟩
  clear hb'
  have hbk:BaskIs d.qe d.qg H9 b ⟨rs',cg,mb⟩:=⟨l',la',hb,hl',w8.hln.same s9⟩
  have w9:=w8.same s9
  have s19:=s18.trans s9
  refine⟨_,rfl,_,rfl,_,rfl,(by show 2≤sizeLine;decide),fun lA flA=>?_⟩
  exists H9,lA,HA,nA,eA,flA
  obtain⟨bk,_,ebk⟩:=kk9 (ss:=["again","shares"]) (i:=z3/3%2) (by omega) (by show z3/3%2<2;omega)
  have s9A:=s9.trans nA
  refine⟨_,rfl,_,_,rfl,rfl,⟨by decide,by decide⟩,_,_,rfl,rfl,(by show(0:Int)<2;decide),lA,_,_,_,rfl,rfl,SqL.of eA,ebk,kmX (T:=⟨ps,vs',us,bk⟩) ((s19.trans nA) _ _ hp) (nA _ _ w9.evc) (w9.hvc.mono fun v V h=>h.same nA) (s9A _ _ erl) (hra.mono fun a r h=>s9A _ _ h) fun HB t sB fB hT=>?_⟩
  have s9B:=nA.trans sB
  have wB:=w9.same s9B
  have s1B:=s19.trans s9B
  have hks:=N.lk
  have hlv:=N.lv
  refine⟨_,rfl,_,rfl,_,rfl,_,rfl,_,rfl,_,rfl,_,_,rfl,rfl,⟨by decide,by decide⟩,mo,vc,ks,va',mh,_,rfl,wB.emo,wB.evc,by omega,by omega,hmh,fun HC h hand sC fh eh hl hnn hsum=>⟨(by show 3≤sizeLine;decide),fun w' fw=>?_⟩⟩
  exists HC,w',HD,nD,eD,fw
  have sBD:=sC.trans nD
  have s0D:=(s1.trans s1B).trans sBD
  refine kk HD w' t b h ⟨ps,vs',us,bk⟩ ⟨rs',cg,mb⟩ hand s0D ((s1.trans s1B).free fh) eD (hT.same sBD) ⟨N.vok,hlv⟩ (hbk.same (s9B.trans sBD)) ?_ (nD _ _ eh) (by show hand.length=vs'.length;omega) hnn hsum (by show us.length≤3;have:=N.ll;omega) hub
  exact Wf.start hg hl20 (fun r hr=>(N.rows r hr).2.1) (fun r hr=>(N.rows r hr).1) N.lr ⟨c0,c1⟩ (by show(ownN rs').length<64;rw[kls];have:=N.pcs;omega)
theorem kdo:∀(o1 o2 used:List Nat)(S S1:Stnd),walkM T B hand o1 used S=(used++o1,S1)→walkM T B hand (o1++o2) used S=walkM T B hand o2 (used++o1) S1
 |[],o2,used,S,S1,h=>by
  unfold walkM at h
  rw[Nl] at h⊢
  have:=congrArg Prod.snd h
  simp only at this
  rw[this]
  rfl
 | n::o1,o2,used,S,S1,h=>by
  have hcons:∀o:List Nat,walkM T B hand (n::o) used S=match T.vs[n]? with
   |none=>(used,S)
   |some V=>if dueM V T B hand used S n=.non then walkM T B hand o (used++[n]) (aftM V T.ps (kds B) S) else(used,S):=fun _=>rfl
  rw[MO,hcons]
  rw[hcons] at h
  cases e:T.vs[n]? with
  |none=>
   rw[e] at h
   have:=congrArg NA (congrArg Prod.fst h)
   simp at this
  | some V=>
   rw[e] at h
   simp only at h⊢
   by_cases hn:dueM V T B hand used S n=.non
   ·rw[if_pos hn] at h⊢
    have h':walkM T B hand o1 (used++[n]) (aftM V T.ps (kds B) S)=((used++[n])++o1,S1):=by rw[h,Nm];rfl
    rw[kdo o1 o2 _ _ _ h',Nm]
    rfl
   ·rw[if_neg hn] at h
    have:=congrArg NA (congrArg Prod.fst h)
    simp at this
theorem kjv:∀{xs ys:List Int},xs.length=ys.length→(ND (fun x y=>x-y) xs ys).sum=xs.sum-ys.sum
 |[],[],_=>rfl
 |x::xs,y::ys,h=>by
  rw[List.zipWith_cons_cons,Nf,kjv (by simpa using h),Nf,Nf]
  omega
 |[],y::ys,h=>by cases h
 |x::xs,[],h=>by cases h
theorem kc6{ps:List (Option Nat)}{V:Vch}(vo:VchOk ps V):∀m,V.ms.most=some m→0≤m:=fun m e=>(vo.ms.most m e).1
theorem kjm{ps:List (Option Nat)}{B:Bask}{S:Stnd}{V:Vch}(wf:Wf ps B S)(vo:VchOk ps V):kaz S-kbZ V ps (kds B) S≤kaz (aftM V ps (kds B) S):=by
 have hr:=khd (V:=V) (ps:=ps) (kk:=kds B) wf.lp wf.nn wf.cg.1 vo.so (kc6 vo)
 have hle:=kiU (V:=V) (ps:=ps) (kk:=kds B) wf.nn wf.cg.1 vo.so (kc6 vo)
 have e:kaz (aftM V ps (kds B) S)=(S.pr.sum-(cutM V ps (kds B) S).1.sum)+(S.cg-(cutM V ps (kds B) S).2):=by
  show(ND (fun x y=>x-y) S.pr (cutM V ps (kds B) S).1).sum+(S.cg-(cutM V ps (kds B) S).2)=_
  rw[kjv hle.1.1.symm]
 rw[e]
 unfold kaz
 omega
theorem klf{ps:List (Option Nat)}{B:Bask}{S:Stnd}(wf:Wf ps B S):0≤kaz S:=by
 have:=kbi wf.nn
 have:=wf.cg.1
 unfold kaz
 omega
theorem klm{ps:List (Option Nat)}{B:Bask}{S:Stnd}{V:Vch}(wf:Wf ps B S)(vo:VchOk ps V):0≤kbZ V ps (kds B) S:=by
 have hr:=khd (V:=V) (ps:=ps) (kk:=kds B) wf.lp wf.nn wf.cg.1 vo.so (kc6 vo)
 have hle:=kiU (V:=V) (ps:=ps) (kk:=kds B) wf.nn wf.cg.1 vo.so (kc6 vo)
 have:=(Le2.sum hle.1).1
 have:=hle.2.1
 omega
noncomputable def rcN(T:TillD)(B:Bask)(S:Stnd)(n:Nat):Int:=match T.vs[n]? with
 |none=>0
 |some V=>kbZ V T.ps (kds B) S
theorem kcx{n:Nat}{o u:List Nat}{S S':Stnd}(h:walkM T B hand (n::o) u S=(u++n::o,S')):∃V,T.vs[n]?=some V∧dueM V T B hand u S n=.non∧walkM T B hand o (u++[n]) (aftM V T.ps (kds B) S)=((u++[n])++o,S'):=by
 have no:∀S,(u,S)≠(u++n::o,S'):=fun S e=>by
  have:=congrArg NA (Prod.mk.inj e).1
  simp at this
 unfold walkM at h
 cases e:T.vs[n]? with
 |none=>rw[e] at h;exact absurd h (no _)
 | some V=>
  rw[e] at h
  simp only at h
  by_cases c:dueM V T B hand u S n=.non
  ·rw[if_pos c] at h
   exact⟨V,rfl,c,by rw[h,Nm];rfl⟩
  ·rw[if_neg c] at h
   exact absurd h (no _)
theorem klQ{V:Vch}{T:TillD}{B:Bask}{hand:List Int}{u:List Nat}{S:Stnd}{n:Nat}(h:dueM V T B hand u S n=.non):(u.count n:Int)+1≤hand.getD n 0∧(V.ms.once=true→u.contains n=false):=by
 unfold dueM wordM at h
 by_cases c1:hand.getD n 0<(u.count n:Int)+1
 ·rw[if_pos c1] at h
  cases h
 ·rw[if_neg c1] at h
  refine⟨by omega,fun ho=>?_⟩
  cases hc:u.contains n with
  |false=>rfl
  |true=>
   rw[ho,hc] at h
   cases h
theorem khn(tok:kbm T):∀{o u:List Nat}{S S':Stnd},Wf T.ps B S→walkM T B hand o u S=(u++o,S')→Wf T.ps B S'∧Later S S'
 |[],u,S,S',wf,h=>by
  unfold walkM at h
  have e:=(Prod.mk.inj h).2
  subst e
  exact⟨wf,Later.refl wf.nn wf.cg.1⟩
 |n::o,u,S,S',wf,h=>by
  obtain⟨V,hV,_,h2⟩:=kcx h
  have vo:=tok.vs V (JO hV)
  obtain⟨q1,q2⟩:=khn tok (wf.after vo) h2
  exact⟨q1,(Later.aft wf.nn wf.cg.1 vo.so (kc6 vo)).trans q2⟩
theorem kh5{S0:Stnd}(tok:kbm T):∀{o u:List Nat}{S S':Stnd},Wf T.ps B S→Later S0 S→walkM T B hand o u S=(u++o,S')→kaz S-(o.map (rcN T B S0)).sum≤kaz S'
 |[],u,S,S',wf,hl,h=>by
  unfold walkM at h
  have e:=(Prod.mk.inj h).2
  subst e
  simp
 |n::o,u,S,S',wf,hl,h=>by
  obtain⟨V,hV,_,h2⟩:=kcx h
  have vo:=tok.vs V (JO hV)
  have ih:=kh5 tok (S0:=S0) (wf.after vo) (hl.trans (Later.aft wf.nn wf.cg.1 vo.so (kc6 vo))) h2
  have h3:=kjm wf vo
  have h4:=khP (V:=V) (ps:=T.ps) (kk:=kds B) hl wf.nn vo.so
  have e:rcN T B S0 n=kbZ V T.ps (kds B) S0:=by unfold rcN;rw[hV]
  rw[JV,Nf,e]
  omega
theorem kfS{m:Nat}:∀{o u:List Nat}{S S':Stnd},walkM T B hand o u S=(u++o,S')→0<o.count m→((u++o).count m:Int)≤hand.getD m 0∧∀V,T.vs[m]?=some V→V.ms.once=true→(u++o).count m=1
 |[],u,S,S',h,hc=>by simp at hc
 | n ::o,u,S,S',h,hc=>by
  obtain⟨V,hV,hd,h2⟩:=kcx h
  obtain⟨hh,ho⟩:=klQ hd
  have ea:u++n::o=(u++[n])++o:=by rw[Nm];rfl
  by_cases c:0<o.count m
  ·rw[ea]
   exact kfS h2 c
  ·have hz:o.count m=0:=by omega
   have en:n=m:=by
    by_cases e:n=m
    ·exact e
    ·rw[E5 (by simpa using e)] at hc
     omega
   subst en
   have ec:(u++n::o).count n=u.count n+1:=by rw[MS,List.count_cons_self,hz]
   rw[ec]
   refine⟨by omega,fun V' hV' hon=>?_⟩
   rw[hV] at hV'
   cases hV'
   have hcn:=ho hon
   have:u.count n=0:=by
    rw[List.count_eq_zero]
    intro hm
    have:u.contains n=true:=by simpa using hm
    rw[hcn] at this
    cases this
   omega
theorem kju{f:Nat→Int}{L:Nat}:∀{r:List Nat},(∀n∈r,n<L)→(r.map f).sum=((JP L).map fun m=>(r.count m:Int)*f m).sum
 | [],_=>by
  have:∀K:Nat,((JP K).map fun m=>((([]:List Nat).count m:Nat):Int)*f m).sum=0:=fun K=>by
   induction K with
   |zero=>rfl
   |succ K ih=>rw[NC,JQ,NP,ih];simp
  rw[this]
  rfl
 | n ::r,h=>by
  have ih:=kju (f:=f) (L:=L) (r:=r) fun m hm=>h m (JZ _ hm)
  have hn:=h n J0
  have step:∀K:Nat,((JP K).map fun m=>((n::r).count m:Int)*f m).sum=((JP K).map fun m=>(r.count m:Int)*f m).sum+(if n<K then f n else 0):=fun K=>by
   induction K with
   |zero=>simp
   | succ K ih=>
    rw[NC,JQ,JQ,NP,NP,ih]
    simp only[JV,NS,Nf,MF,Int.add_zero]
    by_cases e:n=K
    ·subst e
     rw[List.count_cons_self,if_neg (NV _),if_pos (MY _)]
     rw[show((r.count n+1:Nat):Int)=(r.count n:Int)+1 by omega,Int.add_mul,Int.one_mul]
     omega
    ·rw[E5 (by simpa using e)]
     by_cases c:n<K
     ·rw[if_pos c,if_pos (by omega)]
      omega
     ·rw[if_neg c,if_neg (by omega)]
      omega
  rw[step,if_pos hn,JV,Nf,ih]
  omega
theorem kku{used r:List Nat}{S S':Stnd}(tok:kbm T)(wf0:Wf T.ps B (stnd0 B))(hl:hand.length=T.vs.length)(hz:∀z∈hand,0≤z)(hu:walkM T B hand used [] (stnd0 B)=(used,S))(hr:walkM T B hand (used++r) [] (stnd0 B)=(used++r,S')):kaT T B hand used S≤kaz S':=by
 obtain⟨wfS,_⟩:=khn tok wf0 (u:=[]) hu
 have h2:walkM T B hand r used S=(used++r,S'):=by
  have:=kdo used r [] (stnd0 B) S hu
  rw[NH] at this
  rw[←this]
  exact hr
 obtain⟨wfS',_⟩:=khn tok wfS h2
 have hlow:=kh5 tok wfS (Later.refl wfS.nn wfS.cg.1) h2
 have h0:=klf wfS'
 have hmem:∀n∈r,n<T.vs.length:=by
  have:∀{o u:List Nat}{S S':Stnd},walkM T B hand o u S=(u++o,S')→∀n∈o,n<T.vs.length:=by
   intro o
   induction o with
   |nil=>intro u S S' _ n hn;simp at hn
   |cons m o ih=>
    intro u S S' h n hn
    obtain⟨V,hV,_,h3⟩:=kcx h
    rcases Nc.mp hn with e|e
    ·rw[e];exact at_lt hV
    ·exact ih h3 n e
  exact this h2
 rw[kju (L:=T.vs.length) hmem] at hlow
 have key:∀K:Nat,K≤T.vs.length→((JP K).map fun m=>(r.count m:Int)*rcN T B S m).sum≤sumR T B hand used S K:=by
  intro K
  induction K with
  |zero=>intro _;exact Int.le_refl _
  | succ K ih=>
   intro hK
   obtain⟨V,hV⟩:=at_of (xs:=T.vs) (i:=K) (by omega)
   have vo:=tok.vs V (JO hV)
   have hrc:=klm wfS vo
   have e1:rcN T B S K=kbZ V T.ps (kds B) S:=by unfold rcN;rw[hV]
   have e2:sumR T B hand used S (K+1)=sumR T B hand used S K+kbZ V T.ps (kds B) S*comeM V hand used K:=by
    show sumR T B hand used S K+(match T.vs[K]? with|none=>0|some V=>kbZ V T.ps (kds B) S*comeM V hand used K)=_
    rw[hV]
   rw[NC,JQ,NP,e2]
   simp only[JV,NS,Nf,MF,Int.add_zero]
   rw[e1,Int.mul_comm]
   have hcm:(r.count K:Int)≤comeM V hand used K:=by
    have hg0:0≤hand.getD K 0:=by
     obtain⟨z,ez⟩:=at_of (xs:=hand) (i:=K) (by omega)
     rw[J5,ez]
     exact hz z (JO ez)
    have hgu:(used.count K:Int)≤hand.getD K 0:=by
     by_cases c:0<used.count K
     ·have:=(kfS (u:=[]) hu c).1
      rw[NH] at this
      exact this
     ·omega
    by_cases c:0<r.count K
    ·obtain⟨q1,q2⟩:=kfS h2 c
     rw[MS] at q1
     unfold comeM
     generalize hand.getD K 0=g at *
     by_cases ho:V.ms.once=true
     ·have q3:=q2 V hV ho
      rw[MS] at q3
      have hnc:used.contains K=false:=by
       cases hc:used.contains K with
       |false=>rfl
       |true=>
        have:0<used.count K:=List.count_pos_iff.mpr (by simpa using hc)
        omega
      rw[if_pos ho,hnc,if_neg JS]
      split <;> omega
     ·rw[if_neg ho]
      omega
    ·have hr0:r.count K=0:=by omega
     rw[hr0]
     unfold comeM
     generalize hand.getD K 0=g at *
     split
     ·split
      ·omega
      ·split <;> omega
     ·omega
   have:=Int.mul_le_mul_of_nonneg_left hcm hrc
   have:=ih (by omega)
   omega
 have hk:=key T.vs.length (JK _)
 unfold kaT
 split <;> omega
noncomputable def EntOk(T:TillD)(B:Bask)(hand:List Int)(q:List Nat×Int×Int):Prop:=∃S,walkM T B hand q.1 [] (stnd0 B)=(q.1,S)∧q.2.1=kaz S∧q.2.2=kaT T B hand q.1 S
theorem kkk:∀(k:Nat)(A:SrcD)(used:List Nat)(S:Stnd),walkM T B hand used [] (stnd0 B)=(used,S)→(∀q∈A.ents,EntOk T B hand q)→∀q∈(meetM T B hand k A used S).ents,EntOk T B hand q
 |0,A,used,S,_,h=>h
 | k +1,A,used,S,hw,h=>by
  have hp:∀q∈(pickM T (addE T B hand A used S) used S).ents,EntOk T B hand q:=fun q hq=>by
   rw[keI] at hq
   rcases Nk.mp hq with h1|h1
   ·exact h q h1
   ·have e:q=(used,kaz S,kaT T B hand used S):=by simpa using h1
    rw[e]
    exact⟨S,hw,rfl,rfl⟩
  unfold meetM
  split
  ·have gen:∀(l:List Nat)(A:SrcD),(∀n∈l,canM T B hand used S n=true)→(∀q∈A.ents,EntOk T B hand q)→∀q∈(l.foldl (fun A n=>match T.vs[n]? with
     |none=>A
     |some V=>meetM T B hand k A (used++[n]) (aftM V T.ps (kds B) S)) A).ents,EntOk T B hand q:=by
    intro l
    induction l with
    |nil=>intro A _ hA;exact hA
    | cons n l ih=>
     intro A hl hA
     rw[MA]
     refine ih _ (fun m hm=>hl m (JZ _ hm)) ?_
     have hc:=hl n J0
     unfold canM at hc
     cases e:T.vs[n]? with
     |none=>exact hA
     |some V=>
      rw[e] at hc
      have hd:dueM V T B hand used S n=.non:=of_decide_eq_true hc
      refine kkk k A (used++[n]) _ ?_ hA
      rw[kdo used [n] [] _ S (by rw[NH];exact hw),NH]
      unfold walkM
      rw[e]
      simp only
      rw[if_pos hd]
      rfl
   exact gen _ _ (fun n hn=>(Nh.mp hn).2) hp
  ·exact hp
noncomputable def Deep(T:TillD)(B:Bask)(hand:List Int):Nat→List Nat→Stnd→Prop
 |0,_,_=>False
 |k+1,used,S=>∀n∈folM T B hand used S,∀V,T.vs[n]?=some V→Deep T B hand k (used++[n]) (aftM V T.ps (kds B) S)
theorem kkV(hl:hand.length=T.vs.length):∀(k:Nat)(used:List Nat)(S:Stnd),remM hand used<k→Deep T B hand k used S
 |0,_,_,h=>by omega
 |k+1,used,S,h=>fun n hn V _=>by
  have hc:=(Nh.mp hn).2
  obtain⟨h1,h2⟩:=kdM hc
  have:=kf1 (hand:=hand) (used:=used) (n:=n) (by omega) h2
  exact kkV hl k _ _ (by omega)
theorem kki:∀{l:List Int},(∀z∈l,0≤z)→∀z∈l,z≤l.sum
 |[],_,z,h=>by simp at h
 | a::l,hn,z,h=>by
  have h0:=hn a J0
  have hs:0≤l.sum:=kbi fun w hw=>hn w (JZ _ hw)
  rw[Nf]
  rcases Nc.mp h with e|e
  ·omega
  ·have:=kki (fun w hw=>hn w (JZ _ hw)) z e
   omega
theorem kmx{used:List Nat}{S:Stnd}{n:Nat}{V:Vch}(hw:walkM T B hand used [] (stnd0 B)=(used,S))(hV:T.vs[n]?=some V)(hd:dueM V T B hand used S n=.non):walkM T B hand (used++[n]) [] (stnd0 B)=(used++[n],aftM V T.ps (kds B) S):=by
 rw[kdo used [n] [] _ S (by rw[NH];exact hw),NH]
 unfold walkM
 rw[hV]
 simp only
 rw[if_pos hd]
 rfl
noncomputable abbrev EntG:=List Nat×Int×Int×Bool
noncomputable def runO(T:TillD)(O:List Nat×Int)(e:EntG):List Nat×Int:=if(decide (e.2.1<O.2)&&(onlyM T.rs e.1).isNone)=true then(e.1,e.2.1) else O
noncomputable def mtL(f:(List Nat×Int)→Nat→List EntG×(List Nat×Int)):List Nat→(List Nat×Int)→List EntG×(List Nat×Int)
 |[],O=>([],O)
 |n::l,O=>((f O n).1++(mtL f l (f O n).2).1,(mtL f l (f O n).2).2)
noncomputable def stO(T:TillD)(B:Bask)(hand:List Int)(O:List Nat×Int)(used:List Nat)(S:Stnd):List Nat×Int:=runO T O (used,kaz S,kaT T B hand used S,true)
noncomputable def goG(T:TillD)(B:Bask)(hand:List Int)(O:List Nat×Int)(used:List Nat)(S:Stnd):Bool:=decide (kaT T B hand used S<(stO T B hand O used S).2)
noncomputable def mt(T:TillD)(B:Bask)(hand:List Int):Nat→(List Nat×Int)→List Nat→Stnd→List EntG×(List Nat×Int)
  |0,O,_,_=>([],O)
  | k +1,O,used,S=>
    ((used,kaz S,kaT T B hand used S,goG T B hand O used S)::(if goG T B hand O used S=true then mtL (fun O n=>match T.vs[n]? with
      |none=>([],O)
      |some V=>mt T B hand k O (used++[n]) (aftM V T.ps (kds B) S)) (folM T B hand used S) (stO T B hand O used S) else([],stO T B hand O used S)).1,
     (if goG T B hand O used S=true then mtL (fun O n=>match T.vs[n]? with
      |none=>([],O)
      |some V=>mt T B hand k O (used++[n]) (aftM V T.ps (kds B) S)) (folM T B hand used S) (stO T B hand O used S) else([],stO T B hand O used S)).2)
noncomputable def offG(e:EntG):List Nat×Int×Int:=(e.1,e.2.1,e.2.2.1)
noncomputable def srcOf(es:List (List Nat×Int×Int))(r:List EntG×(List Nat×Int)):SrcD:=⟨r.2.1,r.2.2,es++r.1.map offG⟩
theorem kiP{f:SrcD→Nat→SrcD}{g:(List Nat×Int)→Nat→List EntG×(List Nat×Int)}:∀(l:List Nat),(∀n∈l,∀A:SrcD,f A n=srcOf A.ents (g (A.ord,A.tot) n))→∀A:SrcD,l.foldl f A=srcOf A.ents (mtL g l (A.ord,A.tot))
 |[],_,A=>by
  show A=srcOf A.ents ([],(A.ord,A.tot))
  unfold srcOf
  rw[NS,Nl]
 |n::l,h,A=>by
  rw[MA,kiP l (fun m hm=>h m (JZ _ hm)),h n J0]
  generalize hr:g (A.ord,A.tot) n=r
  show srcOf (A.ents++r.1.map offG) (mtL g l r.2)=srcOf A.ents (mtL g (n::l) (A.ord,A.tot))
  have e:mtL g (n::l) (A.ord,A.tot)=(r.1++(mtL g l r.2).1,(mtL g l r.2).2):=by rw[←hr];rfl
  rw[e]
  unfold srcOf
  simp only[JQ,Nm]
theorem kmF{A:SrcD}{used:List Nat}{S:Stnd}:pickM T (addE T B hand A used S) used S=⟨(stO T B hand (A.ord,A.tot) used S).1,(stO T B hand (A.ord,A.tot) used S).2,A.ents++[(used,kaz S,kaT T B hand used S)]⟩:=by
 unfold pickM stO runO addE
 simp only
 split <;> rfl
theorem khM:∀(k:Nat)(A:SrcD)(used:List Nat)(S:Stnd),meetM T B hand k A used S=srcOf A.ents (mt T B hand k (A.ord,A.tot) used S)
 |0,A,used,S=>by
  show A=srcOf A.ents ([],(A.ord,A.tot))
  unfold srcOf
  rw[NS,Nl]
 | k +1,A,used,S=>by
  unfold meetM mt
  rw[kmF]
  simp only
  by_cases c:kaT T B hand used S<(stO T B hand (A.ord,A.tot) used S).2
  ·have cg:goG T B hand (A.ord,A.tot) used S=true:=decide_eq_true c
   rw[if_pos c,cg,if_pos rfl]
   rw [kiP (g:=fun O n=>match T.vs[n]? with
    |none=>([],O)
    | some V=>mt T B hand k O (used++[n]) (aftM V T.ps (kds B) S)) _ (fun n _ A=>by
     cases e:T.vs[n]? with
     |none=>
      show A=srcOf A.ents ([],(A.ord,A.tot))
      unfold srcOf
      rw[NS,Nl]
     |some V=>exact khM k A (used++[n]) _)]
   unfold srcOf
   simp only[JV,Nm,EW]
   rfl
  ·have cg:goG T B hand (A.ord,A.tot) used S=false:=decide_eq_false c
   rw[if_neg c,cg,if_neg JS]
   rfl
noncomputable def Flags(T:TillD):(List Nat×Int)→List EntG→Prop
 |_,[]=>True
 |O,e::es=>e.2.2.2=decide (e.2.2.1<(runO T O e).2)∧Flags T (runO T O e) es
theorem kha{T:TillD}:∀{es fs:List EntG}{O:List Nat×Int},Flags T O es→Flags T (es.foldl (runO T) O) fs→Flags T O (es++fs)
 |[],_,_,_,h=>h
 |_::_,_,_,⟨h1,h2⟩,h=>⟨h1,kha h2 h⟩
theorem kg1{T:TillD}{f:(List Nat×Int)→Nat→List EntG×(List Nat×Int)}:∀(l:List Nat)(O:List Nat×Int),(∀n∈l,∀O,(f O n).2=(f O n).1.foldl (runO T) O∧Flags T O (f O n).1)→(mtL f l O).2=(mtL f l O).1.foldl (runO T) O∧Flags T O (mtL f l O).1
 |[],O,_=>⟨rfl,trivial⟩
 |n::l,O,h=>by
  obtain⟨h1,h2⟩:=h n J0 O
  obtain⟨g1,g2⟩:=kg1 l (f O n).2 fun m hm=>h m (JZ _ hm)
  unfold mtL
  simp only
  rw[Mw,←h1]
  exact⟨g1,kha h2 (by rw[←h1];exact g2)⟩
theorem kgc:∀(k:Nat)(O:List Nat×Int)(used:List Nat)(S:Stnd),(mt T B hand k O used S).2=(mt T B hand k O used S).1.foldl (runO T) O∧Flags T O (mt T B hand k O used S).1
 |0,O,used,S=>⟨rfl,trivial⟩
 | k +1,O,used,S=>by
  unfold mt
  simp only
  rw[MA]
  have e0:runO T O (used,kaz S,kaT T B hand used S,goG T B hand O used S)=stO T B hand O used S:=rfl
  rw[e0]
  unfold Flags
  rw[e0]
  by_cases c:goG T B hand O used S=true
  ·rw[if_pos c]
   obtain⟨h1,h2⟩:=kg1 (T:=T) (folM T B hand used S) (stO T B hand O used S) (f:=fun O n=>match T.vs[n]? with
    |none=>([],O)
    |some V=>mt T B hand k O (used++[n]) (aftM V T.ps (kds B) S)) fun n _ O=>by
     cases e:T.vs[n]? with
     |none=>exact⟨rfl,trivial⟩
     |some V=>exact kgc k O (used++[n]) _
   exact⟨h1,rfl,h2⟩
  ·rw[if_neg c]
   exact⟨rfl,rfl,trivial⟩
noncomputable def oAt(f:(List Nat×Int)→Nat→List EntG×(List Nat×Int)):List Nat→(List Nat×Int)→Nat→(List Nat×Int)
 |[],O,_=>O
 |m::l,O,n=>if m=n then O else oAt f l (f O m).2 n
theorem kkj{f:(List Nat×Int)→Nat→List EntG×(List Nat×Int)}{e:EntG}:∀(l:List Nat)(O:List Nat×Int),l.Nodup→(e∈(mtL f l O).1↔∃n∈l,e∈(f (oAt f l O n) n).1)
 |[],O,_=>by simp[mtL]
 | m::l,O,hn=>by
  obtain⟨h1,h2⟩:=NR.mp hn
  have hrest:∀n∈l,oAt f (m::l) O n=oAt f l (f O m).2 n:=fun n hn'=>by
   show(if m=n then O else oAt f l (f O m).2 n)=_
   rw[if_neg (show ¬m=n from fun z=>h1 (z▸hn'))]
  have h0:oAt f (m::l) O m=O:=by
   show(if m=m then O else _)=O
   rw[if_pos rfl]
  have e0:(mtL f (m::l) O).1=(f O m).1++(mtL f l (f O m).2).1:=rfl
  rw[e0,Nk,kkj l (f O m).2 h2]
  constructor
  ·rintro(h|⟨n,hn',h⟩)
   ·exact⟨m,J0,by rw[h0];exact h⟩
   ·exact⟨n,JZ _ hn',by rw[hrest n hn'];exact h⟩
  ·rintro⟨n,hn',h⟩
   rcases Nc.mp hn' with e|e
   ·subst e
    rw[h0] at h
    exact .inl h
   ·rw[hrest n e] at h
    exact .inr ⟨n,e,h⟩
theorem kkQ{used:List Nat}{S:Stnd}:(folM T B hand used S).Nodup:=NO.filter _ Mu
noncomputable def blk(T:TillD)(B:Bask)(hand:List Int)(k:Nat)(used:List Nat)(S:Stnd)(O:List Nat×Int)(n:Nat):List EntG×(List Nat×Int):=match T.vs[n]? with
 |none=>([],O)
 |some V=>mt T B hand k O (used++[n]) (aftM V T.ps (kds B) S)
theorem khK{k:Nat}{O:List Nat×Int}{used:List Nat}{S:Stnd}:(mt T B hand (k+1) O used S).1=(used,kaz S,kaT T B hand used S,goG T B hand O used S)::(if goG T B hand O used S=true then(mtL (blk T B hand k used S) (folM T B hand used S) (stO T B hand O used S)).1 else []):=by
 show _::(if goG T B hand O used S=true then mtL (blk T B hand k used S) (folM T B hand used S) (stO T B hand O used S) else([],stO T B hand O used S)).1=_
 split <;> rfl
theorem mt_cases{k:Nat}{O:List Nat×Int}{used:List Nat}{S:Stnd}{e:EntG}:e∈(mt T B hand (k+1) O used S).1↔e=(used,kaz S,kaT T B hand used S,goG T B hand O used S)∨(goG T B hand O used S=true∧∃n∈folM T B hand used S,∃V,T.vs[n]?=some V∧e∈(mt T B hand k (oAt (blk T B hand k used S) (folM T B hand used S) (stO T B hand O used S) n) (used++[n]) (aftM V T.ps (kds B) S)).1):=by
 rw[khK,Nc]
 by_cases c:goG T B hand O used S=true
 ·rw [if_pos c,kkj _ _ kkQ]
  constructor
  ·rintro(h|⟨n,hn,h⟩)
   ·exact .inl h
   ·refine .inr ⟨c,n,hn,?_⟩
    unfold blk at h
    cases eV:T.vs[n]? with
    |none=>rw[eV] at h;simp at h
    |some V=>rw[eV] at h;exact⟨V,rfl,h⟩
  ·rintro(h|⟨_,n,hn,V,eV,h⟩)
   ·exact .inl h
   ·refine .inr ⟨n,hn,?_⟩
    show e∈(match T.vs[n]? with
     |none=>_
     |some V=>_:List EntG×(List Nat×Int)).1
    rw[eV]
    exact h
 ·rw[if_neg c]
  constructor
  ·rintro(h|h)
   ·exact .inl h
   ·simp at h
  ·rintro(h|⟨h,_⟩)
   ·exact .inl h
   ·exact absurd h c
theorem kgY:∀(k:Nat)(O:List Nat×Int)(used:List Nat)(S:Stnd),∀e∈(mt T B hand k O used S).1,∃r,e.1=used++r
 |0,O,used,S,e,h=>by simp[mt] at h
 | k+1,O,used,S,e,h=>by
  rcases mt_cases.mp h with h|⟨_,n,_,V,_,h⟩
  ·exact⟨[],by rw[h,Nl]⟩
  ·obtain⟨r,hr⟩:=kgY k _ (used++[n]) _ e h
   exact⟨n::r,by rw[hr,Nm];rfl⟩
theorem kgZ:∀(k:Nat)(O:List Nat×Int)(used:List Nat)(S:Stnd),∀e∈(mt T B hand k O used S).1,e.1=used∨∃f∈(mt T B hand k O used S).1,∃n,e.1=f.1++[n]
 |0,O,used,S,e,h=>by simp[mt] at h
 | k+1,O,used,S,e,h=>by
  rcases mt_cases.mp h with h|⟨c,n,hn,V,eV,h⟩
  ·exact .inl (by rw[h])
  ·refine .inr ?_
   rcases kgZ k _ (used++[n]) _ e h with h'|⟨f,hf,m,h'⟩
   ·exact⟨_,mt_cases.mpr (.inl rfl),n,h'⟩
   ·exact⟨f,mt_cases.mpr (.inr ⟨c,n,hn,V,eV,hf⟩),m,h'⟩
theorem kge:∀(p a b:List Int),SeqAt.lexL (p++a) (p++b)=SeqAt.lexL a b
 |[],_,_=>rfl
 |x::p,a,b=>by
  show(if x=x then SeqAt.lexL (p++a) (p++b) else _)=_
  rw[if_pos rfl]
  exact kge p a b
noncomputable def ltN(u v:List Nat):Prop:=SeqAt.lexL (u.map fun(n:Nat)=>(n:Int)) (v.map fun(n:Nat)=>(n:Int))=true
theorem knB(u r:List Nat)(n:Nat):ltN u (u++n::r):=by
 unfold ltN
 have:=kge (u.map fun(n:Nat)=>(n:Int)) [] ((n::r).map fun(n:Nat)=>(n:Int))
 rw[Nl] at this
 rw[JQ,this]
 rfl
theorem knC(u r s:List Nat){n m:Nat}(h:n<m):ltN (u++n::r) (u++m::s):=by
 unfold ltN
 rw[JQ,JQ,kge]
 show(if(n:Int)=(m:Int) then _ else decide ((n:Int)<(m:Int)))=true
 rw[if_neg (by omega)]
 exact decide_eq_true (by omega)
theorem kfH{f:(List Nat×Int)→Nat→List EntG×(List Nat×Int)}{used:List Nat}:∀(l:List Nat)(O:List Nat×Int),l.Pairwise (fun a b=>a<b)→(∀n∈l,∀O,(f O n).1.Pairwise fun a b=>ltN a.1 b.1)→(∀n∈l,∀O,∀e∈(f O n).1,∃r,e.1=used++n::r)→(mtL f l O).1.Pairwise (fun a b=>ltN a.1 b.1)∧∀e∈(mtL f l O).1,∃n∈l,∃r,e.1=used++n::r
 |[],O,_,_,_=>⟨NO.nil,fun e h=>by simp[mtL] at h⟩
 | n::l,O,hl,h1,h2=>by
  obtain⟨l1,l2⟩:=Mv.mp hl
  obtain⟨g1,g2⟩:=kfH l (f O n).2 l2 (fun m hm=>h1 m (JZ _ hm)) (fun m hm=>h2 m (JZ _ hm))
  have e0:(mtL f (n::l) O).1=(f O n).1++(mtL f l (f O n).2).1:=rfl
  rw[e0]
  refine⟨List.pairwise_append.mpr ⟨h1 n J0 O,g1,fun a ha b hb=>?_⟩,fun e he=>?_⟩
  ·obtain⟨r,hr⟩:=h2 n J0 O a ha
   obtain⟨m,hm,s,hs⟩:=g2 b hb
   rw[hr,hs]
   exact knC _ _ _ (l1 m hm)
  ·rcases Nk.mp he with h|h
   ·exact⟨n,J0,h2 n J0 O e h⟩
   ·obtain⟨m,hm,s,hs⟩:=g2 e h
    exact⟨m,JZ _ hm,s,hs⟩
theorem kgX:∀(k:Nat)(O:List Nat×Int)(used:List Nat)(S:Stnd),(mt T B hand k O used S).1.Pairwise fun a b=>ltN a.1 b.1
 |0,O,used,S=>NO.nil
 | k +1,O,used,S=>by
  rw[khK]
  split
  ·have hp:∀n∈folM T B hand used S,∀O,∀e∈(blk T B hand k used S O n).1,∃r,e.1=used++n::r:=fun n _ O e he=>by
    unfold blk at he
    cases eV:T.vs[n]? with
    |none=>rw[eV] at he;simp at he
    |some V=>
     rw[eV] at he
     obtain⟨r,hr⟩:=kgY k O (used++[n]) _ e he
     exact⟨r,by rw[hr,Nm];rfl⟩
   obtain⟨g1,g2⟩:=kfH (used:=used) (f:=blk T B hand k used S) (folM T B hand used S) (stO T B hand O used S) (NO.filter _ Ej) (fun n _ O=>by
    unfold blk
    cases eV:T.vs[n]? with
    |none=>exact NO.nil
    |some V=>exact kgX k O (used++[n]) _) hp
   refine Mv.mpr ⟨fun b hb=>?_,g1⟩
   obtain⟨n,_,r,hr⟩:=g2 b hb
   rw[hr]
   exact knB _ _ _
  ·exact Mv.mpr ⟨fun b hb=>by simp at hb,NO.nil⟩
noncomputable def goM(T:TillD)(B:Bask)(hand:List Int)(u:List Nat):Prop:=(walkM T B hand u [] (stnd0 B)).1=u
theorem kiX{used:List Nat}{S:Stnd}{n:Nat}(hw:walkM T B hand used [] (stnd0 B)=(used,S)):canM T B hand used S n=true↔goM T B hand (used++[n]):=by
 unfold goM
 rw[kdo used [n] [] _ S (by rw[NH];exact hw),NH]
 unfold walkM canM
 cases e:T.vs[n]? with
 |none=>
  simp only
  exact⟨fun h=>absurd h JS,fun h=>by have:=congrArg NA h;rw[JW,Np] at this;omega⟩
 | some V=>
  simp only
  by_cases c:dueM V T B hand used S n=.non
  ·rw[if_pos c]
   exact⟨fun _=>rfl,fun _=>decide_eq_true c⟩
  ·rw[if_neg c]
   exact⟨fun h=>absurd (of_decide_eq_true h) c,fun h=>by have:used.length=(used++[n]).length:=congrArg NA h;rw[JW,Np] at this;omega⟩
theorem kkf:∀(k:Nat)(O:List Nat×Int)(used:List Nat)(S:Stnd),Deep T B hand k used S→walkM T B hand used [] (stnd0 B)=(used,S)→∀e∈(mt T B hand k O used S).1,∀n,(∃f∈(mt T B hand k O used S).1,f.1=e.1++[n])↔(e.2.2.2=true∧goM T B hand (e.1++[n]))
 |0,O,used,S,_,_,e,h,_=>by simp[mt] at h
 | k +1,O,used,S,hd,hw,e,h,n=>by
  have hat:∀m∈folM T B hand used S,∀V,T.vs[m]?=some V→walkM T B hand (used++[m]) [] (stnd0 B)=(used++[m],aftM V T.ps (kds B) S):=fun m hm V hV=>by
   have hc:=(Nh.mp hm).2
   unfold canM at hc
   rw[hV] at hc
   exact kmx hw hV (of_decide_eq_true hc)
  rcases mt_cases.mp h with h'|⟨c,m,hm,V,eV,h'⟩
  ·rw [h']
   simp only
   constructor
   ·rintro⟨f,hf,hfe⟩
    rcases mt_cases.mp hf with hf|⟨c,m,hm,V,eV,hf⟩
    ·rw[hf] at hfe
     have:=congrArg NA hfe
     rw[JW,Np] at this
     simp only at this
     omega
    ·obtain⟨r,hr⟩:=kgY k _ (used++[m]) _ f hf
     rw[hr,Nm] at hfe
     have e2:=E6 hfe
     have e3:m=n:=by
      have:=congrArg List.head? e2
      simpa using this
     subst e3
     exact⟨c,(kiX hw).mp (Nh.mp hm).2⟩
   ·rintro⟨c,hg⟩
    have hc:=(kiX hw).mpr hg
    obtain⟨hn1,_⟩:=kdM hc
    obtain⟨V,hV⟩:=at_of hn1
    have hm:n∈folM T B hand used S:=Nh.mpr ⟨MT.mpr hn1,hc⟩
    have hd':=hd n hm V hV
    cases k with
    |zero=>exact hd'.elim
    |succ k=>exact⟨_,mt_cases.mpr (.inr ⟨c,n,hm,V,hV,mt_cases.mpr (.inl rfl)⟩),rfl⟩
  ·have ih:=kkf k (oAt (blk T B hand k used S) (folM T B hand used S) (stO T B hand O used S) m) (used++[m]) _ (hd m hm V eV) (hat m hm V eV) e h' n
   rw[←ih]
   obtain⟨r,hr⟩:=kgY k _ (used++[m]) _ e h'
   constructor
   ·rintro⟨f,hf,hfe⟩
    refine⟨f,?_,hfe⟩
    rcases mt_cases.mp hf with hf|⟨_,m',hm',V',eV',hf⟩
    ·rw[hf,hr] at hfe
     have:=congrArg NA hfe
     simp only[JW,Np] at this
     omega
    ·obtain⟨r',hr'⟩:=kgY k _ (used++[m']) _ f hf
     rw[hr,hr',Nm,Nm,Nm] at hfe
     have e2:=E6 hfe
     have e3:m'=m:=by
      have:=congrArg List.head? e2
      simpa using this
     subst e3
     rw[eV] at eV'
     cases eV'
     exact hf
   ·rintro⟨f,hf,hfe⟩
    exact⟨f,mt_cases.mpr (.inr ⟨c,m,hm,V,eV,hf⟩),hfe⟩
theorem kgr:∀(o u:List Nat)(S:Stnd),∃p s,o=p++s∧(walkM T B hand o u S).1=u++p
 |[],u,S=>⟨[],[],rfl,by unfold walkM;rw[Nl]⟩
 | n::o,u,S=>by
  unfold walkM
  cases e:T.vs[n]? with
  |none=>exact⟨[],n::o,rfl,by rw[Nl]⟩
  | some V=>
   simp only
   by_cases c:dueM V T B hand u S n=.non
   ·rw[if_pos c]
    obtain⟨p,s,h1,h2⟩:=kgr o (u++[n]) (aftM V T.ps (kds B) S)
    exact⟨n::p,s,by rw[h1];rfl,by rw[h2,Nm];rfl⟩
   ·rw[if_neg c]
    exact⟨[],n::o,rfl,by rw[Nl]⟩
noncomputable def goB(T:TillD)(B:Bask)(hand:List Int)(o:List Nat):Bool:=decide ((walkM T B hand o [] (stnd0 B)).1=o)
noncomputable def fltB(o:List Nat):Option (Nat×L2.V)→Bool
 |none=>true
 |some (k,z)=>eqVs [iV k,z] [iV o.length, .str "only"]
theorem knL{o:List Nat}(hm:∀n∈o,n<T.vs.length):fltB o (ke3 T B hand o)=goB T B hand o:=by
 obtain⟨p,s,h1,h2⟩:=kgr (T:=T) (B:=B) (hand:=hand) o [] (stnd0 B)
 rw[NH] at h2
 unfold ke3 goB
 simp only
 rw[h2]
 by_cases c:p.length<o.length
 ·rw[if_pos c]
  have hne:¬p=o:=fun z=>by rw[z] at c;exact NV _ c
  rw[decide_eq_false hne]
  have hx:o.getD p.length 0∈o:=by
   rw[J5,N1 c]
   exact M3 c
  obtain⟨V,hV⟩:=at_of (hm _ hx)
  rw[hV]
  show eqVs [iV p.length,_] [iV o.length, .str "only"]=false
  have e:eqV (iV p.length) (iV o.length)=false:=by
   show((p.length:Int)==(o.length:Int))=false
   exact beq_eq_false_iff_ne.mpr (by omega)
  show(eqV (iV p.length) (iV o.length)&&_)=false
  rw[e]
  rfl
 ·rw[if_neg c]
  have hl:s.length=0:=by
   have:=congrArg NA h1
   rw[JW] at this
   omega
  have hs:s=[]:=E4.mp hl
  rw[hs,Nl] at h1
  rw[←h1,decide_eq_true rfl]
  split
  ·rfl
  ·show eqVs [iV o.length, .str "only"] [iV o.length, .str "only"]=true
   exact ke5 rfl
theorem kgj{T:TillD}:∀{es:List EntG}{O:List Nat×Int}{i:Nat}{q:EntG},Flags T O es→es[i]?=some q→q.2.2.2=decide (q.2.2.1<((es.take (i+1)).foldl (runO T) O).2)
 |[],_,_,_,_,h=>by simp at h
 |e::es,O,0,q,⟨h1,_⟩,h=>by
  have ee:e=q:=by simpa using h
  subst ee
  exact h1
 |e::es,O,i+1,q,⟨_,h2⟩,h=>by
  have h':es[i]?=some q:=by simpa using h
  exact kgj (O:=runO T O e) (es:=es) h2 h'
theorem kkr:∀(u:List Int),SeqAt.lexL u u=false
 |[]=>rfl
 |x::u=>by
  show(if x=x then SeqAt.lexL u u else _)=false
  rw[if_pos rfl]
  exact kkr u
theorem klC{k:Nat}{O:List Nat×Int}{used:List Nat}{S:Stnd}{i j:Nat}{p q:EntG}(hp:(mt T B hand k O used S).1[i]?=some p)(hq:(mt T B hand k O used S).1[j]?=some q)(h:i<j):ltN p.1 q.1∧p.1≠q.1:=by
 have hs:=kgX (T:=T) (B:=B) (hand:=hand) k O used S
 obtain⟨b1,e1⟩:=JX.mp hp
 obtain⟨b2,e2⟩:=JX.mp hq
 have hlt:=Mo.mp hs i j b1 b2 h
 rw[e1,e2] at hlt
 refine⟨hlt,fun z=>?_⟩
 rw[z] at hlt
 unfold ltN at hlt
 rw[kkr] at hlt
 exact JS hlt
theorem klU(xs:List V)(x:V):cutV (xs++[x]) none (some (-1))=xs:=by
 unfold cutV
 have e:HT.sIx (xs++[x]).length (xs++[x]).length (some (-1))=xs.length:=by
  simp[HT.sIx]
  omega
 rw[e]
 simp[HT.sIx]
theorem kit{T:TillD}:∀(es:List EntG)(O:List Nat×Int),(es.foldl (runO T) O).2≤O.2
 |[],O=>Int.le_refl _
 | e::es,O=>by
  refine Int.le_trans (kit es (runO T O e)) ?_
  unfold runO
  split
  ·next h=>
   rw[NL,decide_eq_true_iff] at h
   exact Int.le_of_lt h.1
  ·exact Int.le_refl _
theorem run_eq{T:TillD}:∀(es:List EntG)(O:List Nat×Int),(es.foldl (runO T) O).2=O.2→es.foldl (runO T) O=O
 |[],O,_=>rfl
 | e::es,O,h=>by
  have h':(es.foldl (runO T) (runO T O e)).2=O.2:=h
  have h1:=kit (T:=T) es (runO T O e)
  have e1:runO T O e=O:=by
   unfold runO at h1⊢
   split at h1
   ·next c=>
    rw[NL,decide_eq_true_iff] at c
    have h2:=kit (T:=T) es (runO T O e)
    rw[h'] at h2
    unfold runO at h2
    rw[if_pos (by rw[NL,decide_eq_true_iff];exact c)] at h2
    have:O.2≤e.2.1:=h2
    omega
   ·next c=>rw[if_neg c]
  show es.foldl (runO T) (runO T O e)=O
  rw[e1] at h'⊢
  exact run_eq es O h'
theorem khD{T:TillD}:∀(es:List EntG)(O:List Nat×Int),es.foldl (runO T) O=O∨∃e∈es,(onlyM T.rs e.1).isNone=true∧es.foldl (runO T) O=(e.1,e.2.1)
 |[],O=>.inl rfl
 | e::es,O=>by
  show es.foldl (runO T) (runO T O e)=O∨∃f∈e::es,(onlyM T.rs f.1).isNone=true∧es.foldl (runO T) (runO T O e)=(f.1,f.2.1)
  rcases khD (T:=T) es (runO T O e) with h|⟨f,hf,h1,h2⟩
  ·rw[h]
   unfold runO
   split
   ·next c=>
    rw[NL] at c
    exact .inr ⟨e,J0,c.2,rfl⟩
   ·exact .inl rfl
  ·exact .inr ⟨f,JZ _ hf,h1,h2⟩
theorem kkt{a b:List Int}(h:SeqAt.lexL b a=false):a=b∨SeqAt.lexL a b=true:=by
 cases c:SeqAt.lexL a b with
 |true=>exact .inr rfl
 |false=>exact .inl (khO c h)
theorem kgf{a b:List Int}(h:SeqAt.lexL a b=true):SeqAt.lexL b a=false:=by
 cases c:SeqAt.lexL b a with
 |false=>rfl
 |true=>
  have:=lex_trans h c
  rw[kcH] at this
  cases this
theorem kks{a b c:List Int}(h:SeqAt.lexL b a=false)(k:SeqAt.lexL c b=false):SeqAt.lexL c a=false:=by
 rcases kkt h with e|e
 ·rw[e]
  exact k
 ·rcases kkt k with e'|e'
  ·rw[←e']
   exact kgf e
  ·exact kgf (lex_trans e e')
theorem km2(u r:List Int):SeqAt.lexL (u++r) u=false:=by
 have:=kge u r []
 rw[Nl] at this
 rw[this]
 cases r <;> rfl
theorem kh4{b:List Nat}{S':Stnd}:∀{a u:List Nat}{S:Stnd},walkM T B hand (a++b) u S=(u++(a++b),S')→∃S1,walkM T B hand a u S=(u++a,S1)
 |[],u,S,_=>⟨S,by unfold walkM;rw[Nl]⟩
 |n::a,u,S,h=>by
  obtain⟨V,hV,hd,h2⟩:=kcx (o:=a++b) h
  obtain⟨S1,h3⟩:=kh4 (a:=a) (u:=u++[n]) h2
  refine⟨S1,?_⟩
  unfold walkM
  rw[hV]
  simp only
  rw[if_pos hd,h3,Nm]
  rfl
structure Ppr (T:TillD) (B:Bask) (hand:List Int) (es:List EntG) (Oe:List Nat×Int):Prop where
 run:Oe=es.foldl (runO T) ([],kaz (stnd0 B))
 flg:Flags T ([],kaz (stnd0 B)) es
 goes:∀e∈es,∀n,(∃f∈es,f.1=e.1++[n])↔(e.2.2.2=true∧goM T B hand (e.1++[n]))
 srt:∀{i j:Nat}{p q:EntG},es[i]?=some p→es[j]?=some q→i<j→ltN p.1 q.1
 hd:es[0]?=some ([],kaz (stnd0 B),kaT T B hand [] (stnd0 B),goG T B hand ([],kaz (stnd0 B)) [] (stnd0 B))
 ok:∀q∈es,EntOk T B hand (offG q)
theorem Ppr.of(hl:hand.length=T.vs.length)(hr:remM hand []<10):Ppr T B hand (mt T B hand 10 ([],kaz (stnd0 B)) [] (stnd0 B)).1 (mt T B hand 10 ([],kaz (stnd0 B)) [] (stnd0 B)).2 where
 run:=(kgc 10 _ _ _).1
 flg:=(kgc 10 _ _ _).2
 goes:=kkf 10 _ _ _ (kkV hl 10 [] _ hr) rfl
 srt:=fun hp hq h=>(klC hp hq h).1
 hd:=by rw[khK];rfl
 ok:=fun q hq=>by
  have h:=kkk (T:=T) (B:=B) (hand:=hand) 10 ⟨[],kaz (stnd0 B),[]⟩ [] (stnd0 B) rfl (fun q h=>by simp at h)
  rw[khM] at h
  exact h (offG q) (Nw _ (Mh (f:=offG) hq))
theorem Ppr.step{es:List EntG}{Oe:List Nat×Int}(P:Ppr T B hand es Oe)(i:Nat):Oe.2≤((es.take (i+1)).foldl (runO T) ([],kaz (stnd0 B))).2:=by
 rw[P.run]
 conv=>lhs;rw[←MR (i+1) es,Mw]
 exact kit _ _
theorem Ppr.ahead{es:List EntG}{Oe:List Nat×Int}(P:Ppr T B hand es Oe){i:Nat}{e:EntG}(ei:es[i]?=some e)(r:List Nat){z:Int}(hz:((es.take (i+1)).foldl (runO T) ([],kaz (stnd0 B))).2≤z):ltO (z,e.1++r) (Oe.2,Oe.1)=false:=by
 have h1:=P.step i
 unfold ltO
 by_cases c:z=Oe.2
 ·rw[if_pos c]
  have eO:Oe=(es.take (i+1)).foldl (runO T) ([],kaz (stnd0 B)):=by
   have h2:(es.foldl (runO T) ([],kaz (stnd0 B))).2=((es.take (i+1)).foldl (runO T) ([],kaz (stnd0 B))).2:=by
    rw[←P.run]
    omega
   rw[P.run]
   conv at h2=>lhs;rw[←MR (i+1) es,Mw]
   conv=>lhs;rw[←MR (i+1) es,Mw]
   exact run_eq _ _ h2
  have hon:SeqAt.lexL (nI (e.1++r)) (nI e.1)=false:=by
   unfold nI
   rw[JQ]
   exact km2 _ _
  show SeqAt.lexL (nI (e.1++r)) (nI Oe.1)=false
  rcases khD (T:=T) (es.take (i+1)) ([],kaz (stnd0 B)) with h|⟨f,hf,_,h⟩
  ·rw[eO,h]
   show SeqAt.lexL _ []=false
   cases nI (e.1++r) <;> rfl
  ·rw[eO,h]
   obtain⟨j,ej⟩:=NU hf
   have hj:j<i+1:=by have:=at_lt ej;rw[Na] at this;omega
   rw[ML hj] at ej
   refine kks (b:=nI e.1) ?_ hon
   by_cases cj:j=i
   ·subst cj
    rw[ei] at ej
    cases ej
    exact kcH _
   ·exact kgf (P.srt ej ei (by omega))
 ·rw[if_neg c]
  exact decide_eq_false (by show ¬z<Oe.2;omega)
theorem Ppr.pre{es:List EntG}{Oe:List Nat×Int}(P:Ppr T B hand es Oe){S:Stnd}:∀(r p:List Nat),(∃e∈es,e.1=p)→walkM T B hand (p++r) [] (stnd0 B)=(p++r,S)→(∃e∈es,e.1=p++r)∨∃e∈es,∃r',p++r=e.1++r'∧e.2.2.2=false
 |[],p,h,_=>.inl (by rw[Nl];exact h)
 | n::r,p,⟨e,he,ep⟩,hw=>by
  have ea:p++n::r=(p++[n])++r:=by rw[Nm];rfl
  cases c:e.2.2.2 with
  |false=>exact .inr ⟨e,he,n::r,by rw[ep],c⟩
  | true=>
   rw[ea] at hw⊢
   obtain⟨S1,h1⟩:=kh4 (a:=p++[n]) (b:=r) (u:=[]) hw
   have hg:goM T B hand (e.1++[n]):=by
    unfold goM
    rw[ep,h1]
    rfl
   obtain⟨f,hf,ef⟩:=(P.goes e he n).mpr ⟨c,hg⟩
   exact P.pre r (p++[n]) ⟨f,hf,by rw[ef,ep]⟩ hw
theorem Ppr.min{es:List EntG}{Oe:List Nat×Int}(P:Ppr T B hand es Oe)(tok:kbm T)(wf0:Wf T.ps B (stnd0 B))(hl:hand.length=T.vs.length)(hz:∀z∈hand,0≤z){o:List Nat}{S:Stnd}(hw:walkM T B hand o [] (stnd0 B)=(o,S))(ho:(onlyM T.rs o).isNone=true):ltO (kaz S,o) (Oe.2,Oe.1)=false:=by
 rcases P.pre o [] ⟨_,JO P.hd,rfl⟩ hw with⟨e,he,ee⟩|⟨e,he,r,er,hf⟩
 ·rw[NH] at ee
  obtain⟨i,ei⟩:=NU he
  obtain⟨S',h1,h2,h3⟩:=P.ok e he
  have hS:S'=S:=by
   have h1':walkM T B hand e.1 [] (stnd0 B)=(e.1,S'):=h1
   rw[ee,hw] at h1'
   injection h1' with _ h
   exact h.symm
  have h2':e.2.1=kaz S:=by rw[←hS];exact h2
  have:=P.ahead ei [] (z:=kaz S) (by
   rw[take_snoc ei,Mw]
   show(runO T _ e).2≤_
   generalize (es.take i).foldl (runO T) ([],kaz (stnd0 B))=O
   unfold runO
   rw[ee,ho,MN]
   by_cases c:e.2.1<O.2
   ·rw[decide_eq_true c,if_pos rfl,←h2']
    exact Int.le_refl _
   ·rw[decide_eq_false c,if_neg JS,←h2']
    omega)
  rw[Nl,ee] at this
  exact this
 ·rw[NH] at er
  obtain⟨i,ei⟩:=NU he
  obtain⟨S',h1,h2,h3⟩:=P.ok e he
  have hfl:=kgj P.flg ei
  rw[hf] at hfl
  have hge:=of_decide_eq_false hfl.symm
  have hlow:=kku tok wf0 hl hz (used:=e.1) (r:=r) (S:=S') (S':=S) h1 (by rw[←er];exact hw)
  have h3':e.2.2.1=kaT T B hand e.1 S':=h3
  have:=P.ahead ei r (z:=kaz S) (by omega)
  rw[←er] at this
  exact this
theorem ent_w{q:List Nat×Int×Int}(h:EntOk T B hand q):EntW T B hand q:=by
 obtain⟨S,h1,h2,h3⟩:=h
 unfold EntW
 rw[h1]
 exact⟨rfl,h2.symm,h3.symm⟩
theorem knK{u:List Nat}{S:Stnd}{n:Nat}(hw:walkM T B hand u [] (stnd0 B)=(u,S))(hn:n∈folM T B hand u S):goM T B hand (u++[n]):=(kiX hw).mp (Nh.mp hn).2
theorem mem_let{T:TillD}{qs:List (List Nat×Int×Int)}{x:TO}:x∈letQ T qs↔∃q∈qs,(onlyM T.rs q.1).isNone=true∧(q.2.1,q.1)=x:=by
 unfold letQ
 rw[J4]
 constructor
 ·rintro⟨q,hq,e⟩
  have:=Nh.mp hq
  exact⟨q,this.1,this.2,e⟩
 ·rintro⟨q,hq,h,e⟩
  exact⟨q,Nh.mpr ⟨hq,h⟩,e⟩
theorem Ppr.mine{es:List EntG}{Oe:List Nat×Int}(P:Ppr T B hand es Oe):(Oe.2,Oe.1)∈letQ T (es.map offG):=by
 rw[mem_let]
 rcases khD (T:=T) es ([],kaz (stnd0 B)) with h|⟨e,he,h1,h2⟩
 ·refine⟨offG _,Mh (f:=offG) (JO P.hd),kgS _,?_⟩
  rw[P.run,h]
  rfl
 ·refine⟨offG e,Mh (f:=offG) he,h1,?_⟩
  rw[P.run,h2]
  rfl
theorem Ppr.holds{es:List EntG}{Oe:List Nat×Int}(P:Ppr T B hand es Oe)(tok:kbm T)(wf0:Wf T.ps B (stnd0 B))(hl:hand.length=T.vs.length)(hz:∀z∈hand,0≤z):kfh T B hand Oe.1 Oe.2 (es.map offG):=by
 refine⟨fun q hq=>?_,⟨_,Mh (f:=offG) (JO P.hd),rfl⟩,fun q hq ht n hn=>?_,P.mine,fun x hx=>?_⟩
 ·obtain⟨e,he,rfl⟩:=J4.mp hq
  exact ent_w (P.ok e he)
 ·obtain⟨e,he,rfl⟩:=J4.mp hq
  obtain⟨i,ei⟩:=NU he
  obtain⟨S,h1,h2,h3⟩:=P.ok e he
  have h1':walkM T B hand e.1 [] (stnd0 B)=(e.1,S):=h1
  have hg:goM T B hand (e.1++[n]):=knK h1' (by
   have:n∈folM T B hand e.1 (walkM T B hand e.1 [] (stnd0 B)).2:=hn
   rw[h1'] at this
   exact this)
  have hs:=P.step i
  have ht':e.2.2.1<Oe.2:=ht
  have hfl:=kgj P.flg ei
  rw[decide_eq_true (by omega)] at hfl
  obtain⟨f,hf,ef⟩:=(P.goes e he n).mpr ⟨hfl,hg⟩
  exact⟨offG f,Mh (f:=offG) hf,ef⟩
 ·obtain⟨q,hq,h1,rfl⟩:=mem_let.mp hx
  obtain⟨e,he,rfl⟩:=J4.mp hq
  obtain⟨S,g1,g2,g3⟩:=P.ok e he
  rw[g2]
  exact P.min tok wf0 hl hz g1 h1
theorem mapAt{α β:Type}{f: α→β}{xs:List α}{i:Nat}{y: β}(h:(xs.map f)[i]?=some y):∃x,xs[i]?=some x∧f x=y:=by
 rw[JU] at h
 cases c:xs[i]? with
 |none=>rw[c] at h;cases h
 |some x=>
  rw[c] at h
  cases h
  exact⟨x,rfl,rfl⟩
theorem Ppr.one{es:List EntG}{Oe:List Nat×Int}(P:Ppr T B hand es Oe){i j:Nat}{p q:List Nat×Int×Int}(hp:(es.map offG)[i]?=some p)(hq:(es.map offG)[j]?=some q)(e:p.1=q.1):i=j:=by
 obtain⟨p',ep,rfl⟩:=mapAt hp
 obtain⟨q',eq,rfl⟩:=mapAt hq
 have e':p'.1=q'.1:=e
 rcases Nat.lt_trichotomy i j with h|h|h
 ·have:=P.srt ep eq h
  unfold ltN at this
  rw[e',kcH] at this
  cases this
 ·exact h
 ·have:=P.srt eq ep h
  unfold ltN at this
  rw[e',kcH] at this
  cases this
noncomputable def kfg(qs:List (List Nat×Int×Int))(total:Int)(qs':List (List Nat×Int×Int)):Prop:=
 (∃(k:Nat)(q:List Nat×Int×Int)(a b:Int),qs[k]?=some q∧(a≠0∨b≠0)∧qs'=qs.set k (q.1,q.2.1+a,q.2.2+b))∨qs'=qs.drop 1∨
 ∃(k:Nat)(q f:List Nat×Int×Int)(n:Nat),qs[k]?=some q∧f∈qs∧q.1=f.1++[n]∧f.2.2<total∧qs'=qs.take k++qs.drop (k+1)
theorem Ppr.entW{es:List EntG}{Oe:List Nat×Int}(P:Ppr T B hand es Oe){q:List Nat×Int×Int}(hq:q∈es.map offG):EntW T B hand q:=by
 obtain⟨e,he,rfl⟩:=J4.mp hq
 exact ent_w (P.ok e he)
theorem Ppr.spoilt{es:List EntG}{Oe:List Nat×Int}(P:Ppr T B hand es Oe){order:List Nat}{total:Int}{qs':List (List Nat×Int×Int)}(hs:kfg (es.map offG) total qs'):¬kfh T B hand order total qs':=by
 rintro⟨h1,h2,h3,h4⟩
 rcases hs with⟨k,q,a,b,eq,hab,rfl⟩|rfl|⟨k,q,f,n,eq,hf,hqf,hft,rfl⟩
 ·have hk:=at_lt eq
  have hm:(q.1,q.2.1+a,q.2.2+b)∈(es.map offG).set k (q.1,q.2.1+a,q.2.2+b):=JO (i:=k) (by rw[MG hk])
  obtain⟨w1,w2,w3⟩:=h1 _ hm
  obtain⟨v1,v2,v3⟩:=P.entW (JO eq)
  have e2:q.2.1=q.2.1+a:=v2.symm.trans w2
  have e3:q.2.2=q.2.2+b:=v3.symm.trans w3
  omega
 ·obtain⟨q,hq,e⟩:=h2
  obtain⟨j,ej⟩:=NU hq
  rw[Eh] at ej
  have:=P.one (i:=0) (j:=1+j) (by rw[JU,P.hd];rfl) ej e.symm
  omega
 ·obtain⟨kf,ef⟩:=NU hf
  have hne:kf≠k:=fun z=>by
   subst z
   rw[eq] at ef
   cases ef
   have:=congrArg NA hqf
   rw[JW,Np] at this
   omega
  have hmem:∀(i:Nat)(z:List Nat×Int×Int),(es.map offG)[i]?=some z→i≠k→z∈(es.map offG).take k++(es.map offG).drop (k+1):=fun i z ez hi=>by
   rw[Nk]
   by_cases c:i<k
   ·exact .inl (JO (i:=i) (by rw[ML c];exact ez))
   ·refine .inr (JO (i:=i-(k+1)) ?_)
    rw[Eh,show k+1+(i-(k+1))=i by omega]
    exact ez
  obtain⟨e,he,rfl⟩:=J4.mp hf
  obtain⟨S,g1,g2,g3⟩:=P.ok e he
  obtain⟨v1,_,_⟩:=P.entW (JO eq)
  have hgo:goM T B hand ((offG e).1++[n]):=by
   unfold goM
   rw[←hqf]
   exact v1
  have hcan:=(kiX g1).mpr hgo
  have hn:n<T.vs.length:=by
   unfold canM at hcan
   cases c:T.vs[n]? with
   |none=>rw[c] at hcan;cases hcan
   |some V=>exact at_lt c
  obtain⟨q',hq',e'⟩:=h3 (offG e) (hmem kf _ ef hne) hft n (by rw[g1];exact Nh.mpr ⟨MT.mpr hn,hcan⟩)
  rcases Nk.mp hq' with h|h
  ·obtain⟨j,ej⟩:=NU h
   have hj:j<k:=by have:=at_lt ej;rw[Na] at this;omega
   rw[ML hj] at ej
   have:=P.one ej eq (by rw[e',hqf])
   omega
  ·obtain⟨j,ej⟩:=NU h
   rw[Eh] at ej
   have:=P.one ej eq (by rw[e',hqf])
   omega
theorem Ppr.same{es:List EntG}{Oe:List Nat×Int}(P:Ppr T B hand es Oe)(tok:kbm T)(wf0:Wf T.ps B (stnd0 B))(hl:hand.length=T.vs.length)(hz:∀z∈hand,0≤z){order:List Nat}{total:Int}(h:kfh T B hand order total (es.map offG)):total=Oe.2∧order=Oe.1:=by
 have:=h.2.2.2.one (P.holds tok wf0 hl hz).2.2.2
 injection this with h1 h2
 exact⟨h1,h2⟩
theorem kk8{order:List Nat}{total:Int}{qs:List (List Nat×Int×Int)}{q:List Nat×Int×Int}(hq:q∈qs)(hg:goB T B hand q.1=false):¬kfh T B hand order total qs:=fun h=>by
 have:=(h.1 q hq).1
 unfold goB at hg
 exact of_decide_eq_false hg this
theorem ki2{qs qs':List (List Nat×Int×Int)}{total:Int}(h:qs.length≤600)(hs:kfg qs total qs'):qs'.length≤1000:=by
 rcases hs with⟨k,q,a,b,_,_,rfl⟩|rfl|⟨k,q,f,n,_,_,_,_,rfl⟩
 ·rw[Mb]
  omega
 ·rw[N5]
  omega
 ·rw[JW,Na,N5]
  omega
theorem ki1{P:List Nat→Prop}{qs qs':List (List Nat×Int×Int)}{total:Int}(h:∀q∈qs,P q.1)(hs:kfg qs total qs'):∀q∈qs',P q.1:=by
 rcases hs with⟨k,q,a,b,eq,_,rfl⟩|rfl|⟨k,q,f,n,_,_,_,_,rfl⟩
 ·intro z hz
  rcases En hz with h'|h'
  ·exact h z h'
  ·rw[h']
   exact h q (JO eq)
 ·exact fun z hz=>h z (EG hz)
 ·intro z hz
  rcases Nk.mp hz with h'|h'
  ·exact h z (Mx h')
  ·exact h z (EG h')
inductive kif (vs:List V) (H:Hp) (Q:VK) (E_:XK):Prop
 |ct (pp:Addr)(total:Int)(ea:List Addr)(qs:List (List Nat×Int×Int))(_:vs=[.ref pp, .int total])(_:H pp=some (.lst (ea.map V.ref)))(_:P2 (fun e q=>EntAt H e q) ea qs)(_:qs.length≤1000)(_:(∀(i j:Nat)(p q:List Nat×Int×Int),qs[i]?=some p→qs[j]?=some q→p.1=q.1→i=j))(_:(∀(k:Nat)(q:List Nat×Int×Int),0<k→qs[k]?=some q→∃f∈qs,∃n,q.1=f.1++[n]))(_:∀(H':Hp)(c:Addr)(ks:List Nat),Same H H'→H' c=some (.lst (ks.map iV))→ks.length≤1000→(∀k∈ks,∃q f n,qs[k]?=some q∧f∈qs∧q.1=f.1++[n]∧f.2.2<total)→Q (.ref c) H'):kif vs H Q E_
theorem Xy:kas ["_law_paper","_law_total","_law_least","_law_entry"] ["_law_paper","_law_total"] (kah kb4):=by ac_rfl
theorem kfp(W:WB K mg d base):FO P w W 1 d.Y1 d.Y2 ["_law_paper","_law_total"] kif:=by
 exists W.Vg.F,Xy
 ·obtain⟨pp,total,ea,qs,rfl,hpp,hea,lqs,hone,hpar,kk⟩:=h
  have lea:=hea.len
  refine⟨_,kab (psl (i:=2) Xy.nd kiB)
   (kab (kaZ PassesOwn.never rfl (kaE (K:=K) (pv 0)) (pgn (i:=3) Xy.nd)
   (kag (kj5 (hu_of hr) (pv 2) (kaA (r:=kgL K) kdN (by rfl) W.B.tuple kgp (kaa (pe_ix (r:=rIxT K) kcR (pv 3) kaf (fun _ _=>rfl)) kad)) (pe_ix (r:=rIxT K) kcR (pv 3) kaf (fun _ _=>rfl)) rfl)))
   (kag (kao (kev (N:=["_law_k","_law_least","_law_paper","_law_total"]) (CompScope.of (N:=["_law_k","_law_least","_law_paper","_law_total"]) (cap:=[none,some 2,some 0,some 1]) (kah kb4).names ["_law_paper","_law_total","_law_least","_law_entry"] rfl rfl (by decide +kernel)) rfl (kj9 rfl W.B.range (kaa kaf (kaa (kaq (r:=kaK K) kar (by rfl) W.B.len b_len (kaa (pv 0) kad)) kad))) (fun _ _ _ _=>pgn (i:=0) (show(["_law_k","_law_least","_law_paper","_law_total"]:List Str).Nodup by decide +kernel)) (fun _ _ _ _=>kf5 (kam op_lt (kmQ (hu_of hr) (pv 1) (kaA (r:=kgL K) kdN (by rfl) W.B.tuple kgp (kaa (kbn (r:=rSlL K) kbR (pe_ix (r:=rIxT K) kcR (pe_ix (r:=rIxL K) kaO (pv 2) (pv 0) (fun _ _=>rfl)) kaf (fun _ _=>rfl)) kcd (kbI (pe_un kjo kaf))) kad)) (fun _ _=>rfl)) (pv 3) (kat _))) (fun _ _ _ _=>(pv 0)))))),?_⟩
  intro m fm
  exists H,m,H1,n1,e1,fm
  refine⟨_,rfl,pp,rfl,⟨_,SqL.of (n1 _ _ hpp)⟩,kaP (xs:=ea.map V.ref) (fun i σ H'=>Same H H'∧∃(kvs:List (List Key×V))(v3:Option V),H' m=some (.dT kvs)∧kvs.length≤i∧(∀j q,j<i→qs[j]?=some q→valV kvs (kyO q.1)=some (.int q.2.2))∧σ=[some (.ref pp),some (.int total),some (.ref m),v3])
   ⟨n1,[],none,e1,JK _,fun j q hj=>by omega,rfl⟩ (fun i σ H' _ h=>SqL.of (h.1 _ _ hpp)) ?_ ?_⟩
  ·rintro i y σ H' hy ⟨s,kvs,v3,em,lk,hk,rfl⟩
   obtain⟨e,ee,rfl⟩:=kbj hy
   obtain⟨q,eq,l,he,hle⟩:=hea.at ee
   have hi:=at_lt eq
   refine⟨_,rfl,e,_,_,_,rfl,rfl,SqT.of (s _ _ he),rfl,_,rfl,_,rfl,e,_,_,_,rfl,rfl,SqT.of (s _ _ he),rfl,l,_,rfl,SqL.of (s _ _ hle),fun k fk=>?_⟩
   exists H',k,H2,n2,e2,fk
   have em2:=n2 _ _ em
   refine⟨m,_,rfl,DPut.t (k:=kyO q.1) em2 (by rw[kiK];exact e2) (kau (by omega)),kaw fm (s.trans n2) (nx em2),_,_,kae,JN (kcI _ _ _) (by omega),fun j q' hj eq'=>?_,rfl⟩
   rw[kh7]
   by_cases c:j=i
   ·subst c
    rw[eq] at eq'
    cases eq'
    rw[if_pos rfl]
   ·rw[if_neg fun z=>c (hone j i q' q eq' eq (kkz z))]
    exact hk j q' (by omega) eq'
  rintro σ H2 ⟨s2,kvs,v3,em,lk,hk,rfl⟩
  rw[JJ,lea] at hk
  refine⟨_,rfl,pp,_,rfl, .inl (SqL.of (s2 _ _ hpp)),_,_,rfl,⟨by omega,by omega,by omega,by rw[JJ];omega⟩,?_⟩
  rw[show((((ea.map V.ref).length:Nat):Int)-1).toNat=qs.length-1 by rw[JJ];omega]
  refine kfa (fun i σ ys H'=>Same H2 H'∧∃(ks:List Nat)(v0:Option V),ys=ks.map iV∧ks.length≤i∧(∀k∈ks,∃q f n,qs[k]?=some q∧f∈qs∧q.1=f.1++[n]∧f.2.2<total)∧σ=[v0,some (.ref m),some (.ref pp),some (.int total)]) ⟨Same.refl _,[],none,rfl,JK _,fun k hk'=>by simp at hk',rfl⟩ (JY (kau (by omega))) ?_ ?_ ?_
  ·rintro i σ ys H' hi ⟨_,ks,v0,rfl,lks,_,_⟩
   rw[JJ]
   exact lks
  ·rintro i σ ys H3 hi ⟨s3,ks,v0,rfl,lks,hks,rfl⟩
   rw[show((1:Int)+(i:Int))=((i+1:Nat):Int) by omega]
   obtain⟨e,ee⟩:=at_of (show i+1<ea.length by omega)
   obtain⟨q,eq,l,he,hle⟩:=hea.at ee
   have s03:=s2.trans s3
   obtain⟨f,hf,n,hfn⟩:=hpar (i+1) q (Nat.succ_pos _) eq
   obtain⟨jf,ejf⟩:=NU hf
   refine⟨_,rfl,_,rfl,_,rfl,pp,_,_,_,rfl,rfl,SqL.of (s03 _ _ hpp),kaY (v:=V.ref e) (by rw[JU,ee];rfl),e,_,_,_,rfl,rfl,SqT.of (s03 _ _ he),rfl,_,rfl,_,rfl,l,_,rfl,SqL.of (s03 _ _ hle),fun c4 fc4=>?_⟩
   have ecut:cutV (q.1.map iV) none (some (-1))=f.1.map iV:=by
    rw[hfn,JQ]
    exact klU _ _
   rw[ecut]
   exists H3,c4,H4,n4,e4,fc4
   refine⟨c4,_,rfl,SqL.of e4,fun k5 fk5=>?_⟩
   exists H4,k5,H5,n5,e5,fk5
   have s35:=n4.trans n5
   have hget:=DGet.t (k:=kyO f.1) ((s3.trans s35) _ _ em) (show H5 k5=some (.tup ((kyO f.1).map kV)) by rw[kiK];exact e5)
   rw[hk jf f (at_lt ejf) ejf] at hget
   refine⟨m,_,rfl,hget,_,rfl,_,_,rfl,rfl,_,rfl,?_⟩
   by_cases c:f.2.2<total
   ·rw[decide_eq_true c]
    refine iteT ⟨_,rfl,s3.trans s35,ks++[i+1],_,by rw[JQ];rfl,by rw[JW,Np];omega,fun k hk'=>?_,rfl⟩
    rcases Nk.mp hk' with h'|h'
    ·exact hks k h'
    ·have ek:k=i+1:=by simpa using h'
     rw[ek]
     exact⟨q,f,n,eq,hf,hfn,c⟩
   ·rw[decide_eq_false c]
    exact iteF ⟨s3.trans s35,ks,_,rfl,by omega,hks,rfl⟩
  ·rintro σ ys H3 ⟨s3,ks,v0,rfl,lks,hks,rfl⟩ c fc
   exists H3,c,H4,n4,e4,fc
   exact kk H4 c ks (s2.trans (s3.trans n4)) e4 (by omega) hks
inductive kjK (vs:List V) (H:Hp) (Q:VK) (E_:XK):Prop
 |ct (pp:Addr)(k:Nat)(a b:Int)(ea:List Addr)(qs:List (List Nat×Int×Int))(q:List Nat×Int×Int)(_:vs=[.ref pp,iV k, .int a, .int b])(_:H pp=some (.lst (ea.map V.ref)))(_:P2 (fun e q=>EntAt H e q) ea qs)(_:qs.length≤900)(_:qs[k]?=some q)(_:∀(H':Hp)(c:Addr)(ea':List Addr),Same H H'→H' c=some (.lst (ea'.map V.ref))→P2 (fun e q=>EntAt H' e q) ea' (qs.set k (q.1,q.2.1+a,q.2.2+b))→Q (.ref c) H'):kjK vs H Q E_
theorem QJ:kas ["_law_paper","_law_place","_law_by_total","_law_by_least","_law_order","_law_total","_law_least"] ["_law_paper","_law_place","_law_by_total","_law_by_least"] (kah kcT):=by ac_rfl
theorem kf8(W:WB K mg d base):FO P w W 1 d.Y3 d.Y5 ["_law_paper","_law_place","_law_by_total","_law_by_least"] kjK:=by
 exists W.Qs.F,QJ
 ·obtain⟨pp,k,a,b,ea,qs,q,rfl,hpp,hea,lqs,eq,kk⟩:=h
  have lea:=hea.len
  have hk:=at_lt eq
  obtain⟨e,ee⟩:=at_of (show k<ea.length by omega)
  obtain⟨q',eq',l,he,hle⟩:=hea.at ee
  rw[eq] at eq'
  cases eq'
  refine⟨_,kab (kdf (pe_ix (r:=rIxL K) kaO (pv 0) (pv 1) (fun _ _=>rfl)) (kbb (K:=K) (n:=3) rfl (kay (pgn (i:=4) QJ.nd) (kay (pgn (i:=5) QJ.nd) (kay (pgn (i:=6) QJ.nd) kba)))))
   (kag (kao (pe_op keN (pe_op keN (kbn (r:=rSlL K) kbR (pv 0) kcd (kbI (pv 1))) (kaS (kaa (kb0 (kaa (pv 4) (kaa (pe_op kb3 (pv 5) (pv 2)) (kaa (pe_op kb3 (pv 6) (pv 3)) kad)))) kad))) (kbn (r:=rSlL K) kbR (pv 0) (kbI (pe_op kb3 (pv 1) kaf)) kcd)))),?_⟩
  refine⟨_,rfl,_,rfl,pp,_,_,_,rfl,rfl,SqL.of hpp,kaY (v:=V.ref e) (by rw[JU,ee];rfl),?_⟩
  refine⟨e,_,rfl,SqT.of he,rfl,_,_,rfl,_,_,rfl,_,_,rfl,rfl,?_⟩
  refine⟨_,rfl,_,rfl,_,rfl,pp,_,rfl,SqL.of hpp,fun c1 fc1=>?_⟩
  rw[khc]
  exists H,c1,H1,n1,e1,fc1
  refine⟨_,rfl,_,rfl,_,rfl,_,_,rfl,rfl,_,rfl,_,rfl,_,_,rfl,rfl,(by show 3≤sizeLine;decide),fun e2 fe2=>?_⟩
  exists H1,e2,H2,n2,ee2,fe2
  refine⟨(by show 1≤sizeLine;decide),fun c3 fc3=>?_⟩
  exists H2,c3,H3,n3,e3,fc3
  have s13:=n2.trans n3
  refine⟨c1,c3,_,_,rfl,rfl,s13 _ _ e1,e3,JY (kau (by rw[Na,JJ];show _+1≤1000;omega)),fun c4 fc4=>?_⟩
  exists H3,c4,H4,n4,e4,fc4
  have s04:=(n1.trans s13).trans n4
  refine⟨_,rfl,_,rfl,_,_,rfl,rfl,_,rfl,pp,_,rfl,SqL.of (s04 _ _ hpp),fun c5 fc5=>?_⟩
  rw[show((k:Int)+1)=((k+1:Nat):Int) by omega,kgl]
  exists H4,c5,H5,n5,e5,fc5
  refine⟨c4,c5,_,_,rfl,rfl,n5 _ _ e4,e5,JY (kau (by rw[JW,Na,JJ,N5,JJ];show _+1+_≤1000;omega)),fun c6 fc6=>?_⟩
  rw[show(ea.map V.ref).take k++[V.ref e2]++(ea.map V.ref).drop (k+1)=(ea.take k++[e2]++ea.drop (k+1)).map V.ref by rw[JQ,JQ,MB,Me];rfl]
  exists H5,c6,H6,n6,e6,fc6
  have s06:=(s04.trans n5).trans n6
  have s26:=((n3.trans n4).trans n5).trans n6
  refine kk H6 c6 _ s06 e6 ?_
  rw[List.set_eq_take_append_cons_drop,if_pos hk]
  have hm:=hea.mono fun e q h=>h.same s06
  have hx:=((hm.take k).snoc (b:=(q.1,q.2.1+a,q.2.2+b)) (a:=e2) ⟨l,s26 _ _ ee2,s06 _ _ hle⟩).append (hm.drop (k+1))
  rw[Nm (qs.take k)] at hx
  exact hx
inductive kid (vs:List V) (H:Hp) (Q:VK) (E_:XK):Prop
 |ct (pp:Addr)(total c:Int)(ea:List Addr)(qs:List (List Nat×Int×Int))(_:vs=[.ref pp, .int total, .int c])(_:H pp=some (.lst (ea.map V.ref)))(_:P2 (fun e q=>EntAt H e q) ea qs)(_:0<qs.length)(_:qs.length≤900)(_:(∀(i j:Nat)(p q:List Nat×Int×Int),qs[i]?=some p→qs[j]?=some q→p.1=q.1→i=j))(_:(∀(k:Nat)(q:List Nat×Int×Int),0<k→qs[k]?=some q→∃f∈qs,∃n,q.1=f.1++[n]))(_:∀(H':Hp)(x:Addr)(ea':List Addr)(qs':List (List Nat×Int×Int)),Same H H'→H' x=some (.lst (ea'.map V.ref))→P2 (fun e q=>EntAt H' e q) ea' qs'→kfg qs total qs'→Q (.ref x) H'):kid vs H Q E_
theorem Qo:kas ["_law_paper","_law_total","_law_cell","_law_place","_law_step","_law_needed_here"] ["_law_paper","_law_total","_law_cell"] (kah kcD):=by ac_rfl
theorem kfo(W:WB K mg d base):FO P w W 2 d.Y7 d.Y9 ["_law_paper","_law_total","_law_cell"] kid:=by
 exists W.Vh.F,Qo
 ·obtain⟨pp,total,c,ea,qs,rfl,hpp,hea,lpos,lqs,hone,hpar,kk⟩:=h
  have lea:=hea.len
  exists Xz,kf8,W
  exists UM,kfp,W
  refine⟨_,kab (psl (i:=3) Qo.nd (pe_op kaC (pe_op kaD (pv 2) kaf) (kaq (r:=kaK K) kar (by rfl) W.B.len b_len (kaa (pv 0) kad))))
   (kab (psl (i:=4) Qo.nd (pe_op kdg kaf (pe_op kcy kaf (pe_op kaC (pe_op kaD (pv 2) kaf) kaf))))
   (kab (ps_if (kam op_eq (pe_op kaC (pv 2) kaf) kaf (kat _)) (kag (kao (pcl Xz hr W.Qs (kaa (pv 0) (kaa (pv 3) (kaa (pv 4) (kaa kaf kad))))))) (kap))
   (kab (ps_if (kam op_eq (pe_op kaC (pv 2) kaf) kaf (kat _)) (kag (kao (pcl Xz hr W.Qs (kaa (pv 0) (kaa (pv 3) (kaa kaf (kaa (pv 4) kad))))))) (kap))
   (kab (ps_if (kam op_eq (pe_op kaC (pv 2) kaf) kaf (kat _)) (kag (kao (kbn (r:=rSlL K) kbR (pv 0) (kbI kaf) kcd))) (kap))
   (kab (psl (i:=5) Qo.nd (pcl UM hr W.Vg (kaa (pv 0) (kaa (pv 1) kad))))
   (kab (ps_if (PW.pt (ka7 (kam op_eq (pe_op kaC (pv 2) kaf) kaf (kat _)) (kaV (kam op_gt (kaq (r:=kaK K) kar (by rfl) W.B.len b_len (kaa (pv 5) kad)) kaf (kat _))))) (kab (psl (i:=3) Qo.nd (pe_ix (r:=rIxL K) kaO (pv 5) (pe_op kaC (pe_op kaD (pv 2) kaf) (kaq (r:=kaK K) kar (by rfl) W.B.len b_len (kaa (pv 5) kad))) (fun _ _=>rfl)))
   (kag (kao (pe_op keN (kbn (r:=rSlL K) kbR (pv 0) kcd (kbI (pv 3))) (kbn (r:=rSlL K) kbR (pv 0) (kbI (pe_op kb3 (pv 3) kaf)) kcd))))) (kap))
   (kag (kao (pcl Xz hr W.Qs (kaa (pv 0) (kaa (pv 3) (kaa kaf (kaa (pe_op kcy (pv 4) kaf) kad))))))))))))),?_⟩
  refine sN fun A1 hA1=>?_
  refine⟨_,rfl,_,_,rfl,rfl,⟨by decide,by decide⟩,_,rfl,pp,_,rfl, .inl (SqL.of hpp),_,_,rfl,rfl,(by rw[JJ];show(0:Int)<((ea.length:Nat):Int);omega),?_⟩
  obtain⟨p,hp,ep⟩:∃p:Nat,p<qs.length∧c/5%(((ea.map V.ref).length:Nat):Int)=(p:Int):=by
   rw[JJ,lea]
   have h1:=Int.emod_nonneg (c/5) (b:=(qs.length:Int)) (by omega)
   have h2:=Int.emod_lt_of_pos (c/5) (b:=(qs.length:Int)) (by omega)
   exact⟨(c/5%(qs.length:Int)).toNat,by omega,by omega⟩
  show gName 3 (V.int (c/5%(((ea.map V.ref).length:Nat):Int))) _ _ _
  rw[ep]
  clear ep
  obtain⟨q,eq⟩:=at_of hp
  refine hA1 _ _ ?_
  refine sN fun A2 hA2=>?_
  refine⟨_,rfl,_,_,rfl,rfl,⟨by decide,by decide⟩,_,_,rfl,rfl,(by show(0:Int)<2;decide),_,_,rfl,rfl, .inl ⟨by decide,by decide⟩,_,_,rfl,rfl,?_⟩
  have hst:(1:Int)-2*(c/5000%2)≠0:=by omega
  show gName 4 (V.int (1-2*(c/5000%2))) _ _ _
  generalize (1:Int)-2*(c/5000%2)=st at *
  refine hA2 _ _ ?_
  refine sN fun A3 hA3=>?_
  refine⟨_,rfl,_,_,rfl,rfl,(by show(0:Int)<5;decide),rfl,_,rfl,ite2 (fun _=>?_) (fun _=>hA3 _ _ ?_)⟩
  ·exact⟨_,rfl,_,rfl,_,rfl,pp,p,st,0,ea,qs,q,rfl,hpp,hea,lqs,eq,fun H' x ea' s e hp2=>kk H' x ea' _ s e hp2 (.inl ⟨p,q,st,0,eq, .inl hst,rfl⟩)⟩
  refine sN fun A4 hA4=>?_
  refine⟨_,rfl,_,_,rfl,rfl,(by show(0:Int)<5;decide),rfl,_,rfl,ite2 (fun _=>?_) (fun _=>hA4 _ _ ?_)⟩
  ·exact⟨_,rfl,_,rfl,_,rfl,pp,p,0,st,ea,qs,q,rfl,hpp,hea,lqs,eq,fun H' x ea' s e hp2=>kk H' x ea' _ s e hp2 (.inl ⟨p,q,0,st,eq, .inr hst,rfl⟩)⟩
  refine sN fun A5 hA5=>?_
  refine⟨_,rfl,_,_,rfl,rfl,(by show(0:Int)<5;decide),rfl,_,rfl,ite2 (fun _=>?_) (fun _=>hA5 _ _ ?_)⟩
  ·refine⟨_,rfl,_,rfl,pp,_,rfl,SqL.of hpp,fun x fx=>?_⟩
   rw[show(1:Int)=((1:Nat):Int) from rfl,kgl,←MB]
   exists H,x,H1,n1,e1,fx
   exact kk H1 x _ _ n1 e1 ((hea.drop 1).mono fun e q h=>h.same n1) (.inr (.inl rfl))
  refine sN fun N0 hN0=>?_
  refine⟨_,rfl,_,rfl,pp,total,ea,qs,rfl,hpp,hea,by omega,hone,hpar,fun H1 nd ks s1 end1 lks hks=>?_⟩
  refine hN0 _ _ ?_
  have hea1:=hea.mono fun e q h=>h.same s1
  have hpp1:=s1 _ _ hpp
  refine sN fun N hN=>?_
  have hend:N [some (.ref pp),some (.int total),some (.int c),some (iV p),some (.int st),some (.ref nd)] H1:=by
   refine hN _ _ ?_
   refine⟨_,rfl,_,rfl,_,rfl,_,_,rfl,rfl, .inr ⟨by decide,by decide⟩,pp,p,0,st*2,ea,qs,q,rfl,hpp1,hea1,lqs,eq,fun H' x ea' s e hp2=>kk H' x ea' _ (s1.trans s) e hp2 (.inl ⟨p,q,0,st*2,eq, .inr (by omega),rfl⟩)⟩
  refine⟨_,rfl,_,_,rfl,rfl,(by show(0:Int)<5;decide),rfl,_,rfl,ite2 (fun _=>?_) (fun _=>iteF hend)⟩
  refine⟨_,rfl,nd,_,rfl, .inl (SqL.of end1),_,_,rfl,rfl,_,rfl,?_⟩
  by_cases c0:(0:Int)<(((ks.map iV).length:Nat):Int)
  ·rw[decide_eq_true c0]
   refine iteT ?_
   rw[JJ] at c0
   obtain⟨j,hj,ej⟩:∃j:Nat,j<ks.length∧c/5%(((ks.map iV).length:Nat):Int)=(j:Int):=by
    rw[JJ]
    have h1:=Int.emod_nonneg (c/5) (b:=(ks.length:Int)) (by omega)
    have h2:=Int.emod_lt_of_pos (c/5) (b:=(ks.length:Int)) (by omega)
    exact⟨(c/5%(ks.length:Int)).toNat,by omega,by omega⟩
   obtain⟨k,ek⟩:=at_of hj
   obtain⟨q',f,n,eq',hf,hfn,hft⟩:=hks k (JO ek)
   have hix:atI (ks.map iV) (c/5%(((ks.map iV).length:Nat):Int))=some (iV k):=by
    rw[ej]
    exact kaY (by rw[JU,ek];rfl)
   refine⟨_,rfl,_,rfl,_,_,rfl,rfl,⟨by decide,by decide⟩,_,rfl,nd,_,rfl, .inl (SqL.of end1),_,_,rfl,rfl,(by rw[JJ];exact c0),nd,_,_,_,rfl,rfl,SqL.of end1,hix,?_⟩
   refine⟨_,rfl,_,rfl,_,rfl,pp,_,rfl,SqL.of hpp1,fun c2 fc2=>?_⟩
   rw[khc]
   exists H1,c2,H2,n2,e2,fc2
   refine⟨_,rfl,_,rfl,_,_,rfl,rfl,_,rfl,pp,_,rfl,SqL.of (n2 _ _ hpp1),fun c3 fc3=>?_⟩
   rw[show((k:Int)+1)=((k+1:Nat):Int) by omega,kgl]
   exists H2,c3,H3,n3,e3,fc3
   refine⟨c2,c3,_,_,rfl,rfl,n3 _ _ e2,e3,JY (kau (by rw[Na,JJ,N5,JJ];omega)),fun c4 fc4=>?_⟩
   rw[show(ea.map V.ref).take k++(ea.map V.ref).drop (k+1)=(ea.take k++ea.drop (k+1)).map V.ref by rw[JQ,MB,Me]]
   exists H3,c4,H4,n4,e4,fc4
   have s14:=(n2.trans n3).trans n4
   have hea4:=hea1.mono fun e q h=>h.same s14
   exact kk H4 c4 _ _ (s1.trans s14) e4 ((hea4.take k).append (hea4.drop (k+1))) (.inr (.inr ⟨k,q',f,n,eq',hf,hfn,hft,rfl⟩))
  ·rw[decide_eq_false c0]
   exact iteF hend
theorem kkS{o:List Nat}{k:Nat}{z:L2.V}(h:ke3 T B hand o=some (k,z)):z=.non∨∃w,z=.str w:=by
 unfold ke3 at h
 simp only at h
 split at h
 ·split at h
  ·cases h
  ·cases h
   unfold dueM
   split
   ·exact .inr ⟨_,rfl⟩
   ·unfold hindM
    repeat' split
    all_goals first|exact .inr ⟨_,rfl⟩|exact .inl rfl
 ·split at h
  ·cases h
  ·cases h
   exact .inr ⟨_,rfl⟩
noncomputable def EntX(z:Addr)(H:Hp)(e:Addr)(q:List Nat×Int×Int):Prop:=∃l,e≠z∧l≠z∧H e=some (.tup [.ref l, .int q.2.1, .int q.2.2])∧H l=some (.lst (q.1.map iV))
theorem EntX.same{z:Addr}{H H':Hp}{e:Addr}{q:List Nat×Int×Int}(s:Same H H'):EntX z H e q→EntX z H' e q:=fun⟨l,n1,n2,h1,h2⟩=>⟨l,n1,n2,s _ _ h1,s _ _ h2⟩
theorem EntX.but{z:Addr}{H H':Hp}{e:Addr}{q:List Nat×Int×Int}(s:But z H H'):EntX z H e q→EntX z H' e q:=fun⟨l,n1,n2,h1,h2⟩=>⟨l,n1,n2,s _ _ n1 h1,s _ _ n2 h2⟩
noncomputable def OutQ(T:TillD)(B:Bask)(hand:List Int)(q:List Nat×Int×Int):Prop:=goB T B hand q.1=false∧(∀n∈q.1,n<T.vs.length)∧q.1.length<64
inductive kil (d:D) (vs:List V) (H:Hp) (Q:VK) (E_:XK):Prop
 |ct (t b h pp:Addr)(ea:List Addr)(T:TillD)(B:Bask)(hand:List Int)(qs:List (List Nat×Int×Int))(_:vs=[.ref t, .ref b, .ref h, .ref pp])(_:TillIs d H t T)(_:kbm T)(_:BaskIs d.qe d.qg H b B)(_:Wf T.ps B (stnd0 B))(_:H h=some (.lst (hand.map V.int)))(_:hand.length=T.vs.length)(_:H pp=some (.lst (ea.map V.ref)))(_:P2 (fun e q=>EntAt H e q) ea qs)(_:qs.length≤8)(_:(∀q∈qs,(∀n∈q.1,n<T.vs.length)∧q.1.length≤60))(_:∀(H':Hp)(f:Addr)(fa:List Addr)(fq:List (List Nat×Int×Int)),Same H H'→H' f=some (.lst (fa.map V.ref))→P2 (fun e q=>EntAt H' e q) fa fq→(∀q∈fq,OutQ T B hand q)→Q (.ref f) H'):kil d vs H Q E_
theorem qW:kas ["_law_till","_law_basket","_law_hand","_law_paper","_law_found","_law_entry","_law_voucher","_law_further","_law_told"] ["_law_till","_law_basket","_law_hand","_law_paper"] (kah kcE):=by ac_rfl
theorem kfq(W:WB K mg d base):FO P w W 9 d.Za d.Zb ["_law_till","_law_basket","_law_hand","_law_paper"] (kil d):=by
 exists W.Vi.F,qW
 ·obtain ⟨t,b,h,pp,ea,T,B,hand,qs,rfl,hT,tok,hB,wf0,hh,hl,hpp,hea,lqs,hqs,kk⟩:=h
  obtain⟨dxt,fst,pt,vl,rl,va,ra,ht,t1,t2,t3,t4,hpt,hvl,hva,hrl,hra⟩:=id hT
  have lea:=hea.len
  have lva:=hva.len
  have nv:=tok.nv
  exists UN,kly,W
  refine⟨_,kab (psl (i:=4) qW.nd (kaS kad))
   (kab (kaZ PassesOwn.never rfl (kaE (K:=K) (pv 3)) (pgn (i:=5) qW.nd)
   (kag (kaZ PassesOwn.never rfl (kdv rfl W.B.range (kaa (kaq (r:=kaK K) kar (by rfl) W.B.len b_len (kaa (kaj (K:=K) (pv 0) rfl) kad)) kad)) (pgn (i:=6) qW.nd)
   (kab (psl (i:=7) qW.nd (pe_op keN (pe_ix (r:=rIxT K) kcR (pv 5) kaf (fun _ _=>rfl)) (kaS (kaa (pv 6) kad))))
   (kab (psl (i:=8) qW.nd (pcl UN hr W.ZP (kaa (pv 0) (kaa (pv 1) (kaa (kaA (r:=kaJ K) kav (by rfl) W.B.list kaU (kaa (pv 2) kad)) (kaa (kaA (r:=kaJ K) kav (by rfl) W.B.list kaU (kaa (pv 7) kad)) kad))))))
   (kag (ps_if (PW.pt (ka7 (kam kdY (pv 8) kby (kat _)) (kaV (kam op_ne (pe_ix (r:=rIxT K) kcR (pv 8) kaf (fun _ _=>rfl)) kbM (kat _))))) (kag (ka1 (pe_bm NK N3 N4 kbd (pv 4) (kaa (kb0 (kaa (pv 7) (kaa (pe_ix (r:=rIxT K) kcR (pv 5) kaf (fun _ _=>rfl)) (kaa (pe_ix (r:=rIxT K) kcR (pv 5) kaf (fun _ _=>rfl)) kad)))) kad)))) (kap))))))))
   (kag (kao (pv 4)))),?_⟩
  refine⟨by decide,fun f ff=>?_⟩
  exists H,f,H1,n1,e1,ff
  refine⟨_,rfl,pp,rfl,⟨_,SqL.of (n1 _ _ hpp)⟩,kaP (xs:=ea.map V.ref) (fun i σ H'=>Same H H'∧∃(fa:List Addr)(fq:List (List Nat×Int×Int))(v5 v6 v7 v8:Option V),H' f=some (.lst (fa.map V.ref))∧P2 (EntX f H') fa fq∧fq.length≤8*i∧(∀q∈fq,OutQ T B hand q)∧σ=[some (.ref t),some (.ref b),some (.ref h),some (.ref pp),some (.ref f),v5,v6,v7,v8])
   ⟨n1,[],[],_,_,_,_,e1, .nil,JK _,fun q hq=>by simp at hq,rfl⟩ (fun i σ H' _ h=>SqL.of (h.1 _ _ hpp)) ?_ ?_⟩
  ·rintro i y σ H2 hy ⟨s2,fa,fq,v5,v6,v7,v8,ef,hfa,lfq,hfq,rfl⟩
   obtain⟨e,ee,rfl⟩:=kbj hy
   obtain⟨q,eq,l,he,hle⟩:=hea.at ee
   obtain⟨hq1,hq2⟩:=hqs q (JO eq)
   have hi:=at_lt eq
   refine⟨_,rfl,t,d.qd,dxt,fst,_,rfl,s2 _ _ ht,W.qd.cl,W.qB,t2,vl,_,rfl, .inl (SqL.of (s2 _ _ hvl)),_,rfl,by omega,(by rw[JJ];omega),?_⟩
   rw[show(((va.map V.ref).length:Nat):Int).toNat=T.vs.length by rw[JJ];omega]
   refine ke1 (fun j σ H'=>Same H H'∧∃(fa:List Addr)(fq:List (List Nat×Int×Int))(v6 v7 v8:Option V),H' f=some (.lst (fa.map V.ref))∧P2 (EntX f H') fa fq∧fq.length≤8*i+j∧(∀q∈fq,OutQ T B hand q)∧σ=[some (.ref t),some (.ref b),some (.ref h),some (.ref pp),some (.ref f),some (.ref e),v6,v7,v8])
    ⟨s2,fa,fq,_,_,_,ef,hfa,by omega,hfq,rfl⟩ ?_ ?_
   ·rintro j σ H3 hj ⟨s3,fa,fq,v6,v7,v8,ef,hfa,lfq,hfq,rfl⟩
    simp only[Int.zero_add]
    refine⟨_,rfl,e,_,_,_,rfl,rfl,SqT.of (s3 _ _ he),rfl,_,rfl,(by show 1≤sizeLine;decide),fun a4 fa4=>?_⟩
    exists H3,a4,H4,n4,e4,fa4
    refine⟨l,a4,_,_,rfl,rfl,(s3.trans n4) _ _ hle,e4,JY (kau (by rw[JJ];show q.1.length+1≤1000;omega)),fun c fc=>?_⟩
    rw[show q.1.map iV++[V.int (j:Int)]=(q.1++[j]).map iV by rw[JQ];rfl]
    exists H4,c,H5,n5,e5,fc
    have s35:=n4.trans n5
    have s05:=s3.trans s35
    have ef5:=s35 _ _ ef
    have ncf:c≠f:=(kai (n4 _ _ ef) fc).symm
    refine⟨_,rfl,_,rfl,_,rfl,h,_,rfl, .inl (SqL.of (s05 _ _ hh)),fun h6 fh6=>?_⟩
    exists H5,h6,H6,n6,e6,fh6
    refine⟨_,rfl,c,_,rfl, .inl (SqL.of (n6 _ _ e5)),fun o7 fo7=>?_⟩
    exists H6,o7,H7,n7,e7,fo7
    have s57:=n6.trans n7
    have s07:=s05.trans s57
    have hval:∀n∈q.1++[j],n<T.vs.length:=fun n hn=>by
     rcases Nk.mp hn with h'|h'
     ·exact hq1 n h'
     ·have en:n=j:=by simpa using h'
      rw[en]
      exact hj
    refine⟨t,b,h6,o7,T,B,hand,q.1++[j],rfl,hT.same s07,tok,hB.same s07,wf0,n7 _ _ e6,e7,hl,hval,by rw[JW,Np];omega,fun H8 fv s8 hfv=>?_⟩
    have s08:=s07.trans s8
    have s38:=s35.trans (s57.trans s8)
    have hgo:=knL (B:=B) (hand:=hand) hval
    cases efl:ke3 T B hand (q.1++[j]) with
    |none=>
     rw[efl] at hfv
     have ev:fv=.non:=hfv
     subst ev
     refine⟨_,rfl,rfl,_,rfl,?_⟩
     rw[show(!decide (V.non=V.non))=false by simp]
     exact iteF (iteF ⟨s08,fa,fq,_,_,_,s38 _ _ ef,hfa.mono fun e q h=>h.same s38,by omega,hfq,rfl⟩)
    | some z=>
     obtain⟨k9,z⟩:=z
     rw[efl] at hfv hgo
     obtain⟨fb,rfl,hfb⟩:=hfv
     refine⟨_,rfl,rfl,_,rfl,?_⟩
     rw[show(!decide (V.ref fb=V.non))=true by simp]
     refine iteT ?_
     have hsc:scal z (.str "only")=true:=by
      rcases kkS efl with rfl|⟨w',rfl⟩ <;> rfl
     refine⟨_,rfl,fb,_,_,_,rfl,rfl,SqT.of hfb,rfl,hsc,_,rfl,?_⟩
     by_cases co:z=.str "only"
     ·rw[show(!decide (z=V.str (Str.ofString "only")))=false by rw[decide_eq_true co];rfl]
      exact iteF ⟨s08,fa,fq,_,_,_,s38 _ _ ef,hfa.mono fun e q h=>h.same s38,by omega,hfq,rfl⟩
     ·rw [show(!decide (z=V.str (Str.ofString "only")))=true by rw[decide_eq_false co];rfl]
      have hout:goB T B hand (q.1++[j])=false:=by
       rw[←hgo]
       show(eqV (iV k9) (iV (q.1++[j]).length)&&(eqV z (.str "only")&&true))=false
       have:eqV z (.str "only")=false:=by
        rcases kkS efl with rfl|⟨w',rfl⟩
        ·rfl
        ·show(w'==("only" :Str))=false
         exact beq_eq_false_iff_ne.mpr fun e=>co (by rw[e])
       rw[this,MH,M1]
      have s28:=s57.trans s8
      have ef8:=s38 _ _ ef
      refine iteT ⟨_,rfl, .inl ⟨rfl,_,SqL.of ef8⟩,_,rfl,_,rfl,e,_,_,_,rfl,rfl,SqT.of (s08 _ _ he),rfl,_,rfl,e,_,_,_,rfl,rfl,SqT.of (s08 _ _ he),rfl,(by show 3≤sizeLine;decide),fun e9 fe9=>?_⟩
      exists H8,e9,H9,n9,ee9,fe9
      have ef9:=n9 _ _ ef8
      have lfa:=hfa.len
      refine⟨f,_,_,rfl,rfl,ef9,kau (by rw[JJ];omega),?_⟩
      rw[show fa.map V.ref++[V.ref e9]=(fa++[e9]).map V.ref by rw[JQ];rfl]
      have b10:But f H9 (upd H9 f (.lst ((fa++[e9]).map V.ref))):=kaB (nx ef9)
      refine⟨kaw ff (s08.trans n9) (nx ef9),fa++[e9],fq++[(q.1++[j],q.2.1,q.2.2)],_,_,_,kae,P2.snoc (hfa.mono fun e q h=>((h.same s38).same n9).but b10) (EntX.but b10 ⟨c,(kai ef8 fe9).symm,ncf,ee9,(s28.trans n9) _ _ e5⟩),by rw[JW,Np];omega,fun q' hq'=>?_,rfl⟩
      rcases Nk.mp hq' with h'|h'
      ·exact hfq q' h'
      ·have eq':q'=(q.1++[j],q.2.1,q.2.2):=by simpa using h'
       rw[eq']
       exact⟨hout,hval,by show(q.1++[j]).length<64;rw[JW,Np];omega⟩
   ·rintro σ H3 ⟨s3,fa,fq,v6,v7,v8,ef,hfa,lfq,hfq,rfl⟩
    exact⟨s3,fa,fq,_,_,_,_,ef,hfa,by omega,hfq,rfl⟩
  ·rintro σ H2 ⟨s2,fa,fq,v5,v6,v7,v8,ef,hfa,lfq,hfq,rfl⟩
   exact⟨_,rfl,kk H2 f fa fq s2 ef (hfa.mono fun e q ⟨l,_,_,h1,h2⟩=>⟨l,h1,h2⟩) hfq⟩
theorem kmi:∀(k:Nat)(O:List Nat×Int)(used:List Nat)(S:Stnd),∀e∈(mt T B hand k O used S).1,e.1.length≤used.length+k
 |0,O,used,S,e,h=>by simp[mt] at h
 | k+1,O,used,S,e,h=>by
  rcases mt_cases.mp h with h|⟨_,n,_,V,_,h⟩
  ·rw[h]
   show used.length≤_
   omega
  ·have:=kmi k _ (used++[n]) _ e h
   rw[JW,Np] at this
   omega
theorem kjn:∀{o u:List Nat}{S S':Stnd},walkM T B hand o u S=(u++o,S')→∀n∈o,n<T.vs.length
 |[],_,_,_,_,n,h=>by simp at h
 | m::o,u,S,S',hw,n,h=>by
  obtain⟨V,hV,_,h2⟩:=kcx hw
  rcases Nc.mp h with e|e
  ·rw[e]
   exact at_lt hV
  ·exact kjn h2 n e
theorem hold3{K':JL}{d:D}{σ:St}{H:Hp}{Q:VK}{t b h ol pp:Addr}{i:Nat}{tt:Int}{ea:List Addr}{T:TillD}{B:Bask}{hand:List Int}{order:List Nat}{qs:List (List Nat×Int×Int)}(h1: σ[1]?=some (some (.ref t)))(h2: σ[2]?=some (some (.ref b)))(h3: σ[3]?=some (some (.ref h)))(h5: σ[5]?=some (some (.ref ol)))(hi: σ[i]?=some (some (.int tt)))(h7: σ[7]?=some (some (.ref pp)))(hT:TillIs d H t T)(tok:kbm T)(hB:BaskIs d.qe d.qg H b B)(wf0:Wf T.ps B (stnd0 B))(eh:H h=some (.lst (hand.map V.int)))(hl:hand.length=T.vs.length)(hz:∀z∈hand,0≤z∧z≤100)(eo:H ol=some (.lst (order.map iV)))(epp:H pp=some (.lst (ea.map V.ref)))(hen:P2 (fun e q=>EntAt H e q) ea qs)(l:qs.length≤1000)(hq:∀q∈qs,(∀n∈q.1,n<T.vs.length)∧q.1.length<64)(k:∀(H':Hp)(c:Bool),Same H H'→(c=true↔kfh T B hand order tt qs)→Q (.bl c) H'):
  tCall (khs d) [] E0 (tCons (tVar 1) (tCons (tVar 2) (tCons (tCB (kaJ K') (tCons (tVar 3) tNil)) (tCons (tCB (kaJ K') (tCons (tVar 5) tNil)) (tCons (tVar i) (tCons (tCB (kaJ K') (tCons (tVar 7) tNil)) tNil)))))) σ H Q:=by
 refine⟨_,h1,_,h2,_,h3,h,_,rfl, .inl (SqL.of eh),fun a fa=>?_⟩
 exists H,a,HA,nA,eA,fa
 refine⟨_,h5,ol,_,rfl, .inl (SqL.of (nA _ _ eo)),fun c fc=>?_⟩
 exists HA,c,HB,nB,eB,fc
 have sB:=nA.trans nB
 refine⟨_,hi,_,h7,pp,_,rfl, .inl (SqL.of (sB _ _ epp)),fun p fp=>?_⟩
 exists HB,p,HC,nC,eC,fp
 have sC:=sB.trans nC
 exact⟨t,b,a,c,p,tt,ea,T,B,hand,order,qs,rfl,hT.same sC,tok,hB.same sC,wf0,(nB.trans nC) _ _ eA,hl,hz,nC _ _ eB,eC,hen.mono fun e q h=>h.same sC,l,hq,fun H' c s hc=>k H' c (sC.trans s) hc⟩
noncomputable def W32(d:D)(H:Hp)(a:Addr):St→Hp→Prop:=fun σ' H'=>∃(few:Bool)(t b h:Addr)(T:TillD)(B:Bask)(hand:List Int),Same H H'∧TillIs d H' t T∧kbm T∧BaskIs d.qe d.qg H' b B∧Wf T.ps B (stnd0 B)∧H' h=some (.lst (hand.map V.int))∧hand.length=T.vs.length∧(∀z∈hand,0≤z)∧hand.sum≤4∧σ'=[some (.ref a),some (.ref t),some (.ref b),some (.ref h),some (.bl few),none,none,none,none,none,none,none,none]
theorem qo:kas ["_law_script","_law_till","_law_basket","_law_hand","_law_few","_law_order","_law_total","_law_paper","_law_most","_law_cell","_law_mixed","_law_wrong","_law_entry"] ["_law_script"] (kah s_law):=by ac_rfl
theorem kny(W:WB K mg d base):FO P w W 18 d.f_law d.Zc ["_law_script"] (kgA K d.tP_falling_groups):=by
 refine FunD.ok W.d_law.F qo (fun vs H Q E h=>?_) (fun cdv A outer s H vs Q E hr h=>?_)
 ·obtain⟨a,ns,rfl,_⟩:=h
  rfl
 ·obtain⟨a,ns,rfl,hS,hn,htb0,k⟩:=h
  exists VJ,ken,W
  exists qq,kbq,W
  exists qV,kc1,W
  exists UO,kmV,W
  exists qX,klx,W
  exists UP,kfo,W
  exists UQ,kfq,W
  exists hr1,1,hr,0
  exists hr2,2,hr,0
  exists hr7,7,hr,0
  exists hr9,9,hr,0
  refine⟨_,kab (kdf (pcl VJ hr7 W.QZ (kaa (pv 0) (kaa kaf (kaa kaf kad)))) (kbb (K:=K) (n:=3) rfl (kay (pgn (i:=1) qo.nd) (kay (pgn (i:=2) qo.nd) (kay (pgn (i:=3) qo.nd) kba)))))
   (kab (psl (i:=4) qo.nd (kce op_lt (kaq (r:=rSum K) (kcM rfl) (by rfl) W.B.sum b_sum (kaa (kcw (N:=["_law_line"]) (CompScope.plain rfl (by decide +kernel) (by decide +kernel) (by decide +kernel) (nd1 _)) rfl (kaE (K:=K) (kaj (K:=K) (pv 2) rfl)) (fun _ _ _ _=>pgn (i:=0) (nd1 _)) (fun _ _ _ _=>(kaj (K:=K) (pv 0) rfl))) kad)) kaf (kat _)))
   (kab (kcc (ps_if (PW.pt (pw_or (kam op_lt (kaq (r:=kaK K) kar (by rfl) W.B.len b_len (kaa (kaj (K:=K) (pv 1) rfl) kad)) kaf (kat _)) (kj4 (PW.pt (ka7 (ka0 (pv 4)) (kaV (kam op_eq (pe_op kaC (pcl qq hr1 W.qw (kaa (pcl qV hr1 W.qQ (kaa (pv 0) (kaa kaf kad))) (kaa kaf (kaa kaf kad)))) kaf) kaf (kat _)))))))) (kag (kdf (pcl VJ hr7 W.QZ (kaa (pv 0) (kaa kaf (kaa kaf kad)))) (kbb (K:=K) (n:=3) rfl (kay (pgn (i:=1) qo.nd) (kay (pgn (i:=2) qo.nd) (kay (pgn (i:=3) qo.nd) kba)))))) (kap)))
   (kab (kdf (pcl UO hr W.ZU (kaa (pv 1) (kaa (pv 2) (kaa (kaA (r:=kaJ K) kav (by rfl) W.B.list kaU (kaa (pv 3) kad)) kad)))) (kbb (K:=K) (n:=3) rfl (kay (pgn (i:=5) qo.nd) (kay (pgn (i:=6) qo.nd) (kay (pgn (i:=7) qo.nd) kba)))))
   (kab (psl (i:=8) qo.nd kaf)
   (kab (kcc (ps_if (kam op_gt (kaq (r:=kaK K) kar (by rfl) W.B.len b_len (kaa (pv 7) kad)) kaf (kat _)) (kag (psl (i:=8) qo.nd kaf)) (kap)))
   (kab (kaZ PassesOwn.never rfl (kaE (K:=K) (kbn (r:=rSlL K) kbR (pe_op kmT (pv 0) (kaS (kaa kaf kad))) kcd (kbI (kaq (kbP rfl) (by rfl) W.B.min b_min (kaa kaf (kaa (pv 8) kad)))))) (pgn (i:=9) qo.nd)
   (kab (psl (i:=10) qo.nd (pcl qq hr1 W.qw (kaa (pv 9) (kaa kaf (kaa kaf kad)))))
   (kab (ps_if (kam kcX (pcl qX hr9 W.qJ (kaa (pv 1) (kaa (pv 2) (kaa (kaA (r:=kaJ K) kav (by rfl) W.B.list kaU (kaa (pv 3) kad)) (kaa (kaA (r:=kaJ K) kav (by rfl) W.B.list kaU (kaa (pv 5) kad)) (kaa (pv 6) (kaa (kaA (r:=kaJ K) kav (by rfl) W.B.list kaU (kaa (pv 7) kad)) kad))))))) pe_bl (kat _)) (kag (kao pe_bl)) (kap))
   (kag (ps_if (kam kcX (pcl qX hr9 W.qJ (kaa (pv 1) (kaa (pv 2) (kaa (kaA (r:=kaJ K) kav (by rfl) W.B.list kaU (kaa (pv 3) kad)) (kaa (kaA (r:=kaJ K) kav (by rfl) W.B.list kaU (kaa (pv 5) kad)) (kaa (pv 6) (kaa (pcl UP hr2 W.Vh (kaa (pv 7) (kaa (pv 6) (kaa (pv 10) kad)))) kad))))))) pe_bl (kat _)) (kag (kao pe_bl)) (kap))))))
   (kab (kaZ PassesOwn.never rfl (kaE (K:=K) (kaS (kaa (pe_op kb3 (pv 6) kaf) (kaa (pe_op kdg (pv 6) kaf) kad)))) (pgn (i:=11) qo.nd)
   (kag (ps_if (kam kcX (pcl qX hr9 W.qJ (kaa (pv 1) (kaa (pv 2) (kaa (kaA (r:=kaJ K) kav (by rfl) W.B.list kaU (kaa (pv 3) kad)) (kaa (kaA (r:=kaJ K) kav (by rfl) W.B.list kaU (kaa (pv 5) kad)) (kaa (pv 11) (kaa (kaA (r:=kaJ K) kav (by rfl) W.B.list kaU (kaa (pv 7) kad)) kad))))))) pe_bl (kat _)) (kag (kao pe_bl)) (kap))))
   (kab (kaZ PassesOwn.never rfl (kaE (K:=K) (kbn (r:=rSlL K) kbR (pcl UQ hr9 W.Vi (kaa (pv 1) (kaa (pv 2) (kaa (pv 3) (kaa (kbn (r:=rSlL K) kbR (pv 7) kcd (kbI (pv 8))) kad))))) kcd (kbI kaf))) (pgn (i:=12) qo.nd)
   (kag (ps_if (kam kcX (pcl qX hr9 W.qJ (kaa (pv 1) (kaa (pv 2) (kaa (kaA (r:=kaJ K) kav (by rfl) W.B.list kaU (kaa (pv 3) kad)) (kaa (kaA (r:=kaJ K) kav (by rfl) W.B.list kaU (kaa (pv 5) kad)) (kaa (pv 6) (kaa (pe_op keN (pv 7) (kaS (kaa (pv 12) kad))) kad))))))) pe_bl (kat _)) (kag (kao pe_bl)) (kap))))
   (kab (kaZ PassesOwn.never rfl (kaE (K:=K) (kbn (r:=rSlL K) kbR (pv 7) kcd (kbI (pv 8)))) (pgn (i:=12) qo.nd)
   (kag (ps_if (kam (knw hr.units0) (pe_ix (r:=rIxT K) kcR (pv 12) kaf (fun _ _=>rfl)) (pv 5) (kat _)) (kag (ps_if (kam kcX (pcl qX hr9 W.qJ (kaa (pv 1) (kaa (pv 2) (kaa (kaA (r:=kaJ K) kav (by rfl) W.B.list kaU (kaa (pv 3) kad)) (kaa (kaA (r:=kaJ K) kav (by rfl) W.B.list kaU (kaa (pe_ix (r:=rIxT K) kcR (pv 12) kaf (fun _ _=>rfl)) kad)) (kaa (pe_ix (r:=rIxT K) kcR (pv 12) kaf (fun _ _=>rfl)) (kaa (kaA (r:=kaJ K) kav (by rfl) W.B.list kaU (kaa (pv 7) kad)) kad))))))) pe_bl (kat _)) (kag (kao pe_bl)) (kap))) (kap))))
   (kag (kao (kce knx (pcl qX hr9 W.qJ (kaa (pv 1) (kaa (pv 2) (kaa (kaA (r:=kaJ K) kav (by rfl) W.B.list kaU (kaa (pv 3) kad)) (kaa (kaA (r:=kaJ K) kav (by rfl) W.B.list kaU (kaa (pv 5) kad)) (kaa (pv 6) (kaa (kaA (r:=kaJ K) kav (by rfl) W.B.list kaU (kaa (pv 7) kad)) kad))))))) pe_bl (kat _))))))))))))),?_⟩
  refine sN fun A1 hA1=>?_
  refine⟨_,rfl,a,ns,4,3,rfl,hS,hn,by decide,by decide,htb0,fun H1 w t b h T B hand s1 fh ew hT tok hB wf0 eh hl hnn hsum hr3 hrb=>?_⟩
  refine⟨w,_,rfl,SqT.of ew,rfl,_,_,rfl,_,_,rfl,_,_,rfl,rfl,?_⟩
  refine hA1 _ _ ?_
  refine sN fun A2 hA2=>?_
  obtain⟨l2,ls2,⟨dxb2,fsb2,hb2,lbl2,lbc2,lbm2⟩,hl2,hL2⟩:=id hB
  have hll:=hL2.len
  have hnl:=wf0.nl
  refine⟨_,rfl,b,d.qg,dxb2,fsb2,_,rfl,hb2,W.qg.cl,W.Qw,lbl2,l2,rfl,⟨_,SqL.of hl2⟩,kbf (xs:=ls2.map V.ref) (fun i σ ys H'=>H'=H1∧ys=((B.rs.take i).map fun r=>r.mn).map V.int∧∃v,σ=[v]) ⟨rfl,rfl,none,rfl⟩ (by rw[JJ,hll];exact JY (kau (by omega))) ?_ ?_ ?_⟩
  ·rintro i σ ys H' hi ⟨rfl,rfl,_⟩
   exact⟨SqL.of hl2,by rw[JJ,JJ,Na];rw[JJ] at hi;omega⟩
  ·rintro i y σ ys H' hy ⟨rfl,rfl,v,rfl⟩
   obtain⟨lx,el,rfl⟩:=kbj hy
   obtain⟨r,er⟩:=at_of (xs:=B.rs) (i:=i) (by have:=at_lt el;omega)
   obtain⟨dxl,fsl,hlx,lk1,lk2,lk3,lk4⟩:=hL2.get el er
   refine⟨_,rfl,lx,d.qe,dxl,fsl,_,rfl,hlx,W.qe.cl,W.q9,lk3,rfl,?_,_,rfl⟩
   rw[take_snoc er,JQ,JQ]
   rfl
  rintro σ ys H' ⟨rfl,rfl,v,rfl⟩ m' fm'
  exists H',m',H2,n2,e2,fm'
  refine⟨m',_,rfl,SqL.of e2,_,_,rfl,rfl,?_⟩
  refine hA2 _ _ ?_
  have s12:=s1.trans n2
  have htb2:=Tbs.same s12 htb0
  refine sN fun A3 hA3=>?_
  obtain⟨dxt,fst,pt,vl,rl,va,ra,ht,t1,t2,t3,t4,hpt,hvl,hva,hrl,hra⟩:=id (hT.same n2)
  refine⟨W32 d H a,?_,?_⟩
  ·have hno:∀few:Bool,W32 d H a [some (.ref a),some (.ref t),some (.ref b),some (.ref h),some (.bl few),none,none,none,none,none,none,none,none] H2:=fun few=>⟨few,t,b,h,T,B,hand,s12,hT.same n2,tok,hB.same n2,wf0,n2 _ _ eh,hl,hnn,(by have:hand.sum≤3:=hsum;omega),rfl⟩
   have hyes:∀(few:Bool)(H3:Hp)(w t b h:Addr)(T:TillD)(B:Bask)(hand:List Int),Same H2 H3→H2 h=none→H3 w=some (.tup [.ref t, .ref b, .ref h])→TillIs d H3 t T→kbm T→BaskIs d.qe d.qg H3 b B→Wf T.ps B (stnd0 B)→H3 h=some (.lst (hand.map V.int))→hand.length=T.vs.length→(∀z∈hand,0≤z)→hand.sum≤((4:Nat):Int)→T.rs.length≤3→(∀r∈T.rs,r.a<T.vs.length∧r.b<T.vs.length)→W32 d H a [some (.ref a),some (.ref t),some (.ref b),some (.ref h),some (.bl few),none,none,none,none,none,none,none,none] H3:=fun few H3 w t b h T B hand s3 _ _ hT tok hB wf0 eh hl hnn hsum _ _=>⟨few,t,b,h,T,B,hand,s12.trans s3,hT,tok,hB,wf0,eh,hl,hnn,hsum,rfl⟩
   refine⟨_,rfl,t,d.qd,dxt,fst,_,rfl,ht,W.qd.cl,W.qB,t2,vl,_,rfl, .inl (SqL.of hvl),_,_,rfl,rfl,_,rfl,ite2 (fun _=>iteT ?_) (fun _=>?_)⟩
   ·exact⟨_,rfl,a,ns,4,4,rfl,s12.seq hS,hn,by decide,by decide,htb2,fun H3 w t b h T B hand s3 f3 ew hT tok hB wf0 eh hl hnn hsum hr3 hrb=>⟨w,_,rfl,SqT.of ew,rfl,_,_,rfl,_,_,rfl,_,_,rfl,rfl,hyes _ H3 w t b h T B hand s3 f3 ew hT tok hB wf0 eh hl hnn hsum hr3 hrb⟩⟩
   refine⟨_,rfl,_,rfl,ite2 (fun _=>?_) (fun _=>iteF (hno _))⟩
   refine⟨_,rfl,a,ns,1,rfl,s12.seq hS,by decide,fun z=>⟨z,69621,2147483629,rfl,by decide,by decide,_,_,rfl,rfl,(by show(0:Int)<3;decide),rfl,_,rfl,ite2 (fun _=>?_) (fun _=>hno _)⟩⟩
   exact⟨_,rfl,a,ns,4,4,rfl,s12.seq hS,hn,by decide,by decide,htb2,fun H3 w t b h T B hand s3 f3 ew hT tok hB wf0 eh hl hnn hsum hr3 hrb=>⟨w,_,rfl,SqT.of ew,rfl,_,_,rfl,_,_,rfl,_,_,rfl,rfl,hyes _ H3 w t b h T B hand s3 f3 ew hT tok hB wf0 eh hl hnn hsum hr3 hrb⟩⟩
  clear hT tok hB wf0 eh hl hnn hsum hr3 hrb ew fh hL2 hl2 hb2 lbl2 lbc2 lbm2 hll hnl ht t1 t2 t3 t4 hpt hvl hva hrl hra e2 fm' n2 s1 s12 htb2
  rintro σ H3 ⟨few,t,b,h,T,B,hand,s3,hT,tok,hB,wf0,eh,hl,hnn,hsum,rfl⟩
  refine hA3 _ _ ?_
  have erem:remM hand []≤4:=by have:=kmI hand hnn;omega
  have hz:∀z∈hand,0≤z∧z≤100:=fun z hz'=>⟨hnn z hz',by have:=kki hnn z hz';omega⟩
  have hml:=kgd (T:=T) (B:=B) hl 10 ⟨[],kaz (stnd0 B),[]⟩ [] (stnd0 B)
  have hf5:fan (remM hand [])≤600:=JN (kdJ (show remM hand []≤5 by omega)) (by decide)
  have hbm:bestM T B hand=srcOf [] (mt T B hand 10 ([],kaz (stnd0 B)) [] (stnd0 B)):=khM 10 ⟨[],kaz (stnd0 B),[]⟩ [] (stnd0 B)
  have hP:=Ppr.of (B:=B) hl (show remM hand []<10 by omega)
  have hpar:=kgZ (T:=T) (B:=B) (hand:=hand) 10 ([],kaz (stnd0 B)) [] (stnd0 B)
  have hfew:=kmi (T:=T) (B:=B) (hand:=hand) 10 ([],kaz (stnd0 B)) [] (stnd0 B)
  have hml':(bestM T B hand).ents.length≤600:=by
   rw[MQ] at hml
   exact JN hml (by omega)
  clear hml
  generalize mt T B hand 10 ([],kaz (stnd0 B)) [] (stnd0 B)=M at *
  obtain⟨es,Oe⟩:=M
  simp only at hP hfew hpar
  rw[hbm] at hml'
  have les:(es.map offG).length≤600:=hml'
  have hH:=hP.holds tok wf0 hl hnn
  have hsame:=fun(order:List Nat)(total:Int)(h:kfh T B hand order total (es.map offG))=>hP.same tok wf0 hl hnn h
  have hspo:=fun(order:List Nat)(total:Int)(qs':List (List Nat×Int×Int))(h:kfg (es.map offG) total qs')=>hP.spoilt (order:=order) h
  have hq64:∀q∈es.map offG,(∀n∈q.1,n<T.vs.length)∧q.1.length≤10:=fun q hq=>by
   obtain⟨e,he,rfl⟩:=J4.mp hq
   obtain⟨S,hw,_⟩:=hP.ok e he
   have:=hfew e he
   rw[MQ] at this
   exact⟨kjn (u:=[]) hw,by show e.1.length≤10;omega⟩
  have lpos:0<(es.map offG).length:=by rw[JJ];exact at_lt hP.hd
  have hone:∀(i j:Nat)(p q:List Nat×Int×Int),(es.map offG)[i]?=some p→(es.map offG)[j]?=some q→p.1=q.1→i=j:=fun i j p q h1 h2 h3=>hP.one h1 h2 h3
  have hpar':∀(k:Nat)(q:List Nat×Int×Int),0<k→(es.map offG)[k]?=some q→∃f∈es.map offG,∃n,q.1=f.1++[n]:=fun k q hk eq=>by
   obtain⟨e,ee,rfl⟩:=mapAt eq
   rcases hpar e (JO ee) with h0|⟨f,hf,n,hfn⟩
   ·have:=hP.one (i:=0) (j:=k) (by rw[JU,hP.hd];rfl) eq h0.symm
    omega
   ·exact⟨offG f,Mh (f:=offG) hf,n,hfn⟩
  refine sN fun A4 hA4=>?_
  refine⟨_,rfl,_,rfl,_,rfl,h,_,rfl, .inl (SqL.of eh),fun h4 fh4=>?_⟩
  exists H3,h4,H4,n4,e4,fh4
  refine⟨t,b,h4,T,B,hand,rfl,hT.same n4,tok,hB.same n4,wf0,e4,hl,hz,by omega,fun H5 r ol pp ea s5 fpp nop er eol epp hents=>?_⟩
  have hen:P2 (fun e q=>EntAt H5 e q) ea (es.map offG):=by
   have:=hents.mono fun e q h=>h.same rmv_sub
   rw[hbm] at this
   exact this
  clear hents hfew hpar hml'
  rw[hbm] at er eol
  have eol5:H5 ol=some (.lst (Oe.1.map iV)):=eol
  have lea:=hen.len
  have s35:=n4.trans s5
  have hT5:=hT.same s35
  have hB5:=hB.same s35
  have eh5:=s35 _ _ eh
  have s05:=s3.trans s35
  refine⟨r,_,rfl,SqT.of er,rfl,_,_,rfl,_,_,rfl,_,_,rfl,rfl,?_⟩
  refine hA4 _ _ ?_
  clear er eol e4 n4 fpp nop s5 hT hB eh s35 hbm
  clear hP
  generalize es.map offG=qs at *
  refine sN fun A5 hA5=>?_
  refine hA5 _ _ ?_
  refine sN fun A6 hA6=>?_
  refine⟨fun σ' H'=>H'=H5∧∃m:Nat,0<m∧m≤8∧σ'=[some (.ref a),some (.ref t),some (.ref b),some (.ref h),some (.bl few),some (.ref ol),some (.int Oe.2),some (.ref pp),some (iV m),none,none,none,none],?_,?_⟩
  ·exact⟨_,rfl,pp,_,rfl, .inl (SqL.of epp),_,_,rfl,rfl,_,rfl,ite2 (fun _=>⟨rfl,2,by decide,by decide,rfl⟩) (fun _=>⟨rfl,8,by decide,by decide,rfl⟩)⟩
  rintro σ H' ⟨rfl,m,m0,m8,rfl⟩
  refine hA6 _ _ ?_
  have l1000:qs.length≤1000:=JN les (by decide)
  have hq64':∀q∈qs,(∀n∈q.1,n<T.vs.length)∧q.1.length<64:=fun q hq=>⟨(hq64 q hq).1,by have:=(hq64 q hq).2;omega⟩
  refine sN fun A7 hA7=>?_
  refine⟨_,rfl,(by show 1≤sizeLine;decide),fun l6 fl6=>?_⟩
  exists H',l6,H6,n6,e6,fl6
  refine⟨a,l6,_,_,rfl,rfl,(s05.trans n6).seq hS,SqL.of e6,JY (kau (by rw[JJ];show ns.length+1≤1000;omega)),fun c7 fc7=>?_⟩
  rw[show ns.map V.int++[V.int 3]=(ns++[3]).map V.int by rw[JQ];rfl]
  exists H6,c7,H7,n7,e7,fc7
  refine⟨_,rfl,_,_,rfl,_,rfl,c7,_,rfl,SqL.of e7,fun p8 fp8=>?_⟩
  obtain⟨ms,ems,lms⟩:=kiV (ns++[3]) none (some (if(m:Int)<3 then(m:Int) else 3))
  rw[ems]
  exists H7,p8,H8,n8,e8,fp8
  have s58:=(n6.trans n7).trans n8
  refine⟨p8,rfl,⟨_,SqL.of e8⟩,kaP (xs:=ms.map V.int) (fun i σ Hx=>Same H8 Hx∧∃(v9 v10:Option V),σ=[some (.ref a),some (.ref t),some (.ref b),some (.ref h),some (.bl few),some (.ref ol),some (.int Oe.2),some (.ref pp),some (iV m),v9,v10,none,none])
   ⟨Same.refl _,_,_,rfl⟩ (fun i σ Hx _ h=>SqL.of (h.1 _ _ e8)) ?_ ?_⟩
  ·rintro i y σ H9 hy ⟨s9,v9,v10,rfl⟩
   obtain⟨z,ez,rfl⟩:=kbC hy
   have s59:=s58.trans s9
   refine sN fun B1 hB1=>?_
   refine⟨_,rfl,z,16807,2147483399,rfl,by decide,by decide,?_⟩
   refine hB1 _ _ ?_
   refine sN fun B2 hB2=>?_
   refine hold3 (K':=_) rfl rfl rfl rfl rfl rfl (hT5.same s59) tok (hB5.same s59) wf0 (s59 _ _ eh5) hl hz (s59 _ _ eol5) (s59 _ _ epp) (hen.mono fun e q h=>h.same s59) l1000 hq64' fun HD1 c sD1 hc=>?_
   have s1D:=s59.trans sD1
   have ec:c=true:=hc.mpr hH
   subst ec
   refine⟨_,_,rfl,rfl,_,rfl,iteF ?_⟩
   refine hB2 _ _ ?_
   refine⟨_,rfl,_,rfl,_,rfl,h,_,rfl, .inl (SqL.of (s1D _ _ eh5)),fun h2 fh2=>?_⟩
   exists HD1,h2,HA2,nA2,eA2,fh2
   have sA2:=s1D.trans nA2
   refine⟨_,rfl,ol,_,rfl, .inl (SqL.of (sA2 _ _ eol5)),fun o2 fo2=>?_⟩
   exists HA2,o2,HB2,nB2,eB2,fo2
   have sB2:=sA2.trans nB2
   refine⟨_,rfl,_,rfl,_,rfl,_,rfl,pp,Oe.2,_,ea,qs,rfl,sB2 _ _ epp,hen.mono fun e q h=>h.same sB2,lpos,by omega,hone,hpar',fun HC2 x ea' qs' nC2 eC2 hxa hsp=>?_⟩
   have sC2:=sB2.trans nC2
   refine⟨t,b,h2,o2,x,Oe.2,ea',T,B,hand,Oe.1,qs',rfl,hT5.same sC2,tok,hB5.same sC2,wf0,(nB2.trans nC2) _ _ eA2,hl,hz,nC2 _ _ eB2,eC2,hxa,ki2 les hsp,ki1 (P:=fun u=>(∀n∈u,n<T.vs.length)∧u.length<64) hq64' hsp,fun HD2 c sD2 hc=>?_⟩
   have ec:c=false:=by
    cases c with
    |false=>rfl
    |true=>exact absurd (hc.mp rfl) (hspo Oe.1 Oe.2 qs' hsp)
   subst ec
   exact⟨_,_,rfl,rfl,_,rfl,iteF ⟨(s9.trans sD1).trans (((nA2.trans nB2).trans nC2).trans sD2),_,_,rfl⟩⟩
  rintro σ H9 ⟨s9,v9,v10,rfl⟩
  refine hA7 _ _ ?_
  have s09:=s58.trans s9
  refine sN fun A8 hA8=>?_
  refine⟨_,rfl,_,_,rfl,rfl,_,rfl,_,_,rfl,rfl,(by show 2≤sizeLine;decide),fun l10 fl10=>?_⟩
  exists H9,l10,H10,n10,e10,fl10
  have s010:=s09.trans n10
  refine⟨l10,rfl,⟨_,SqL.of e10⟩,kaP (xs:=[V.int (Oe.2+1),V.int (Oe.2-1)]) (fun i σ Hx=>Same H10 Hx∧∃(v11:Option V),σ=[some (.ref a),some (.ref t),some (.ref b),some (.ref h),some (.bl few),some (.ref ol),some (.int Oe.2),some (.ref pp),some (iV m),v9,v10,v11,none])
   ⟨Same.refl _,_,rfl⟩ (fun i σ Hx _ h=>SqL.of (h.1 _ _ e10)) ?_ ?_⟩
  ·rintro i y σ H11 hy ⟨s11,v11,rfl⟩
   obtain⟨z,rfl,hzt⟩:∃z:Int,y=.int z∧z≠Oe.2:=by
    have hm:=JO hy
    rcases Nc.mp hm with e|hm
    ·exact⟨_,e,by omega⟩
    ·exact⟨_,NT.mp hm,by omega⟩
   have s011:=s010.trans s11
   refine hold3 (K':=_) rfl rfl rfl rfl rfl rfl (hT5.same s011) tok (hB5.same s011) wf0 (s011 _ _ eh5) hl hz (s011 _ _ eol5) (s011 _ _ epp) (hen.mono fun e q h=>h.same s011) l1000 hq64' fun HD3 c sD3 hc=>?_
   have s3D:=s011.trans sD3
   have ec:c=false:=by
    cases c with
    |false=>rfl
    |true=>exact absurd (hc.mp rfl) (fun hx=>hzt (hsame _ _ hx).1)
   subst ec
   exact⟨_,_,rfl,rfl,_,rfl,iteF ⟨s11.trans sD3,_,rfl⟩⟩
  rintro σ H11 ⟨s11,v11,rfl⟩
  refine hA8 _ _ ?_
  have s011:=s010.trans s11
  refine sN fun A9 hA9=>?_
  refine⟨_,rfl,_,rfl,_,rfl,_,rfl,_,rfl,_,rfl,pp,_,rfl,SqL.of (s011 _ _ epp),fun c12 fc12=>?_⟩
  rw[khc,←Me]
  exists H11,c12,H12,n12,e12,fc12
  have s012:=s011.trans n12
  refine⟨t,b,h,c12,ea.take m,T,B,hand,qs.take m,rfl,hT5.same s012,tok,hB5.same s012,wf0,s012 _ _ eh5,hl,e12,(hen.take m).mono fun e q h=>h.same s012,(by rw[Na];omega),(fun q hq=>⟨(hq64 q (Mx hq)).1,by have:=(hq64 q (Mx hq)).2;omega⟩),fun H13 f fa fq s13 ef hfa hfq=>?_⟩
  refine⟨_,rfl,f,_,rfl,SqL.of ef,fun c14 fc14=>?_⟩
  rw[show(3:Int)=((3:Nat):Int) from rfl,khc,←Me]
  exists H13,c14,H14,n14,e14,fc14
  have s014:=(s012.trans s13).trans n14
  have hf14:=(hfa.take 3).mono fun e q h=>h.same n14
  refine⟨c14,rfl,⟨_,SqL.of e14⟩,kaP (xs:=(fa.take 3).map V.ref) (fun i σ Hx=>Same H14 Hx∧∃(v12:Option V),σ=[some (.ref a),some (.ref t),some (.ref b),some (.ref h),some (.bl few),some (.ref ol),some (.int Oe.2),some (.ref pp),some (iV m),v9,v10,v11,v12])
   ⟨Same.refl _,_,rfl⟩ (fun i σ Hx _ h=>SqL.of (h.1 _ _ e14)) ?_ ?_⟩
  ·rintro i y σ H15 hy ⟨s15,v12,rfl⟩
   obtain⟨e,ee,rfl⟩:=kbj hy
   obtain⟨q,eq,hE⟩:=hf14.at ee
   obtain⟨hq1,hq2,hq3⟩:=hfq q (Mx (JO eq))
   have s015:=s014.trans s15
   refine⟨_,rfl,_,rfl,_,rfl,h,_,rfl, .inl (SqL.of (s015 _ _ eh5)),fun h4 fh4=>?_⟩
   exists H15,h4,HA4,nA4,eA4,fh4
   have sA4:=s015.trans nA4
   refine⟨_,rfl,ol,_,rfl, .inl (SqL.of (sA4 _ _ eol5)),fun o4 fo4=>?_⟩
   exists HA4,o4,HB4,nB4,eB4,fo4
   have sB4:=sA4.trans nB4
   refine⟨_,rfl,_,rfl,_,rfl,(by show 1≤sizeLine;decide),fun l16 fl16=>?_⟩
   exists HB4,l16,H16,n16,e16,fl16
   refine⟨pp,l16,_,_,rfl,rfl,(sB4.trans n16) _ _ epp,e16,JY (kau (by rw[JJ];show ea.length+1≤1000;omega)),fun p4 fp4=>?_⟩
   rw[show ea.map V.ref++[V.ref e]=(ea++[e]).map V.ref by rw[JQ];rfl]
   exists H16,p4,HC4,nC4,eC4,fp4
   have sC4:=(sB4.trans n16).trans nC4
   have hx4:=(((nA4.trans nB4).trans n16).trans nC4)
   refine⟨t,b,h4,o4,p4,Oe.2,ea++[e],T,B,hand,Oe.1,qs++[q],rfl,hT5.same sC4,tok,hB5.same sC4,wf0,((nB4.trans n16).trans nC4) _ _ eA4,hl,hz,(n16.trans nC4) _ _ eB4,eC4,P2.snoc (hen.mono fun e q h=>h.same sC4) (hE.same (s15.trans hx4)),(by rw[JW,Np];omega),(fun q' hq'=>?_),fun HD4 c sD4 hc=>?_⟩
   ·rcases Nk.mp hq' with h'|h'
    ·exact hq64' q' h'
    ·have e':q'=q:=by simpa using h'
     rw[e']
     exact⟨hq2,hq3⟩
   have ec:c=false:=by
    cases c with
    |false=>rfl
    |true=>exact absurd (hc.mp rfl) (kk8 (Nw _ J0) hq1)
   subst ec
   exact⟨_,_,rfl,rfl,_,rfl,iteF ⟨s15.trans (hx4.trans sD4),_,rfl⟩⟩
  rintro σ H15 ⟨s15,v12,rfl⟩
  refine hA9 _ _ ?_
  have s015:=s014.trans s15
  refine sN fun A10 hA10=>?_
  refine⟨_,rfl,_,rfl,_,rfl,pp,_,rfl,SqL.of (s015 _ _ epp),fun c16 fc16=>?_⟩
  rw[khc,←Me]
  exists H15,c16,H16,n16,e16,fc16
  have s016:=s015.trans n16
  refine⟨c16,rfl,⟨_,SqL.of e16⟩,kaP (xs:=(ea.take m).map V.ref) (fun i σ Hx=>Same H16 Hx∧∃(v12:Option V),σ=[some (.ref a),some (.ref t),some (.ref b),some (.ref h),some (.bl few),some (.ref ol),some (.int Oe.2),some (.ref pp),some (iV m),v9,v10,v11,v12])
   ⟨Same.refl _,_,rfl⟩ (fun i σ Hx _ h=>SqL.of (h.1 _ _ e16)) ?_ ?_⟩
  ·rintro i y σ H17 hy ⟨s17,v12,rfl⟩
   obtain⟨e,ee,rfl⟩:=kbj hy
   obtain⟨q,eq,l,he,hle⟩:=(hen.take m).at ee
   have s017:=s016.trans s17
   refine⟨_,rfl,e,_,_,_,rfl,rfl,SqT.of (s017 _ _ he),rfl,_,rfl,l,ol,_,_,rfl,rfl,SqL.of (s017 _ _ hle),SqL.of (s017 _ _ eol5),kbB _,kbB _,_,rfl,?_⟩
   rw[show(if true=true then !eqVs (q.1.map iV) (Oe.1.map iV) else eqVs (q.1.map iV) (Oe.1.map iV))= !decide (q.1=Oe.1) by rw[if_pos rfl,ke6]]
   by_cases co:q.1=Oe.1
   ·rw[decide_eq_true co]
    exact iteF ⟨s17,_,rfl⟩
   rw[decide_eq_false co]
   refine iteT ?_
   refine⟨_,rfl,_,rfl,_,rfl,h,_,rfl, .inl (SqL.of (s017 _ _ eh5)),fun h5 fh5=>?_⟩
   exists H17,h5,HA5,nA5,eA5,fh5
   have sA5:=s017.trans nA5
   refine⟨_,rfl,e,_,_,_,rfl,rfl,SqT.of (sA5 _ _ he),rfl,l,_,rfl, .inl (SqL.of (sA5 _ _ hle)),fun o5 fo5=>?_⟩
   exists HA5,o5,HB5,nB5,eB5,fo5
   have sB5:=sA5.trans nB5
   refine⟨_,rfl,e,_,_,_,rfl,rfl,SqT.of (sB5 _ _ he),rfl,_,rfl,pp,_,rfl, .inl (SqL.of (sB5 _ _ epp)),fun p5 fp5=>?_⟩
   exists HB5,p5,HC5,nC5,eC5,fp5
   have sC5:=sB5.trans nC5
   refine⟨t,b,h5,o5,p5,q.2.1,ea,T,B,hand,q.1,qs,rfl,hT5.same sC5,tok,hB5.same sC5,wf0,(nB5.trans nC5) _ _ eA5,hl,hz,nC5 _ _ eB5,eC5,hen.mono fun e q h=>h.same sC5,l1000,hq64',fun HD5 c sD5 hc=>?_⟩
   have s5D:=sC5.trans sD5
   have ec:c=false:=by
    cases c with
    |false=>rfl
    |true=>exact absurd (hc.mp rfl) (fun hx=>co (hsame _ _ hx).2)
   subst ec
   exact⟨_,_,rfl,rfl,_,rfl,iteF ⟨s17.trans (((nA5.trans nB5).trans nC5).trans sD5),_,rfl⟩⟩
  rintro σ H17 ⟨s17,v12,rfl⟩
  refine hA10 _ _ ?_
  have s017:=s016.trans s17
  refine hold3 (K':=_) rfl rfl rfl rfl rfl rfl (hT5.same s017) tok (hB5.same s017) wf0 (s017 _ _ eh5) hl hz (s017 _ _ eol5) (s017 _ _ epp) (hen.mono fun e q h=>h.same s017) l1000 hq64' fun HD6 c sD6 hc=>?_
  have s6D:=s017.trans sD6
  have ec:c=true:=hc.mpr hH
  subst ec
  refine⟨_,_,rfl,rfl,?_⟩
  exact k HD6
end
end Vs
namespace Vs
open PySem L2
theorem ln0{C:List Value→Prop}(k:C []):∀us:List Value,us.length=0→C us:=fun us h=>by
 cases us with
 |nil=>exact k
 |cons a us=>cases h
theorem lnS{C:List Value→Prop}{n:Nat}(k:∀(a:Value)(us:List Value),us.length=n→C (a::us)):∀us:List Value,us.length=n+1→C us:=fun us h=>by
 cases us with
 |nil=>cases h
 |cons a us=>exact k a us (Nat.succ.inj h)
def nL1{C:List Value→Prop}(k:∀a0:Value,C [a0]):∀us:List Value,us.length=1→C us:=lnS fun a0=>ln0 (k a0)
def nL2{C:List Value→Prop}(k:∀a0 a1:Value,C [a0,a1]):∀us:List Value,us.length=2→C us:=lnS fun a0=>lnS fun a1=>ln0 (k a0 a1)
def nL3{C:List Value→Prop}(k:∀a0 a1 a2:Value,C [a0,a1,a2]):∀us:List Value,us.length=3→C us:=lnS fun a0=>lnS fun a1=>lnS fun a2=>ln0 (k a0 a1 a2)
def nL4{C:List Value→Prop}(k:∀a0 a1 a2 a3:Value,C [a0,a1,a2,a3]):∀us:List Value,us.length=4→C us:=lnS fun a0=>lnS fun a1=>lnS fun a2=>lnS fun a3=>ln0 (k a0 a1 a2 a3)
def nL5{C:List Value→Prop}(k:∀a0 a1 a2 a3 a4:Value,C [a0,a1,a2,a3,a4]):∀us:List Value,us.length=5→C us:=lnS fun a0=>lnS fun a1=>lnS fun a2=>lnS fun a3=>lnS fun a4=>ln0 (k a0 a1 a2 a3 a4)
def nL6{C:List Value→Prop}(k:∀a0 a1 a2 a3 a4 a5:Value,C [a0,a1,a2,a3,a4,a5]):∀us:List Value,us.length=6→C us:=lnS fun a0=>lnS fun a1=>lnS fun a2=>lnS fun a3=>lnS fun a4=>lnS fun a5=>ln0 (k a0 a1 a2 a3 a4 a5)
def nL7{C:List Value→Prop}(k:∀a0 a1 a2 a3 a4 a5 a6:Value,C [a0,a1,a2,a3,a4,a5,a6]):∀us:List Value,us.length=7→C us:=lnS fun a0=>lnS fun a1=>lnS fun a2=>lnS fun a3=>lnS fun a4=>lnS fun a5=>lnS fun a6=>ln0 (k a0 a1 a2 a3 a4 a5 a6)
def bd_mk{K:JL}{fd:FuncData}{ps:List Str}{ds:List Value}{n:Nat}(hn:n+ds.length=ps.length)(k:∀s:Shared,K.In s.heap→∀us:List Value,us.length=n→BindsTo s fd ⟨us,[]⟩ (ps.zip (us++ds))):Binds K fd ps ds:=fun s us KX hl=>k s KX us (by rw[JW] at hl;omega)
def dn_mk{K:JL}{st:Stmt}{ps:List Str}{f:Addr}{oc:Value}{od an:Option Addr}{osl:Array (Option Value)}{kV doc pm cdv ct:Value}{h:Heap}{mg:Str→Option Value}{x:Str}(X:K.In h)(G:h.Ns mainGlobals mg)(a:J9 K mainGlobals x=some (some (.ref f)))(l:K.lookup f=some ⟨oc,od, .func (J6 x x (kaH st) (kaF st) (kah st) .none kV doc pm an cdv ct),osl⟩)(c:Nu K cdv x=true)(k:J7 K (.ref f)=true)(b:∀(kV doc pm:Value)(an:Option Addr)(cdv ct:Value),∀us:List Value,us.length=ps.length→bindArgs (J6 x x (kaH st) (kaF st) (kah st) .none kV doc pm an cdv ct) ⟨us,[]⟩=pure (ps.zip us)):Dn K mg x st ps f (J6 x x (kaH st) (kaF st) (kah st) .none kV doc pm an cdv ct):=⟨kbA l c k,Binds.all (b _ _ _ _ _ _),Nq X G a⟩
def mt_mk{K:JL}{st:Stmt}{ps:List Str}{f:Addr}{oc:Value}{od an:Option Addr}{osl:Array (Option Value)}{kV doc pm cdv ct:Value}{m qual:Str}{C:Addr}(a:JM K (.ref C) m=some (some (.ref f)))(i:NI K (.ref f)=true)(l:K.lookup f=some ⟨oc,od, .func (J6 m qual (kaH st) (kaF st) (kah st) .none kV doc pm an cdv ct),osl⟩)(c:Nu K cdv qual=true)(k:J7 K (.ref f)=true)(b:∀(kV doc pm:Value)(an:Option Addr)(cdv ct:Value),∀us:List Value,us.length=ps.length→bindArgs (J6 m qual (kaH st) (kaF st) (kah st) .none kV doc pm an cdv ct) ⟨us,[]⟩=pure (ps.zip us)):MthT K C m qual st ps f (J6 m qual (kaH st) (kaF st) (kah st) .none kV doc pm an cdv ct):=⟨a,i,kbA l c k,Binds.all (b _ _ _ _ _ _)⟩
theorem all_mk{l:PySem.W.OpenLaw}{w:World}{K:JL}{h:Heap}{mg:Str→Option Value}{fa zet zeh z3j zev zg9 z8h zez zen z1j z3d z1y z5m z3h zv z41 z7s z4g zbj zek zcw z4e z4t z5i z2u zg5 z59 z5c zex z67 z2t z3k z1r z56 z9q z58 z4m z4n z4c z29 z2j z5k z46 z65 z6j z68 z5v zbn zk zz z3p zf zq z1v zl z1q z64 ze zy z3o za zs z1l zc zw z2k zb zt z1n zo z1c z4i zj zx z1z zd z42 z2z zm z9o z4k z6g z44 z3w zh z62 z5o zp z1a z4j zn zi:Addr}{z7d z27 zhx zga zbr z5t zbu z8y z40 z92 zda z7u zdp zbk z5z zbd z7p z2w z88 zan z50 z9z z7q z3a z8m zbx z6p zcf za3 z4p zak zc0 z6r zcl z6e:Option Addr}{z74 zi7 zbf zbp z8u z8v zdy zdw zb6 zbo z7l z7o zal z9t z84 z7z zby zca z9v z9w zc9 zc2 z6f:Array (Option Value)}{z7g z21 z24 z2n zu z2l zhr zg3 zg7 zg8 zd8 zg4 zb7 z66 z5u z5n z2g z5y zay z9a z3v z4a z4f z1m z3y z93 zdu z8f z7v z7k z4h z8j zdk zb9 z5q z6d z5s z25 z5p zbq z81 z35 z3c z32 z1g z37 z8b zaq z4s z52 z57 z1t z4v z9x z7m z3i z38 z3e z1e z33 z8n zcs z6i z6v z6n z3l z6k zcq za9 z53 z4q z5j z1u z55 zaa zcp z6t z6s z6l z3n z6q zc5 z1w:Value}{zbg z3g z8t ze7 zbh z82 z9s z8k zcj zao z2s zci z3u z2p z2a z2q:Nat}{zf5 zec z39 zei zg6 z89 zer zea z1k z3b z2d z63 z31 z4d z8a z45 zba zf7 zcv z3z z5e z4u z28 zgb z54 z4y zeq z60 z2h z3f z1p z5f z9m z4x z4l z4z z3r z2o z2m z5d z47 z61 z6m z69 z5w z3q z36 z9r z5a z6u z49 z43 z6a z6c:FuncData}{zg:Array Value}{z2e:Str}{z2b z26:Int}{z1x:Bool}{ts:List Addr}(X:K.In h)(G:h.Ns mainGlobals mg)(hfa:mg "law"=some (.ref fa))
  (zh5:Dn K mg "dealt" khB ["cut","weights"] zet zf5)
  (zh7:Dn K mg "under" khy ["parents","one","other"] zeh zec)
  (z7y:Dn K mg "price_of_piece" kbS ["line","member"] z3j z39)
  (zhe:Dn K mg "about" keG ["voucher","parents","basket","standing"] zev zei)
  (zic:Dn K mg "fits" kjX ["marks","parents","kind","marked"] zg9 zg6)
  (zdt:Dn K mg "hindrance" kdk ["voucher","parents","basket","standing"] z8h z89)
  (zhp:Dn K mg "after" khC ["voucher","parents","basket","standing"] zez zer)
  (zhg:Dn K mg "reach" khz ["voucher","parents","basket","standing"] zen zea)
  (z5l:Dn K mg "reach_without_most" kbl ["voucher","standing","together"] z1j z1k)
  (z80:Dn K mg "cuts_of_pieces" kbV ["voucher","parents","basket","standing"] z3d z3b)
  (z7f:Dn K mg "cut_of_carriage" kbF ["voucher","standing"] z1y z2d)
  (zbc:Dn K mg "wanted_cuts" kbg ["voucher","standing","pieces"] z5m z63)
  (z86:Dn K mg "parted_by_line" kbT ["standing","pieces"] z3h z31)
  (z8l:J9 K mainGlobals "falling_groups"=some (some (.ref zv))) (z7x:K.lookup zv=some ⟨z7g,z7d, .func (J6 "falling_groups" "falling_groups" (kaH kaG) (kaF kaG) (kah kaG) .none z21 z24 z2n z27 zu z2l),z74⟩) (z7n:Nu K zu "falling_groups"=true) (z85:J7 K (.ref zv)=true)
  (z8z:Dn K mg "marked_behind" kb7 ["voucher","standing","piece_cuts"] z41 z4d)
  (zde:Dn K mg "prices_of" kcB ["standing","pieces"] z7s z8a)
  (z9i:Dn K mg "sum_of_prices" kb6 ["standing","pieces"] z4g z45)
  (zfn:Dn K mg "at_most" keF ["most","number"] zbj zba)
  (zhc:Dn K mg "fault" khA ["till","basket","hand","order"] zek zf7)
  (zgj:Dn K mg "way_by" kfY ["till","basket","hand","order"] zcw zcv)
  (z96:Dn K mg "word_of_order" kb5 ["till","hand","used","number"] z4e z3z)
  (z9u:Dn K mg "breaks_never" kcn ["rules","used","number"] z4t z5e)
  (za5:Dn K mg "breaks_ahead" kco ["rules","used","number"] z5i z4u)
  (z71:Dn K mg "without_company" kbD ["rules","order"] z2u z28)
  (zi6:Dn K mg "best" kjY ["till","basket","hand"] zg5 zgb)
  (za4:Dn K mg "least_behind" kcm ["way"] z59 z54)
  (zap:Dn K mg "many_to_come" kcl ["way","number"] z5c z4y)
  (zhd:Dn K mg "holds" kfZ ["till","basket","hand","order","total","paper"] zex zeq)
  (zaz:Dn K mg "is_entry_of" kcC ["way","entry"] z67 z60)
  (z6y:Dn K mg "leaves_none_out" kbE ["ways","paper","total"] z2t z2h)
  (z7w:Dn K mg "goes_on_within" kbU ["way","entered"] z3k z3f)
  (z6b:Dn K mg "first_of_cheapest" kbo ["ways"] z1r z1p)
  (za1:Dn K mg "_law_cell_at" kct ["_law_script","_law_k"] z56 z5f)
  (zey:Dn K mg "_law_mix" kdU ["_law_cell","_law_factor","_law_prime"] z9q z9m)
  (zae:Dn K mg "_law_coin_by" kcs ["_law_cell"] z58 z4x)
  (zaf:Dn K mg "_law_coin_of" kcr ["_law_cell","_law_scale"] z4m z4l)
  (za7:Dn K mg "_law_line_by" kcp ["_law_cell","_law_kinds","_law_scale","_law_most"] z4n z4z)
  (z9b:Dn K mg "_law_marks_by" kb9 ["_law_cell","_law_kinds","_law_scale"] z4c z3r)
  (z6x:Dn K mg "_law_voucher_by" kbG ["_law_cell","_law_kinds","_law_scale"] z29 z2o)
  (z7h:Dn K mg "_law_parents_by" kbH ["_law_cell"] z2j z2m)
  (zac:Dn K mg "_law_hand_by" kcq ["_law_more_held","_law_vouchers","_law_most_held","_law_first"] z5k z5d)
  (z9g:Dn K mg "_law_world_by" kb8 ["_law_script","_law_most_vouchers","_law_most_held"] z46 z47)
  (zax:Dn K mg "_law_needed" kb4 ["_law_paper","_law_total"] z65 z61)
  (zco:Dn K mg "_law_moved" kcT ["_law_paper","_law_place","_law_by_total","_law_by_least"] z6j z6m)
  (zb5:Dn K mg "_law_spoilt" kcD ["_law_paper","_law_total","_law_cell"] z68 z69)
  (zbs:Dn K mg "_law_beyond" kcE ["_law_till","_law_basket","_law_hand","_law_paper"] z5v z5w)
  (zgx:J9 K mainGlobals "law"=some (some (.ref zbn))) (zig:K.lookup zbn=some ⟨zhr,zhx, .func (J6 "law" "law" (kaH s_law) (kaF s_law) (kah s_law) .none zg3 zg7 zg8 zga zd8 zg4),zi7⟩) (zif:Nu K zd8 "law"=true) (zie:J7 K (.ref zbn)=true)
  (zhm:J9 K mainGlobals "Marks"=some (some (.ref zk)))
  (zgg:JT K zk (.type "object")=some true) (zgk:JT K zk (.ref zk)=some true) (zgr:Nz K (.ref zk)=some (.type "type"))
  (inX:MJ K (.builtin "object.__class__") "__get__"=some (some (.builtin "getset_descriptor.__get__"))) (itX:Eu K (.builtin "object.__class__")=some true)
  (zgs:Nx K zk Str.empty=true) (zgf:NF K zk=true) (zgh:NJ K zk=true) (zgv:JM K (.ref zk) "__setattr__"=some (some (.builtin "object.__setattr__"))) (zgd:NG K zk=true) (zgn:J7 K (.ref zk)=true) (zgp:JM K (.ref zk) "__class__"=some (some (.builtin "object.__class__")))
  (zcu:JM K (.ref zk) "kind"=some none)
  (zb0:JM K (.ref zk) "needs"=some none)
  (zc6:JM K (.ref zk) "most"=some none)
  (zau:JM K (.ref zk) "member"=some none)
  (zcb:JM K (.ref zk) "once"=some none)
  (zch:JM K (.ref zk) "lone"=some none)
  (zc1:JM K (.ref zk) "__init__"=some (some (.ref zz))) (zc8:NI K (.ref zz)=true) (zct:K.lookup zz=some ⟨zb7,zbr, .func (J6 "__init__" "Marks.__init__" (kaH ka4) (kaF ka4) (kah ka4) (.ref z3p) z66 z5u z5n z5t z2g z5y),zbf⟩) (zck:Nu K z2g "Marks.__init__"=true) (zcr:J7 K (.ref zz)=true) (zr:K.lookup z3p=some ⟨zay,zbu, .seq #[.none, .int 0 z3g, .none, .bool false, .bool false, .bool false] zbg,zbp⟩)
  (zfd:J9 K mainGlobals "Voucher"=some (some (.ref zf)))
  (zeo:JT K zf (.type "object")=some true) (zf9:JT K zf (.ref zf)=some true) (zeu:Nz K (.ref zf)=some (.type "type"))
  (zf4:Nx K zf Str.empty=true) (zf3:NF K zf=true) (zep:NJ K zf=true) (zem:JM K (.ref zf) "__setattr__"=some (some (.builtin "object.__setattr__"))) (zf6:NG K zf=true) (zef:J7 K (.ref zf)=true) (zeg:JM K (.ref zf) "__class__"=some (some (.builtin "object.__class__")))
  (zar:JM K (.ref zf) "__init__"=some (some (.ref zq))) (zam:NI K (.ref zq)=true) (zah:K.lookup zq=some ⟨z9a,z8y, .func (J6 "__init__" "Voucher.__init__" (kaH kaQ) (kaF kaQ) (kah kaQ) (.ref z1v) z3v z4a z4f z40 z1m z3y),z8u⟩) (za8:Nu K z1m "Voucher.__init__"=true) (za6:J7 K (.ref zq)=true) (z4w:K.lookup z1v=some ⟨z93,z92, .seq #[.none] z8t,z8v⟩)
  (zha:J9 K mainGlobals "Off"=some (some (.ref zl)))
  (z87:JT K zl (.type "object")=some true) (z8i:JT K zl (.ref zl)=some true) (z8e:Nz K (.ref zl)=some (.type "type"))
  (zid:Nx K zl Str.empty=true) (zib:NF K zl=true) (zhw:NJ K zl=true) (zi1:JM K (.ref zl) "__setattr__"=some (some (.builtin "object.__setattr__"))) (zia:NG K zl=true) (zi5:J7 K (.ref zl)=true) (zhu:JM K (.ref zl) "__class__"=some (some (.builtin "object.__class__")))
  (zbz:JM K (.ref zl) "amount"=some none)
  (zdi:JM K (.ref zl) "marks"=some none)
  (zf0:JM K (.ref zl) "__init__"=some (some (.ref z1q))) (zed:NI K (.ref z1q)=true) (zew:K.lookup z1q=some ⟨zdu,zda, .func (J6 "__init__" "Off.__init__" (kaH kbr) (kaF kbr) (kah kbr) (.ref z64) z8f z7v z7k z7u z4h z8j),zdy⟩) (zeb:Nu K z4h "Off.__init__"=true) (zf1:J7 K (.ref z1q)=true) (z9l:K.lookup z64=some ⟨zdk,zdp, .seq #[.none] ze7,zdw⟩)
  (zf2:J9 K mainGlobals "Share"=some (some (.ref ze)))
  (z4b:JT K ze (.type "object")=some true) (z3t:JT K ze (.ref ze)=some true) (z3s:Nz K (.ref ze)=some (.type "type"))
  (zge:Nx K ze Str.empty=true) (zgo:NF K ze=true) (zgm:NJ K ze=true) (zgt:JM K (.ref ze) "__setattr__"=some (some (.builtin "object.__setattr__"))) (zgl:NG K ze=true) (zgu:J7 K (.ref ze)=true) (zgi:JM K (.ref ze) "__class__"=some (some (.builtin "object.__class__")))
  (zb8:JM K (.ref ze) "share"=some none)
  (z9e:JM K (.ref ze) "by_line"=some none)
  (zb1:JM K (.ref ze) "marks"=some none)
  (zcc:JM K (.ref ze) "__init__"=some (some (.ref zy))) (zce:NI K (.ref zy)=true) (zcd:K.lookup zy=some ⟨zb9,zbk, .func (J6 "__init__" "Share.__init__" (kaH ka3) (kaF ka3) (kah ka3) (.ref z3o) z5q z6d z5s z5z z25 z5p),zb6⟩) (zc3:Nu K z25 "Share.__init__"=true) (zcg:J7 K (.ref zy)=true) (z3m:K.lookup z3o=some ⟨zbq,zbd, .seq #[.bool false, .none] zbh,zbo⟩)
  (z9n:J9 K mainGlobals "Cheapest"=some (some (.ref za)))
  (z1d:JT K za (.type "object")=some true) (z19:JT K za (.ref za)=some true) (z1h:Nz K (.ref za)=some (.type "type"))
  (zdm:Nx K za Str.empty=true) (zdz:NF K za=true) (zd6:NJ K za=true) (zd7:JM K (.ref za) "__setattr__"=some (some (.builtin "object.__setattr__"))) (ze0:NG K za=true) (zdh:J7 K (.ref za)=true) (zdo:JM K (.ref za) "__class__"=some (some (.builtin "object.__class__")))
  (z98:JM K (.ref za) "many"=some none)
  (z7r:JM K (.ref za) "marks"=some none)
  (z8r:JM K (.ref za) "__init__"=some (some (.ref zs))) (z99:NI K (.ref zs)=true) (z8p:K.lookup zs=some ⟨z81,z7p, .func (J6 "__init__" "Cheapest.__init__" (kaH kaL) (kaF kaL) (kah kaL) (.ref z1l) z35 z3c z32 z2w z1g z37),z7l⟩) (z9d:Nu K z1g "Cheapest.__init__"=true) (z8q:J7 K (.ref zs)=true) (z48:K.lookup z1l=some ⟨z8b,z88, .seq #[.none] z82,z7o⟩)
  (zcx:J9 K mainGlobals "Bundle"=some (some (.ref zc)))
  (z22:JT K zc (.type "object")=some true) (z2v:JT K zc (.ref zc)=some true) (z2r:Nz K (.ref zc)=some (.type "type"))
  (zfb:Nx K zc Str.empty=true) (zfx:NF K zc=true) (zfl:NJ K zc=true) (zfs:JM K (.ref zc) "__setattr__"=some (some (.builtin "object.__setattr__"))) (zft:NG K zc=true) (zg1:J7 K (.ref zc)=true) (zfc:JM K (.ref zc) "__class__"=some (some (.builtin "object.__class__")))
  (zav:JM K (.ref zc) "many"=some none)
  (z9y:JM K (.ref zc) "price"=some none)
  (za0:JM K (.ref zc) "marks"=some none)
  (zbe:JM K (.ref zc) "__init__"=some (some (.ref zw))) (zbw:NI K (.ref zw)=true) (zbt:K.lookup zw=some ⟨zaq,zan, .func (J6 "__init__" "Bundle.__init__" (kaH kaW) (kaF kaW) (kah kaW) (.ref z2k) z4s z52 z57 z50 z1t z4v),zal⟩) (zbv:Nu K z1t "Bundle.__init__"=true) (zbl:J7 K (.ref zw)=true) (z5x:K.lookup z2k=some ⟨z9x,z9z, .seq #[.none] z9s,z9t⟩)
  (z9p:J9 K mainGlobals "Carriage"=some (some (.ref zb)))
  (z1b:JT K zb (.type "object")=some true) (z1f:JT K zb (.ref zb)=some true) (z1i:Nz K (.ref zb)=some (.type "type"))
  (zdb:Nx K zb Str.empty=true) (zcz:NF K zb=true) (zdr:NJ K zb=true) (zdd:JM K (.ref zb) "__setattr__"=some (some (.builtin "object.__setattr__"))) (ze1:NG K zb=true) (ze4:J7 K (.ref zb)=true) (ze2:JM K (.ref zb) "__class__"=some (some (.builtin "object.__class__")))
  (z7t:JM K (.ref zb) "marks"=some none)
  (z90:JM K (.ref zb) "__init__"=some (some (.ref zt))) (z9h:NI K (.ref zt)=true) (z8x:K.lookup zt=some ⟨z7m,z7q, .func (J6 "__init__" "Carriage.__init__" (kaH kaM) (kaF kaM) (kah kaM) (.ref z1n) z3i z38 z3e z3a z1e z33),z84⟩) (z94:Nu K z1e "Carriage.__init__"=true) (z9f:J7 K (.ref zt)=true) (z3x:K.lookup z1n=some ⟨z8n,z8m, .seq #[.none] z8k,z7z⟩)
  (zi2:J9 K mainGlobals "Line"=some (some (.ref zo)))
  (zhb:JT K zo (.type "object")=some true) (zhf:JT K zo (.ref zo)=some true) (zhj:Nz K (.ref zo)=some (.type "type"))
  (zho:Nx K zo Str.empty=true) (zhl:NF K zo=true) (zh2:NJ K zo=true) (zhk:JM K (.ref zo) "__setattr__"=some (some (.builtin "object.__setattr__"))) (zhi:NG K zo=true) (zhn:J7 K (.ref zo)=true) (zgy:JM K (.ref zo) "__class__"=some (some (.builtin "object.__class__")))
  (zd3:JM K (.ref zo) "kind"=some none)
  (zc7:JM K (.ref zo) "price"=some none)
  (zdf:JM K (.ref zo) "many"=some none)
  (zai:JM K (.ref zo) "special"=some none)
  (zdc:JM K (.ref zo) "__init__"=some (some (.ref z1c))) (ze5:NI K (.ref z1c)=true) (zdv:K.lookup z1c=some ⟨zcs,zbx, .func (J6 "__init__" "Line.__init__" (kaH ka9) (kaF ka9) (kah ka9) (.ref z4i) z6i z6v z6n z6p z3l z6k),zby⟩) (zd4:Nu K z3l "Line.__init__"=true) (zdj:J7 K (.ref z1c)=true) (z8o:K.lookup z4i=some ⟨zcq,zcf, .seq #[.none] zcj,zca⟩)
  (zgq:J9 K mainGlobals "Basket"=some (some (.ref zj)))
  (zfg:JT K zj (.type "object")=some true) (zfy:JT K zj (.ref zj)=some true) (zg2:Nz K (.ref zj)=some (.type "type"))
  (zfz:Nx K zj Str.empty=true) (zfj:NF K zj=true) (zfm:NJ K zj=true) (zfr:JM K (.ref zj) "__setattr__"=some (some (.builtin "object.__setattr__"))) (zfq:NG K zj=true) (zfe:J7 K (.ref zj)=true) (zfi:JM K (.ref zj) "__class__"=some (some (.builtin "object.__class__")))
  (zaj:JM K (.ref zj) "lines"=some none)
  (z7i:JM K (.ref zj) "carriage"=some none)
  (z91:JM K (.ref zj) "member"=some none)
  (zb4:JM K (.ref zj) "__init__"=some (some (.ref zx))) (zbi:NI K (.ref zx)=true) (zb2:K.lookup zx=some ⟨za9,za3, .func (J6 "__init__" "Basket.__init__" (kaH kaX) (kaF kaX) (kah kaX) (.ref z1z) z53 z4q z5j z4p z1u z55),z9v⟩) (zaw:Nu K z1u "Basket.__init__"=true) (zb3:J7 K (.ref zx)=true) (z23:K.lookup z1z=some ⟨zaa,zak, .seq #[.int 0 z2s, .bool false] zao,z9w⟩)
  (zf8:J9 K mainGlobals "Standing"=some (some (.ref zd)))
  (zdx:JT K zd (.type "object")=some true) (zd1:JT K zd (.ref zd)=some true) (zdl:Nz K (.ref zd)=some (.type "type"))
  (zd0:Nx K zd Str.empty=true) (ze3:NF K zd=true) (zd2:NJ K zd=true) (zdq:JM K (.ref zd) "__setattr__"=some (some (.builtin "object.__setattr__"))) (zcy:NG K zd=true) (zds:J7 K (.ref zd)=true) (zd5:JM K (.ref zd) "__class__"=some (some (.builtin "object.__class__")))
  (z7j:JM K (.ref zd) "owners"=some none)
  (z7c:JM K (.ref zd) "prices"=some none)
  (z5r:JM K (.ref zd) "carriage"=some none)
  (z73:JM K (.ref zd) "marked"=some none)
  (z9c:MthT K zd "__init__" "Standing.__init__" kcb ["self","basket"] z42 z3q)
  (z83:MthT K zd "whole" "Standing.whole" kbW ["self"] z2z z36)
  (zih:J9 K mainGlobals "Way"=some (some (.ref zm)))
  (zi4:JT K zm (.type "object")=some true) (zi3:JT K zm (.ref zm)=some true) (zhy:Nz K (.ref zm)=some (.type "type"))
  (zhz:Nx K zm Str.empty=true) (zhq:NF K zm=true) (zhs:NJ K zm=true) (zi0:JM K (.ref zm) "__setattr__"=some (some (.builtin "object.__setattr__"))) (zht:NG K zm=true) (zhv:J7 K (.ref zm)=true) (zi8:JM K (.ref zm) "__class__"=some (some (.builtin "object.__class__")))
  (zes:JM K (.ref zm) "till"=some none)
  (zcm:JM K (.ref zm) "basket"=some none)
  (zee:JM K (.ref zm) "hand"=some none)
  (zel:JM K (.ref zm) "used"=some none)
  (zag:JM K (.ref zm) "standing"=some none)
  (zej:MthT K zm "__init__" "Way.__init__" kdV ["self","till","basket","hand"] z9o z9r)
  (za2:MthT K zm "word_for" "Way.word_for" kcu ["self","number"] z4k z5a)
  (zc4:MthT K zm "behind" "Way.behind" kcU ["self","number"] z6g z6u)
  (z8s:MthT K zm "followers" "Way.followers" kbx ["self"] z44 z49)
  (z9j:MthT K zm "is_let_by" "Way.is_let_by" kca ["self"] z3w z43)
  (zgc:J9 K mainGlobals "Search"=some (some (.ref zh)))
  (zfu:JT K zh (.type "object")=some true) (zfw:JT K zh (.ref zh)=some true) (zfv:Nz K (.ref zh)=some (.type "type"))
  (zfk:Nx K zh Str.empty=true) (zfh:NF K zh=true) (zfa:NJ K zh=true) (zg0:JM K (.ref zh) "__setattr__"=some (some (.builtin "object.__setattr__"))) (zff:NG K zh=true) (zfp:J7 K (.ref zh)=true) (zfo:JM K (.ref zh) "__class__"=some (some (.builtin "object.__class__")))
  (zab:JM K (.ref zh) "order"=some none)
  (zat:JM K (.ref zh) "total"=some none)
  (zad:JM K (.ref zh) "paper"=some none)
  (zbm:MthT K zh "__init__" "Search.__init__" kcG ["self","way"] z62 z6a)
  (zbb:MthT K zh "meet" "Search.meet" kcF ["self","way"] z5o z6c)
  (zi9:J9 K mainGlobals "Till"=some (some (.ref zp)))
  (zh0:JT K zp (.type "object")=some true) (zh4:JT K zp (.ref zp)=some true) (zgz:Nz K (.ref zp)=some (.type "type"))
  (zh3:Nx K zp Str.empty=true) (zhh:NF K zp=true) (zh1:NJ K zp=true) (zh9:JM K (.ref zp) "__setattr__"=some (some (.builtin "object.__setattr__"))) (zh8:NG K zp=true) (zh6:J7 K (.ref zp)=true) (zgw:JM K (.ref zp) "__class__"=some (some (.builtin "object.__class__")))
  (zas:JM K (.ref zp) "parents"=some none)
  (z9k:JM K (.ref zp) "vouchers"=some none)
  (zcn:JM K (.ref zp) "rules"=some none)
  (zdn:JM K (.ref zp) "back"=some none)
  (zdg:JM K (.ref zp) "__init__"=some (some (.ref z1a))) (ze9:NI K (.ref z1a)=true) (ze6:K.lookup z1a=some ⟨zcp,zc0, .func (J6 "__init__" "Till.__init__" (kaH ka8) (kaF ka8) (kah ka8) (.ref z4j) z6t z6s z6l z6r z3n z6q),zc9⟩) (ze8:Nu K z3n "Till.__init__"=true) (zd9:J7 K (.ref z1a)=true) (z8g:K.lookup z4j=some ⟨zc5,zcl, .seq #[.str "again" z3u] zci,zc2⟩)
  (z97:PySem.W.readsIn K zf (.type "type")=true) (z8w:MJ K (.ref zf) "__getattribute__"=some (some (.builtin "type.__getattribute__"))) (z95:PySem.W.findCls K (.ref zf) (.type "type") "__init__"=some (.val (.ref zq)))
  (z8c:JT K ze (.ref zl)=some false)
  (z4r:JT K za (.ref zl)=some false)
  (z6o:JT K zc (.ref zl)=some false)
  (z51:JT K zb (.ref zl)=some false)
  (z8d:JT K zl (.ref ze)=some false)
  (z30:JT K za (.ref ze)=some false)
  (z4o:JT K zc (.ref ze)=some false)
  (z2x:JT K zb (.ref ze)=some false)
  (z5h:JT K zl (.ref za)=some false)
  (z34:JT K ze (.ref za)=some false)
  (z20:JT K zc (.ref za)=some false)
  (z1s:JT K zb (.ref za)=some false)
  (z6h:JT K zl (.ref zc)=some false)
  (z5b:JT K ze (.ref zc)=some false)
  (z2c:JT K za (.ref zc)=some false)
  (z2f:JT K zb (.ref zc)=some false)
  (z5g:JT K zl (.ref zb)=some false)
  (z2y:JT K ze (.ref zb)=some false)
  (z1o:JT K za (.ref zb)=some false)
  (z2i:JT K zc (.ref zb)=some false)
  (z6z:zu=.ref zn)
  (z6w:K.lookup zn=some ⟨z1w,z6e, .fields zg,z6f⟩)
  (z76:z1w=.type "code")
  (z77:zg[11]?=some (.ref zi))
  (z78:zg.getD 11 .none=.ref zi)
  (z7e:zg.getD 18 .none=.str z2e z2p)
  (z79:zg.getD 7 .none=.int z2b z2a)
  (z72:zg.getD 9 .none=.bool z1x)
  (z75:zg.getD 10 .none=.int z26 z2q)
  (z70:zn≠zi)
  (z7a:K.lookup zi=none)
  (z7b:zi∈ts)
  (z1:J9 K mainGlobals "range"=some none)
  (z2:J9 K mainGlobals "len"=some none)
  (z3:J9 K mainGlobals "min"=some none)
  (z4:J9 K mainGlobals "max"=some none)
  (z5:J9 K mainGlobals "isinstance"=some none)
  (z6:J9 K mainGlobals "bool"=some none)
  (z7:J9 K mainGlobals "int"=some none)
  (z8:J9 K mainGlobals "list"=some none)
  (z9:J9 K mainGlobals "sum"=some none)
  (z10:J9 K mainGlobals "enumerate"=some none)
  (z11:J9 K mainGlobals "any"=some none)
  (z12:J9 K mainGlobals "all"=some none)
  (z13:J9 K mainGlobals "reversed"=some none)
  (z14:J9 K mainGlobals "zip"=some none)
  (z15:J9 K mainGlobals "abs"=some none)
  (z16:J9 K mainGlobals "sorted"=some none)
  (z17:J9 K mainGlobals "tuple"=some none)
  (z18:J9 K mainGlobals "str"=some none)
  :∃(fd:FuncData)(tP c0:Addr),tP∈ts∧CodeK K c0 tP∧K.lookup tP=none∧(∀(s:Shared)(v:Value),BindsTo s fd ⟨[v],[]⟩ [("_law_script",v)])∧∀base:Heap,K.In base→base.Ns mainGlobals mg→BltM mg base→FnOk l.prog w K mg base CX0 18 fa fd ["_law_script"] (kgA K tP):=by
 have e:=hfa.symm.trans (Nq X G zgx)
 have hf:zbn=fa:=by
  injection e with e
  injection e with e
  exact e.symm
 subst hf
 have B:TxtB mg:=⟨Nv X G z1,Nv X G z2,Nv X G z3,Nv X G z4,Nv X G z5,Nv X G z6,Nv X G z7,Nv X G z8,Nv X G z9,Nv X G z10,Nv X G z11,Nv X G z12,Nv X G z13,Nv X G z14,Nv X G z15,Nv X G z16,Nv X G z17,Nv X G z18⟩
 have W:Wld K mg ⟨(zet),(zf5),(zeh),(zec),(z3j),(z39),(zev),(zei),(zg9),(zg6),(z8h),(z89),(zez),(zer),(zen),(zea),(z1j),(z1k),(z3d),(z3b),(z1y),(z2d),(z5m),(z63),(z3h),(z31),(zv),(J6 "falling_groups" "falling_groups" (kaH kaG) (kaF kaG) (kah kaG) .none z21 z24 z2n z27 zu z2l),(z41),(z4d),(z7s),(z8a),(z4g),(z45),(zbj),(zba),(zek),(zf7),(zcw),(zcv),(z4e),(z3z),(z4t),(z5e),(z5i),(z4u),(z2u),(z28),(zg5),(zgb),(z59),(z54),(z5c),(z4y),(zex),(zeq),(z67),(z60),(z2t),(z2h),(z3k),(z3f),(z1r),(z1p),(z56),(z5f),(z9q),(z9m),(z58),(z4x),(z4m),(z4l),(z4n),(z4z),(z4c),(z3r),(z29),(z2o),(z2j),(z2m),(z5k),(z5d),(z46),(z47),(z65),(z61),(z6j),(z6m),(z68),(z69),(z5v),(z5w),(zbn),(J6 "law" "law" (kaH s_law) (kaF s_law) (kah s_law) .none zg3 zg7 zg8 zga zd8 zg4),(zk),(zz),(J6 "__init__" "Marks.__init__" (kaH ka4) (kaF ka4) (kah ka4) (.ref z3p) z66 z5u z5n z5t z2g z5y),(z3g),(zf),(zq),(J6 "__init__" "Voucher.__init__" (kaH kaQ) (kaF kaQ) (kah kaQ) (.ref z1v) z3v z4a z4f z40 z1m z3y),(zl),(z1q),(J6 "__init__" "Off.__init__" (kaH kbr) (kaF kbr) (kah kbr) (.ref z64) z8f z7v z7k z7u z4h z8j),(ze),(zy),(J6 "__init__" "Share.__init__" (kaH ka3) (kaF ka3) (kah ka3) (.ref z3o) z5q z6d z5s z5z z25 z5p),(za),(zs),(J6 "__init__" "Cheapest.__init__" (kaH kaL) (kaF kaL) (kah kaL) (.ref z1l) z35 z3c z32 z2w z1g z37),(zc),(zw),(J6 "__init__" "Bundle.__init__" (kaH kaW) (kaF kaW) (kah kaW) (.ref z2k) z4s z52 z57 z50 z1t z4v),(zb),(zt),(J6 "__init__" "Carriage.__init__" (kaH kaM) (kaF kaM) (kah kaM) (.ref z1n) z3i z38 z3e z3a z1e z33),(zo),(z1c),(J6 "__init__" "Line.__init__" (kaH ka9) (kaF ka9) (kah ka9) (.ref z4i) z6i z6v z6n z6p z3l z6k),(zj),(zx),(J6 "__init__" "Basket.__init__" (kaH kaX) (kaF kaX) (kah kaX) (.ref z1z) z53 z4q z5j z4p z1u z55),(z2s),(zd),(z42),(z3q),(z2z),(z36),(zm),(z9o),(z9r),(z4k),(z5a),(z6g),(z6u),(z44),(z49),(z3w),(z43),(zh),(z62),(z6a),(z5o),(z6c),(zp),(z1a),(J6 "__init__" "Till.__init__" (kaH ka8) (kaF ka8) (kah ka8) (.ref z4j) z6t z6s z6l z6r z3n z6q),(z3u),(zn),(zi)⟩:=⟨B,zh5,zh7,z7y,zhe,zic,zdt,zhp,zhg,z5l,z80,z7f,zbc,z86,⟨(kbA z7x z7n z85),(Binds.all (nL3 fun _ _ _=>rfl)),Nq X G z8l⟩,z8z,zde,z9i,zfn,zhc,zgj,z96,z9u,za5,z71,zi6,za4,zap,zhd,zaz,z6y,z7w,z6b,za1,zey,zae,zaf,za7,z9b,z6x,z7h,zac,z9g,zax,zco,zb5,zbs,⟨(kbA zig zif zie),(Binds.all (nL1 fun _=>rfl)),Nq X G zgx⟩,⟨⟨zgs,zgf,zgh,zgv⟩,Nq X G zhm,⟨zgp,inX,itX,zgg⟩,zgk,zgr,zgd,zgn⟩,zcu,zb0,zc6,zau,zcb,zch,⟨zc1,zc8,(kbA zct zck zcr),(bd_mk (n:=7) rfl fun _ KX=>nL7 fun _ _ _ _ _ _ _=>BindsTo.of_defaults rfl (KX _ _ zr) rfl rfl rfl)⟩,(bd_mk (n:=6) rfl fun _ KX=>nL6 fun _ _ _ _ _ _=>BindsTo.of_defaults rfl (KX _ _ zr) rfl rfl rfl),(bd_mk (n:=5) rfl fun _ KX=>nL5 fun _ _ _ _ _=>BindsTo.of_defaults rfl (KX _ _ zr) rfl rfl rfl),(bd_mk (n:=4) rfl fun _ KX=>nL4 fun _ _ _ _=>BindsTo.of_defaults rfl (KX _ _ zr) rfl rfl rfl),(bd_mk (n:=3) rfl fun _ KX=>nL3 fun _ _ _=>BindsTo.of_defaults rfl (KX _ _ zr) rfl rfl rfl),(bd_mk (n:=2) rfl fun _ KX=>nL2 fun _ _=>BindsTo.of_defaults rfl (KX _ _ zr) rfl rfl rfl),(bd_mk (n:=1) rfl fun _ KX=>nL1 fun _=>BindsTo.of_defaults rfl (KX _ _ zr) rfl rfl rfl),⟨⟨zf4,zf3,zep,zem⟩,Nq X G zfd,⟨zeg,inX,itX,zeo⟩,zf9,zeu,zf6,zef⟩,⟨zar,zam,(kbA zah za8 za6),(bd_mk (n:=2) rfl fun _ KX=>nL2 fun _ _=>BindsTo.of_defaults rfl (KX _ _ z4w) rfl rfl rfl)⟩,(bd_mk (n:=1) rfl fun _ KX=>nL1 fun _=>BindsTo.of_defaults rfl (KX _ _ z4w) rfl rfl rfl),Nq X G zha,⟨⟨zid,zib,zhw,zi1⟩,Nq X G zha,⟨zhu,inX,itX,z87⟩,z8i,z8e,zia,zi5⟩,zbz,zdi,⟨zf0,zed,(kbA zew zeb zf1),(bd_mk (n:=3) rfl fun _ KX=>nL3 fun _ _ _=>BindsTo.of_defaults rfl (KX _ _ z9l) rfl rfl rfl)⟩,(bd_mk (n:=2) rfl fun _ KX=>nL2 fun _ _=>BindsTo.of_defaults rfl (KX _ _ z9l) rfl rfl rfl),Nq X G zf2,⟨⟨zge,zgo,zgm,zgt⟩,Nq X G zf2,⟨zgi,inX,itX,z4b⟩,z3t,z3s,zgl,zgu⟩,zb8,z9e,zb1,⟨zcc,zce,(kbA zcd zc3 zcg),(bd_mk (n:=4) rfl fun _ KX=>nL4 fun _ _ _ _=>BindsTo.of_defaults rfl (KX _ _ z3m) rfl rfl rfl)⟩,(bd_mk (n:=3) rfl fun _ KX=>nL3 fun _ _ _=>BindsTo.of_defaults rfl (KX _ _ z3m) rfl rfl rfl),(bd_mk (n:=2) rfl fun _ KX=>nL2 fun _ _=>BindsTo.of_defaults rfl (KX _ _ z3m) rfl rfl rfl),Nq X G z9n,⟨⟨zdm,zdz,zd6,zd7⟩,Nq X G z9n,⟨zdo,inX,itX,z1d⟩,z19,z1h,ze0,zdh⟩,z98,z7r,⟨z8r,z99,(kbA z8p z9d z8q),(bd_mk (n:=3) rfl fun _ KX=>nL3 fun _ _ _=>BindsTo.of_defaults rfl (KX _ _ z48) rfl rfl rfl)⟩,(bd_mk (n:=2) rfl fun _ KX=>nL2 fun _ _=>BindsTo.of_defaults rfl (KX _ _ z48) rfl rfl rfl),Nq X G zcx,⟨⟨zfb,zfx,zfl,zfs⟩,Nq X G zcx,⟨zfc,inX,itX,z22⟩,z2v,z2r,zft,zg1⟩,zav,z9y,za0,⟨zbe,zbw,(kbA zbt zbv zbl),(bd_mk (n:=4) rfl fun _ KX=>nL4 fun _ _ _ _=>BindsTo.of_defaults rfl (KX _ _ z5x) rfl rfl rfl)⟩,(bd_mk (n:=3) rfl fun _ KX=>nL3 fun _ _ _=>BindsTo.of_defaults rfl (KX _ _ z5x) rfl rfl rfl),Nq X G z9p,⟨⟨zdb,zcz,zdr,zdd⟩,Nq X G z9p,⟨ze2,inX,itX,z1b⟩,z1f,z1i,ze1,ze4⟩,z7t,⟨z90,z9h,(kbA z8x z94 z9f),(bd_mk (n:=2) rfl fun _ KX=>nL2 fun _ _=>BindsTo.of_defaults rfl (KX _ _ z3x) rfl rfl rfl)⟩,(bd_mk (n:=1) rfl fun _ KX=>nL1 fun _=>BindsTo.of_defaults rfl (KX _ _ z3x) rfl rfl rfl),⟨⟨zho,zhl,zh2,zhk⟩,Nq X G zi2,⟨zgy,inX,itX,zhb⟩,zhf,zhj,zhi,zhn⟩,zd3,zc7,zdf,zai,⟨zdc,ze5,(kbA zdv zd4 zdj),(bd_mk (n:=5) rfl fun _ KX=>nL5 fun _ _ _ _ _=>BindsTo.of_defaults rfl (KX _ _ z8o) rfl rfl rfl)⟩,(bd_mk (n:=4) rfl fun _ KX=>nL4 fun _ _ _ _=>BindsTo.of_defaults rfl (KX _ _ z8o) rfl rfl rfl),⟨⟨zfz,zfj,zfm,zfr⟩,Nq X G zgq,⟨zfi,inX,itX,zfg⟩,zfy,zg2,zfq,zfe⟩,zaj,z7i,z91,⟨zb4,zbi,(kbA zb2 zaw zb3),(bd_mk (n:=4) rfl fun _ KX=>nL4 fun _ _ _ _=>BindsTo.of_defaults rfl (KX _ _ z23) rfl rfl rfl)⟩,(bd_mk (n:=3) rfl fun _ KX=>nL3 fun _ _ _=>BindsTo.of_defaults rfl (KX _ _ z23) rfl rfl rfl),(bd_mk (n:=2) rfl fun _ KX=>nL2 fun _ _=>BindsTo.of_defaults rfl (KX _ _ z23) rfl rfl rfl),⟨⟨zd0,ze3,zd2,zdq⟩,Nq X G zf8,⟨zd5,inX,itX,zdx⟩,zd1,zdl,zcy,zds⟩,z7j,z7c,z5r,z73,z9c,z83,⟨⟨zhz,zhq,zhs,zi0⟩,Nq X G zih,⟨zi8,inX,itX,zi4⟩,zi3,zhy,zht,zhv⟩,zes,zcm,zee,zel,zag,zej,za2,zc4,z8s,z9j,⟨⟨zfk,zfh,zfa,zg0⟩,Nq X G zgc,⟨zfo,inX,itX,zfu⟩,zfw,zfv,zff,zfp⟩,zab,zat,zad,zbm,zbb,⟨⟨zh3,zhh,zh1,zh9⟩,Nq X G zi9,⟨zgw,inX,itX,zh0⟩,zh4,zgz,zh8,zh6⟩,zas,z9k,zcn,zdn,⟨zdg,ze9,(kbA ze6 ze8 zd9),(bd_mk (n:=5) rfl fun _ KX=>nL5 fun _ _ _ _ _=>BindsTo.of_defaults rfl (KX _ _ z8g) rfl rfl rfl)⟩,(bd_mk (n:=4) rfl fun _ KX=>nL4 fun _ _ _ _=>BindsTo.of_defaults rfl (KX _ _ z8g) rfl rfl rfl),⟨z97,z8w,z95⟩,kaN z8c z87 z8e (kbu z8c z3t),kaN z4r z87 z8e (kbu z4r z19),kaN z6o z87 z8e (kbu z6o z2v),kaN z51 z87 z8e (kbu z51 z1f),kaN z8d z4b z3s (kbu z8d z8i),kaN z30 z4b z3s (kbu z30 z19),kaN z4o z4b z3s (kbu z4o z2v),kaN z2x z4b z3s (kbu z2x z1f),kaN z5h z1d z1h (kbu z5h z8i),kaN z34 z1d z1h (kbu z34 z3t),kaN z20 z1d z1h (kbu z20 z2v),kaN z1s z1d z1h (kbu z1s z1f),kaN z6h z22 z2r (kbu z6h z8i),kaN z5b z22 z2r (kbu z5b z3t),kaN z2c z22 z2r (kbu z2c z19),kaN z2f z22 z2r (kbu z2f z1f),kaN z5g z1b z1i (kbu z5g z8i),kaN z2y z1b z1i (kbu z2y z3t),kaN z1o z1b z1i (kbu z1o z19),kaN z2i z1b z1i (kbu z2i z2v),z6z,⟨_,zg,z2e,z2p,z2b,z2a,z1x,z26,z2q,z6w,z76,rfl,z77,z78,z7e,z79,z72,z75,z70⟩⟩
 exact⟨_,zi,zn,z7b,W.ck_falling_groups,z7a,fun s v=>.of_eq rfl,fun base _ _ hB=>kny ⟨W,hB⟩⟩
end Vs
namespace PySem.W.Fast
def tw560094827497386049:=0
def tw8023112468916630754:=0
def tw995503403340910978:=0
def tw7387100326257360515:=0
def tw13794383547885287203:=0
def tw15139718876027431014:=0
def tw7037908548857969414:=0
def tw7466499008056187591:=0
def tw16511906670375999463:=0
def tw11771242934911463625:=0
def tw8832010080362519881:=0
def tw3921795004160897737:=0
def tw6750263537456149193:=0
def tw13259293410922196683:=0
def tw4337654623887189132:=0
def tw10983155175082778124:=0
def tw7330997539694698316:=0
def tw6827818113264710349:=0
def tw14110843652583301423:=0
def tw14942857519633938448:=0
def tw2147091978449018833:=0
def tw7993475172068713075:=0
def tw11209698706731190324:=0
def tw9615627017787046069:=0
def tw3851661659595025653:=0
def tw2858635028463756726:=0
def tw3424074257890705206:=0
def tw12046929829215859574:=0
def tw8015744422893287159:=0
def tw1084429408895086201:=0
def tw14831052081942495290:=0
def tw10475836020096664764:=0
def tw13021256951980319581:=0
def tw5013055478389346814:=0
def tw15382830482181443262:=0
def tw919866245193301567:=0
def tw17040771943316764287:=0
def tw8414985338726839295:=0
def tw15297629110473179263:=0
def tw10749575618649222159:=0
def tw16258331200253580568:=0
def tw2316984742918910615:=0
def tw1758692645180700256:=0
def tw165983764953656428:=0
def tw8653386528966424329:=0
def tw6123079711065443066:=0
def tw7878601545708648688:=0
def tw15785297702902053383:=0
def tw16231904622140580568:=0
def tw10433505704683752970:=0
def tw17023327549103957771:=0
def tw8360931737700880394:=0
def tw8300559987623801305:=0
def tw15251787822463162405:=0
def tw6797555213130494481:=0
def tw6589784804675341072:=0
def tw10777980495099288356:=0
def tw10621993042326259086:=0
def tw17167154605070418585:=0
def tw17047154058363262218:=0
def tw17305381013292545926:=0
def tw2912645740275784004:=0
def tw6767619583055461261:=0
def tw10034214423327365988:=0
def tw18395490229165912645:=0
def tw1506998273285232666:=0
def tw10364089890884984880:=0
def tw14899043573460106611:=0
def tw14603504422386177529:=0
def tw561589072072159186:=0
def tw13876350913534899639:=0
def tw12557091341951360877:=0
def tw2450751086079372685:=0
def tw2477291010456196597:=0
def tw11522372148063442368:=0
def tw7175541653527764537:=0
def tw18280032125893174082:=0
def tw12034074110400570872:=0
def tw8298773907300786406:=0
def tw10452137394550884545:=0
def tw11185652213909410209:=0
def tw16000645706117060892:=0
def tw10285481936106304659:=0
def tw8270873276654232444:=0
def tw8947651592519878870:=0
def tw15912235580989856364:=0
def tw1043510026708021290:=0
def tw6084690643787996196:=0
def tw15120734252951865842:=0
def tw8924074504244665914:=0
def tw6744776718067589674:=0
def tw1104637214210314507:=0
def tw3868972305778517770:=0
def tw14627863229731971516:=0
def tw3613655931355623305:=0
def tw1624935931815891029:=0
def tw1574070954516744664:=0
def tw10219197309774889848:=0
def tw18165725688159878108:=0
def tw17395658472556225931:=0
def tw16385599128450020310:=0
def tw4763549507148110658:=0
def tw264829400203558582:=0
def tw16191708503123542023:=0
def tw2191553199361633187:=0
def tw12131367179564374573:=0
def tw16186356734028956303:=0
def tw661858060637843129:=0
def tw17769806077245159757:=0
def tw14461858139808946944:=0
def tw2998429048187228621:=0
def tw5616635751064883273:=0
def tw15227021895642952574:=0
def tw15336042590065086761:=0
def tw16513359988094247012:=0
def tw17750219665853613360:=0
def tw4906171618077535822:=0
def tw3425139982472770087:=0
def tw1484231078368176322:=0
def tw9718328323372080676:=0
def tw10740673221422210014:=0
def tw6866062152268800882:=0
def tw611131013805868385:=0
def tw5426550594646538292:=0
def tw15398723271013745365:=0
def tw2731002441497331400:=0
def tw6919629487000046243:=0
def tw10740349762270084499:=0
def tw6051663042604069285:=0
def tw7993021800708698087:=0
def tw9197052228586603079:=0
def tw5935399507039157293:=0
def tw13742114516171757711:=0
def tw2269325735614426438:=0
def tw17829104461438694843:=0
def tw12389449293104942074:=0
def tw1556089670595643054:=0
def tw9329426703152372235:=0
def tw13659557309214813050:=0
def tw10936240136288776164:=0
def tw15209229105877420746:=0
def tw15308190809238849304:=0
def tw2405086535944492061:=0
def tw17003436698807504671:=0
def tw11268645733236109584:=0
def tw13437016755373294700:=0
def tw11969256489953695670:=0
def tw3232746049373855190:=0
def tw7831926479629705060:=0
def tw13159691103430926041:=0
def tw2007578260192116147:=0
def tw12428647934529040719:=0
def tw4423896527918637776:=0
def tw219714892481262030:=0
def tw10433647174754206458:=0
def tw1903249195492705824:=0
def tw10374349764931458816:=0
def tw4834829946564434748:=0
def tw7172613445036656150:=0
def tw3113512266883257853:=0
def tw5309850955820877144:=0
def tw15477028859106635304:=0
def tw12108538020619736339:=0
def tw3387917558301982476:=0
def tw3625284637415232715:=0
def tw5909185069835175077:=0
def tw12324954885038007132:=0
def tw12882846024838603883:=0
def tw186402050966576273:=0
def tw14615256590557109847:=0
def tw17442666530266330261:=0
def tw389199280978326857:=0
def tw6098333097701445429:=0
def tw12575500448191115741:=0
def tw13593127165758573977:=0
def tw11077851574740548376:=0
def tw5940468167786139752:=0
def tw10338004261606826348:=0
def tw18436119801813375811:=0
def tw13452433291708511293:=0
def tw4312717203262691967:=0
def tw10401180294902337675:=0
def tw7064500476122114828:=0
def tw1603106457550087425:=0
def tw6919342315940707925:=0
def tw4304589623588326897:=0
def tw16747589160400006669:=0
def tw17707437546942152357:=0
def tw18307577704517928808:=0
def tw17747344891599553825:=0
def tw12573229210578351369:=0
def tw17484260995220869751:=0
def tw12498348703716316773:=0
def tw1519200522791880434:=0
def tw391713281043633370:=0
def tw2691297563457659674:=0
def tw7303673752683772170:=0
def tw6621197628049449006:=0
def tw7060004337785868602:=0
def tw2764540078040561384:=0
def tw7795456484314006420:=0
def tw10014766226725451974:=0
def tw1616023549760580837:=0
def tw14640826756565052207:=0
def tw1891270168803735160:=0
def tw10991627569452179904:=0
def tw10881418957740726775:=0
def tw10609800454038442394:=0
def tw2805529834720527521:=0
def tw4480643666976809204:=0
def tw1629242150130122124:=0
def tw17085694703622665356:=0
def tw1819338229219931297:=0
def tw11645536510909531513:=0
def tw7281398704975057526:=0
def tw7054303418068026460:=0
def tw12786546668462080643:=0
def tw8436091437942772379:=0
def tw8095452462614673249:=0
def tw1965124908384687150:=0
def tw4341010236052082108:=0
def tw3427404937424778540:=0
def tw17632105144257509463:=0
def tw4582444033571159322:=0
def tw15687478187713740671:=0
def tw16787358390054083040:=0
def tw12952913899596473680:=0
def tw14345922687581801854:=0
def tw13577348504841004891:=0
def tw15249015364174326067:=0
def tw9565722049272583260:=0
def tw5115794036491998062:=0
def tw586926757484245719:=0
def tw16836158138807767582:=0
def tw6250965700412717296:=0
def tw12648634874083600004:=0
def tw2807681376301885855:=0
def tw12253161730640379534:=0
def tw357131854285970621:=0
def tw4940484262079395456:=0
def tw13651255477820049498:=0
def tw9701801028514168052:=0
def tw3789349382177820619:=0
def tw291329224237442036:=0
def tw14240452118284075602:=0
def tw5793156355191395727:=0
def tw1066066036140848620:=0
def tw500899577360517026:=0
def tw4152015435072198558:=0
def tw13255867616994937749:=0
def tw10865170194592708504:=0
def tw10517495994530913756:=0
def tw11054491550077787791:=0
def tw3424906463843634035:=0
def tw9998667232100351930:=0
def tw10399118817622465404:=0
def tw1713827561869298266:=0
def tw5176627460009152990:=0
def tw11740263494069810454:=0
def tw13525444863894841023:=0
def tw2806863416414169855:=0
def tw1668780831067303819:=0
def tw9896003410530320056:=0
def tw12046342906671821187:=0
def tw3347190666539140904:=0
def tw14129126737693468021:=0
def tw6094815877780062722:=0
def tw2429947218228222566:=0
end PySem.W.Fast
open PySem PySem.W PyProof.Rows
set_option maxRecDepth 100000 in
set_option maxHeartbeats 0 in
theorem PySem.Challenge.cw_voucherstack_k32_spoilt_papers_holds : PySem.Challenge.rw_voucherstack_k32_spoilt_papers.Holds := by
 w_on;o_law;k_head;(case hw=>w_witness2)
 k_fill
 refine L2.walkT_of (l:=PySem.Challenge.rw_voucherstack_k32_spoilt_papers) (k:=18) (x:="_law_script") rfl rfl ⟨rfl,by decide,by decide⟩ (fun w h Y=>PySem.W.km_in_of Y) (fun w h Y=>PySem.W.km_tabs_of Y) ?F
 case F=>
  intro w mg fa h KX G hmg
  refine' Vs.all_mk KX G hmg ?JC ?JB ?UY ?JG ?JH ?Jv ?JF ?JD ?UR ?U2 ?UW ?Jq ?UZ ?afalling_groups ?lfalling_groups ?cfalling_groups ?kfalling_groups ?U3 ?Ju ?U6 ?Jy ?JA ?Jz ?U7 ?Jf ?Jd ?UU ?JI ?Jj ?Jh ?JE ?Jm ?UT ?U0 ?US ?Jb ?Jw ?Jg ?Jk ?Jc ?U8 ?UX ?UV ?Je ?Ja ?Jr ?Js ?Jn ?Jl ?alaw ?llaw ?claw ?klaw ?aMarks ?imMarks ?isMarks ?iyMarks ?inX ?itX ?pgMarks ?hdMarks ?poMarks ?saMarks ?mkMarks ?kcMarks ?iaMarks ?nMarks_kind ?nMarks_needs ?nMarks_most ?nMarks_member ?nMarks_once ?nMarks_lone ?hMarks_init ?iMarks_init ?lMarks_init ?cMarks_init ?kMarks_init ?tMarks_init ?aVoucher ?imVoucher ?isVoucher ?iyVoucher ?pgVoucher ?hdVoucher ?poVoucher ?saVoucher ?mkVoucher ?kcVoucher ?iaVoucher ?hVoucher_init ?iVoucher_init ?lVoucher_init ?cVoucher_init ?kVoucher_init ?tVoucher_init ?aOff ?imOff ?isOff ?iyOff ?pgOff ?hdOff ?poOff ?saOff ?mkOff ?kcOff ?iaOff ?nOff_amount ?nOff_marks ?hOff_init ?iOff_init ?lOff_init ?cOff_init ?kOff_init ?tOff_init ?aShare ?imShare ?isShare ?iyShare ?pgShare ?hdShare ?poShare ?saShare ?mkShare ?kcShare ?iaShare ?nShare_share ?nShare_by_line ?nShare_marks ?hShare_init ?iShare_init ?lShare_init ?cShare_init ?kShare_init ?tShare_init ?aCheapest ?imCheapest ?isCheapest ?iyCheapest ?pgCheapest ?hdCheapest ?poCheapest ?saCheapest ?mkCheapest ?kcCheapest ?iaCheapest ?nCheapest_many ?nCheapest_marks ?hCheapest_init ?iCheapest_init ?lCheapest_init ?cCheapest_init ?kCheapest_init ?tCheapest_init ?aBundle ?imBundle ?isBundle ?iyBundle ?pgBundle ?hdBundle ?poBundle ?saBundle ?mkBundle ?kcBundle ?iaBundle ?nBundle_many ?nBundle_price ?nBundle_marks ?hBundle_init ?iBundle_init ?lBundle_init ?cBundle_init ?kBundle_init ?tBundle_init ?aCarriage ?imCarriage ?isCarriage ?iyCarriage ?pgCarriage ?hdCarriage ?poCarriage ?saCarriage ?mkCarriage ?kcCarriage ?iaCarriage ?nCarriage_marks ?hCarriage_init ?iCarriage_init ?lCarriage_init ?cCarriage_init ?kCarriage_init ?tCarriage_init ?aLine ?imLine ?isLine ?iyLine ?pgLine ?hdLine ?poLine ?saLine ?mkLine ?kcLine ?iaLine ?nLine_kind ?nLine_price ?nLine_many ?nLine_special ?hLine_init ?iLine_init ?lLine_init ?cLine_init ?kLine_init ?tLine_init ?aBasket ?imBasket ?isBasket ?iyBasket ?pgBasket ?hdBasket ?poBasket ?saBasket ?mkBasket ?kcBasket ?iaBasket ?nBasket_lines ?nBasket_carriage ?nBasket_member ?hBasket_init ?iBasket_init ?lBasket_init ?cBasket_init ?kBasket_init ?tBasket_init ?aStanding ?imStanding ?isStanding ?iyStanding ?pgStanding ?hdStanding ?poStanding ?saStanding ?mkStanding ?kcStanding ?iaStanding ?nStanding_owners ?nStanding_prices ?nStanding_carriage ?nStanding_marked ?U4 ?U1 ?aWay ?imWay ?isWay ?iyWay ?pgWay ?hdWay ?poWay ?saWay ?mkWay ?kcWay ?iaWay ?nWay_till ?nWay_basket ?nWay_hand ?nWay_used ?nWay_standing ?Jx ?Ji ?Jt ?U9 ?U5 ?aSearch ?imSearch ?isSearch ?iySearch ?pgSearch ?hdSearch ?poSearch ?saSearch ?mkSearch ?kcSearch ?iaSearch ?nSearch_order ?nSearch_total ?nSearch_paper ?Jo ?Jp ?aTill ?imTill ?isTill ?iyTill ?pgTill ?hdTill ?poTill ?saTill ?mkTill ?kcTill ?iaTill ?nTill_parents ?nTill_vouchers ?nTill_rules ?nTill_back ?hTill_init ?iTill_init ?lTill_init ?cTill_init ?kTill_init ?tTill_init ?rdVoucher_init ?gaVoucher_init ?fcVoucher_init ?qShare_Off ?qCheapest_Off ?qBundle_Off ?qCarriage_Off ?qOff_Share ?qCheapest_Share ?qBundle_Share ?qCarriage_Share ?qOff_Cheapest ?qShare_Cheapest ?qBundle_Cheapest ?qCarriage_Cheapest ?qOff_Bundle ?qShare_Bundle ?qCheapest_Bundle ?qCarriage_Bundle ?qOff_Carriage ?qShare_Carriage ?qCheapest_Carriage ?qBundle_Carriage ?qafalling_groups ?qbfalling_groups ?qcfalling_groups ?qdfalling_groups ?qefalling_groups ?qffalling_groups ?qgfalling_groups ?qhfalling_groups ?qifalling_groups ?qjfalling_groups ?qkfalling_groups ?qlfalling_groups ?z1 ?z2 ?z3 ?z4 ?z5 ?z6 ?z7 ?z8 ?z9 ?z10 ?z11 ?z12 ?z13 ?z14 ?z15 ?z16 ?z17 ?z18
  any_goals k_is
  exists JC,Vs.nL2 fun _ _=>rfl,0,0,0
  exists JB,Vs.nL3 fun _ _ _=>rfl,0,0,0
  exists UY,Vs.nL2 fun _ _=>rfl,0,0,0
  exists JG,Vs.nL4 fun _ _ _ _=>rfl,0,0,0
  exists JH,Vs.nL4 fun _ _ _ _=>rfl,0,0,0
  exists Jv,Vs.nL4 fun _ _ _ _=>rfl,0,0,0
  exists JF,Vs.nL4 fun _ _ _ _=>rfl,0,0,0
  exists JD,Vs.nL4 fun _ _ _ _=>rfl,0,0,0
  exists UR,Vs.nL3 fun _ _ _=>rfl,0,0,0
  exists U2,Vs.nL4 fun _ _ _ _=>rfl,0,0,0
  exists UW,Vs.nL2 fun _ _=>rfl,0,0,0
  exists Jq,Vs.nL3 fun _ _ _=>rfl,0,0,0
  exists UZ,Vs.nL2 fun _ _=>rfl,0,0,0
  exists U3,Vs.nL3 fun _ _ _=>rfl,0,0,0
  exists Ju,Vs.nL2 fun _ _=>rfl,0,0,0
  exists U6,Vs.nL2 fun _ _=>rfl,0,0,0
  exists Jy,Vs.nL2 fun _ _=>rfl,0,0,0
  exists JA,Vs.nL4 fun _ _ _ _=>rfl,0,0,0
  exists Jz,Vs.nL4 fun _ _ _ _=>rfl,0,0,0
  exists U7,Vs.nL4 fun _ _ _ _=>rfl,0,0,0
  exists Jf,Vs.nL3 fun _ _ _=>rfl,0,0,0
  exists Jd,Vs.nL3 fun _ _ _=>rfl,0,0,0
  exists UU,Vs.nL2 fun _ _=>rfl,0,0,0
  exists JI,Vs.nL3 fun _ _ _=>rfl,0,0,0
  exists Jj,Vs.nL1 fun _=>rfl,0,0,0
  exists Jh,Vs.nL2 fun _ _=>rfl,0,0,0
  exists JE,Vs.nL6 fun _ _ _ _ _ _=>rfl,0,0,0
  exists Jm,Vs.nL2 fun _ _=>rfl,0,0,0
  exists UT,Vs.nL3 fun _ _ _=>rfl,0,0,0
  exists U0,Vs.nL2 fun _ _=>rfl,0,0,0
  exists US,Vs.nL1 fun _=>rfl,0,0,0
  exists Jb,Vs.nL2 fun _ _=>rfl,0,0,0
  exists Jw,Vs.nL3 fun _ _ _=>rfl,0,0,0
  exists Jg,Vs.nL1 fun _=>rfl,0,0,0
  exists Jk,Vs.nL2 fun _ _=>rfl,0,0,0
  exists Jc,Vs.nL4 fun _ _ _ _=>rfl,0,0,0
  exists U8,Vs.nL3 fun _ _ _=>rfl,0,0,0
  exists UX,Vs.nL3 fun _ _ _=>rfl,0,0,0
  exists UV,Vs.nL1 fun _=>rfl,0,0,0
  exists Je,Vs.nL4 fun _ _ _ _=>rfl,0,0,0
  exists Ja,Vs.nL3 fun _ _ _=>rfl,0,0,0
  exists Jr,Vs.nL2 fun _ _=>rfl,0,0,0
  exists Js,Vs.nL4 fun _ _ _ _=>rfl,0,0,0
  exists Jn,Vs.nL3 fun _ _ _=>rfl,0,0,0
  exists Jl,Vs.nL4 fun _ _ _ _=>rfl,0,0,0
  exists U4,Vs.nL2 fun _ _=>rfl,0,0,0,0,0
  exists U1,Vs.nL1 fun _=>rfl,0,0,0,0,0
  exists Jx,Vs.nL4 fun _ _ _ _=>rfl,0,0,0,0,0
  exists Ji,Vs.nL2 fun _ _=>rfl,0,0,0,0,0
  exists Jt,Vs.nL2 fun _ _=>rfl,0,0,0,0,0
  exists U9,Vs.nL1 fun _=>rfl,0,0,0,0,0
  exists U5,Vs.nL1 fun _=>rfl,0,0,0,0,0
  exists Jo,Vs.nL2 fun _ _=>rfl,0,0,0,0,0
  exists Jp,Vs.nL2 fun _ _=>rfl,0,0,0,0,0
  (try case qafalling_groups=>first|rfl|decide|k_is)
  (try case qbfalling_groups=>k_is)
  (try case qcfalling_groups=>first|rfl|decide|k_is)
  (try case qdfalling_groups=>first|rfl|decide|k_is)
  (try case qefalling_groups=>first|rfl|decide|k_is)
  (try case qffalling_groups=>first|rfl|decide|k_is)
  (try case qgfalling_groups=>first|rfl|decide|k_is)
  (try case qhfalling_groups=>first|rfl|decide|k_is)
  (try case qifalling_groups=>first|rfl|decide|k_is)
  (try case qjfalling_groups=>first|rfl|decide|k_is)
  (try case qkfalling_groups=>first|k_is|rfl|decide|decide +kernel)
  (try case qlfalling_groups=>decide)
