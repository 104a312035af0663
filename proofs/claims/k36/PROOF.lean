import PyProof.Rows.All
import Wide.All
import OpenK.AllK
import Wide.FinOn
import Lean
import PyProof.EqAt
import PyProof.EqKinds
import PyProof.TupleCall
import PySem.Challenge.RW_voucherstack_k36_pieces_that_are_not_the
set_option Elab.async false
set_option linter.all false
set_option maxRecDepth 100000
open Array renaming getElem?_eq_some_iff → MO, length_toList → MY, size_zip → EB, getElem?_eq_getElem → E8, getElem?_toList → Dt
open Bool renaming false_ne_true → ND, false_eq_true → Mh, and_eq_true → Ms, and_false → ML, false_and → M9, eq_iff_iff → Eo, or_eq_true → E6
open List renaming length_map → Nr, replicate → Nw, map_append → Ny, mem_of_getElem? → NA, range → NB, getElem?_map → NC, getElem?_eq_some_iff → NG, length_take → NH, length_append → NI, map_cons → NJ, mem_cons → NO, mem_cons_of_mem → NP, mem_map → NQ, getD_eq_getElem?_getD → NR, size_toArray → NS, map_map → NU, mem_cons_self → NW, flatten_cons → NZ, mem_append → N1, zipWith → N2, take_length → N3, mem_append_right → N6, length_cons → N8, lookup_cons → Me, not_mem_nil → Mi, append_assoc → Mj, take_of_length_le → Ml, Perm → Mm, map_congr_left → Mn, mem_filter → Mo, lookup → Mq, mem_singleton → Mt, nodup_cons → Mw, length_replicate → Mx, replicate_succ → My, find?_cons → Mz, getElem?_eq_getElem → MA, mem_iff_getElem? → MB, any_cons → MC, take_add_one → MG, range_succ → MH, mem_flatten → MI, of_mem_zip → MK, ext_getElem → MP, map_take → MQ, sum_cons → MR, filterMap_cons → MS, pairwise_iff_getElem → MT, filter_cons → MU, length_nil → MV, getElem?_set_self → MW, getElem?_set_ne → MX, getElem?_append_right → MZ, length_set → M0, Pairwise → M1, drop_zero → M3, length_filter_le → M4, length_zipWith → M5, getElem?_zipWith → M6, filter_append → M7, sum_append → M8, append_nil → Eb, getElem?_append_left → Ee, length_drop → Ef, nil_append → Eg, getElem_map → Ei, count_cons → Ej, map_drop → El, mem_of_mem_take → Em, mem_append_left → En, length → Et, reverse_cons → Eu, all_eq_true → Ew, drop_of_length_le → Ex, flatten_append → EF, zipIdx_cons → EG, nodup_range → EH, getElem_range → EI, pairwise_cons → EJ, getElem?_range → EK, take_append_drop → EL, getElem?_take → EM, getElem?_eq_none_iff → EO, getElem?_replicate → EZ, map_nil → E1, all_cons → E3, length_singleton → E4, length_dropLast → E5, nodup_nil → E7, cons_append → E9, pairwise_lt_range → Dc, getElem?_eq_none → Dd, nodup_append → De, pairwise_map → Df, getLastD_eq_getLast? → Dg, replicate_succ' → Dh, drop_eq_getElem_cons → Dl, drop_length → Dm, perm_middle → Do, getElem?_take_of_lt → Dr, take_eq_take_iff → Du, getElem_cons_drop → Dz, sublist_append_left → DA, getLast?_eq_some_getLast → DB, perm_append_comm → DE
open Nat renaming le_refl → Nv, le_trans → Nx, le_of_lt → NF, lt_of_lt_of_le → NV, ne_of_lt → NY, zero_le → Mb, ne_of_gt → Mp, lt_of_le_of_lt → MD, lt_irrefl → ME, min_eq_left → MM, min_self → MN, le_succ → Ed, not_lt → Eh, le_of_eq → Er, lt_trans → Ez, zero_add → EA, lt_succ_self → EV
open Option renaming map_some → Ey, map_eq_some_iff → EN, isSome_iff_exists → EY, getD_none → E2
open PySem.F renaming plainAttrs_list → N4, slot_list_append → Mu, type_list_append → Mv, slot_list_extend → Dj, type_list_extend → Dk, slot_dict_setdefault → Dv, plainAttrs_dict → Dw, slot_dict_values → Dx, attrBase_ValueError → Dy, slot_list_count → DC, type_list_count → DD
open PySem.W renaming Frag → Nt, findIn → Nu, mroIn → Nz, nsIn → NK, kitOne → NL, fnOf → NM, keepIn → NN, mg_of → NT, mg_none_of → N5, plainGet → N7, typeIn → N9, codeIn → Ma, hasDictIn → Mc, makesIn → Md, plainOver → Mf, isFn → Mg, kia_one → Mr, emptyDict → MF, instObj → MJ, specialIn → Ea, callWith_K → Ec, kitAny → Ek, lookIn → Ep, methodCall_KW → Es, kla_obj → EC, tabObj → ED, excIn → EE, methodObj → ER, plainGet_of → ES, takerIn → ET, Looks → EU, takesIn → EW, exmOne → Da, callWith_K0 → Dp, cellsFrom_some → Dq
set_option hygiene false
local macro_rules|`(tactic|exists $a,$b)=>`(tactic|refine FunD.ok $a $b (by intro _ _ _ _ h;cases h;subst_vars;rfl) (fun cdv A outer s H vs Q E hr h=>?_))
local macro_rules|`(tactic|ac_rfl)=>`(tactic|exact⟨rfl,rfl,rfl,by decide +kernel,rfl,by decide +kernel,by decide +kernel⟩)
local macro_rules|`(tactic|exists $a:ident,$b,$c)=>`(tactic|have $a:ident:=$b (P:=P) (w:=w) $c)
local macro_rules|`(tactic|exists $a:ident,$b,$c,$_)=>`(tactic|have $a:ident:Room $b _:=($c).mono (by decide))
local macro_rules|`(tactic|exists $a:ident)=>`(tactic|try refine sN fun _ $a=>?_)
local macro_rules|`(tactic|ac_nf)=>`(tactic|(repeat (first|rw[kab,if_pos rfl]|rw[kab,if_neg (by decide +kernel)])))
local macro_rules|`(tactic|symm)=>`(tactic|try apply Y4)
local macro_rules|`(tactic|nofun)=>`(tactic|try first|apply Y6|apply Y4)
local macro_rules|`(tactic|exists 3)=>`(tactic|try first|apply Y8|apply Y6|apply Y4)
local macro_rules|`(tactic|exists 4)=>`(tactic|try first|apply Y10|apply Y6|apply Y4)
local macro_rules|`(tactic|exists 5)=>`(tactic|try first|apply Y10|apply Y8|apply Y6|apply Y4)
local macro_rules|`(tactic|exists $a:ident,$b,$_,$_,$_)=>`(tactic|(case $a:ident=>refine' Vs.dn_mk KX G ?_ ?_ ?_ ?_ (fun _ _ _ _ _ _=>$b);any_goals k_is))
local macro_rules|`(tactic|exists $a:ident,$b,$_,$_,$_,$_,$_)=>`(tactic|(case $a:ident=>refine' Vs.mt_mk ?_ ?_ ?_ ?_ ?_ (fun _ _ _ _ _ _=>$b);any_goals k_is))
namespace L2
open PySem PySem.Spec PyProof.Rows
abbrev Key:=Sum Int Str
def keyIs:Key→Value→Bool
 | .inl k,v=>Value.isInt k v
 | .inr x,v=>Value.isStrOf x v
def keyH(w:World):Key→Int
 | .inl k=>hashInt k
 | .inr x=>hashStr w x
theorem ka3:∀{k:Key}{v:Value},keyIs k v=true→(∃i t,k=Sum.inl i∧v=Value.int i t)∨(∃x t,k=Sum.inr x∧v=Value.str x t)
 | .inl i,v,h=>by
  obtain⟨t,e⟩:=Value.isInt_shape (k:=i) (v:=v) h
  exact .inl ⟨i,t,rfl,e⟩
 | .inr x,v,h=>by
  obtain⟨t,e⟩:=Value.isStrOf_shape (x:=x) (v:=v) h
  exact .inr ⟨x,t,rfl,e⟩
def kjA(i:Int)(t:Tok):keyIs (.inl i) (.int i t)=true:=by simp[keyIs,Value.isInt]
def kmK(a b:Int):decide ((Sum.inl a:Key)=Sum.inl b)=(a==b):=by
 by_cases e:a=b
 ·subst e;simp
 ·have h:¬(Sum.inl a:Key)=Sum.inl b:=fun q=>e (Sum.inl.inj q)
  rw[decide_eq_false h]
  exact(beq_eq_false_iff_ne.mpr e).symm
def kmH(a b:Str):decide ((Sum.inr a:Key)=Sum.inr b)=decide (a=b):=by
 by_cases e:a=b
 ·subst e;simp
 ·have h:¬(Sum.inr a:Key)=Sum.inr b:=fun q=>e (Sum.inr.inj q)
  rw[decide_eq_false h,decide_eq_false e]
def kmJ(a:Int)(b:Str):decide ((Sum.inl a:Key)=Sum.inr b)=false:=decide_eq_false (fun q=>nomatch q)
def kmI(a:Str)(b:Int):decide ((Sum.inr a:Key)=Sum.inl b)=false:=decide_eq_false (fun q=>nomatch q)
def kdq(prog:Program)(w:World):PySem.KeyKind prog w Key where
 is:=keyIs
 hash:=keyH w
 inj:=fun v a b ha hb=>by
  rcases ka3 ha with⟨i,t,rfl,rfl⟩|⟨x,t,rfl,rfl⟩
  ·rcases ka3 hb with⟨j,u,rfl,e⟩|⟨y,u,rfl,e⟩
   ·injection e with e1 _;rw[e1]
   ·exact nomatch e
  ·rcases ka3 hb with⟨j,u,rfl,e⟩|⟨y,u,rfl,e⟩
   ·exact nomatch e
   ·injection e with e1 _;rw[e1]
 byValue:=fun k v h=>by
  rcases ka3 h with⟨i,t,rfl,rfl⟩|⟨x,t,rfl,rfl⟩ <;> rfl
 pyHash:=fun hv h=>by
  rcases ka3 hv with⟨i,t,rfl,rfl⟩|⟨x,t,rfl,rfl⟩
  ·exact wpAny_pyHash_int h
  ·exact wpAny_pyHash_str h
 eqBool:=fun hu hv h=>by
  rcases ka3 hu with⟨i,t,rfl,rfl⟩|⟨x,t,rfl,rfl⟩
  ·rcases ka3 hv with⟨j,u,rfl,rfl⟩|⟨y,u,rfl,rfl⟩
   ·rw[kmK] at h;exact wpAny_eqBool_int h
   ·rw[kmJ] at h;exact SeqAt.EqAt.int_str i t y u _ _ _ _ h
  ·rcases ka3 hv with⟨j,u,rfl,rfl⟩|⟨y,u,rfl,rfl⟩
   ·rw[kmI] at h;exact SeqAt.EqAt.str_int x t j u _ _ _ _ h
   ·rw[kmH] at h;exact wpAny_eqBool_str h
 «strs» :=fun k x t v h=>by
  rcases ka3 h with⟨i,u,rfl,e⟩|⟨y,u,rfl,e⟩
  ·exact nomatch e
  ·injection e with e1 _
   subst e1
   cases v <;> rfl
def kg9(prog:Program)(w:World)(i:Int)(t:Tok):(kdq prog w).is (.inl i) (.int i t)=true:=kjA i t
end L2
namespace L2
open PySem PySem.Spec PyProof.Rows
inductive V where
 |non|bl (b:Bool)|int (i:Int)|str (x:Str)|byt (b:Array UInt8)|flt (b:UInt64)|ref (a:Addr)|ty (n:String)
 deriving DecidableEq
def RelV:V→Value→Prop
 | .non,u=>u=Value.none
 | .bl b,u=>u=Value.bool b
 | .int i,u=>∃t,u=Value.int i t
 | .str x,u=>∃t,u=Value.str x t
 | .byt b,u=>∃t,u=Value.bytes b t
 | .flt b,u=>∃t,u=Value.float b t
 | .ref a,u=>u=Value.ref a
 | .ty n,u=>u=Value.type n
abbrev Vals:List V→List Value→Prop:=Paired RelV
def Vals.length{xs:List V}{us:List Value}(r:Vals xs us):xs.length=us.length:=Paired.length r
theorem Vals.get:∀{xs:List V}{us:List Value}{i:Nat}{x:V},Vals xs us→xs[i]?=some x→∃u,us[i]?=some u∧RelV x u
 |_,_,_,_, .nil,e=>by simp at e
 |_,_,0,_, .cons r _,e=>by simp at e;subst e;exact⟨_,rfl,r⟩
 |_,_,i+1,x, .cons _ t,e=>by
  obtain⟨u,h1,h2⟩:=Vals.get (i:=i) (x:=x) t (by simpa using e)
  exact⟨u,by simpa using h1,h2⟩
theorem Vals.set{x:V}{u:Value}(r:RelV x u):∀{xs:List V}{us:List Value}(i:Nat),Vals xs us→Vals (xs.set i x) (us.set i u)
 |_,_,_, .nil=>.nil
 |_,_,0, .cons _ t=>.cons r t
 |_,_,i+1, .cons q t=>.cons q (Vals.set r i t)
theorem Vals.append:∀{xs ys:List V}{us ws:List Value},Vals xs us→Vals ys ws→Vals (xs++ys) (us++ws)
 |_,_,_,_, .nil,s=>s
 |_,_,_,_, .cons r t,s=>.cons r (Vals.append t s)
theorem Vals.take:∀{xs:List V}{us:List Value}(n:Nat),Vals xs us→Vals (xs.take n) (us.take n)
 |_,_,0,_=>.nil
 |_,_,_+1, .nil=>.nil
 |_,_,n+1, .cons r t=>.cons r (Vals.take n t)
theorem Vals.drop:∀{xs:List V}{us:List Value}(n:Nat),Vals xs us→Vals (xs.drop n) (us.drop n)
 |_,_,0,r=>r
 |_,_,_+1, .nil=>.nil
 |_,_,n+1, .cons _ t=>Vals.drop n t
def Vals.none_of:∀{xs:List V}{us:List Value}{i:Nat},Vals xs us→xs[i]?=none→us[i]?=none:=fun {xs us i} r e=>by
 have h1:=r.length
 have h2:xs.length≤i:=EO.mp e
 exact EO.mpr (by omega)
def RelO:Option V→Option Value→Prop
 |some v,some u=>RelV v u
 |none,none=>True
 |_,_=>False
def KV{κ:Type}:List (κ×V)→List (κ×Value)→Prop:=Paired fun(p: κ×V)(q: κ×Value)=>p.1=q.1∧RelV p.2 q.2
def kV:Key→V
 | .inl i=>.int i
 | .inr x=>.str x
inductive HO where
 |lst (xs:List V)
 |tup (xs:List V)
 |dK (kvs:List (Key×V))|dT (kvs:List (List Key×V))
 |set (S:Int→Bool) (n:Nat)
 |ins (C dx:Addr) (fs:List (Str×V))
 |own (x:Addr)
 |xd (fs:List (Str×V))
 |met (f x:Addr)
 |rng (lo hi:Int)
 |frz (o:Obj) (u:HO)
 |tbl (ps:Array Value)
 |ext (φ:Heap→Prop)
abbrev Hp:=Addr→Option HO
def upd(H:Hp)(a:Addr)(o:HO):Hp:=fun b=>if b=a then some o else H b
def kad{H:Hp}{a:Addr}{o:HO}:upd H a o a=some o:=by unfold upd;rw[if_pos rfl]
def kal{H:Hp}{a b:Addr}{o:HO}(h:b≠a):upd H a o b=H b:=by unfold upd;rw[if_neg h]
def klz{H:Hp}{a:Addr}{o u:HO}:upd (upd H a o) a u=upd H a u:=by
 funext b;unfold upd;split <;> rfl
def ne_of{H:Hp}{a b:Addr}{o u:HO}(h:H a=some o)(h':H b=some u)(d:o≠u):a≠b:=by
 intro e;subst e;rw[h] at h';exact d (Option.some.inj h')
def kaj{H:Hp}{a b:Addr}{o:HO}(h:H a=some o)(h':H b=none):a≠b:=by
 intro e;subst e;rw[h] at h';cases h'
section
variable (P:Program) (w:World)
def ObjOk(H:Hp)(h:Heap)(a:Addr):HO→Prop
 | .lst xs=>xs.length≤sizeLine∧∃(its:List Value)(n:Nat),Vals xs its∧h.get? a=some {cls:=.type "list",data:=.seq its.toArray n}
 | .tup xs=>xs.length≤sizeLine∧∃its:List Value,Vals xs its∧IsTup h a its.toArray
 | .dK kvs=>kvs.length≤sizeLine∧(a==sysModules)=false∧∃vs,KV kvs vs∧h.DictOf (kdq P w) a vs
 | .dT kvs=>kvs.length≤sizeLine∧(a==sysModules)=false∧∃xs:List (List Key×Addr×Value),
   Paired (fun(p:List Key×V)(q:List Key×Addr×Value)=>p.1=q.1∧H q.2.1=some (.tup (p.1.map kV))∧RelV p.2 q.2.2) kvs xs∧
   ∃o es ep,h.get? a=some o∧o.ExactDict∧o.data=.dict es ep∧es.toList=xs.map (entryOfKey (tupleKind (kdq P w)))∧(xs.map (·.1)).Nodup
 | .set S n=>h.SetOf (intKind P w) a S n
 | .ins C dx fs=>H dx=some (.own a)∧fs.length≤1000∧dx≠a∧h.get? a=some (MJ C dx)∧
   ∃mA,h.Ns1 dx mA∧(∀f,RelO (fs.lookup f) (mA f))∧PySem.Within mA (fs.map (·.1))
 | .own _=>∃o,h.get? a=some o
 | .xd fs=>∃mA,h.Ns1 a mA∧∀f,RelO (fs.lookup f) (mA f)
 | .rng lo hi=>∃t u v,h.get? a=some {cls:=.type "range",data:=.fields #[.int lo t, .int hi u, .int 1 v]}
 | .frz o u=>h.get? a=some o∧ObjOk H h a u
 | .tbl ps=>h.get? a=some {cls:=.none,data:=.fields ps}
 | .met f x=>h.get? a=some (ER (.ref f) (.ref x))
 | .ext φ=>φ h∧(∃o,h.get? a=some o)∧∀h1 h2:Heap,φ h1→(∀o,h1.get? a=some o→h2.get? a=some o)→φ h2
def HOk(H:Hp)(h:Heap):Prop:=∀a o,H a=some o→ObjOk P w H h a o
end
section
variable {P:Program} {w:World} {H H':Hp} {h h':Heap} {a:Addr} {o:HO}
theorem ObjOk.lt(x:ObjOk P w H h a o):a<h.objs.size:=by
 cases o with
 |lst xs=>obtain⟨_,_,_,_,e⟩:=x;exact Heap.lt_size e
 |tup xs=>obtain⟨_,_,_,p⟩:=x;exact p.lt
 |dK kvs=>obtain⟨_,_,_,_,o,_,_,e,_⟩:=x;exact Heap.lt_size e
 |dT kvs=>obtain⟨_,_,_,_,o,_,_,e,_⟩:=x;exact Heap.lt_size e
 |set S n=>obtain⟨o,_,_,_,e,_⟩:=x;exact Heap.lt_size e
 |ins C dx fs=>obtain⟨_,_,_,e,_⟩:=x;exact Heap.lt_size e
 |own y=>obtain⟨_,e⟩:=x;exact Heap.lt_size e
 |xd fs=>obtain⟨_,⟨_,_,_,e,_⟩,_⟩:=x;exact Heap.lt_size e
 |rng lo hi=>obtain⟨_,_,_,e⟩:=x;exact Heap.lt_size e
 |frz ob u=>obtain⟨e,_⟩:=x;exact Heap.lt_size e
 |tbl ps=>exact Heap.lt_size (show h.get? a=some _ from x)
 |met f y=>exact Heap.lt_size (show h.get? a=some _ from x)
 |ext φ=>obtain⟨_,⟨_,e⟩,_⟩:=x;exact Heap.lt_size e
theorem Paired.mapP{α β:Type}{F G: α→β→Prop}:∀{l₁:List α}{l₂:List β},Paired F l₁ l₂→(∀a b,F a b→G a b)→Paired G l₁ l₂
 |_,_, .nil,_=>.nil
 |_,_, .cons r t,f=>.cons (f _ _ r) (Paired.mapP t f)
theorem ObjOk.stay(x:ObjOk P w H h a o)(k:∀b u,(b=a∨H b=some (.own a))→h.get? b=some u→h'.get? b=some u)
  (ho:∀b,H b=some (.own a)→H' b=some (.own a)) (ht:∀b xs,H b=some (.tup xs)→H' b=some (.tup xs)):ObjOk P w H' h' a o:=by
 induction o with
 |lst xs=>obtain⟨z,its,n,r,e⟩:=x;exact⟨z,its,n,r,k _ _ (.inl rfl) e⟩
 |tup xs=>obtain⟨z,its,r,ob,e,c⟩:=x;exact⟨z,its,r,ob,k _ _ (.inl rfl) e,c⟩
 |dK kvs=>obtain⟨z,y,vs,r,ob,es,ep,e,c⟩:=x;exact⟨z,y,vs,r,ob,es,ep,k _ _ (.inl rfl) e,c⟩
 |dT kvs=>
  obtain⟨z,y,xs,r,ob,es,ep,e,c⟩:=x
  exact⟨z,y,xs,Paired.mapP r fun p q z=>⟨z.1,ht _ _ z.2.1,z.2.2⟩,ob,es,ep,k _ _ (.inl rfl) e,c⟩
 |set S n=>obtain⟨ob,es,ep,t,e,c⟩:=x;exact⟨ob,es,ep,t,k _ _ (.inl rfl) e,c⟩
 |ins C dx fs=>
  obtain⟨d,z,ne,e,mA,⟨od,es,ep,e2,c⟩,r⟩:=x
  exact⟨ho _ d,z,ne,k _ _ (.inl rfl) e,mA,⟨od,es,ep,k _ _ (.inr d) e2,c⟩,r⟩
 |own y=>obtain⟨ob,e⟩:=x;exact⟨ob,k _ _ (.inl rfl) e⟩
 |xd fs=>obtain⟨mA,⟨od,es,ep,e,c⟩,r⟩:=x;exact⟨mA,⟨od,es,ep,k _ _ (.inl rfl) e,c⟩,r⟩
 |rng lo hi=>obtain⟨t,u,v,e⟩:=x;exact⟨t,u,v,k _ _ (.inl rfl) e⟩
 |frz ob u ih=>obtain⟨e,q⟩:=x;exact⟨k _ _ (.inl rfl) e,ih q⟩
 |tbl ps=>
  have e:h.get? a=some {cls:=.none,data:=.fields ps}:=x
  show h'.get? a=some {cls:=.none,data:=.fields ps}
  exact k a _ (.inl rfl) e
 |met f y=>
  have e:h.get? a=some (ER (.ref f) (.ref y)):=x
  show h'.get? a=some (ER (.ref f) (.ref y))
  exact k a _ (.inl rfl) e
 |ext φ=>obtain⟨p,⟨o,e⟩,st⟩:=x;exact⟨st _ _ p fun o q=>k _ _ (.inl rfl) q,⟨o,k _ _ (.inl rfl) e⟩,st⟩
theorem HOk.lt(x:HOk P w H h)(e:H a=some o):a<h.objs.size:=(x a o e).lt
theorem HOk.fresh(x:HOk P w H h)(e:h.objs.size≤a):H a=none:=by
 cases q:H a with
 |none=>rfl
 |some u=>exact absurd (NV (x.lt q) e) (ME _)
theorem HOk.kept(x:HOk P w H h)(k:∀b u,h.get? b=some u→h'.get? b=some u):HOk P w H h':=fun a o e=>
 (x a o e).stay (fun b u _ q=>k b u q) (fun _ q=>q) fun _ _ q=>q
theorem HOk.laid(x:HOk P w H h)(k:∀b u,h.get? b=some u→h'.get? b=some u)(hp:h.objs.size≤a)(new:ObjOk P w (upd H a o) h' a o):HOk P w (upd H a o) h':=fun b u e=>by
 have hn:=x.fresh hp
 by_cases hb:b=a
 ·subst hb;rw[kad] at e;cases e;exact new
 ·rw[kal hb] at e
  exact(x b u e).stay (fun c v _ q=>k c v q) (fun c q=>by rw[kal (kaj q hn)];exact q) fun c xs q=>by rw[kal (kaj q hn)];exact q
end
def Rd(H:Hp)(a:Addr)(u:HO):Prop:=H a=some u∨∃o,H a=some (.frz o u)
def Rd.of{H:Hp}{a:Addr}{u:HO}(h:H a=some u):Rd H a u:=.inl h
def Rd.ok{P:Program}{w:World}{H:Hp}{h:Heap}{a:Addr}{u:HO}(r:Rd H a u)(x:HOk P w H h):ObjOk P w H h a u:=by
 rcases r with r|⟨o,r⟩
 ·exact x a u r
 ·obtain⟨_,q⟩:=x a _ r
  exact q
def Mut:Option HO→Prop
 |some (.lst _)=>True
 |some (.dK _)=>True
 |some (.dT _)=>True
 |some (.set _ _)=>True
 |some (.ins _ _ _)=>True
 |some (.ext _)=>True
 |_=>False
section
variable {P:Program} {w:World} {H:Hp} {h h':Heap} {x e:Addr} {o':HO}
theorem HOk.write(ok:HOk P w H h)(mu:Mut (H x))(he:e=x∨H e=some (.own x))(k:∀b u,b≠e→h.get? b=some u→h'.get? b=some u)(heo:∃u,h'.get? e=some u)
  (new:ObjOk P w (upd H x o') h' x o'):HOk P w (upd H x o') h':=fun b u q=>by
 have nown:∀c y,H c=some (.own y)→c≠x:=fun c y r z=>by subst z;rw[r] at mu;exact mu
 have ntup:∀c xs,H c=some (.tup xs)→c≠x:=fun c xs r z=>by subst z;rw[r] at mu;exact mu
 by_cases hb:b=x
 ·subst hb;rw[kad] at q;cases q;exact new
 ·rw[kal hb] at q
  by_cases hbe:b=e
  ·have q':H b=some (.own x):=by
    rcases he with z|z
    ·exact absurd (hbe.trans z) hb
    ·rw[hbe];exact z
   rw[q] at q';cases q'
   obtain⟨v,hv⟩:=heo
   exact⟨v,by rw[hbe];exact hv⟩
  ·refine(ok b u q).stay (fun c v hc r=>k c v ?_ r) (fun c r=>by rw[kal (nown c b r)];exact r) fun c xs r=>by rw[kal (ntup c xs r)];exact r
   rcases hc with rfl|hc
   ·exact hbe
   ·rintro rfl
    rcases he with z|z
    ·exact nown c b hc z
    ·rw[hc] at z;cases z;exact hb rfl
end
structure Un (fs ex:List Addr) (H H':Hp) (h h':Heap):Prop where
 keep:∀b o,h.get? b=some o→H b=none→b∉fs→b∉ex→h'.get? b=some o
 slot:∀b o,h.get? b=some o→H b=none→b∈fs→b∉ex→∃sl,h'.get? b=some {o with slots:=sl}
 free:∀b o,h.get? b=some o→H b=none→b∉ex→H' b=none
 there:∀b o,h.get? b=some o→b∉ex→∃o',h'.get? b=some o'
 tups:∀b xs,H b=some (.tup xs)→H' b=some (.tup xs)
 frzs:∀b o u,H b=some (.frz o u)→H' b=some (.frz o u)
 tbls:∀b ps,H b=some (.tbl ps)→∃more,H' b=some (.tbl (ps++more))
section
variable {fs fs' ex ex':List Addr} {H H1 H2:Hp} {h h1 h2 h':Heap} {a x e:Addr} {o:HO}
theorem Un.any(u:Un fs ex H H1 h h1){b:Addr}{ob:Obj}(q:h.get? b=some ob)(n:H b=none)(hx:b∉ex):∃sl,h1.get? b=some {ob with slots:=sl}:=by
 by_cases hb:b∈fs
 ·exact u.slot b ob q n hb hx
 ·exact⟨ob.slots,u.keep b ob q n hb hx⟩
theorem Un.trans(a:Un fs ex H H1 h h1)(b:Un fs ex H1 H2 h1 h2):Un fs ex H H2 h h2 where
 keep:=fun c ob q n hc hx=>b.keep c ob (a.keep c ob q n hc hx) (a.free c ob q n hx) hc hx
 slot:=fun c ob q n hc hx=>by
  obtain⟨sl,e1⟩:=a.slot c ob q n hc hx
  obtain⟨sl',e2⟩:=b.slot c _ e1 (a.free c ob q n hx) hc hx
  exact⟨sl',e2⟩
 free:=fun c ob q n hx=>by
  obtain⟨o',e1⟩:=a.there c ob q hx
  exact b.free c o' e1 (a.free c ob q n hx) hx
 there:=fun c ob q hx=>by
  obtain⟨o',e1⟩:=a.there c ob q hx
  exact b.there c o' e1 hx
 tups:=fun c xs q=>b.tups c xs (a.tups c xs q)
 frzs:=fun c ob xs q=>b.frzs c ob xs (a.frzs c ob xs q)
 tbls:=fun c ps q=>by
  obtain⟨m1,e1⟩:=a.tbls c ps q
  obtain⟨m2,e2⟩:=b.tbls c _ e1
  exact⟨m1++m2,by rw[e2,Array.append_assoc]⟩
theorem Un.kept(k:∀b u,h.get? b=some u→h'.get? b=some u):Un fs ex H H h h':=
 ⟨fun b ob q _ _ _=>k b ob q,fun b ob q _ _ _=>⟨ob.slots,k b ob q⟩,fun _ _ _ n _=>n,fun b ob q _=>⟨ob,k b ob q⟩,fun _ _ q=>q,fun _ _ _ q=>q,fun _ ps q=>⟨#[],by rw[q];simp⟩⟩
theorem Un.refl:Un fs ex H H h h:=Un.kept fun _ _ q=>q
theorem Un.laid(k:∀b u,h.get? b=some u→h'.get? b=some u)(hp:h.objs.size≤a)(hn:H a=none):Un fs ex H (upd H a o) h h' where
 keep:=fun b u q _ _ _=>k b u q
 slot:=fun b u q _ _ _=>⟨u.slots,k b u q⟩
 free:=fun b u q n _=>by rw[kal (NY (NV (Heap.lt_size q) hp))];exact n
 there:=fun b u q _=>⟨u,k b u q⟩
 tups:=fun b xs q=>by rw[kal (kaj q hn)];exact q
 frzs:=fun b u xs q=>by rw[kal (kaj q hn)];exact q
 tbls:=fun b ps q=>⟨#[],by rw[kal (kaj q hn),q];simp⟩
theorem Un.write(mu:Mut (H x))(he:e=x∨H e=some (.own x))(k:∀b u,b≠e→h.get? b=some u→h'.get? b=some u)(heo:∃u,h'.get? e=some u):Un fs ex H (upd H x o) h h':=by
 have hx:∀b,H b=none→b≠x:=fun b n z=>by subst z;rw[n] at mu;exact mu
 have hb:∀b,H b=none→b≠e:=fun b n z=>by
  subst z
  rcases he with r|r
  ·exact hx b n r
  ·rw[n] at r;cases r
 have hm:∀b u,H b=some u→¬Mut (some u)→b≠x:=fun b u q nm z=>by subst z;rw[q] at mu;exact nm mu
 refine⟨fun b u q n _ _=>k b u (hb b n) q,fun b u q n _ _=>⟨u.slots,k b u (hb b n) q⟩,fun b u q n _=>by rw[kal (hx b n)];exact n,fun b u q _=>?_,
  fun b xs q=>by rw[kal (hm b _ q fun z=>z)];exact q,fun b u xs q=>by rw[kal (hm b _ q fun z=>z)];exact q,fun b ps q=>⟨#[],by rw[kal (hm b _ q fun z=>z),q];simp⟩⟩
 by_cases hbe:b=e
 ·subst hbe;exact heo
 ·exact⟨u,k b u hbe q⟩
theorem Un.mono(u:Un fs ex H H1 h h1)(hs:∀b∈fs,b∈fs')(hx:∀b∈ex,b∈ex'):Un fs' ex' H H1 h h1:=
 ⟨fun b ob q n hb he=>u.keep b ob q n (fun z=>hb (hs b z)) fun z=>he (hx b z),fun _ _ q n _ he=>u.any q n fun z=>he (hx _ z),fun b ob q n he=>u.free b ob q n fun z=>he (hx b z),fun b ob q he=>u.there b ob q fun z=>he (hx b z),u.tups,u.frzs,u.tbls⟩
end
def trk(h:Heap)(H:Hp):List Addr:=(NB h.objs.size).filter fun a=>(H a).isSome
def hidT(h:Heap)(H:Hp):Heap:=PySem.W.hideAll h (trk h H)
def kjG(h:Heap)(H:Hp):(hidT h H).objs.size=h.objs.size:=PySem.W.hideAll_size _ _
def kkD{h:Heap}{H:Hp}{b:Addr}{o:Obj}(e:h.get? b=some o)(n:H b=none):(hidT h H).get? b=some o:=
 PySem.W.hideAll_get _ e fun hm=>by
  have q:(H b).isSome=true:=(Mo.mp hm).2
  rw[n] at q;simp at q
theorem kl0{h:Heap}{H:Hp}{b:Addr}{o:Obj}(e:(hidT h H).get? b=some o):h.get? b=some o∧H b=none:=by
 have e':h.get? b=some o:=PySem.W.of_hideAll (trk h H) e
 refine⟨e',?_⟩
 cases q:H b with
 |none=>rfl
 |some x=>
  have hm:b∈trk h H:=Mo.mpr ⟨List.mem_range.mpr (Heap.lt_size e'),by simp[q]⟩
  have z:(hidT h H).get? b=none:=PySem.W.hideAll_none (trk h H) hm
  rw[z] at e;cases e
def kmk(g h:Heap)(L:Addr):List (Addr×Obj):=(NB h.objs.size).filterMap fun a=>if a=L∨(g.get? a).isSome=true then none else(h.get? a).map fun o=>(a,o)
def rest(g h:Heap)(L d:Addr):List (Addr×Obj):=(kmk g h L).filter fun p=>decide (p.1≠d)
end L2
namespace L2
open PySem PySem.Spec PyProof.Rows
structure Mod (K:Nt) (mg:Str→Option Value) (base:Heap):Prop where
 kin:K.In base
 glob:base.Ns mainGlobals mg
 blt:∃mb,base.Ns builtinsNs mb∧∀x:Str,x≠"__name__"→mb x=bootBuiltins x
 nolimit:base.NoLimit
structure Cx where
 prog:Program
 w:World
 K:Nt
 mg:Str→Option Value
 base:Heap
 A:Around
 N:List Str
 s₀:Shared
 H₀:Hp
 env:Env
 outer:List Env
 stack:List Env
 ex:List Addr
 fn:Str→Bool
 calm:Bool
 pn:List (Addr×Obj)
 xe:Value→Shared→Prop
def frs(l:List Env):List Addr:=l.filterMap (·.frame)
abbrev Cx.fs(X:Cx):List Addr:=frs X.outer
def Vis(sc:Scope)(x:Str):Prop:=sc.names.lookup x=some .local∨sc.names.lookup x=some .cell∨sc.names.lookup x=some .free
def Loc(sc:Scope)(x:Str):Prop:=sc.names.lookup x=some .local∨sc.names.lookup x=some .cell
def Look(env:Env)(h:Heap)(m:Str→Option Value)(x:Str)(u:Value):Prop:=
 (env.kindOf x=some .local∧m x=some u)∨((env.kindOf x=some .cell∨env.kindOf x=some .free)∧∃c,env.cells.lookup x=some c∧h.IsCell c (some u))
structure Cx.Ok (X:Cx):Prop where
 mod:Mod X.K X.mg X.base
 kind:X.env.scope.kind=.function
 glob:X.env.globals=mainGlobals
 blt:X.env.builtins=builtinsNs
 above:X.s₀.heap.objs.size≤X.env.locals
 inj:∀x y c,X.env.cells.lookup x=some c→X.env.cells.lookup y=some c→x=y
 has:∀x,(X.env.kindOf x=some .cell∨X.env.kindOf x=some .free)→∃c,X.env.cells.lookup x=some c
 cab:∀x c,X.fn x=true→X.env.cells.lookup x=some c→X.s₀.heap.objs.size≤c
 hd:X.calm=true→X.A.handled=none
 frames:X.A.frames=some X.stack
 stk:X.stack=X.outer∨(X.stack=X.env::X.outer∧X.env.frame=some X.env.locals)
 exf:∀b∈X.ex,b≠X.env.locals∧∀x c,X.env.cells.lookup x=some c→c≠b
 bs:∀b o,X.base.get? b=some o→X.s₀.heap.get? b=some o∧X.H₀ b=none
 bsz:X.base.objs.size≤X.s₀.heap.objs.size
 noex:∀b o,X.base.get? b=some o→b∉X.ex
 exfs:∀b∈X.ex,b∉X.fs
 funs:X.s₀.heap.FunFrames X.base X.outer
 frf:∀b∈X.fs,X.H₀ b=none
structure Inv (X:Cx) (pins:List (Addr×Obj)) (σ:List (Option V)) (H:Hp) (s:Shared):Prop where
 ok:X.Ok
 os:s.os=X.s₀.os
 bare:AllBare s.gens
 base:Un X.fs X.ex X.H₀ H X.s₀.heap s.heap
 loc:∃m,s.heap.Ns X.env.locals m∧∀(i:Nat)(x:Str)(v:V),X.N[i]?=some x→σ[i]?=some (some v)→Vis X.env.scope x→∃u,RelV v u∧Look X.env s.heap m x u
 cell:∀x c,X.env.cells.lookup x=some c→∃v,s.heap.IsCell c v
 free:H X.env.locals=none
 freeC:∀x c,X.env.cells.lookup x=some c→H c=none
 pin:∀p∈X.pn++pins,s.heap.get? p.1=some p.2∧H p.1=none∧p.1≠X.env.locals∧p.1∉X.fs∧∀v,p.2.data≠.cell v
 hok:HOk X.prog X.w H s.heap
 len: σ.length=X.N.length
section
variable {X:Cx} {pins:List (Addr×Obj)} {σ:List (Option V)} {H H':Hp} {s:Shared} {h':Heap}
theorem Cx.Ok.nofr(ok:X.Ok){b:Addr}{o:Obj}(e:X.base.get? b=some o):b∉X.fs:=fun hb=>by
 have:=(ok.funs.mem hb).1
 rw[e] at this;cases this
theorem Inv.bs(I:Inv X pins σ H s):∀b o,X.base.get? b=some o→s.heap.get? b=some o∧H b=none:=fun b o e=>
 ⟨I.base.keep b o (I.ok.bs b o e).1 (I.ok.bs b o e).2 (I.ok.nofr e) (I.ok.noex b o e),I.base.free b o (I.ok.bs b o e).1 (I.ok.bs b o e).2 (I.ok.noex b o e)⟩
theorem Inv.bk(I:Inv X pins σ H s):∀b o,X.base.get? b=some o→s.heap.get? b=some o:=fun b o e=>(I.bs b o e).1
theorem Inv.mod(I:Inv X pins σ H s):Mod X.K X.mg X.base:=I.ok.mod
theorem Inv.kIn(I:Inv X pins σ H s):X.K.In s.heap:=I.ok.mod.kin.keeps I.bk
theorem Inv.nolimit(I:Inv X pins σ H s):s.heap.NoLimit:=I.ok.mod.nolimit.keeps I.bk
theorem Inv.fr(I:Inv X pins σ H s):∃m,Fr X.base X.env.locals s.heap m:=
 let⟨m,hn,_⟩:=I.loc
 ⟨m,hn,I.bk,Nx I.ok.bsz I.ok.above⟩
theorem Inv.lt(I:Inv X pins σ H s):X.env.locals<s.heap.objs.size:=let⟨_,hn,_⟩:=I.loc;hn.lt
theorem Inv.sz(I:Inv X pins σ H s):X.s₀.heap.objs.size≤s.heap.objs.size:=Nx I.ok.above (NF I.lt)
theorem Inv.nofs(I:Inv X pins σ H s){a:Addr}(h:s.heap.objs.size≤a):a∉X.fs:=fun hb=>by
 obtain⟨_,o,ho,_⟩:=I.ok.funs.mem hb
 exact absurd (NV (Heap.lt_size ho) (Nx I.sz h)) (ME _)
theorem Inv.cne(I:Inv X pins σ H s):∀x c,X.env.cells.lookup x=some c→c≠X.env.locals:=fun x c e z=>by
 obtain⟨v,o,ho,hd⟩:=I.cell x c e
 obtain⟨m,⟨o',es,ep,ho',hd',_⟩,_⟩:=I.loc
 rw[z,ho'] at ho;cases ho;rw[hd'] at hd;cases hd
theorem Inv.funs(I:Inv X pins σ H s):s.heap.FunFrames X.base X.outer:=by
 have all:∀(l:List Env),(∀b∈frs l,b∈X.fs)→X.s₀.heap.FunFrames X.base l→s.heap.FunFrames X.base l:=by
  intro l
  induction l with
  |nil=>intro _ _;trivial
  |cons env r ih=>
   intro hs hl
   obtain⟨hk,⟨L,o,hf,hn,ho,hd⟩,hr⟩:=hl
   have hL:L∈X.fs:=hs L (by unfold frs;rw[MS,hf];exact NW)
   obtain⟨sl,e⟩:=I.base.slot L o ho (I.ok.frf L hL) hL fun z=>I.ok.exfs L z hL
   exact⟨hk,⟨L,_,hf,hn,e,hd⟩,ih (fun b hb=>hs b (by unfold frs;rw[MS,hf];exact NP _ hb)) hr⟩
 exact all X.outer (fun _ hb=>hb) I.ok.funs
theorem Inv.stack(I:Inv X pins σ H s):s.heap.FunFrames X.base X.stack:=by
 rcases I.ok.stk with e|⟨e,hf⟩
 ·rw[e];exact I.funs
 ·rw[e]
  obtain⟨m,hn,_⟩:=I.loc
  refine .cons (by rw[I.ok.kind];decide) hf hn ?_ I.funs
  exact Heap.get?_none_of_le (Nx I.ok.bsz I.ok.above)
theorem Inv.stkSub(I:Inv X pins σ H s):∀b∈frs X.stack,b∈X.env.locals::X.fs:=fun b hb=>by
 rcases I.ok.stk with e|⟨e,hf⟩
 ·rw[e] at hb;exact NP _ hb
 ·rw[e] at hb
  unfold frs at hb
  rw[MS,hf] at hb
  exact hb
theorem Inv.stkFree(I:Inv X pins σ H s):∀b∈frs X.stack,H b=none:=fun b hb=>by
 rcases NO.mp (I.stkSub b hb) with e|hb
 ·rw[e];exact I.free
 ·obtain⟨_,o,ho,_⟩:=I.ok.funs.mem hb
  exact I.base.free b o ho (I.ok.frf b hb) fun z=>I.ok.exfs b z hb
theorem Inv.step{g':Array GenState}{t':Nat}{d':Drawn}{ch:List Addr}(I:Inv X pins σ H s)
  (hch:∀b∈ch,(b∈X.ex∨X.s₀.heap.objs.size≤b)∧b≠X.env.locals∧(∀x c,X.env.cells.lookup x=some c→c≠b)∧∀p∈X.pn++pins,p.1≠b)
  (keep:∀b o,b≠X.env.locals→b∉X.fs→b∉ch→s.heap.get? b=some o→H b=none→h'.get? b=some o)
  (slot:∀b o,b≠X.env.locals→b∈X.fs→b∉ch→s.heap.get? b=some o→H b=none→∃sl,h'.get? b=some {o with slots:=sl}) (free:∀b o,b∉ch→s.heap.get? b=some o→H b=none→H' b=none)
  (there:∀b o,b∉ch→s.heap.get? b=some o→∃o',h'.get? b=some o')
  (tups:∀b xs,H b=some (.tup xs)→H' b=some (.tup xs)) (frzs:∀b o u,H b=some (.frz o u)→H' b=some (.frz o u)) (tbls:∀b ps,H b=some (.tbl ps)→∃more,H' b=some (.tbl (ps++more)))
  (ns:∀m,s.heap.Ns X.env.locals m→h'.Ns X.env.locals m) (hok:HOk X.prog X.w H' h') (hg:AllBare g'):
  Inv X pins σ H' {s with heap:=h',gens:=g',drawn:=d',toks:=t'}:=by
 have neL:∀b o,X.s₀.heap.get? b=some o→b≠X.env.locals:=fun b o e=>NY (NV (Heap.lt_size e) I.ok.above)
 have neC:∀b o,X.s₀.heap.get? b=some o→b∉X.ex→b∉ch:=fun b o e hx hb=>by
  rcases(hch b hb).1 with z|z
  ·exact hx z
  ·exact absurd (NV (Heap.lt_size e) z) (ME _)
 have cellK:∀x c,X.env.cells.lookup x=some c→∀v,s.heap.IsCell c v→h'.IsCell c v:=fun x c e v ⟨o,ho,hd⟩=>by
  have nch:c∉ch:=fun z=>(hch c z).2.2.1 x c e rfl
  by_cases hc:c∈X.fs
  ·obtain⟨sl,q⟩:=slot c o (I.cne x c e) hc nch ho (I.freeC x c e)
   exact⟨_,q,hd⟩
  ·exact⟨o,keep c o (I.cne x c e) hc nch ho (I.freeC x c e),hd⟩
 refine⟨I.ok,I.os,hg,⟨fun b o e n hb hx=>?_,fun b o e n hb hx=>?_,fun b o e n hx=>?_,fun b o e hx=>?_,fun b xs e=>tups b xs (I.base.tups b xs e),fun b o xs e=>frzs b o xs (I.base.frzs b o xs e),fun b ps e=>?_⟩,?_,fun x c e=>?_,?_,fun x c e=>?_,fun p hp=>?_,hok,I.len⟩
 ·exact keep b o (neL b o e) hb (neC b o e hx) (I.base.keep b o e n hb hx) (I.base.free b o e n hx)
 ·obtain⟨sl,e1⟩:=I.base.slot b o e n hb hx
  obtain⟨sl',e2⟩:=slot b _ (neL b o e) hb (neC b o e hx) e1 (I.base.free b o e n hx)
  exact⟨sl',e2⟩
 ·obtain⟨o',e1⟩:=I.base.there b o e hx
  exact free b o' (neC b o e hx) e1 (I.base.free b o e n hx)
 ·obtain⟨o',e1⟩:=I.base.there b o e hx
  exact there b o' (neC b o e hx) e1
 ·obtain⟨m1,e1⟩:=I.base.tbls b ps e
  obtain⟨m2,e2⟩:=tbls b _ e1
  exact⟨m1++m2,by rw[e2,Array.append_assoc]⟩
 ·obtain⟨m,hn,hl⟩:=I.loc
  refine⟨m,ns m hn,fun i x v e1 e2 e3=>?_⟩
  obtain⟨u,r,l⟩:=hl i x v e1 e2 e3
  refine⟨u,r,?_⟩
  rcases l with l|⟨k,c,e,z⟩
  ·exact .inl l
  ·exact .inr ⟨k,c,e,cellK x c e _ z⟩
 ·obtain⟨v,z⟩:=I.cell x c e
  exact⟨v,cellK x c e v z⟩
 ·obtain⟨m,⟨o,_,_,ho,_⟩,_⟩:=I.loc
  exact free _ o (fun z=>(hch _ z).2.1 rfl) ho I.free
 ·obtain⟨v,o,ho,hd⟩:=I.cell x c e
  exact free c o (fun z=>(hch c z).2.2.1 x c e rfl) ho (I.freeC x c e)
 ·obtain⟨e,n,ne,nf,d⟩:=I.pin p hp
  have nch:p.1∉ch:=fun z=>(hch p.1 z).2.2.2 p hp rfl
  exact⟨keep p.1 p.2 ne nf nch e n,free p.1 p.2 nch e n,ne,nf,d⟩
theorem Inv.un{t':Nat}(I:Inv X pins σ H s)(u:Un X.fs [] H H' s.heap h')(hok:HOk X.prog X.w H' h'):Inv X pins σ H' {s with heap:=h',toks:=t'}:=by
 obtain⟨m,⟨o,es,ep,ho,r⟩,_⟩:=id I.loc
 obtain⟨sl,hL⟩:=u.any ho I.free (by simp)
 exact I.step (g':=s.gens) (d':=s.drawn) (ch:=[]) (fun _ z=>nomatch z) (fun b o _ hb _ e n=>u.keep b o e n hb (by simp)) (fun b o _ hb _ e n=>u.slot b o e n hb (by simp)) (fun b o _ e n=>u.free b o e n (by simp)) (fun b o _ e=>u.there b o e (by simp)) u.tups u.frzs u.tbls (fun m' hm=>by
  obtain⟨o',es',ep',ho',r'⟩:=hm
  rw[ho] at ho';cases ho'
  exact⟨_,es',ep',hL,r'⟩) hok I.bare
theorem Inv.call{g':Array GenState}{t':Nat}{d':Drawn}{ch:List Addr}(I:Inv X pins σ H s)(u:Un (frs X.stack) ch H H' s.heap h')(hok:HOk X.prog X.w H' h')(hg:AllBare g')
  (hch:∀b∈ch,(b∈X.ex∨X.s₀.heap.objs.size≤b)∧b≠X.env.locals∧(∀x c,X.env.cells.lookup x=some c→c≠b)∧∀p∈X.pn++pins,p.1≠b):
  Inv X pins σ H' {s with heap:=h',gens:=g',drawn:=d',toks:=t'}:=by
 obtain⟨m,⟨o,es,ep,ho,r⟩,_⟩:=id I.loc
 obtain⟨sl,hL⟩:=u.any ho I.free fun z=>(hch _ z).2.1 rfl
 exact I.step (ch:=ch) hch (fun b o hL hb hc e n=>u.keep b o e n (fun z=>(NO.mp (I.stkSub b z)).elim hL hb) hc) (fun b o _ _ hc e n=>u.any e n hc) (fun b o hc e n=>u.free b o e n hc) (fun b o hc e=>u.there b o e hc) u.tups u.frzs u.tbls (fun m' hm=>by
  obtain⟨o',es',ep',ho',r'⟩:=hm
  rw[ho] at ho';cases ho'
  exact⟨_,es',ep',hL,r'⟩) hok hg
theorem Inv.turned{t':Nat}{it:Addr}(I:Inv X pins σ H s)(k:∀b o,b≠it→s.heap.get? b=some o→h'.get? b=some o)(hn:H it=none)(hL:it≠X.env.locals)
  (h1:it∈X.ex∨X.s₀.heap.objs.size≤it) (h2:∀x c,X.env.cells.lookup x=some c→c≠it) (h3:∀p∈X.pn++pins,p.1≠it):Inv X pins σ H {s with heap:=h',toks:=t'}:=by
 have nit:∀b u,H b=some u→b≠it:=fun b u e z=>by rw[z,hn] at e;cases e
 refine I.step (g':=s.gens) (d':=s.drawn) (ch:=[it]) (fun b hb=>?_) (fun b o _ _ hc e _=>k b o (fun z=>hc (by simp[z])) e) (fun b o _ _ hc e _=>⟨o.slots,k b o (fun z=>hc (by simp[z])) e⟩) (fun _ _ _ _ n=>n)
  (fun b o hc e=>⟨o,k b o (fun z=>hc (by simp[z])) e⟩) (fun _ _ e=>e) (fun _ _ _ e=>e) (fun b ps e=>⟨#[],by rw[e];simp⟩) (fun m hm=>?_) (fun b u e=>?_) I.bare
 ·have e:b=it:=by simpa using hb
  subst e
  exact⟨h1,hL,h2,h3⟩
 ·obtain⟨o,es,ep,ho,r⟩:=hm
  exact⟨o,es,ep,k _ o (Ne.symm hL) ho,r⟩
 ·refine(I.hok b u e).stay (fun c v hc q=>k c v ?_ q) (fun _ q=>q) fun _ _ q=>q
  rcases hc with z|z
  ·rw[z];exact nit b u e
  ·exact nit c _ z
theorem Inv.tok(I:Inv X pins σ H s)(t:Nat):Inv X pins σ H {s with toks:=t}:=I.un (h':=s.heap) (t':=t) Un.refl I.hok
theorem Inv.kept{t':Nat}(I:Inv X pins σ H s)(k:∀b u,s.heap.get? b=some u→h'.get? b=some u):Inv X pins σ H {s with heap:=h',toks:=t'}:=I.un (Un.kept k) (I.hok.kept k)
theorem Inv.laid{a:Addr}{o:HO}{t':Nat}(I:Inv X pins σ H s)(k:∀b u,s.heap.get? b=some u→h'.get? b=some u)(hp:s.heap.objs.size≤a)(new:ObjOk X.prog X.w (upd H a o) h' a o):
  Inv X pins σ (upd H a o) {s with heap:=h',toks:=t'}:=I.un (Un.laid k hp (I.hok.fresh hp)) (I.hok.laid k hp new)
theorem Inv.write{x e:Addr}{o:HO}{t':Nat}(I:Inv X pins σ H s)(mu:Mut (H x))(he:e=x∨H e=some (.own x))(k:∀b u,b≠e→s.heap.get? b=some u→h'.get? b=some u)(heo:∃u,h'.get? e=some u)
  (new:ObjOk X.prog X.w (upd H x o) h' x o):Inv X pins σ (upd H x o) {s with heap:=h',toks:=t'}:=I.un (Un.write mu he k heo) (I.hok.write mu he k heo new)
theorem Inv.pins_of{pins':List (Addr×Obj)}(I:Inv X pins σ H s)(h:∀p∈pins',s.heap.get? p.1=some p.2∧H p.1=none∧p.1≠X.env.locals∧p.1∉X.fs∧∀v,p.2.data≠.cell v):Inv X pins' σ H s:=
 ⟨I.ok,I.os,I.bare,I.base,I.loc,I.cell,I.free,I.freeC,fun p hp=>(N1.mp hp).elim (fun z=>I.pin p (En _ z)) (h p),I.hok,I.len⟩
theorem khV{N:List Str}(hN:N.Nodup){i j:Nat}{x:Str}(a:N[i]?=some x)(b:N[j]?=some x):i=j:=by
 obtain⟨h1,e1⟩:=NG.mp a
 obtain⟨h2,e2⟩:=NG.mp b
 exact(List.getElem_inj hN).mp (e1.trans e2.symm)
theorem kiE{M:Model}{A:Around}{E:Value→Shared→Prop}{i:Nat}{x:Str}{v:V}{u:Value}{Q:Unit→Shared→Prop}(I:Inv X pins σ H s)(hN:X.N.Nodup)(hi:X.N[i]?=some x)(hx:Loc X.env.scope x)(r:RelV v u)
  (h:∀s',Inv X pins (σ.set i (some v)) H s'→(∃a,Heap.SameBut a s.heap s'.heap∧(a=X.env.locals∨X.env.cells.lookup x=some a))→Q () s') (hf:X.fn x=true∨X.env.scope.names.lookup x=some .local:=by first|exact .inl rfl|exact .inr rfl|assumption):wpAny M A (storeName X.env x u) Q E s:=by
 obtain⟨m,hn,hl⟩:=id I.loc
 have hcls:(X.env.scope.kind== .class||(X.env.scope.kind== .module&&X.env.locals !=X.env.globals))=false:=by rw[I.ok.kind];rfl
 have hiσ:i< σ.length:=by rw[I.len];exact(NG.mp hi).1
 have cne:=I.cne
 have tracked:∀{a:Addr}{h':Heap},(∃o,s.heap.get? a=some o∧H a=none)→Heap.SameBut a s.heap h'→HOk X.prog X.w H h':=fun {a h'} ha hs b ob e=>by
  obtain⟨_,_,hfree⟩:=ha
  refine(I.hok b ob e).stay (fun c w' hc q=>(hs.2 c ?_).trans q) (fun _ q=>q) fun _ _ q=>q
  rintro rfl
  rcases hc with rfl|hc
  ·rw[hfree] at e;cases e
  ·rw[hfree] at hc;cases hc
 rcases hx with hk|hk
 ·refine wpAny_storeName_local hk hn (fun h' hn' hs=>?_) hcls
  obtain⟨oL,_,_,hoL,_⟩:=id hn
  refine h _ ⟨I.ok,I.os,I.bare,⟨fun b o e n hb hx=>?_,fun b o e n hb hx=>?_,I.base.free,fun b o e hx=>?_,I.base.tups,I.base.frzs,I.base.tbls⟩,⟨_,hn',fun j y v' e1 e2 e3=>?_⟩,fun y c e=>?_,I.free,I.freeC,fun p hp=>?_,tracked ⟨oL,hoL,I.free⟩ hs,by simpa using I.len⟩ ⟨_,hs, .inl rfl⟩
  ·exact(hs.2 b (NY (NV (Heap.lt_size e) I.ok.above))).trans (I.base.keep b o e n hb hx)
  ·obtain⟨sl,e1⟩:=I.base.slot b o e n hb hx
   exact⟨sl,(hs.2 b (NY (NV (Heap.lt_size e) I.ok.above))).trans e1⟩
  ·obtain⟨o',e1⟩:=I.base.there b o e hx
   exact⟨o',(hs.2 b (NY (NV (Heap.lt_size e) I.ok.above))).trans e1⟩
  ·by_cases hj:j=i
   ·subst hj
    rw[hi] at e1;cases e1
    rw[MW hiσ] at e2
    cases e2
    exact⟨u,r, .inl ⟨hk,by simp⟩⟩
   ·rw[MX (Ne.symm hj)] at e2
    obtain⟨u',r',q⟩:=hl j y v' e1 e2 e3
    refine⟨u',r',?_⟩
    rcases q with⟨k,e⟩|⟨k,c,e,z⟩
    ·refine .inl ⟨k,?_⟩
     have:y≠x:=fun e=>hj (khV hN e1 (e▸hi))
     simp[this,e]
    ·exact .inr ⟨k,c,e,z.sameBut hs (cne y c e)⟩
  ·obtain⟨w',z⟩:=I.cell y c e
   exact⟨w',z.sameBut hs (cne y c e)⟩
  ·obtain⟨e,n,ne,nf,d⟩:=I.pin p hp
   exact⟨(hs.2 p.1 ne).trans e,n,ne,nf,d⟩
 ·have hfn:X.fn x=true:=by
   rcases hf with z|z
   ·exact z
   ·rw[z] at hk;cases hk
  obtain⟨c,hc⟩:=I.ok.has x (.inl hk)
  obtain⟨w',z⟩:=I.cell x c hc
  refine wpAny_storeName_cell I.ok.kind hk hc z (fun h' hc' hs=>?_)
  obtain⟨oc,hoc,hocd⟩:=id z
  refine h {s with heap:=h'} ⟨I.ok,I.os,I.bare,⟨fun b o e n hb hx=>?_,fun b o e n hb hx=>?_,I.base.free,fun b o e hx=>?_,I.base.tups,I.base.frzs,I.base.tbls⟩,⟨m,hn.sameBut hs (Ne.symm (cne x c hc)),fun j y v' e1 e2 e3=>?_⟩,fun y c' e=>?_,I.free,I.freeC,fun p hp=>?_,tracked ⟨oc,hoc,I.freeC x c hc⟩ hs,by simpa using I.len⟩ ⟨c,hs, .inr hc⟩
  ·exact(hs.2 b (NY (NV (Heap.lt_size e) (I.ok.cab x c hfn hc)))).trans (I.base.keep b o e n hb hx)
  ·obtain⟨sl,e1⟩:=I.base.slot b o e n hb hx
   exact⟨sl,(hs.2 b (NY (NV (Heap.lt_size e) (I.ok.cab x c hfn hc)))).trans e1⟩
  ·obtain⟨o',e1⟩:=I.base.there b o e hx
   exact⟨o',(hs.2 b (NY (NV (Heap.lt_size e) (I.ok.cab x c hfn hc)))).trans e1⟩
  ·by_cases hj:j=i
   ·subst hj
    rw[hi] at e1;cases e1
    rw[MW hiσ] at e2
    cases e2
    exact⟨u,r, .inr ⟨.inl hk,c,hc,hc'⟩⟩
   ·rw[MX (Ne.symm hj)] at e2
    obtain⟨u',r',q⟩:=hl j y v' e1 e2 e3
    refine⟨u',r',?_⟩
    rcases q with q|⟨k,c',e,z'⟩
    ·exact .inl q
    ·refine .inr ⟨k,c',e,z'.sameBut hs ?_⟩
     rintro rfl
     exact hj (khV hN e1 (I.ok.inj _ _ _ e hc▸hi))
  ·by_cases hcc:c'=c
   ·subst hcc;exact⟨_,hc'⟩
   ·obtain⟨w2,z2⟩:=I.cell y c' e
    exact⟨w2,z2.sameBut hs hcc⟩
  ·obtain⟨e,n,ne,nf,d⟩:=I.pin p hp
   refine⟨(hs.2 p.1 ?_).trans e,n,ne,nf,d⟩
   intro q
   rw[q,hoc] at e
   have q':oc=p.2:=Option.some.inj e
   exact d w' (by rw[←q'];exact hocd)
theorem kei{M:Model}{A:Around}{E:Value→Shared→Prop}{i:Nat}{x:Str}{v:V}{u:Value}{Q:Unit→Shared→Prop}(I:Inv X pins σ H s)(hN:X.N.Nodup)(hi:X.N[i]?=some x)(hx:Loc X.env.scope x)(r:RelV v u)
  (h:∀s',Inv X pins (σ.set i (some v)) H s'→Q () s') (hf:X.fn x=true∨X.env.scope.names.lookup x=some .local:=by first|exact .inl rfl|exact .inr rfl|assumption):wpAny M A (storeName X.env x u) Q E s:=
 kiE I hN hi hx r (fun s' I' _=>h s' I') hf
theorem Inv.call'{s':Shared}{ch:List Addr}(I:Inv X pins σ H s)(ho:s'.os=s.os)(u:Un (frs X.stack) ch H H' s.heap s'.heap)(hok:HOk X.prog X.w H' s'.heap)(hg:AllBare s'.gens)
  (hch:∀b∈ch,(b∈X.ex∨X.s₀.heap.objs.size≤b)∧b≠X.env.locals∧(∀x c,X.env.cells.lookup x=some c→c≠b)∧∀p∈X.pn++pins,p.1≠b):Inv X pins σ H' s':=by
 obtain⟨h',g',d',t',o'⟩:=s'
 have e:o'=s.os:=ho
 subst e
 exact I.call (g':=g') (t':=t') (d':=d') u hok hg hch
end
abbrev XK:=Value→Option Addr→Hp→Prop
abbrev St:=List (Option V)
abbrev VK:=V→Hp→Prop
abbrev TE:=St→Hp→VK→Prop
abbrev TT:=St→Hp→(Bool→Hp→Prop)→Prop
abbrev TA:=St→Hp→(List V→Hp→Prop)→Prop
structure Ends where
 nx:St→Hp→Prop
 rt:VK
 bk:St→Hp→Prop:=fun _ _=>False
 ct:St→Hp→Prop:=fun _ _=>False
abbrev TS:=Ends→St→Hp→Prop
def EP(X:Cx)(pins:List (Addr×Obj))(σ:St)(Q:VK)(u:Value)(s':Shared):Prop:=∃v H',Inv X pins σ H' s'∧RelV v u∧Q v H'
def TP(X:Cx)(pins:List (Addr×Obj))(σ:St)(Q:Bool→Hp→Prop)(b:Bool)(s':Shared):Prop:=∃H',Inv X pins σ H' s'∧Q b H'
def AP(X:Cx)(pins:List (Addr×Obj))(σ:St)(Q:List V→Hp→Prop)(us:List Value)(s':Shared):Prop:=∃vs H',Inv X pins σ H' s'∧Vals vs us∧Q vs H'
def SP(X:Cx)(pins:List (Addr×Obj))(D:Ends)(f:Flow)(s':Shared):Prop:=
 match f with
 | .next=>∃σ' H',Inv X pins σ' H' s'∧D.nx σ' H'
 | .brk=>∃σ' H',Inv X pins σ' H' s'∧D.bk σ' H'
 | .cont=>∃σ' H',Inv X pins σ' H' s'∧D.ct σ' H'
 | .ret u=>∃v σ' H',Inv X pins σ' H' s'∧RelV v u∧D.rt v H'
def PE(X:Cx)(e:Expr)(t:TE):Prop:=
 ∀(pins:List (Addr×Obj))(s:Shared)(σ:St)(H:Hp)(Q:VK),Inv X pins σ H s→t σ H Q→wpAny (model X.prog X.w) X.A (eval e X.env) (EP X pins σ Q) X.xe s
def PT(X:Cx)(e:Expr)(t:TT):Prop:=
 ∀(pins:List (Addr×Obj))(s:Shared)(σ:St)(H:Hp)(Q:Bool→Hp→Prop),Inv X pins σ H s→t σ H Q→wpAny (model X.prog X.w) X.A (isTrue e X.env (eval e X.env)) (TP X pins σ Q) X.xe s
def PW(X:Cx)(e:Expr)(t:TT):Prop:=
 ∀(whole:Sem Value)(pins:List (Addr×Obj))(s:Shared)(σ:St)(H:Hp)(Q:Bool→Hp→Prop),Inv X pins σ H s→t σ H Q→wpAny (model X.prog X.w) X.A (isTrue e X.env whole) (TP X pins σ Q) X.xe s
def PW.pt{X:Cx}{e:Expr}{t:TT}(h:PW X e t):PT X e t:=h _
def PA(X:Cx)(es:List Expr)(t:TA):Prop:=
 ∀(pos:Pos)(pins:List (Addr×Obj))(s:Shared)(σ:St)(H:Hp)(Q:List V→Hp→Prop),Inv X pins σ H s→t σ H Q→wpAny (model X.prog X.w) X.A (spliced (backTo pos (starEach es X.env))) (AP X pins σ Q) X.xe s
def PS(X:Cx)(st:Stmt)(t:TS):Prop:=
 ∀(pins:List (Addr×Obj))(s:Shared)(σ:St)(H:Hp)(D:Ends),Inv X pins σ H s→t D σ H→wpAny (model X.prog X.w) X.A (exec st X.env) (SP X pins D) X.xe s
def PSs(X:Cx)(st:List Stmt)(t:TS):Prop:=
 ∀(pins:List (Addr×Obj))(s:Shared)(σ:St)(H:Hp)(D:Ends),Inv X pins σ H s→t D σ H→wpAny (model X.prog X.w) X.A (execs st X.env) (SP X pins D) X.xe s
def thn{α:Type}{t:Sem α}{Q Q': α→Shared→Prop}{M:Model}{A:Around}{E:Value→Shared→Prop}{s:Shared}(h:wpAny M A t Q E s)(hQ:∀a s,Q a s→Q' a s):wpAny M A t Q' E s:=wpAny_mono h hQ fun _ _ x=>x
end L2
namespace L2
open PySem PySem.Spec PyProof.Rows
section
variable {X:Cx}
def tVar(i:Nat):TE:=fun σ H Q=>∃v,σ[i]?=some (some v)∧Q v H
def tC(v:V):TE:=fun _ H Q=>Q v H
theorem kmu{i:Nat}{x:Str}{pos:Pos}(hN:X.N[i]?=some x)(hv:Vis X.env.scope x)(hd:(x==("__debug__" :Str))=false:=by decide)(hcd:(x==("__classdict__" :Str))=false:=by decide):PE X (.Name x pos) (tVar i):=by
 intro pins s σ H Q I h
 obtain⟨v,e,h⟩:=h
 obtain⟨m,hn,hl⟩:=I.loc
 obtain⟨u,r,l⟩:=hl i x v hN e hv
 have fin:EP X pins σ Q u s:=⟨v,H,I,r,h⟩
 rcases l with⟨hk,hm⟩|⟨hk,c,hc,hcell⟩
 ·exact wpAny_Name (wpAny_loadName_local I.ok.kind hk hn hm fin) hd
 ·rcases hk with hk|hk
  ·exact wpAny_Name (wpAny_loadName_cell I.ok.kind hk hc hcell fin) hd
  ·exact wpAny_Name (wpAny_loadName_free I.ok.kind hk hc hcell fin hcd) hd
theorem kaf{i j pos}:PE X (.Constant (.int i) j pos) (tC (.int i)):=fun _ _ _ H _ I h=>wpAny_Constant_int ⟨.int i,H,I.tok _,⟨_,rfl⟩,h⟩
theorem pe_bl{b j pos}:PE X (.Constant (.bool b) j pos) (tC (.bl b)):=fun _ _ _ H _ I h=>Constant_bool ⟨.bl b,H,I,rfl,h⟩
theorem ka1{j pos}:PE X (.Constant .none j pos) (tC .non):=fun _ _ _ H _ I h=>Constant_none ⟨.non,H,I,rfl,h⟩
theorem kbu{x j pos}:PE X (.Constant (.str x) j pos) (tC (.str x)):=fun _ _ _ H _ I h=>Calls.Constant_str ⟨.str x,H,I.tok _,⟨_,rfl⟩,h⟩
def Gl(X:Cx)(x:Str):Prop:=X.env.kindOf x=some .globalImplicit
theorem kdU{E:Value→Shared→Prop}{pins:List (Addr×Obj)}{s:Shared}{σ:St}{H:Hp}{x:Str}{u:Value}{pos:Pos}{Q:Value→Shared→Prop}(I:Inv X pins σ H s)(hg:Gl X x)(hm:X.mg x=some u)(h:Q u s)
  (hd:(x==("__debug__" :Str))=false:=by decide):wpAny (model X.prog X.w) X.A (eval (.Name x pos) X.env) Q E s:=
 Calls.Name_function_global I.ok.kind hg (Calls.loadGlobal_global (by rw[I.ok.glob];exact I.mod.glob.keeps I.bk) hm h) hd
theorem kdc{E:Value→Shared→Prop}{pins:List (Addr×Obj)}{s:Shared}{σ:St}{H:Hp}{x:Str}{u:Value}{pos:Pos}{Q:Value→Shared→Prop}(I:Inv X pins σ H s)(hg:Gl X x)(hm:X.mg x=none)(hv:bootBuiltins x=some u)(h:Q u s)
  (hn:x≠"__name__":=by decide) (hd:(x==("__debug__" :Str))=false:=by decide):wpAny (model X.prog X.w) X.A (eval (.Name x pos) X.env) Q E s:=by
 obtain⟨mb,h1,h2⟩:=I.mod.blt
 exact Calls.Name_function_global I.ok.kind hg (Calls.loadGlobal_builtin (by rw[I.ok.glob];exact I.mod.glob.keeps I.bk) hm (by rw[I.ok.blt];exact h1.keeps I.bk) ((h2 x hn).trans hv) h) hd
theorem kcw{x:Str}{v:V}{u:Value}{pos:Pos}(hg:Gl X x)(hm:X.mg x=some u)(r:RelV v u)(hd:(x==("__debug__" :Str))=false:=by decide):PE X (.Name x pos) (tC v):=
 fun _ _ _ H _ I h=>kdU I hg hm ⟨v,H,I,r,h⟩ hd
theorem klV{x:Str}{v:V}{u:Value}{pos:Pos}(hg:Gl X x)(hm:X.mg x=none)(hv:bootBuiltins x=some u)(r:RelV v u)(hn:x≠"__name__":=by decide)(hd:(x==("__debug__" :Str))=false:=by decide):PE X (.Name x pos) (tC v):=
 fun _ _ _ H _ I h=>kdc I hg hm hv ⟨v,H,I,r,h⟩ hn hd
variable {a b:Expr} {ta tb:TE} {pos:Pos}
def tB(t:TE):TT:=fun σ H Q=>t σ H fun x H1=>∃c,x=.bl c∧Q c H1
theorem ka4{e:Expr}{t:TE}(h:PE X e t)(he:∀whole,isTrue e X.env whole=(do let v ←whole;standAt e.pos;holding [v] (truthy v)):=by intro _;rfl):PT X e (tB t):=by
 intro pins s σ H Q I hw
 refine isTrue_plain (thn (h pins s σ H _ I hw) fun v s1 ⟨x,H1,I1,r1,q1⟩=>?_) (he _)
 obtain⟨d,rfl,q⟩:=q1
 cases r1
 exact wpAny_truthy_bool ⟨H1,I1,q⟩
variable {tA tB':TT} {rest:List Expr}
def tAnd(t u:TT):TT:=fun σ H Q=>t σ H fun c H1=>if c=true then u σ H1 Q else Q false H1
def tOr(t u:TT):TT:=fun σ H Q=>t σ H fun c H1=>if c=true then Q true H1 else u σ H1 Q
def tNot(t:TT):TT:=fun σ H Q=>t σ H fun c H1=>Q (!c) H1
theorem kbx(ha:PT X a tA):PW X (.BoolOp .And [a] pos) tA:=by
 intro wh pins s σ H Q I h
 refine isTrue_and (thn (ha pins s σ H Q I h) fun c s1 e=>?_)
 cases c with
 |true=>exact isTrue_and_nil e
 |false=>exact e
theorem ki7(ha:PT X a tA):PW X (.BoolOp .Or [a] pos) tA:=by
 intro wh pins s σ H Q I h
 refine isTrue_or (thn (ha pins s σ H Q I h) fun c s1 e=>?_)
 cases c with
 |false=>exact isTrue_or_nil e
 |true=>exact e
theorem kbL(ha:PT X a tA)(hb:PW X (.BoolOp .And (b::rest) pos) tB'):PW X (.BoolOp .And (a::b::rest) pos) (tAnd tA tB'):=by
 intro wh pins s σ H Q I h
 refine isTrue_and (thn (ha pins s σ H _ I h) fun c s1 ⟨H1,I1,q1⟩=>?_)
 cases c with
 |true=>exact hb wh pins s1 σ H1 Q I1 q1
 |false=>exact⟨H1,I1,q1⟩
theorem pw_or(ha:PT X a tA)(hb:PW X (.BoolOp .Or (b::rest) pos) tB'):PW X (.BoolOp .Or (a::b::rest) pos) (tOr tA tB'):=by
 intro wh pins s σ H Q I h
 refine isTrue_or (thn (ha pins s σ H _ I h) fun c s1 ⟨H1,I1,q1⟩=>?_)
 cases c with
 |true=>exact⟨H1,I1,q1⟩
 |false=>exact hb wh pins s1 σ H1 Q I1 q1
theorem kez(ha:PT X a tA):PT X (.UnaryOp .Not a pos) (tNot tA):=by
 intro pins s σ H Q I h
 exact isTrue_not (ha pins s σ H (fun c H1=>Q (!c) H1) I h)
def tAndV(ta tb:TE):TE:=fun σ H Q=>ta σ H fun x H1=>∃c,x=.bl c∧if c=true then tb σ H1 Q else Q (.bl false) H1
def tOrV(ta tb:TE):TE:=fun σ H Q=>ta σ H fun x H1=>∃c,x=.bl c∧if c=true then Q (.bl true) H1 else tb σ H1 Q
theorem kjg{op}{t:TE}(h:PE X a t):PE X (.BoolOp op [a] pos) t:=fun pins s σ H Q I hw=>BoolOp_one (h pins s σ H Q I hw)
theorem kmy(ha:PE X a ta)(hb:PE X (.BoolOp .And (b::rest) pos) tb):PE X (.BoolOp .And (a::b::rest) pos) (tAndV ta tb):=by
 intro pins s σ H Q I h
 refine BoolOp_and (thn (ha pins s σ H _ I h) fun v s1 ⟨x,H1,I1,r1,q1⟩=>?_)
 obtain⟨c,rfl,q1⟩:=q1
 cases r1
 refine wpAny_truthy_bool ?_
 cases c with
 |true=>exact hb pins s1 σ H1 Q I1 q1
 |false=>exact⟨.bl false,H1,I1,rfl,q1⟩
theorem pe_or(ha:PE X a ta)(hb:PE X (.BoolOp .Or (b::rest) pos) tb):PE X (.BoolOp .Or (a::b::rest) pos) (tOrV ta tb):=by
 intro pins s σ H Q I h
 refine BoolOp_or (thn (ha pins s σ H _ I h) fun v s1 ⟨x,H1,I1,r1,q1⟩=>?_)
 obtain⟨c,rfl,q1⟩:=q1
 cases r1
 refine wpAny_truthy_bool ?_
 cases c with
 |false=>exact hb pins s1 σ H1 Q I1 q1
 |true=>exact⟨.bl true,H1,I1,rfl,q1⟩
def tIf(t:TT)(ta tb:TE):TE:=fun σ H Q=>t σ H fun c H1=>if c=true then ta σ H1 Q else tb σ H1 Q
theorem khN{c:Expr}(hc:PT X c tA)(ha:PE X a ta)(hb:PE X b tb):PE X (.IfExp c a b pos) (tIf tA ta tb):=by
 intro pins s σ H Q I h
 refine wpAny_IfExp (thn (hc pins s σ H _ I h) fun d s1 ⟨H1,I1,q1⟩=>?_)
 cases d with
 |true=>exact ha pins s1 σ H1 Q I1 q1
 |false=>exact hb pins s1 σ H1 Q I1 q1
end
end L2
namespace L2
open PySem PySem.Spec PyProof.Rows
def SqL(K:Nt)(H:Hp)(a:Addr)(xs:List V):Prop:=
 Rd H a (.lst xs)∨
  ∃(o:Obj)(its:Array Value)(n:Nat),K.lookup a=some o∧o.cls=.type "list"∧o.dict=none∧o.data=.seq its n∧its.size≤sizeLine∧Vals xs its.toList
def SqT(K:Nt)(H:Hp)(a:Addr)(xs:List V):Prop:=
 Rd H a (.tup xs)∨
  ∃(o:Obj)(its:Array Value)(n:Nat),K.lookup a=some o∧o.cls=.type "tuple"∧o.data=.seq its n∧its.size≤sizeLine∧Vals xs its.toList
def absV:Value→Option V
 | .none=>some .non
 | .bool b=>some (.bl b)
 | .int i _=>some (.int i)
 | .str x _=>some (.str x)
 | .bytes b _=>some (.byt b)
 | .float b _=>some (.flt b)
 | .ref a=>some (.ref a)
 | .type n=>some (.ty n)
 |_=>none
theorem RelV.abs{x:V}{u:Value}(r:RelV x u):absV u=some x:=by
 cases x with
 |non=>cases r;rfl
 |bl _=>cases r;rfl
 |int _=>obtain⟨t,rfl⟩:=r;rfl
 |str _=>obtain⟨t,rfl⟩:=r;rfl
 |byt _=>obtain⟨t,rfl⟩:=r;rfl
 |flt _=>obtain⟨t,rfl⟩:=r;rfl
 |ref _=>cases r;rfl
 |ty _=>cases r;rfl
def RelV.inj{x y:V}{u:Value}(r:RelV x u)(q:RelV y u):x=y:=Option.some.inj (r.abs.symm.trans q.abs)
theorem Vals.inj:∀{xs ys:List V}{us:List Value},Vals xs us→Vals ys us→xs=ys
 |_,_,_, .nil, .nil=>rfl
 |_,_,_, .cons r t, .cons r' t'=>by rw[r.inj r',Vals.inj t t']
section
variable {X:Cx} {pins:List (Addr×Obj)} {σ:St} {H:Hp} {s:Shared} {a:Addr} {xs ys:List V}
theorem SqL.of{K:Nt}(h:H a=some (.lst xs)):SqL K H a xs:=.inl (.inl h)
theorem SqT.of{K:Nt}(h:H a=some (.tup xs)):SqT K H a xs:=.inl (.inl h)
theorem Inv.list(I:Inv X pins σ H s)(h:SqL X.K H a xs):∃its:List Value,Vals xs its∧PlainL s.heap a its.toArray∧xs.length≤sizeLine:=by
 rcases h with h|⟨o,its,n,hk,hc,hd,hs,hz,r⟩
 ·obtain⟨z,its,n,r,e⟩:=h.ok I.hok
  exact⟨its,r,⟨_,n,e,rfl,rfl,rfl⟩,z⟩
 ·refine⟨its.toList,r,⟨o,n,I.kIn a o hk,hc,hd,by simpa using hs⟩,?_⟩
  have e:=r.length
  simp only[MY] at e
  omega
theorem Inv.tuple(I:Inv X pins σ H s)(h:SqT X.K H a xs):∃its:List Value,Vals xs its∧IsTup s.heap a its.toArray∧xs.length≤sizeLine:=by
 rcases h with h|⟨o,its,n,hk,hc,hs,hz,r⟩
 ·obtain⟨z,its,r,p⟩:=h.ok I.hok
  exact⟨its,r,p,z⟩
 ·refine⟨its.toList,r,⟨o,I.kIn a o hk,hc,n,by simpa using hs⟩,?_⟩
  have e:=r.length
  simp only[MY] at e
  omega
theorem Inv.list_inj(I:Inv X pins σ H s)(h:SqL X.K H a xs)(h':SqL X.K H a ys):xs=ys:=by
 obtain⟨its,r,⟨o,n,e,_,_,d⟩,_⟩:=I.list h
 obtain⟨its',r',⟨o',n',e',_,_,d'⟩,_⟩:=I.list h'
 rw[e] at e';cases e'
 rw[d] at d'
 injection d' with d1 _
 have:its=its':=by simpa using congrArg Array.toList d1
 subst this
 exact r.inj r'
end
abbrev Cx.wish(X:Cx)(E:Value→Shared→Prop):Cx:={X with xe:=E}
abbrev Cx.nox(X:Cx):Cx:=X.wish fun _ _=>False
def Cx.Ok.wish{X:Cx}(ok:X.Ok)(E:Value→Shared→Prop):(X.wish E).Ok:=
 ⟨ok.mod,ok.kind,ok.glob,ok.blt,ok.above,ok.inj,ok.has,ok.cab,ok.hd,ok.frames,ok.stk,ok.exf,ok.bs,ok.bsz,ok.noex,ok.exfs,ok.funs,ok.frf⟩
def Cx.Ok.unwish{X:Cx}{E:Value→Shared→Prop}(ok:(X.wish E).Ok):X.Ok:=
 ⟨ok.mod,ok.kind,ok.glob,ok.blt,ok.above,ok.inj,ok.has,ok.cab,ok.hd,ok.frames,ok.stk,ok.exf,ok.bs,ok.bsz,ok.noex,ok.exfs,ok.funs,ok.frf⟩
section
variable {X:Cx} {pins:List (Addr×Obj)} {σ:St} {H:Hp} {s:Shared} {E:Value→Shared→Prop}
theorem Inv.wish(I:Inv X pins σ H s)(E:Value→Shared→Prop):Inv (X.wish E) pins σ H s:=⟨I.ok.wish E,I.os,I.bare,I.base,I.loc,I.cell,I.free,I.freeC,I.pin,I.hok,I.len⟩
theorem Inv.unwish(I:Inv (X.wish E) pins σ H s):Inv X pins σ H s:=⟨I.ok.unwish,I.os,I.bare,I.base,I.loc,I.cell,I.free,I.freeC,I.pin,I.hok,I.len⟩
theorem SP.unwish{D:Ends}{f:Flow}{s':Shared}(h:SP (X.wish E) pins D f s'):SP X pins D f s':=by
 cases f with
 |next=>obtain⟨σ',H',I,q⟩:=h;exact⟨σ',H',I.unwish,q⟩
 |brk=>obtain⟨σ',H',I,q⟩:=h;exact⟨σ',H',I.unwish,q⟩
 |cont=>obtain⟨σ',H',I,q⟩:=h;exact⟨σ',H',I.unwish,q⟩
 |ret u=>obtain⟨v,σ',H',I,r,q⟩:=h;exact⟨v,σ',H',I.unwish,r,q⟩
theorem PE.nox{e:Expr}{t:TE}(h:PE X.nox e t):PE X e t:=fun pins s σ H Q I hw=>
 wpAny_mono (h pins s σ H Q (I.wish _) hw) (fun _ _ ⟨v,H',I',r,q⟩=>⟨v,H',I'.unwish,r,q⟩) fun _ _ z=>False.elim z
theorem PT.nox{e:Expr}{t:TT}(h:PT X.nox e t):PT X e t:=fun pins s σ H Q I hw=>
 wpAny_mono (h pins s σ H Q (I.wish _) hw) (fun _ _ ⟨H',I',q⟩=>⟨H',I'.unwish,q⟩) fun _ _ z=>False.elim z
theorem PSs.nox{st:List Stmt}{t:TS}(h:PSs X.nox st t):PSs X st t:=fun pins s σ H D I hw=>
 wpAny_mono (h pins s σ H D (I.wish _) hw) (fun _ _ q=>q.unwish) fun _ _ z=>False.elim z
end
section
variable {X:Cx} {st:Stmt} {rest:List Stmt} {t u:TS} {e:Expr} {te:TE} {pos:Pos}
def tNext:TS:=fun D σ H=>D.nx σ H
def tSeq(t u:TS):TS:=fun D σ H=>t {D with nx:=u D} σ H
theorem kat:PSs X [] tNext:=fun _ _ σ H _ I h=>wpAny_execs_nil ⟨σ,H,I,h⟩
theorem kac(h1:PS X st t)(h2:PSs X rest u):PSs X (st::rest) (tSeq t u):=by
 intro pins s σ H D I h
 refine wpAny_execs_cons (thn (h1 pins s σ H {D with nx:=u D} I h) fun f s1 q=>?_)
 cases f with
 |next=>
  obtain⟨σ',H',I',q⟩:=q
  exact h2 pins s1 σ' H' D I' q
 |ret v=>exact q
 |brk=>exact q
 |cont=>exact q
theorem kah(h1:PS X st t):PSs X [st] t:=by
 intro pins s σ H D I h
 refine wpAny_execs_cons (thn (h1 pins s σ H D I h) fun f s1 q=>?_)
 cases f with
 |next=>exact wpAny_execs_nil q
 |ret v=>exact q
 |brk=>exact q
 |cont=>exact q
def kmn:TS:=fun D σ H=>D.bk σ H
theorem kki:PS X (.Break pos) kmn:=fun _ _ σ H _ I h=>wpAny_Break ⟨σ,H,I,h⟩
theorem Inv.quiet{pins:List (Addr×Obj)}{σ:St}{H:Hp}{s:Shared}(I:Inv X pins σ H s):interactive X.env=false:=by simp[interactive,I.ok.kind]
def tDrop(te:TE):TS:=fun D σ H=>te σ H fun _ H1=>D.nx σ H1
theorem kaS(he:PE X e te)(hs:swapsWith e none pos.line X.env=pure false:=by rfl):PS X (.Expr e pos) (tDrop te):=by
 intro pins s σ H D I h
 exact wpAny_Expr_any (thn (he pins s σ H _ I h) fun v s1 ⟨x,H1,I1,r1,q1⟩=>⟨σ,H1,I1,q1⟩) I.quiet hs
def tRet(te:TE):TS:=fun D σ H=>te σ H D.rt
theorem kap(he:PE X e te):PS X (.Return (some e) pos) (tRet te):=by
 intro pins s σ H D I h
 exact wpAny_Return_some (thn (he pins s σ H _ I h) fun v s1 ⟨x,H1,I1,r1,q1⟩=>⟨x,σ,H1,I1,r1,q1⟩)
def tIfS(c:TT)(t u:TS):TS:=fun D σ H=>c σ H fun b H1=>if b=true then t D σ H1 else u D σ H1
theorem ps_if{c:Expr}{a b:List Stmt}{tc:TT}(hc:PT X c tc)(ha:PSs X a t)(hb:PSs X b u):PS X (.If c a b pos) (tIfS tc t u):=by
 intro pins s σ H D I h
 refine wpAny_If (thn (hc pins s σ H _ I h) fun d s1 ⟨H1,I1,q1⟩=>?_)
 cases d with
 |true=>exact ha pins s1 σ H1 D I1 q1
 |false=>exact hb pins s1 σ H1 D I1 q1
end
abbrev TG:=V→St→Hp→(St→Hp→Prop)→Prop
noncomputable abbrev TGs:=List V→St→Hp→(St→Hp→Prop)→Prop
noncomputable def PG(X:Cx)(target:Expr)(t:TG):Prop:=
 ∀(pins:List (Addr×Obj))(s:Shared)(σ:St)(H:Hp)(v:V)(u:Value)(Q:St→Hp→Prop),Inv X pins σ H s→RelV v u→t v σ H Q→
  wpAny (model X.prog X.w) X.A (assign target X.env u) (fun _ s'=>∃σ' H',Inv X pins σ' H' s'∧Q σ' H') X.xe s
noncomputable def PGs(X:Cx)(ts:List Expr)(t:TGs):Prop:=
 ∀(pins:List (Addr×Obj))(s:Shared)(σ:St)(H:Hp)(vs:List V)(us:List Value)(Q:St→Hp→Prop),Inv X pins σ H s→Vals vs us→t vs σ H Q→
  wpAny (model X.prog X.w) X.A (assignInOrder ((assignEach ts X.env).map (·.2)) us) (fun _ s'=>∃σ' H',Inv X pins σ' H' s'∧Q σ' H') X.xe s
noncomputable abbrev TSet:=V→V→V→Hp→(Hp→Prop)→Prop
noncomputable def PSet(X:Cx)(t:TSet):Prop:=
 ∀(pins:List (Addr×Obj))(s:Shared)(σ:St)(H:Hp)(o i v:V)(ov iv u:Value)(Q:Hp→Prop),Inv X pins σ H s→RelV o ov→RelV i iv→RelV v u→t o i v H Q→
  wpAny (model X.prog X.w) X.A (setItem ov iv u) (fun _ s'=>∃H',Inv X pins σ H' s'∧Q H') X.xe s
noncomputable abbrev TIp:=V→V→Hp→VK→Prop
noncomputable def PIp(X:Cx)(op:Operator)(t:TIp):Prop:=
 ∀(pins:List (Addr×Obj))(s:Shared)(σ:St)(H:Hp)(x y:V)(v u:Value)(Q:VK),Inv X pins σ H s→RelV x v→RelV y u→t x y H Q→
  wpAny (model X.prog X.w) X.A (inplaceOp op v u) (EP X pins σ Q) X.xe s
section
variable {X:Cx} {pos:Pos}
noncomputable def gName(i:Nat):TG:=fun v σ H Q=>Q (σ.set i (some v)) H
theorem klT{i:Nat}{x:Str}(hN:X.N.Nodup)(hi:X.N[i]?=some x)(hx:Loc X.env.scope x)(hf:X.fn x=true∨X.env.scope.names.lookup x=some .local:=by first|exact .inl rfl|exact .inr rfl|assumption):PG X (.Name x pos) (gName i):=by
 intro pins s σ H v u Q I r h
 exact wpAny_assign_Name (kei I hN hi hx r (fun s' I'=>⟨_,H,I',h⟩) hf)
noncomputable def gNil:TGs:=fun vs σ H Q=>vs=[]∧Q σ H
noncomputable def gCons(t:TG)(u:TGs):TGs:=fun vs σ H Q=>∃v r,vs=v::r∧t v σ H fun σ' H'=>u r σ' H' Q
theorem kbr:PGs X [] gNil:=by
 intro pins s σ H vs us Q I r h
 obtain⟨e,h⟩:=h
 subst e
 cases r
 exact assignInOrder_nil ⟨σ,H,I,h⟩
theorem kay{e:Expr}{es:List Expr}{t:TG}{u:TGs}(h1:PG X e t)(h2:PGs X es u)
  (hs:(assignEach (e::es) X.env).map (·.2)=assign e X.env::(assignEach es X.env).map (·.2):=by rfl):PGs X (e::es) (gCons t u):=by
 intro pins s σ H vs us Q I r h
 obtain⟨v,vr,e1,h⟩:=h
 subst e1
 cases r with
 |cons r rr=>
  rw[hs]
  refine assignInOrder_cons (thn (h1 pins s σ H _ _ _ I r h) fun _ s1 ⟨σ1,H1,I1,q1⟩=>?_)
  exact h2 pins s1 σ1 H1 _ _ Q I1 rr q1
noncomputable def gTup(K:Nt)(n:Nat)(t:TGs):TG:=fun v σ H Q=>∃a xs,v=.ref a∧SqT K H a xs∧xs.length=n∧t xs σ H Q
theorem kmt{es:List Expr}{k:Nat}{t:TGs}{n:Nat}(hc:X.calm=true)(h:PGs X es t)
  (hn:(assignEach es X.env).length=n:=by rfl) (hst:(assignEach es X.env).findIdx? (·.1)=none:=by rfl):PG X (.Tuple es k pos) (gTup X.K n t):=by
 intro pins s σ H v u Q I r hw
 obtain⟨a,xs,e1,hq,hl,hw⟩:=hw
 subst e1
 cases r
 obtain⟨its,rv,ht,hz⟩:=I.tuple hq
 refine assign_Tuple_tuple (I.ok.hd hc) ht (by simp[hn,←hl,rv.length]) hst fun h' hx=>?_
 have I1:Inv X pins σ H {s with heap:=h'}:=I.kept (t':=s.toks) fun b o e=>hx b o (NY (Heap.lt_size e)) e
 exact h pins _ σ H xs _ Q I1 (by simpa using rv) hw
noncomputable def gSub(to ti:TE)(t:TSet):TG:=fun v σ H Q=>to σ H fun o H1=>ti σ H1 fun i H2=>t o i v H2 fun H3=>Q σ H3
theorem kld{o i:Expr}{to ti:TE}{t:TSet}(ho:PE X o to)(hi:PE X i ti)(hs:PSet X t)
  (ha:∀v,assign (.Subscript o i pos) X.env v=(do
   let ov ←holding [v] (eval o X.env)
   let iv ←holding [v,ov] (eval i X.env)
   standAt pos
   holding [v,ov,iv] (setItem ov iv v)
   release [v,ov,iv] []):=by intro _;rfl):PG X (.Subscript o i pos) (gSub to ti t):=by
 intro pins s σ H v u Q I r h
 rw[ha]
 refine wpAny_bind (wpAny_holding (thn (ho pins s σ H _ I h) fun ov s1 ⟨x,H1,I1,r1,q1⟩=>?_))
 refine wpAny_bind (wpAny_holding (thn (hi pins s1 σ H1 _ I1 q1) fun iv s2 ⟨y,H2,I2,r2,q2⟩=>?_))
 refine wpAny_bind (wpAny_standAt (wpAny_bind (wpAny_holding (thn (hs pins s2 σ H2 x y v ov iv u _ I2 r1 r2 r q2) fun _ s3 ⟨H3,I3,q3⟩=>?_))))
 exact wpAny_release ⟨σ,H3,I3,q3⟩
noncomputable def tAsg(te:TE)(g:TG):TS:=fun D σ H=>te σ H fun x H1=>g x σ H1 D.nx
theorem khK{tg e:Expr}{te:TE}{g:TG}(he:PE X e te)(hg:PG X tg g)(hs:swapsWithSole [tg] e pos.line X.env=pure false:=by rfl)(hw:swappedStores [tg] e X.env=pure none:=by rfl)
  (h1:(assignEach [tg] X.env).map (·.2)=[assign tg X.env]:=by rfl):PS X (.Assign [tg] e pos) (tAsg te g):=by
 intro pins s σ H D I h
 refine wpAny_Assign_stores (thn (he pins s σ H _ I h) fun v s1 ⟨x,H1,I1,r1,q1⟩=>?_) hs hw
 rw[h1]
 exact thn (hg pins s1 σ H1 x v _ I1 r1 q1) fun _ s2 q=>q
theorem kmr{i:Nat}{x:Str}{e:Expr}{te:TE}{pos':Pos}(hN:X.N.Nodup)(hi:X.N[i]?=some x)(hx:Loc X.env.scope x)(he:PE X e te)(hs:swapsWith e (some (.Name x pos')) pos.line X.env=pure false:=by rfl)(hf:X.fn x=true∨X.env.scope.names.lookup x=some .local:=by first|exact .inl rfl|exact .inr rfl|assumption):
  PS X (.Assign [.Name x pos'] e pos) (tAsg te (gName i)):=by
 intro pins s σ H D I h
 refine wpAny_Assign_Name (thn (he pins s σ H _ I h) fun v s1 ⟨y,H1,I1,r1,q1⟩=>?_) hs
 exact kei I1 hN hi hx r1 (fun s2 I2=>⟨_,H1,I2,q1⟩) hf
noncomputable def tAug(i:Nat)(te:TE)(ti:TIp):TS:=fun D σ H=>∃x,σ[i]?=some (some x)∧te σ H fun y H1=>ti x y H1 fun z H2=>D.nx (σ.set i (some z)) H2
theorem kms{i:Nat}{x:Str}{e:Expr}{te:TE}{op:Operator}{ti:TIp}{pos':Pos}(hN:X.N.Nodup)(hi:X.N[i]?=some x)(hx:Loc X.env.scope x)(he:PE X e te)(ho:PIp X op ti)(hf:X.fn x=true∨X.env.scope.names.lookup x=some .local:=by first|exact .inl rfl|exact .inr rfl|assumption):
  PS X (.AugAssign (.Name x pos') op e pos) (tAug i te ti):=by
 intro pins s σ H D I h
 obtain⟨v,e1,h⟩:=h
 obtain⟨m,hn,hl⟩:=I.loc
 have vis:Vis X.env.scope x:=by rcases hx with k|k;exact .inl k;exact .inr (.inl k)
 obtain⟨u,r,l⟩:=hl i x v hi e1 vis
 refine wpAny_AugAssign_Name ?_
 have go:wpAny (model X.prog X.w) X.A (eval e X.env) (fun w s₂=>wpAny (model X.prog X.w) X.A (inplaceOp op u w) (fun r s₃=>wpAny (model X.prog X.w) X.A (storeName X.env x r) (fun _=>SP X pins D .next) X.xe s₃) X.xe s₂) X.xe s:=by
  refine thn (he pins s σ H _ I h) fun w s1 ⟨y,H1,I1,r1,q1⟩=>?_
  refine thn (ho pins s1 σ H1 v y u w _ I1 r r1 q1) fun z s2 ⟨zv,H2,I2,r2,q2⟩=>?_
  exact kei I2 hN hi hx r2 (fun s3 I3=>⟨_,H2,I3,q2⟩) hf
 rcases l with⟨hk,hm⟩|⟨hk,c,hc,hcell⟩
 ·exact wpAny_loadName_local I.ok.kind hk hn hm go
 ·rcases hk with hk|hk
  ·exact wpAny_loadName_cell I.ok.kind hk hc hcell go
  ·rcases hx with k|k
   ·have:X.env.scope.names.lookup x=some .free:=hk
    rw[k] at this;cases this
   ·have:X.env.scope.names.lookup x=some .free:=hk
    rw[k] at this;cases this
noncomputable def ipI(f:Int→Int→Int):TIp:=fun x y H Q=>∃i j,x=.int i∧y=.int j∧Q (.int (f i j)) H
theorem kmM:PIp X .Add (ipI fun i j=>i+j):=by
 intro pins s σ H x y v u Q I r1 r2 h
 obtain⟨i,j,e1,e2,q⟩:=h
 subst e1;subst e2
 obtain⟨t,rfl⟩:=r1
 obtain⟨t',rfl⟩:=r2
 exact iadd_int ⟨.int _,H,I.tok _,⟨_,rfl⟩,q⟩
end
section
variable {X:Cx} {pos:Pos}
noncomputable def kkW(c:TT)(tb:TS):TS:=fun D σ H=>∃W:Nat→St→Hp→Prop,(∃m,W m σ H)∧∀m σ H,W m σ H→
 c σ H fun b H1=>if b=true then ∃N:St→Hp→Prop,(∀σ' H',N σ' H'→∃m',m'<m∧W m' σ' H')∧tb {D with nx:=N,ct:=N,bk:=D.nx} σ H1 else D.nx σ H1
theorem khJ{c:Expr}{body:List Stmt}{tc:TT}{tb:TS}(hp:PassesOwn (model X.prog X.w) X.A X.env X.xe)(hc:PT X c tc)(hb:PSs X body tb):PS X (.While c body [] pos) (kkW tc tb):=by
 intro pins s σ H D I h
 obtain⟨W,⟨m0,w0⟩,turn⟩:=h
 refine wpAny_While (codeAny_whileLoop (fun n s'=>∃σ' H',Inv X pins σ' H' s'∧W n σ' H') ?_ m0 ⟨σ,H,I,w0⟩)
 rintro n s1 ⟨σ1,H1,I1,w1⟩
 refine wpAny_passesOwn hp (thn (hc pins s1 σ1 H1 _ I1 (turn n σ1 H1 w1)) fun b s2 ⟨H2,I2,q2⟩=>?_)
 cases b with
 | true=>
  obtain⟨N,hN,q2⟩:=q2
  rw[if_pos rfl]
  refine wpAny_passesOwn hp (thn (hb pins s2 σ1 H2 _ I2 q2) fun f s3 q3=>?_)
  cases f with
  |next=>
   obtain⟨σ3,H3,I3,n3⟩:=q3
   obtain⟨m',hm,w3⟩:=hN σ3 H3 n3
   exact⟨m',hm,σ3,H3,I3,w3⟩
  |cont=>
   obtain⟨σ3,H3,I3,n3⟩:=q3
   obtain⟨m',hm,w3⟩:=hN σ3 H3 n3
   exact⟨m',hm,σ3,H3,I3,w3⟩
  |brk=>exact q3
  |ret v=>exact q3
 |false=>
  rw[if_neg ND]
  exact wpAny_execs_nil ⟨σ1,H2,I2,q2⟩
end
structure It where
 go:Nat→Hp→Prop
 yld:Nat→Hp→V→Hp→Prop
 stop:Nat→Hp→Prop
noncomputable def FpOk(X:Cx)(pins:List (Addr×Obj))(H:Hp)(b:Addr):Prop:=
 H b=none∧b≠X.env.locals∧b∉X.fs∧(b∈X.ex∨X.s₀.heap.objs.size≤b)∧(∀x c,X.env.cells.lookup x=some c→c≠b)∧∀p∈X.pn++pins,p.1≠b
def Inv.fpOk{X:Cx}{pins:List (Addr×Obj)}{σ:St}{H H':Hp}{s:Shared}{b:Addr}(I:Inv X pins σ H s)(hb:s.heap.objs.size≤b)(hn:H' b=none):FpOk X pins H' b:=by
 refine⟨hn,Mp (NV I.lt hb),I.nofs hb, .inr (Nx I.sz hb),fun x c e z=>?_,fun p hp z=>?_⟩
 ·obtain⟨v,q⟩:=I.cell x c e
  exact absurd (NV q.lt (by rw[z];exact hb)) (ME _)
 ·exact absurd (NV (Heap.lt_size (I.pin p hp).1) (by rw[z];exact hb)) (ME _)
structure Turn (P:Program) (w:World) (K:Nt) (tg:Expr) (J:It) (fp:List Addr) (it:Addr) (tn:Nat→Heap→Prop):Prop where
 mem:it∈fp
 obj:∀i h,tn i h→∀b∈fp,∃o,h.get? b=some o∧∀v,o.data≠.cell v
 keep:∀i h h',tn i h→(∀b∈fp,∀o,h.get? b=some o→h'.get? b=some o)→tn i h'
 item:∀(X:Cx),X.prog=P→X.w=w→X.K=K→X.calm=true→∀(i:Nat)(pins:List (Addr×Obj))(s:Shared)(σ:St)(H:Hp)(E:Value→Shared→Prop),Inv X pins σ H s→(∀b∈fp,FpOk X pins H b)→tn i s.heap→J.go i H→
  wpAny (model P w) X.A (pyNext (.ref it)) (fun r s1=>∃u,r=some u∧
   wpAny (model P w) X.A (letOwnedTupleGo tg (.ref it) u) (fun _ s2=>∃x H',Inv X pins σ H' s2∧RelV x u∧J.yld i H x H'∧tn (i+1) s2.heap∧∀b∈fp,H' b=none) E s1) E s
 done:∀(X:Cx),X.prog=P→X.w=w→X.K=K→X.calm=true→∀(i:Nat)(pins:List (Addr×Obj))(s:Shared)(σ:St)(H:Hp)(E:Value→Shared→Prop),Inv X pins σ H s→(∀b∈fp,FpOk X pins H b)→tn i s.heap→J.stop i H→
  wpAny (model P w) X.A (pyNext (.ref it)) (fun r s1=>r=none∧Inv X pins σ H s1) E s
 self:∀(A:Around)(i:Nat)(s:Shared)(Q:Value→Shared→Prop)(E:Value→Shared→Prop),tn i s.heap→Q (.ref it) s→wpAny (model P w) A (pyIter (.ref it)) Q E s
noncomputable abbrev TI:=St→Hp→(It→Hp→Prop)→Prop
noncomputable def PIE(X:Cx)(pins:List (Addr×Obj))(σ:St)(tg:Expr)(R:It→Hp→Prop)(itv:Value)(s2:Shared):Prop:=
 ∃(it:Addr)(fp:List Addr)(tn:Nat→Heap→Prop)(J:It)(H':Hp),itv=.ref it∧Inv X pins σ H' s2∧Turn X.prog X.w X.K tg J fp it tn∧tn 0 s2.heap∧(∀b∈fp,FpOk X pins H' b)∧R J H'
noncomputable def PI(X:Cx)(tg iter:Expr)(wi:TI):Prop:=
 ∀(pins:List (Addr×Obj))(s:Shared)(σ:St)(H:Hp)(R:It→Hp→Prop),Inv X pins σ H s→wi σ H R→
  wpAny (model X.prog X.w) X.A (eval iter X.env) (fun v s1=>wpAny (model X.prog X.w) X.A (pyIter v) (PIE X pins σ tg R) X.xe s1) X.xe s
theorem go_of{M:Model}{A:Around}{E:Value→Shared→Prop}{s:Shared}{tg:Expr}{it:Addr}{u:Value}{o:Obj}{n:String}{vs:Array Value}{Q:Unit→Shared→Prop}(ho:s.heap.get? it=some o)(hc:o.cls=.type n)(hd:o.data=.fields vs)
    (hn:["enumerate","zip","dict_itemiterator","dict_reverseitemiterator","odict_iterator","itertools.zip_longest","itertools.pairwise"].contains n=false) (hQ:Q () s):wpAny M A (letOwnedTupleGo tg (.ref it) u) Q E s:=by
  unfold letOwnedTupleGo
  cases tg <;> first
    |exact wpAny_pure hQ
    |(cases u <;> first
        |exact wpAny_pure hQ
        | (refine wpAny_bind (wpAny_load ho ?_)
           rw[hc,hd]
           show wpAny M A (if(["enumerate","zip","dict_itemiterator","dict_reverseitemiterator","odict_iterator","itertools.zip_longest","itertools.pairwise"].contains n&&vs[0]? ==some (rawInt _))=true then _ else _) Q E s
           rw[if_neg (by intro h;rw[hn,M9] at h;cases h)]
           exact wpAny_pure hQ))
noncomputable def Itl(K:Nt)(a:Addr):It:=
 ⟨fun i H=>∃xs x,SqL K H a xs∧xs[i]?=some x,fun i H x H'=>H'=H∧∀xs,SqL K H a xs→xs[i]?=some x,fun i H=>∃xs,SqL K H a xs∧xs.length≤i⟩
noncomputable def Itr(lo:Int)(n:Nat):It:=⟨fun i _=>i<n,fun i H x H'=>H'=H∧x=.int (lo+i),fun i _=>n≤i⟩
theorem kiz{P:Program}{w:World}{K:Nt}{tg:Expr}(a it:Addr):Turn P w K tg (Itl K a) [it] it (fun i h=>h.IsListIter it a i) where
 mem:=by simp
 obj:=fun i h st b hb=>by
  have e:b=it:=by simpa using hb
  subst e
  obtain⟨o,e,c,d⟩:=st
  exact⟨o,e,fun v z=>by rw[d] at z;cases z⟩
 keep:=fun i h h' st k=>st.at fun o e=>k it (by simp) o e
 item:=by
  intro X hP hw hK hc i pins s σ H E I hf st hg
  subst hP hw hK
  obtain⟨xs,x,hq,hx⟩:=hg
  obtain⟨its,rv,p,hz⟩:=I.list hq
  obtain⟨u,hu,ru⟩:=rv.get hx
  obtain⟨f0,f1,f2,f3,f4,f5⟩:=hf it (by simp)
  refine wpAny_pyNext_list_item st p.isList (x:=u) (by simpa using hu) fun h' st' sb=>?_
  have I1:Inv X pins σ H {s with heap:=h'}:=I.turned (t':=s.toks) (fun b o hb e=>(sb.2 b hb).trans e) f0 f1 f3 f4 f5
  obtain⟨o,e,c,d⟩:=id st'
  exact⟨u,rfl,go_of (s:={s with heap:=h'}) e c d (by decide) ⟨x,H,I1,ru,⟨rfl,fun ys hy=>by rw[I.list_inj hy hq];exact hx⟩,st',fun b hb=>(hf b hb).1⟩⟩
 done:=by
  intro X hP hw hK hc i pins s σ H E I hf st hg
  subst hP hw hK
  obtain⟨xs,hq,hx⟩:=hg
  obtain⟨its,rv,p,hz⟩:=I.list hq
  obtain⟨f0,f1,f2,f3,f4,f5⟩:=hf it (by simp)
  have hl:=rv.length
  exact wpAny_pyNext_list_end (I.ok.hd hc) st p.isList (by simp;omega) fun h' eb=>⟨rfl,I.turned (t':=s.toks) (fun b o hb e=>eb b o hb e) f0 f1 f3 f4 f5⟩
 self:=fun _ _ _ _ _ st h=>wpAny_pyIter_listiter st h
theorem kie{P:Program}{w:World}{K:Nt}{tg:Expr}(it:Addr)(lo:Int)(n:Nat):Turn P w K tg (Itr lo n) [it] it (fun i h=>IsRangeIter h it (lo+(i:Nat)*1) ((n:Int)-(i:Nat)) 1) where
 mem:=by simp
 obj:=fun i h st b hb=>by
  have e:b=it:=by simpa using hb
  subst e
  exact⟨_,st,fun v z=>by
   have z':Data.fields _=Data.cell v:=z
   cases z'⟩
 keep:=fun i h h' st k=>k it (by simp) _ st
 item:=by
  intro X hP hw hK hc i pins s σ H E I hf st hg
  subst hP hw hK
  obtain⟨f0,f1,f2,f3,f4,f5⟩:=hf it (by simp)
  have W:=Walks.range (prog:=X.prog) (w:=X.w) (I.ok.hd hc) it lo 1 n
  refine W.item i s _ _ hg st fun v h' tk hv st' kk=>?_
  obtain⟨t,rfl⟩:=hv
  have I1:Inv X pins σ H {s with heap:=h',toks:=tk}:=I.turned (fun b o hb e=>kk b o (by simpa using hb) e) f0 f1 f3 f4 f5
  refine⟨_,rfl,go_of (s:={s with heap:=h',toks:=tk}) (n:="range_iterator") st' rfl rfl (by decide) ⟨.int (lo+i),H,I1,⟨t,?_⟩,⟨rfl,rfl⟩,st',fun b hb=>(hf b hb).1⟩⟩
  rw[Int.mul_one]
 done:=by
  intro X hP hw hK hc i pins s σ H E I hf st hg
  subst hP hw hK
  obtain⟨f0,f1,f2,f3,f4,f5⟩:=hf it (by simp)
  exact wpAny_pyNext_range_end (I.ok.hd hc) st (by have:n≤i:=hg;omega) fun h' eb=>⟨rfl,I.turned (t':=s.toks) (fun b o hb e=>eb b o hb e) f0 f1 f3 f4 f5⟩
 self:=fun _ _ _ _ _ st h=>wpAny_pyIter_rangeiter st h
end L2
namespace L2
open PySem PySem.Spec PyProof.Rows
section
variable {X:Cx} {tg:Expr}
noncomputable def iList(K:Nt)(tl:TE):TI:=fun σ H R=>tl σ H fun x H1=>∃a,x=.ref a∧(∃xs,SqL K H1 a xs)∧R (Itl K a) H1
theorem klS{l:Expr}{tl:TE}(hl:PE X l tl):PI X tg l (iList X.K tl):=by
 intro pins s σ H R I h
 refine thn (hl pins s σ H _ I h) fun v s1 ⟨x,H1,I1,r1,q1⟩=>?_
 obtain⟨a,e,⟨xs,hq⟩,q⟩:=q1
 subst e
 cases r1
 obtain⟨its,rv,p,hz⟩:=I1.list hq
 refine wpAny_pyIter_list p.isList ?_
 refine⟨s1.heap.objs.size,[s1.heap.objs.size],_,_,H1,rfl,I1.kept (t':=s1.toks) fun b o e=>Heap.get?_push_of_some _ e,kiz a _,⟨_,Heap.get?_push_size _ rfl,rfl,rfl⟩,fun b hb=>?_,q⟩
 have e:b=s1.heap.objs.size:=by simpa using hb
 subst e
 exact I1.fpOk (Nv _) (I1.hok.fresh (Nv _))
theorem khI{pins:List (Addr×Obj)}{σ:St}{H:Hp}{s:Shared}{R:It→Hp→Prop}{E:Value→Shared→Prop}{lo hi:Int}{t u v:Tok}{tk:Nat}(I:Inv X pins σ H s)(h1: -(2 ^ 62)≤lo)(h2:lo<2 ^ 62)(h3: -(2 ^ 62)≤hi)(h4:hi<2 ^ 62)
  (q:R (Itr lo (hi-lo).toNat) H):wpAny (model X.prog X.w) X.A (pyIter (.ref s.heap.objs.size)) (PIE X pins σ tg R) E {s with heap:=s.heap.push {cls:=.type "range",data:=.fields #[.int lo t, .int hi u, .int 1 v]},toks:=tk}:=by
 refine wpAny_pyIter_range (IsRange.new ..) (small_one h1 h2 h3 h4) ?_
 have I1:Inv X pins σ H {s with heap:=s.heap.push {cls:=.type "range",data:=.fields #[.int lo t, .int hi u, .int 1 v]},toks:=tk}:=I.kept fun b o e=>Heap.get?_push_of_some _ e
 refine⟨(s.heap.push {cls:=.type "range",data:=.fields #[.int lo t, .int hi u, .int 1 v]}).objs.size,[(s.heap.push {cls:=.type "range",data:=.fields #[.int lo t, .int hi u, .int 1 v]}).objs.size],_,_,H,rfl,
  I1.kept (t':=tk) fun b o e=>Heap.get?_push_of_some _ e,kie _ lo (hi-lo).toNat,?_,fun b hb=>?_,q⟩
 ·have e1:lo+((0:Nat):Int)*1=lo:=by simp
  have e2:(((hi-lo).toNat:Nat):Int)-((0:Nat):Int)=Builtin.Range.rangeSize lo hi 1:=by rw[rangeSize_one];split <;> omega
  show IsRangeIter _ _ (lo+((0:Nat):Int)*1) ((((hi-lo).toNat:Nat):Int)-((0:Nat):Int)) 1
  rw[e1,e2]
  exact Heap.get?_push_size _ rfl
 ·have e:b=(s.heap.push {cls:=.type "range",data:=.fields #[.int lo t, .int hi u, .int 1 v]}).objs.size:=by simpa using hb
  subst e
  exact I1.fpOk (Nv _) (I1.hok.fresh (Nv _))
noncomputable def iRng1(ta:TA):TI:=fun σ H R=>ta σ H fun vs H1=>∃j:Int,vs=[.int j]∧-(2 ^ 62)≤j∧j<2 ^ 62∧R (Itr 0 j.toNat) H1
noncomputable def iRng2(ta:TA):TI:=fun σ H R=>ta σ H fun vs H1=>∃i j:Int,vs=[.int i, .int j]∧(-(2 ^ 62)≤i∧i<2 ^ 62∧-(2 ^ 62)≤j∧j<2 ^ 62)∧R (Itr i (j-i).toNat) H1
theorem kbq{a:Expr}{ta:TA}{p pos:Pos}(hg:Gl X "range")(hm:X.mg "range"=none)(ha:PA X [a] ta)(hs:starEach [a] X.env=[(false,eval a X.env)]:=by rfl):PI X tg (.Call (.Name "range" p) [a] [] pos) (iRng1 ta):=by
 intro pins s σ H R I h
 refine Call_ (kdc I hg hm boot_range (PyProof.Rows.callWith_type1 (thn (ha pos pins s σ H _ I h) fun us s1 ⟨vs,H1,I1,r1,q1⟩=>?_) hs rfl))
 obtain⟨j,e,q1,q2,q⟩:=q1
 subst e
 cases r1 with
 |cons r rr=>
  cases rr
  obtain⟨t,rfl⟩:=r
  exact call_range_1 (khI I1 (by omega) (by omega) q1 q2 (by simpa using q))
theorem kje{a b:Expr}{ta:TA}{p pos:Pos}(hg:Gl X "range")(hm:X.mg "range"=none)(ha:PA X [a,b] ta)(hs:starEach [a,b] X.env=[(false,eval a X.env),(false,eval b X.env)]:=by rfl)(hs2:starEach [b] X.env=[(false,eval b X.env)]:=by rfl):
  PI X tg (.Call (.Name "range" p) [a,b] [] pos) (iRng2 ta):=by
 intro pins s σ H R I h
 refine Call_ (kdc I hg hm boot_range (PyProof.Rows.callWith_type1 (thn (ha pos pins s σ H _ I h) fun us s1 ⟨vs,H1,I1,r1,q1⟩=>?_) (by rw[hs,hs2]) (by rw[hs2];rfl)))
 obtain⟨i,j,e,⟨q1,q2,q3,q4⟩,q⟩:=q1
 subst e
 cases r1 with
 | cons r rr=>
  cases rr with
  |cons r' rr=>
   cases rr
   obtain⟨t,rfl⟩:=r
   obtain⟨t',rfl⟩:=r'
   exact call_range_2 (khI I1 q1 q2 q3 q4 q)
noncomputable def tFor(wi:TI)(g:TG)(tb:TS):TS:=fun D σ H=>wi σ H fun J H1=>∃W:Nat→Nat→St→Hp→Prop,(∃m,W 0 m σ H1)∧∀i m σ H,W i m σ H→
 (J.stop i H∧D.nx σ H)∨(J.go i H∧∃N:St→Hp→Prop,(∀σ' H',N σ' H'→∃m',m'<m∧W (i+1) m' σ' H')∧∀x H',J.yld i H x H'→g x σ H' fun σ2 H2=>tb {D with nx:=N,ct:=N,bk:=D.nx} σ2 H2)
noncomputable def khM(fp:List Addr)(h:Heap):List (Addr×Obj):=fp.filterMap fun b=>(h.get? b).map fun o=>(b,o)
theorem kc3{fp:List Addr}{h:Heap}{b:Addr}{o:Obj}(hb:b∈fp)(e:h.get? b=some o):(b,o)∈khM fp h:=List.mem_filterMap.mpr ⟨b,hb,by rw[e];rfl⟩
theorem kjn{fp:List Addr}{h:Heap}{p:Addr×Obj}(hp:p∈khM fp h):p.1∈fp∧h.get? p.1=some p.2:=by
 obtain⟨b,hb,e⟩:=List.mem_filterMap.mp hp
 cases q:h.get? b with
 |none=>rw[q] at e;cases e
 |some o=>
  rw[q] at e
  have e':(b,o)=p:=Option.some.inj e
  subst e'
  exact⟨hb,q⟩
theorem Inv.pinned{pins:List (Addr×Obj)}{σ:St}{H:Hp}{s:Shared}{fp:List Addr}(I:Inv X pins σ H s)(hf:∀b∈fp,FpOk X pins H b)(ho:∀b∈fp,∃o,s.heap.get? b=some o∧∀v,o.data≠.cell v):Inv X (pins++khM fp s.heap) σ H s:=
 I.pins_of fun p hp=>(N1.mp hp).elim (fun z=>I.pin p (N6 _ z)) fun z=>by
  obtain⟨hb,e⟩:=kjn z
  obtain⟨f0,f1,f2,_⟩:=hf p.1 hb
  obtain⟨o,e',d⟩:=ho p.1 hb
  rw[e] at e';cases e'
  exact⟨e,f0,f1,f2,d⟩
theorem Inv.unpinned{pins pl:List (Addr×Obj)}{σ:St}{H:Hp}{s:Shared}(I:Inv X (pins++pl) σ H s):Inv X pins σ H s:=I.pins_of fun p hp=>I.pin p (N6 _ (En _ hp))
theorem kbp{iter:Expr}{body:List Stmt}{wi:TI}{g:TG}{tb:TS}{pos:Pos}(hp:PassesOwn (model X.prog X.w) X.A X.env X.xe)(hc:X.calm=true)(hi:PI X tg iter wi)(hg:PG X tg g)(hb:PSs X body tb)
  (hs:∀x,foldedSetIterable iter X.env x=pure x:=by intro _;rfl):PS X (.For tg iter body [] pos) (tFor wi g tb):=by
 intro pins s σ H D I h
 refine wpAny_For (thn (hi pins s σ H _ I h) fun v s1 h1=>thn h1 fun itv s2 h2=>?_) hs
 obtain⟨it,fp,tn,J,H2,e,I2,T,st2,f2,W,⟨m0,w0⟩,turn⟩:=h2
 subst e
 have stat:∀{H':Hp},(∀b∈fp,H' b=none)→∀b∈fp,FpOk X pins H' b:=fun hn b hb=>⟨hn b hb,(f2 b hb).2⟩
 refine codeAny_forLoop_any (fun n s'=>∃i σ' H',Inv X pins σ' H' s'∧tn i s'.heap∧(∀b∈fp,H' b=none)∧W i n σ' H') ?_ m0 ⟨0,σ,H2,I2,st2,fun b hb=>(f2 b hb).1,w0⟩
 rintro n s3 ⟨i,σ3,H3,I3,st3,fr3,w3⟩
 rcases turn i n σ3 H3 w3 with⟨stop,qn⟩|⟨go,N,hN,step⟩
 ·refine wpAny_passesOwn hp (thn (T.done X rfl rfl rfl hc i pins s3 σ3 H3 X.xe I3 (stat fr3) st3 stop) fun r s4 ⟨hr,I4⟩=>?_)
  subst hr
  exact wpAny_execs_nil ⟨σ3,H3,I4,qn⟩
 ·refine wpAny_passesOwn hp (thn (T.item X rfl rfl rfl hc i pins s3 σ3 H3 X.xe I3 (stat fr3) st3 go) fun r s4 ⟨u,hr,h4⟩=>?_)
  subst hr
  refine wpAny_passesOwn hp (thn h4 fun _ s5 ⟨x,H5,I5,r5,y5,st5,fr5⟩=>?_)
  have I5':=I5.pinned (stat fr5) (T.obj _ _ st5)
  refine wpAny_passesOwn hp (thn (hg _ s5 σ3 H5 x u _ I5' r5 (step x H5 y5)) fun _ s6 ⟨σ6,H6,I6,q6⟩=>?_)
  refine wpAny_passesOwn hp (thn (hb _ s6 σ6 H6 _ I6 q6) fun f s7 q7=>?_)
  have again:∀{σ7:St}{H7:Hp},Inv X (pins++khM fp s5.heap) σ7 H7 s7→N σ7 H7→∃m,m<n∧∃i σ' H',Inv X pins σ' H' s7∧tn i s7.heap∧(∀b∈fp,H' b=none)∧W i m σ' H':=fun {σ7 H7} I7 n7=>by
   obtain⟨m',hm,w7⟩:=hN σ7 H7 n7
   refine⟨m',hm,i+1,σ7,H7,I7.unpinned,T.keep _ _ _ st5 fun b hb o e=>(I7.pin (b,o) (N6 _ (N6 _ (kc3 hb e)))).1,fun b hb=>?_,w7⟩
   obtain⟨o,e,d⟩:=T.obj _ _ st5 b hb
   exact(I7.pin (b,o) (N6 _ (N6 _ (kc3 hb e)))).2.1
  cases f with
  |next=>obtain⟨σ7,H7,I7,n7⟩:=q7;exact again I7 n7
  |cont=>obtain⟨σ7,H7,I7,n7⟩:=q7;exact again I7 n7
  |brk=>obtain⟨σ7,H7,I7,q7⟩:=q7;exact⟨σ7,H7,I7.unpinned,q7⟩
  |ret v=>obtain⟨x7,σ7,H7,I7,r7,q7⟩:=q7;exact⟨x7,σ7,H7,I7.unpinned,r7,q7⟩
end
theorem kbN{K:Nt}{a:Addr}{xs:List V}{g:TG}{tb:TS}{D:Ends}{σ:St}{H:Hp}(Pv:Nat→St→Hp→Prop)(h0:Pv 0 σ H)(hl:∀i σ H,i≤xs.length→Pv i σ H→SqL K H a xs)
  (hs:∀i x σ H,xs[i]?=some x→Pv i σ H→g x σ H fun σ2 H2=>tb {D with nx:=Pv (i+1),ct:=Pv (i+1),bk:=D.nx} σ2 H2) (hd:∀σ H,Pv xs.length σ H→D.nx σ H):
  ∃W:Nat→Nat→St→Hp→Prop,(∃m,W 0 m σ H)∧∀i m σ H,W i m σ H→
   ((Itl K a).stop i H∧D.nx σ H)∨((Itl K a).go i H∧∃N:St→Hp→Prop,(∀σ' H',N σ' H'→∃m',m'<m∧W (i+1) m' σ' H')∧∀x H',(Itl K a).yld i H x H'→g x σ H' fun σ2 H2=>tb {D with nx:=N,ct:=N,bk:=D.nx} σ2 H2):=by
 refine⟨fun i m σ H=>m=xs.length-i∧i≤xs.length∧Pv i σ H,⟨xs.length,by simp,Mb _,h0⟩,?_⟩
 rintro i m σ H ⟨rfl,hi,p⟩
 have q:=hl i σ H hi p
 by_cases hlt:i<xs.length
 ·refine .inr ⟨⟨xs,xs[i],q,by simp[hlt]⟩,Pv (i+1),fun σ' H' p'=>⟨xs.length-(i+1),by omega,rfl,hlt,p'⟩,fun x H' y=>?_⟩
  obtain⟨e,y⟩:=y
  subst e
  exact hs i x σ _ (y xs q) p
 ·have e:i=xs.length:=by omega
  subst e
  exact .inl ⟨⟨xs,q,Nv _⟩,hd σ H p⟩
theorem kbZ{lo:Int}{n:Nat}{g:TG}{tb:TS}{D:Ends}{σ:St}{H:Hp}(Pv:Nat→St→Hp→Prop)(h0:Pv 0 σ H)
  (hs:∀i σ H,i<n→Pv i σ H→g (.int (lo+i)) σ H fun σ2 H2=>tb {D with nx:=Pv (i+1),ct:=Pv (i+1),bk:=D.nx} σ2 H2) (hd:∀σ H,Pv n σ H→D.nx σ H):
  ∃W:Nat→Nat→St→Hp→Prop,(∃m,W 0 m σ H)∧∀i m σ H,W i m σ H→
   ((Itr lo n).stop i H∧D.nx σ H)∨((Itr lo n).go i H∧∃N:St→Hp→Prop,(∀σ' H',N σ' H'→∃m',m'<m∧W (i+1) m' σ' H')∧∀x H',(Itr lo n).yld i H x H'→g x σ H' fun σ2 H2=>tb {D with nx:=N,ct:=N,bk:=D.nx} σ2 H2):=by
 refine⟨fun i m σ H=>m=n-i∧i≤n∧Pv i σ H,⟨n,by simp,Mb _,h0⟩,?_⟩
 rintro i m σ H ⟨rfl,hi,p⟩
 by_cases hlt:i<n
 ·refine .inr ⟨hlt,Pv (i+1),fun σ' H' p'=>⟨n-(i+1),by omega,rfl,hlt,p'⟩,fun x H' y=>?_⟩
  obtain⟨e,y⟩:=y
  subst e y
  exact hs i σ _ hlt p
 ·have e:i=n:=by omega
  subst e
  exact .inl ⟨Nv _,hd σ H p⟩
theorem khn{c:TT}{tb:TS}{D:Ends}{σ:St}{H:Hp}(Pv:St→Hp→Prop)(μ:St→Hp→Nat)(h0:Pv σ H)
  (hs:∀σ H,Pv σ H→c σ H fun b H1=>if b=true then tb {D with nx:=fun σ' H'=>Pv σ' H'∧μ σ' H'< μ σ H,ct:=fun σ' H'=>Pv σ' H'∧μ σ' H'< μ σ H,bk:=D.nx} σ H1 else D.nx σ H1)
  (mono:∀σ H Q Q',(∀b H1,Q b H1→Q' b H1)→c σ H Q→c σ H Q'):kkW c tb D σ H:=by
 refine⟨fun m σ H=>m= μ σ H∧Pv σ H,⟨_,rfl,h0⟩,?_⟩
 rintro m σ H ⟨rfl,p⟩
 refine mono σ H _ _ (fun b H1 q=>?_) (hs σ H p)
 cases b with
 |true=>exact⟨_,fun σ' H' ⟨p',l⟩=>⟨_,l,rfl,p'⟩,q⟩
 |false=>exact q
end L2
namespace L2
open PySem PySem.Spec PyProof.Rows
noncomputable abbrev R2:=V→V→Hp→VK→Prop
noncomputable def OpR(X:Cx)(f:Value→Value→Sem Value)(r:R2):Prop:=
 ∀(pins:List (Addr×Obj))(s:Shared)(σ:St)(H:Hp)(x y:V)(v u:Value)(Q:VK),Inv X pins σ H s→RelV x v→RelV y u→r x y H Q→
  wpAny (model X.prog X.w) X.A (f v u) (EP X pins σ Q) X.xe s
noncomputable def UnR(X:Cx)(f:Value→Sem Value)(r:V→Hp→VK→Prop):Prop:=
 ∀(pins:List (Addr×Obj))(s:Shared)(σ:St)(H:Hp)(x:V)(v:Value)(Q:VK),Inv X pins σ H s→RelV x v→r x H Q→
  wpAny (model X.prog X.w) X.A (f v) (EP X pins σ Q) X.xe s
noncomputable def CallR(X:Cx)(f:Value)(r:List V→Hp→VK→Prop):Prop:=
 ∀(pins:List (Addr×Obj))(s:Shared)(σ:St)(H:Hp)(xs:List V)(us:List Value)(Q:VK),Inv X pins σ H s→Vals xs us→r xs H Q→
  wpAny (model X.prog X.w) X.A (call f us) (EP X pins σ Q) X.xe s
noncomputable def tOp(r:R2)(ta tb:TE):TE:=fun σ H Q=>ta σ H fun x H1=>tb σ H1 fun y H2=>r x y H2 Q
noncomputable def tUn(r:V→Hp→VK→Prop)(ta:TE):TE:=fun σ H Q=>ta σ H fun x H1=>r x H1 Q
noncomputable def rI(C:Int→Int→Prop)(g:Int→Int→V):R2:=fun x y H Q=>∃i j,x=.int i∧y=.int j∧C i j∧Q (g i j) H
noncomputable def rI0(g:Int→Int→V):R2:=fun x y H Q=>∃i j,x=.int i∧y=.int j∧Q (g i j) H
noncomputable def rU(g:Int→V):V→Hp→VK→Prop:=fun x H Q=>∃i,x=.int i∧Q (g i) H
section
variable {X:Cx} {a b c:Expr} {ta tb tc:TE} {pos:Pos}
theorem binT(ha:PE X a ta)(hb:PE X b tb){pins:List (Addr×Obj)}{s:Shared}{σ:St}{H:Hp}{R:V→V→Hp→Prop}(I:Inv X pins σ H s)
  (h:ta σ H fun x H1=>tb σ H1 fun y H2=>R x y H2) {Q:Value→Shared→Prop} {f:Value→Value→Sem Value}
  (hf:∀v u s2 x y H2,Inv X pins σ H2 s2→RelV x v→RelV y u→R x y H2→wpAny (model X.prog X.w) X.A (f v u) Q X.xe s2):
  wpAny (model X.prog X.w) X.A (eval a X.env) (fun v s₁=>wpAny (model X.prog X.w) X.A (eval b X.env) (fun u s₂=>wpAny (model X.prog X.w) X.A (f v u) Q X.xe s₂) X.xe s₁) X.xe s:=by
 refine thn (ha pins s σ H _ I h) fun v s1 ⟨x,H1,I1,r1,q1⟩=>?_
 refine thn (hb pins s1 σ H1 _ I1 q1) fun u s2 ⟨y,H2,I2,r2,q2⟩=>?_
 exact hf v u s2 x y H2 I2 r1 r2 q2
theorem pe_op{op:Operator}{r:R2}(ho:OpR X (binaryOp op) r)(ha:PE X a ta)(hb:PE X b tb):PE X (.BinOp a op b pos) (tOp r ta tb):=by
 intro pins s σ H Q I h
 exact wpAny_BinOp (binT ha hb I h fun v u s2 x y H2 I2 rx ry q=>ho pins s2 σ H2 x y v u Q I2 rx ry q)
theorem pe_un{op:UnaryOp}{r:V→Hp→VK→Prop}(ho:UnR X (unaryOp op) r)(ha:PE X a ta):PE X (.UnaryOp op a pos) (tUn r ta):=by
 intro pins s σ H Q I h
 exact UnaryOp_ (thn (ha pins s σ H _ I h) fun v s1 ⟨x,H1,I1,r1,q1⟩=>ho pins s1 σ H1 x v Q I1 r1 q1)
theorem opI{f:Value→Value→Sem Value}{C:Int→Int→Prop}{g:Int→Int→Int}
  (rule:∀(i j:Int)(t u:Tok)(s:Shared)(Q:Value→Shared→Prop)(E:Value→Shared→Prop),C i j→Q (.int (g i j) s.toks) {s with toks:=s.toks+1}→wpAny (model X.prog X.w) X.A (f (.int i t) (.int j u)) Q E s):
  OpR X f (rI C fun i j=>.int (g i j)):=by
 intro pins s σ H x y v u Q I rx ry h
 obtain⟨i,j,rfl,rfl,hc,q⟩:=h
 obtain⟨t,rfl⟩:=rx
 obtain⟨t',rfl⟩:=ry
 exact rule i j t t' s _ _ hc ⟨.int (g i j),H,I.tok _,⟨_,rfl⟩,q⟩
theorem opI0{f:Value→Value→Sem Value}{g:Int→Int→Int}
  (rule:∀(i j:Int)(t u:Tok)(s:Shared)(Q:Value→Shared→Prop)(E:Value→Shared→Prop),Q (.int (g i j) s.toks) {s with toks:=s.toks+1}→wpAny (model X.prog X.w) X.A (f (.int i t) (.int j u)) Q E s):
  OpR X f (rI0 fun i j=>.int (g i j)):=by
 intro pins s σ H x y v u Q I rx ry h
 obtain⟨i,j,rfl,rfl,q⟩:=h
 obtain⟨t,rfl⟩:=rx
 obtain⟨t',rfl⟩:=ry
 exact rule i j t t' s _ _ ⟨.int (g i j),H,I.tok _,⟨_,rfl⟩,q⟩
theorem opB0{f:Value→Value→Sem Value}{g:Int→Int→Bool}
  (rule:∀(i j:Int)(t u:Tok)(s:Shared)(Q:Value→Shared→Prop)(E:Value→Shared→Prop),Q (.bool (g i j)) s→wpAny (model X.prog X.w) X.A (f (.int i t) (.int j u)) Q E s):
  OpR X f (rI0 fun i j=>.bl (g i j)):=by
 intro pins s σ H x y v u Q I rx ry h
 obtain⟨i,j,rfl,rfl,q⟩:=h
 obtain⟨t,rfl⟩:=rx
 obtain⟨t',rfl⟩:=ry
 exact rule i j t t' s _ _ ⟨.bl (g i j),H,I,rfl,q⟩
noncomputable def CDiv(i j:Int):Prop:=0<j∧j<1073741824
noncomputable def CPow(i j:Int):Prop:=0≤j∧j≤1000000∧i.natAbs<2 ^ 64
noncomputable def CMul(i j:Int):Prop:=(-(2 ^ 64)<i∧i<2 ^ 64)∨(-(2 ^ 64)<j∧j<2 ^ 64)
theorem CMul.ok{i j:Int}(h:CMul i j):IntMulOk i j:=by
 rcases h with⟨h1,h2⟩|⟨h1,h2⟩
 ·exact .of_left (intBits_le_64 h1 h2)
 ·exact .of_right (intBits_le_64 h1 h2)
theorem kaz:OpR X (binaryOp .Add) (rI0 fun i j=>.int (i+j)):=opI0 fun _ _ _ _ _ _ _ q=>add_int q
theorem kcB:OpR X (binaryOp .Sub) (rI0 fun i j=>.int (i-j)):=opI0 fun _ _ _ _ _ _ _ q=>sub_int q
theorem kb7:OpR X (binaryOp .Mult) (rI CMul fun i j=>.int (i*j)):=opI fun _ _ _ _ _ _ _ hc q=>mul_int q hc.ok
theorem kdP:OpR X (binaryOp .FloorDiv) (rI CDiv fun i j=>.int (i/j)):=opI fun i j _ _ _ _ _ hc q=>by
 have h1:(0:Int)<j:=hc.1
 have h2:j<1073741824:=hc.2
 exact floordiv_int (by omega) (by rw[Int.fdiv_eq_ediv_of_nonneg i (by omega)];exact q) (.inl (PyProof.noPylong_small (by omega)))
theorem keG:OpR X (binaryOp .Mod) (rI (fun _ j=>0<j) fun i j=>.int (i%j)):=opI fun i j _ _ _ _ _ hc q=>by
 have h1:(0:Int)<j:=hc
 exact mod_int' (by omega) (by rw[Int.fmod_eq_emod_of_nonneg i (by omega)];exact q)
theorem kmA:OpR X (binaryOp .LShift) (rI CPow fun i j=>.int (i*2 ^ j.toNat)):=opI fun _ _ _ _ _ _ _ hc q=>lshift_int_small hc.1 hc.2.1 hc.2.2 q
theorem unI{f:Value→Sem Value}{g:Int→Int}
  (rule:∀(i:Int)(t:Tok)(s:Shared)(Q:Value→Shared→Prop)(E:Value→Shared→Prop),Q (.int (g i) s.toks) {s with toks:=s.toks+1}→wpAny (model X.prog X.w) X.A (f (.int i t)) Q E s):
  UnR X f (rU fun i=>.int (g i)):=by
 intro pins s σ H x v Q I rx h
 obtain⟨i,rfl,q⟩:=h
 obtain⟨t,rfl⟩:=rx
 exact rule i t s _ _ ⟨.int (g i),H,I.tok _,⟨_,rfl⟩,q⟩
theorem kep:UnR X (unaryOp .USub) (rU fun i=>.int (-i)):=unI fun _ _ _ _ _ q=>neg_int q
end
noncomputable def scal:V→V→Bool
 | .non, .non=>true| .non, .int _=>true| .int _, .non=>true| .non, .bl _=>true| .bl _, .non=>true| .non, .str _=>true| .str _, .non=>true
 | .int _, .int _=>true| .bl _, .bl _=>true| .str _, .str _=>true| .byt _, .byt _=>true
 | .int _, .str _=>true| .str _, .int _=>true| .bl _, .str _=>true| .str _, .bl _=>true
 |_,_=>false
noncomputable def rEq:R2:=fun x y H Q=>scal x y=true∧Q (.bl (decide (x=y))) H
noncomputable def rNe:R2:=fun x y H Q=>scal x y=true∧Q (.bl (!decide (x=y))) H
def kjY{i j:Int}:decide (V.int i=V.int j)=(i==j):=by
 rw[Eo]
 simp
def klp{i j:Bool}:decide (V.bl i=V.bl j)=(i==j):=by
 rw[Eo]
 simp
def kjX{i j:Str}:decide (V.str i=V.str j)=(i==j):=by
 rw[Eo]
 simp
def kjZ{i j:Array UInt8}:decide (V.byt i=V.byt j)=(i.toList==j.toList):=by
 rw[Eo]
 cases i
 cases j
 simp
section
variable {X:Cx} {a b c:Expr} {ta tb tc:TE} {pos:Pos}
theorem kaQ{pins:List (Addr×Obj)}{σ:St}{H:Hp}{s:Shared}{Q:VK}{k k':Bool}(I:Inv X pins σ H s)(q:Q (.bl k) H)(e:k=k'):EP X pins σ Q (.bool k') s:=by
 subst e
 exact⟨.bl k,H,I,rfl,q⟩
theorem op_eq:OpR X (compareOp .Eq) rEq:=by
 intro pins s σ H x y v u Q I rx ry h
 obtain⟨hs,q⟩:=h
 cases x with
 |non=>
  cases rx
  cases y with
  |non=>cases ry;exact PySem.EqNone.eq_none_none (kaQ I q (by simp))
  |bl j=>cases ry;exact PySem.EqNone.eq_none_bool (kaQ I q (by simp))
  |int j=>obtain⟨t',rfl⟩:=ry;exact PySem.EqNone.eq_none_int (kaQ I q (by simp))
  |str j=>obtain⟨t',rfl⟩:=ry;exact PySem.EqNone.eq_none_str (kaQ I q (by simp))
  |_=>exact absurd (show false=true from hs) ND
 |bl i=>
  cases rx
  cases y with
  |non=>cases ry;exact PySem.EqNone.eq_bool_none (kaQ I q (by simp))
  |bl j=>cases ry;exact eq_bool (kaQ I q klp)
  |str j=>obtain⟨t',rfl⟩:=ry;exact PySem.EqMixed.eq_bool_str (kaQ I q (by simp))
  |_=>exact absurd (show false=true from hs) ND
 |int i=>
  obtain⟨t,rfl⟩:=rx
  cases y with
  |non=>cases ry;exact PySem.EqNone.eq_int_none (kaQ I q (by simp))
  |int j=>obtain⟨t',rfl⟩:=ry;exact eq_int (kaQ I q kjY)
  |str j=>obtain⟨t',rfl⟩:=ry;exact PySem.EqMixed.eq_int_str (kaQ I q (by simp))
  |_=>exact absurd (show false=true from hs) ND
 |str i=>
  obtain⟨t,rfl⟩:=rx
  cases y with
  |non=>cases ry;exact PySem.EqNone.eq_str_none (kaQ I q (by simp))
  |bl j=>cases ry;exact PySem.EqMixed.eq_str_bool (kaQ I q (by simp))
  |int j=>obtain⟨t',rfl⟩:=ry;exact PySem.EqMixed.eq_str_int (kaQ I q (by simp))
  |str j=>obtain⟨t',rfl⟩:=ry;exact eq_str (kaQ I q kjX)
  |_=>exact absurd (show false=true from hs) ND
 |byt i=>
  obtain⟨t,rfl⟩:=rx
  cases y with
  |byt j=>obtain⟨t',rfl⟩:=ry;exact PySem.W.eq_bytes (kaQ I q kjZ)
  |_=>exact absurd (show false=true from hs) ND
 |_=>cases y <;> exact absurd (show false=true from hs) ND
theorem op_ne:OpR X (compareOp .NotEq) rNe:=by
 intro pins s σ H x y v u Q I rx ry h
 obtain⟨hs,q⟩:=h
 cases x with
 |non=>
  cases rx
  cases y with
  |non=>cases ry;exact PySem.EqNone.ne_none_none (kaQ I q (by simp))
  |bl j=>cases ry;exact PySem.EqNone.ne_none_bool (kaQ I q (by simp))
  |int j=>obtain⟨t',rfl⟩:=ry;exact PySem.EqNone.ne_none_int (kaQ I q (by simp))
  |str j=>obtain⟨t',rfl⟩:=ry;exact PySem.EqNone.ne_none_str (kaQ I q (by simp))
  |_=>exact absurd (show false=true from hs) ND
 |bl i=>
  cases rx
  cases y with
  |non=>cases ry;exact PySem.EqNone.ne_bool_none (kaQ I q (by simp))
  |bl j=>cases ry;exact ne_bool (kaQ I q (congrArg not klp))
  |str j=>obtain⟨t',rfl⟩:=ry;exact PySem.EqMixed.ne_bool_str (kaQ I q (by simp))
  |_=>exact absurd (show false=true from hs) ND
 |int i=>
  obtain⟨t,rfl⟩:=rx
  cases y with
  |non=>cases ry;exact PySem.EqNone.ne_int_none (kaQ I q (by simp))
  |int j=>obtain⟨t',rfl⟩:=ry;exact ne_int (kaQ I q (congrArg not kjY))
  |str j=>obtain⟨t',rfl⟩:=ry;exact PySem.EqMixed.ne_int_str (kaQ I q (by simp))
  |_=>exact absurd (show false=true from hs) ND
 |str i=>
  obtain⟨t,rfl⟩:=rx
  cases y with
  |non=>cases ry;exact PySem.EqNone.ne_str_none (kaQ I q (by simp))
  |bl j=>cases ry;exact PySem.EqMixed.ne_str_bool (kaQ I q (by simp))
  |int j=>obtain⟨t',rfl⟩:=ry;exact PySem.EqMixed.ne_str_int (kaQ I q (by simp))
  |str j=>obtain⟨t',rfl⟩:=ry;exact ne_str (kaQ I q (congrArg not kjX))
  |_=>exact absurd (show false=true from hs) ND
 |byt i=>
  obtain⟨t,rfl⟩:=rx
  cases y with
  |byt j=>obtain⟨t',rfl⟩:=ry;exact PySem.W.ne_bytes (kaQ I q (congrArg not kjZ))
  |_=>exact absurd (show false=true from hs) ND
 |_=>cases y <;> exact absurd (show false=true from hs) ND
theorem op_lt:OpR X (compareOp .Lt) (rI0 fun i j=>.bl (decide (i<j))):=opB0 fun _ _ _ _ _ _ _ q=>lt_int q
theorem op_le:OpR X (compareOp .LtE) (rI0 fun i j=>.bl (decide (i≤j))):=opB0 fun _ _ _ _ _ _ _ q=>le_int q
theorem op_gt:OpR X (compareOp .Gt) (rI0 fun i j=>.bl (decide (j<i))):=opB0 fun _ _ _ _ _ _ _ q=>gt_int q
theorem kdY:OpR X (compareOp .Is) (fun x y H Q=>y=.non∧Q (.bl (decide (x=.non))) H):=by
 intro pins s σ H x y v u Q I rx ry h
 obtain⟨rfl,q⟩:=h
 cases ry
 refine is_none_gen (kaQ I q ?_)
 cases x <;> first
  |(cases rx;rfl)
  |(obtain⟨t,rfl⟩:=rx;rfl)
theorem kdm:OpR X (compareOp .IsNot) (fun x y H Q=>y=.non∧Q (.bl (!decide (x=.non))) H):=by
 intro pins s σ H x y v u Q I rx ry h
 obtain⟨rfl,q⟩:=h
 cases ry
 refine isnot_none_gen (kaQ I q ?_)
 cases x <;> first
  |(cases rx;rfl)
  |(obtain⟨t,rfl⟩:=rx;rfl)
theorem OpR.or{f:Value→Value→Sem Value}{r r':R2}(h:OpR X f r)(h':OpR X f r'):OpR X f (fun x y H Q=>r x y H Q∨r' x y H Q):=by
 intro pins s σ H x y v u Q I rx ry q
 rcases q with q|q
 ·exact h pins s σ H x y v u Q I rx ry q
 ·exact h' pins s σ H x y v u Q I rx ry q
theorem kav(b:Expr){op:CmpOp}(h:op≠.In:=by decide)(h2:op≠.NotIn:=by decide):behindInMarks op b=false:=by
 have e1:(op==CmpOp.In)=false:=by cases op <;> first|rfl|exact absurd rfl h
 have e2:(op==CmpOp.NotIn)=false:=by cases op <;> first|rfl|exact absurd rfl h2
 cases b <;> simp[behindInMarks,e1,e2]
theorem kby{op:CmpOp}{r:R2}(ho:OpR X (compareOp op) r)(ha:PE X a ta)(hb:PE X b tb)(hm:behindInMarks op b=false):PE X (.Compare a [op] [b] pos) (tOp r ta tb):=by
 intro pins s σ H Q I h
 exact wpAny_Compare1 (binT ha hb I h fun v u s2 x y H2 I2 rx ry q=>ho pins s2 σ H2 x y v u Q I2 rx ry q) hm
noncomputable def tTest(t:TE):TT:=fun σ H Q=>t σ H fun x H'=>∃k,x=.bl k∧Q k H'
theorem kas{op:CmpOp}{r:R2}(ho:OpR X (compareOp op) r)(ha:PE X a ta)(hb:PE X b tb)(hm:behindInMarks op b=false):PT X (.Compare a [op] [b] pos) (tTest (tOp r ta tb)):=by
 intro pins s σ H Q I h
 refine wpAny_isTrue_Compare1 (thn (ha pins s σ H _ I h) fun v s1 ⟨x,H1,I1,r1,q1⟩=>thn (hb pins s1 σ H1 _ I1 q1) fun u s2 ⟨y,H2,I2,r2,q2⟩=>
  thn (ho pins s2 σ H2 x y v u _ I2 r1 r2 q2) fun c s3 ⟨z,H3,I3,r3,k,e,q3⟩=>?_) hm
 subst e
 cases r3
 exact wpAny_truthy_bool ⟨H3,I3,q3⟩
noncomputable def kkY(r r':R2)(ta tb tc:TE):TE:=fun σ H Q=>ta σ H fun x H1=>tb σ H1 fun y H2=>r x y H2 fun z H3=>∃k,z=.bl k∧
 (if k=true then tc σ H3 fun w' H4=>r' y w' H4 Q else Q (.bl false) H3)
theorem khP{op op':CmpOp}{r r':R2}(ho:OpR X (compareOp op) r)(ho':OpR X (compareOp op') r')(ha:PE X a ta)(hb:PE X b tb)(hc:PE X c tc)
  (hm:lastMarks [op,op'] [b,c]=false:=by with_unfolding_all rfl):PE X (.Compare a [op,op'] [b,c] pos) (kkY r r' ta tb tc):=by
 intro pins s σ H Q I h
 refine Compare_chain (thn (ha pins s σ H _ I h) fun v s1 ⟨x,H1,I1,r1,q1⟩=>chain_link (thn (hb pins s1 σ H1 _ I1 q1) fun u s2 ⟨y,H2,I2,r2,q2⟩=>
  thn (ho pins s2 σ H2 x y v u _ I2 r1 r2 q2) fun d s3 ⟨z,H3,I3,r3,k,e,q3⟩=>?_)) hm
 subst e
 cases r3
 refine wpAny_truthy_bool ?_
 cases k with
 |false=>exact ite_ff ⟨.bl false,H3,I3,rfl,q3⟩
 |true=>exact ite_tt (chain_last (thn (hc pins s3 σ H3 _ I3 q3) fun w' s4 ⟨z',H4,I4,r4,q4⟩=>ho' pins s4 σ H4 y z' u w' Q I4 r2 r4 q4))
theorem kkg{op op':CmpOp}{r r':R2}(ho:OpR X (compareOp op) r)(ho':OpR X (compareOp op') r')(ha:PE X a ta)(hb:PE X b tb)(hc:PE X c tc)
  (hm:lastMarks [op,op'] [b,c]=false:=by with_unfolding_all rfl):PT X (.Compare a [op,op'] [b,c] pos) (tTest (kkY r r' ta tb tc)):=by
 intro pins s σ H Q I h
 refine isTrue_chain (thn (ha pins s σ H _ I h) fun v s1 ⟨x,H1,I1,r1,q1⟩=>test_link (thn (hb pins s1 σ H1 _ I1 q1) fun u s2 ⟨y,H2,I2,r2,q2⟩=>
  thn (ho pins s2 σ H2 x y v u _ I2 r1 r2 q2) fun d s3 ⟨z,H3,I3,r3,k,e,q3⟩=>?_)) hm
 subst e
 cases r3
 refine wpAny_truthy_bool ?_
 cases k with
 |false=>
  obtain⟨k',e',q'⟩:=q3
  cases e'
  exact ite_ff ⟨H3,I3,q'⟩
 |true=>
  refine ite_tt (test_last (thn (hc pins s3 σ H3 _ I3 q3) fun w' s4 ⟨z',H4,I4,r4,q4⟩=>thn (ho' pins s4 σ H4 y z' u w' _ I4 r2 r4 q4) fun d' s5 ⟨z2,H5,I5,r5,k2,e2,q5⟩=>?_))
  subst e2
  cases r5
  exact wpAny_truthy_bool ⟨H5,I5,q5⟩
theorem kgA:(sizeLine:Nat)<2 ^ 63:=by rw[sizeLine_eq];decide
theorem vals1{x:V}{us:List Value}(r:Vals [x] us):∃u,us=[u]∧RelV x u:=by
 cases r with
 |cons r1 r2=>cases r2;exact⟨_,rfl,r1⟩
theorem vals2{x y:V}{us:List Value}(r:Vals [x,y] us):∃u w',us=[u,w']∧RelV x u∧RelV y w':=by
 cases r with
 |cons r1 r2=>
  cases r2 with
  |cons r3 r4=>cases r4;exact⟨_,_,rfl,r1,r3⟩
theorem kdF(hc:X.calm=true):CallR X (.builtin "max") (fun xs H Q=>∃i j,xs=[.int i, .int j]∧Q (.int (if j > i then j else i)) H):=by
 intro pins s σ H xs us Q I r h
 obtain⟨i,j,rfl,q⟩:=h
 obtain⟨u,w',rfl,⟨t,rfl⟩,⟨t',rfl⟩⟩:=vals2 r
 refine max_two_ints (I.ok.hd hc) fun h' tk k=>⟨_,H,I.kept k,?_,q⟩
 by_cases hj:j > i
 ·rw[if_pos hj,if_pos hj];exact⟨_,rfl⟩
 ·rw[if_neg hj,if_neg hj];exact⟨_,rfl⟩
theorem kdE(hc:X.calm=true):CallR X (.builtin "min") (fun xs H Q=>∃i j,xs=[.int i, .int j]∧Q (.int (if j<i then j else i)) H):=by
 intro pins s σ H xs us Q I r h
 obtain⟨i,j,rfl,q⟩:=h
 obtain⟨u,w',rfl,⟨t,rfl⟩,⟨t',rfl⟩⟩:=vals2 r
 refine min_two_ints (I.ok.hd hc) fun h' tk k=>⟨_,H,I.kept k,?_,q⟩
 by_cases hj:j<i
 ·rw[if_pos hj,if_pos hj];exact⟨_,rfl⟩
 ·rw[if_neg hj,if_neg hj];exact⟨_,rfl⟩
theorem kdG:CallR X (.type "int") (fun xs H Q=>(∃i,xs=[.int i]∧Q (.int i) H)∨∃k,xs=[.bl k]∧Q (.int (if k then 1 else 0)) H):=by
 intro pins s σ H xs us Q I r h
 rcases h with⟨i,rfl,q⟩|⟨k,rfl,q⟩
 ·obtain⟨u,rfl,t,rfl⟩:=vals1 r
  exact call_int_int ⟨.int i,H,I,⟨_,rfl⟩,q⟩
 ·obtain⟨u,rfl,r1⟩:=vals1 r
  cases r1
  exact call_int_bool ⟨.int (if k then 1 else 0),H,I.tok _,⟨_,rfl⟩,q⟩
end
end L2
namespace L2
open PySem PySem.Spec PyProof.Rows
structure ObjM (h:Heap) (x dx C:Addr) (mA:Str→Option Value):Prop where
 obj:h.get? x=some (MJ C dx)
 ns:h.Ns1 dx mA
 ne:dx≠x
def kjv{h:Heap}{dx:Addr}{mA:Str→Option Value}(n:h.Ns1 dx mA):∃od,h.get? dx=some od∧∀name,Ep name od=some (mA name):=by
 obtain⟨o,es,ep,ho,hd,hk,_,hm⟩:=n
 refine⟨o,ho,fun name=>?_⟩
 have e:=hm name
 unfold nsFind findBy at e
 rw[←Array.find?_toList] at e
 unfold Ep
 rw[hd]
 dsimp only
 split
 ·rename_i y q
  rw[q] at e
  exact congrArg some e
 ·rename_i q
  rw[q] at e
  have a:es.toList.any (·.refKey)=false:=by
   rw[List.any_eq_false]
   intro y hy
   obtain⟨z,t,hkey⟩:=hk y (Array.mem_toList_iff.mp hy)
   simp[DictEntry.refKey,hkey]
  have a':¬es.toList.any (·.refKey)=true:=by rw[a];exact ND
  rw[if_neg a']
  exact congrArg some e
def ObjM.look{h:Heap}{x dx C:Addr}{mA:Str→Option Value}(I:ObjM h x dx C mA):∃od,PySem.W.InstAt h x (MJ C dx) C (some od)∧∀name,Ep name od=some (mA name):=
 let⟨od,ho,hl⟩:=kjv I.ns
 ⟨od,⟨I.obj,rfl,rfl,ho⟩,hl⟩
section
variable {prog:Program} {w:World} {A:Around} {E:Value→Shared→Prop} {s:Shared} {K:Nt} {x dx C f:Addr} {mA:Str→Option Value} {name:Str} {v:Value}
theorem get_map{expr:Bool}{Q:Value→Shared→Prop}(X:K.In s.heap)(I:ObjM s.heap x dx C mA)(hg:N7 K C name=true)(hh:Mc K C=true)
  (ha:Nu K (.ref C) name=some none) (hv:mA name=some v) (hv':PySem.W.handedIn v=true) (h:Q v {s with toks:=s.toks+1}):
  wpAny (model prog w) A (getAttr (.ref x) name expr) Q E s:=by
 obtain⟨od,J,hl⟩:=I.look
 exact PySem.W.get_value X J (ES hg).1 (PySem.W.findObj_own hh ha rfl (by rw[hl,hv])) hv' h
theorem kkH{pl:Sem Bool}{Q:Value×List Value→Shared→Prop}(X:K.In s.heap)(I:ObjM s.heap x dx C mA)(hg:N7 K C name=true)
  (hf:Nu K (.ref C) name=some (some (.ref f))) (ht:Mg K (.ref f)=true) (hv:mA name=none) (h:Q (.ref f,[.ref x]) s):
  wpAny (model prog w) A (getMethod (.ref x) name pl) Q E s:=by
 obtain⟨od,J,hl⟩:=I.look
 exact PySem.W.method_fn X J (ES hg).1 (ES hg).2 hf (beq_iff_eq.mp ht) (by show(Ep name od).map (·.isSome)=some false;rw[hl,hv];rfl) h
theorem klJ{ns:List Str}{Q:Unit→Shared→Prop}(X:K.In s.heap)(I:ObjM s.heap x dx C mA)
  (hs:Nu K (.ref C) "__setattr__"=some (some (.builtin "object.__setattr__"))) (hp:Mf K C=true) (ht:ET K C name=some none) (hh:Mc K C=true)
  (hw:PySem.Within mA ns) (hsz:ns.length≤sizeLine)
  (h:∀h',ObjM h' x dx C (fun y=>if y=name then some v else mA y)→Heap.SameBut dx s.heap h'→Q () {s with heap:=h',toks:=s.toks+2}):
  wpAny (model prog w) A (setAttr (.ref x) name v) Q E s:=by
 obtain⟨od,J,hl⟩:=I.look
 refine PySem.W.set_plain X J hs (PySem.W.osa_open (s:={s with toks:=s.toks+1}) (r:=none) X J hp ht fun b=>?_)
 obtain⟨cd,hc,hd'⟩:=PySem.W.any_some hh
 have hx:s.heap.get? x=some ⟨.ref C,some dx, .plain,#[]⟩:=I.obj
 refine wpAny_bind (wpAny_pure (wpAny_bind (wpAny_bind (wpAny_loadPart hx (wpAny_bind (EU.here (s:={s with toks:=s.toks+1}) (PySem.W.looks_clsIn X hc) ?_))))))
 rw[hd']
 refine wpAny_pure (a:=some dx) (wpAny_bind (wpAny_pure (wpAny_bind ?_)))
 refine wpAny_nsSet1 (s:={s with toks:=s.toks+1}) I.ns fun h' hn2 hs2=>?_
 obtain⟨oD,esD,epD,hoD,hdD,hcD⟩:=hn2.count (PySem.Within.cons name v hw)
 refine wpAny_bind (wpAny_lookBehind hoD (by rw[hdD];exact pastItsLine_dict (Nx hcD (by rw[N8];omega))) ?_)
 exact wpAny_pure (h _ ⟨(hs2.2 _ (Ne.symm I.ne)).trans I.obj,hn2,I.ne⟩ hs2)
theorem kkw{R:Result→Shared→Prop}{vs:List Value}{kw:List (Str×Value)}(X:K.In s.heap)(hm:Md K C=true)
  (hi:Nu K (.ref C) "__init__"=some (some (.ref f))) (hf:N9 K (.ref f)=some (.type "function"))
  (h:codeAny (model prog w) (A.under (.builtin "type.__call__" ⟨.ref C::vs,kw⟩)) (.call (.ref f) ⟨.ref (s.heap.objs.size+1)::vs,kw⟩) (PySem.W.InitBack (s.heap.objs.size+1) R)
   {s with heap:=(s.heap.push MF).push (MJ C s.heap.objs.size)}):
  codeAny (model prog w) A (.call (.ref C) ⟨vs,kw⟩) R s:=by
 obtain⟨hh,g,d,t,os⟩:=s
 exact PySem.W.make_core (PySem.W.makes_of X hm) (PySem.W.looks_findIn X hi) (fun self=>PySem.W.bind_fn X self hf) (.inl rfl) h
end
noncomputable def putF(f:Str)(v:V):List (Str×V)→List (Str×V)
 |[]=>[(f,v)]
 |(g,x)::r=>if g=f then(g,v)::r else(g,x)::putF f v r
theorem kab(f g:Str)(v:V):∀fs:List (Str×V),(putF f v fs).lookup g=if g=f then some v else fs.lookup g
 | []=>by
  show Mq g [(f,v)]=_
  by_cases h:g=f
  ·have hb:(g==f)=true:=beq_iff_eq.mpr h
   simp only[Mq,hb,if_pos h]
  ·have hb:(g==f)=false:=beq_eq_false_iff_ne.mpr h
   simp only[Mq,hb,if_neg h]
 | (k,x)::r=>by
  have ih:=kab f g v r
  rw[show putF f v ((k,x)::r)=(if k=f then(k,v)::r else(k,x)::putF f v r) from rfl]
  by_cases hk:k=f
  ·rw[if_pos hk]
   by_cases h:g=k
   ·have hb:(g==k)=true:=beq_iff_eq.mpr h
    simp only[Mq,hb,if_pos (h.trans hk)]
   ·have hb:(g==k)=false:=beq_eq_false_iff_ne.mpr h
    simp only[Mq,hb,if_neg (fun e:g=f=>h (e.trans hk.symm))]
  ·rw[if_neg hk]
   by_cases h:g=k
   ·have hb:(g==k)=true:=beq_iff_eq.mpr h
    simp only[Mq,hb,if_neg (fun e:g=f=>hk (h.symm.trans e))]
   ·have hb:(g==k)=false:=beq_eq_false_iff_ne.mpr h
    simp only[Mq,hb]
    exact ih
theorem keT(f:Str)(v:V):∀fs:List (Str×V),f∈(putF f v fs).map (·.1)∧∀g,g∈fs.map (·.1)→g∈(putF f v fs).map (·.1)
 |[]=>⟨by simp[putF],fun g h=>by simp at h⟩
 | (k,x)::r=>by
  obtain⟨i1,i2⟩:=keT f v r
  rw[show putF f v ((k,x)::r)=(if k=f then(k,v)::r else(k,x)::putF f v r) from rfl]
  by_cases hk:k=f
  ·rw[if_pos hk]
   subst hk
   exact⟨by simp,fun g h=>by simpa using h⟩
  ·rw[if_neg hk]
   refine⟨?_,fun g h=>?_⟩
   ·rw[NJ]
    exact NP _ i1
   ·rw[NJ] at h⊢
    rcases NO.mp h with e|e
    ·exact NO.mpr (.inl e)
    ·exact NP _ (i2 g e)
theorem keS(f:Str)(v:V):∀fs:List (Str×V),(putF f v fs).length≤fs.length+1
 |[]=>by simp[putF]
 |(k,x)::r=>by
  have ih:=keS f v r
  rw[show putF f v ((k,x)::r)=(if k=f then(k,v)::r else(k,x)::putF f v r) from rfl]
  by_cases hk:k=f
  ·rw[if_pos hk,N8,N8];omega
  ·rw[if_neg hk,N8,N8];omega
theorem RelO.some_of{v:V}{o:Option Value}(r:RelO (some v) o):∃u,o=some u∧RelV v u:=by
 cases o with
 |none=>exact(show False from r).elim
 |some u=>exact⟨u,rfl,r⟩
theorem RelO.none_of{o:Option Value}(r:RelO none o):o=none:=by
 cases o with
 |none=>rfl
 |some u=>exact(show False from r).elim
theorem kjI{v:V}{u:Value}(r:RelV v u):PySem.W.handedIn u=true:=by
 cases v with
 |non=>cases(show u=Value.none from r);rfl
 |bl b=>cases(show u=Value.bool b from r);rfl
 |int i=>obtain⟨t,e⟩:=(show ∃t,u=Value.int i t from r);cases e;rfl
 |str x=>obtain⟨t,e⟩:=(show ∃t,u=Value.str x t from r);cases e;rfl
 |byt b=>obtain⟨t,e⟩:=(show ∃t,u=Value.bytes b t from r);cases e;rfl
 |flt b=>obtain⟨t,e⟩:=(show ∃t,u=Value.float b t from r);cases e;rfl
 |ref a=>cases(show u=Value.ref a from r);rfl
 |ty n=>cases(show u=Value.type n from r);rfl
section
variable {P:Program} {w:World} {H H':Hp} {h h':Heap} {a C dx:Addr} {fs fs':List (Str×V)}
theorem kfW(hok:HOk P w H h)(e:H a=some (.ins C dx fs)):∃mA,ObjM h a dx C mA∧(∀f,RelO (fs.lookup f) (mA f))∧PySem.Within mA (fs.map (·.1))∧fs.length≤1000∧H dx=some (.own a):=by
 obtain⟨d,z,ne,ob,mA,n,r,q⟩:=(show ObjOk P w H h a (.ins C dx fs) from hok a _ e)
 exact⟨mA,⟨ob,n,ne⟩,r,q,z,d⟩
end
structure Cls (K:Nt) (C:Addr):Prop where
 pg:N7 K C Str.empty=true
 hd:Mc K C=true
 po:Mf K C=true
 sa:Nu K (.ref C) "__setattr__"=some (some (.builtin "object.__setattr__"))
def Cls.get{K:Nt}{C:Addr}(c:Cls K C)(f:Str):N7 K C f=true:=c.pg
noncomputable def NoAttr(K:Nt)(C:Addr)(f:Str):Prop:=Nu K (.ref C) f=some none
def NoAttr.taker{K:Nt}{C:Addr}{f:Str}(n:NoAttr K C f):ET K C f=some none:=by
 unfold ET
 rw[show Nu K (.ref C) f=some none from n]
 rfl
structure Meth (K:Nt) (C:Addr) (m:Str) (f:Addr):Prop where
 at_:Nu K (.ref C) m=some (some (.ref f))
 fn:Mg K (.ref f)=true
 kp:NN K (.ref f)=true
section
variable {X:Cx} {pins:List (Addr×Obj)} {σ:St} {H:Hp} {s:Shared} {a C dx:Addr} {fs:List (Str×V)} {f:Str} {v:V} {A:Around} {E:Value→Shared→Prop}
theorem kfj{b:Bool}{Q:Value→Shared→Prop}(I:Inv X pins σ H s)(e:H a=some (.ins C dx fs))(c:Cls X.K C)(n:NoAttr X.K C f)(l:fs.lookup f=some v)
  (h:∀u s',Inv X pins σ H s'→RelV v u→Q u s'):wpAny (model X.prog X.w) A (getAttr (.ref a) f b) Q E s:=by
 obtain⟨mA,O,r,_,_,_⟩:=kfW I.hok e
 obtain⟨u,hu,ru⟩:=RelO.some_of (v:=v) (o:=mA f) (by rw[←l];exact r f)
 exact get_map I.kIn O (c.get f) c.hd n hu (kjI ru) (h u _ (I.tok _) ru)
theorem kdV{m:Str}{g:Addr}{pl:Sem Bool}{Q:Value×List Value→Shared→Prop}(I:Inv X pins σ H s)(e:H a=some (.ins C dx fs))(c:Cls X.K C)(k:Meth X.K C m g)(l:fs.lookup m=none)
  (h:Q (.ref g,[.ref a]) s):wpAny (model X.prog X.w) A (getMethod (.ref a) m pl) Q E s:=by
 obtain⟨mA,O,r,_,_,_⟩:=kfW I.hok e
 have hn:mA m=none:=RelO.none_of (by rw[←l];exact r m)
 exact kkH I.kIn O (c.get m) k.at_ k.fn hn h
theorem kfc{y:V}{u:Value}{Q:Unit→Shared→Prop}(I:Inv X pins σ H s)(e:H a=some (.ins C dx fs))(c:Cls X.K C)(n:NoAttr X.K C f)(hl:fs.length<1000)(ry:RelV y u)
  (h:∀s',Inv X pins σ (upd H a (.ins C dx (putF f y fs))) s'→Q () s'):wpAny (model X.prog X.w) A (setAttr (.ref a) f u) Q E s:=by
 obtain⟨mA,O,r,wi,_,ho⟩:=kfW I.hok e
 have hz:(fs.map (·.1)).length≤sizeLine:=by rw[Nr,sizeLine_eq];omega
 refine klJ I.kIn O c.sa c.po n.taker c.hd wi hz fun h' O' sb=>h _ ?_
 have hd:∃o,h'.get? dx=some o:=let⟨o,_,_,e',_⟩:=O'.ns;⟨o,e'⟩
 refine I.write (x:=a) (e:=dx) (by rw[e];exact True.intro) (.inr ho) (fun b q hb z=>(sb.2 b hb).trans z) hd ?_
 refine⟨by rw[kal O.ne];exact ho,?_,O.ne,O'.obj,_,O'.ns,fun g=>?_,fun g hg=>?_⟩
 ·have:=keS f y fs;omega
 ·show RelO ((putF f y fs).lookup g) (if g=f then some u else mA g)
  rw[kab]
  by_cases q:g=f
  ·rw[if_pos q,if_pos q];exact ry
  ·rw[if_neg q,if_neg q];exact r g
 ·by_cases q:g=f
  ·rw[q];exact(keT f y fs).1
  ·refine(keT f y fs).2 g (wi g fun z=>hg ?_)
   show(if g=f then some u else mA g)=none
   rw[if_neg q];exact z
theorem Inv.made(I:Inv X pins σ H s):Inv X pins σ (upd (upd H s.heap.objs.size (.own (s.heap.objs.size+1))) (s.heap.objs.size+1) (.ins C s.heap.objs.size []))
  {s with heap:=(s.heap.push MF).push (MJ C s.heap.objs.size)}:=by
 have e1:(s.heap.push MF).get? s.heap.objs.size=some MF:=Heap.get?_push_size s.heap rfl
 have e2:((s.heap.push MF).push (MJ C s.heap.objs.size)).get? (s.heap.objs.size+1)=some (MJ C s.heap.objs.size):=by
  have:=Heap.get?_push_size (s.heap.push MF) (o:=MJ C s.heap.objs.size) rfl
  rwa [Heap.size_push] at this
 have e3:(s.heap.push MF).Ns s.heap.objs.size (fun _=>none):=⟨MF,#[],_,e1,rfl,(fun e he=>absurd he (by simp)),fun _=>rfl⟩
 have I1:=I.laid (a:=s.heap.objs.size) (o:=.own (s.heap.objs.size+1)) (h':=s.heap.push MF) (t':=s.toks) (fun b u q=>Heap.get?_push_of_some _ q) (Nv _) ⟨_,e1⟩
 refine I1.laid (a:=s.heap.objs.size+1) (o:=.ins C s.heap.objs.size []) (t':=s.toks) (fun b u q=>Heap.get?_push_of_some _ q) (Er (Heap.size_push _ _)) ?_
 have ne:s.heap.objs.size≠s.heap.objs.size+1:=NY (EV _)
 refine⟨by rw[kal ne,kad],Mb _,ne,e2,fun _=>none,(Heap.Ns1.of_empty e3).at fun o q=>Heap.get?_push_of_some _ q,fun _=>True.intro,fun y hy=>absurd rfl hy⟩
theorem kmi{prog:Program}{w:World}{env:Env}{e:Expr}{f:Str}{pos:Pos}{s:Shared}{Q:Value→Shared→Prop}(hb:attributeBase e f env (eval e env)=eval e env)
  (h:wpAny (model prog w) A (eval e env) (fun o s₁=>wpAny (model prog w) A (getAttr o f true) Q E s₁) E s):wpAny (model prog w) A (eval (.Attribute e f pos) env) Q E s:=
 Attribute_any_ h (by rw[arm_eval_Attribute,hb])
end
noncomputable def tFld(K:Nt)(ta:TE)(f:Str):TE:=fun σ H Q=>ta σ H fun x H1=>∃a C dx fs v,x=.ref a∧H1 a=some (.ins C dx fs)∧Cls K C∧NoAttr K C f∧fs.lookup f=some v∧Q v H1
noncomputable def sFld(K:Nt)(ta tv:TE)(f:Str):TS:=fun D σ H=>tv σ H fun y H1=>ta σ H1 fun x H2=>∃a C dx fs,x=.ref a∧H2 a=some (.ins C dx fs)∧Cls K C∧NoAttr K C f∧fs.length<1000∧
 D.nx σ (upd H2 a (.ins C dx (putF f y fs)))
noncomputable def InOp(X:Cx)(op:Operator)(rd:V→V→Hp→VK→Prop):Prop:=
 ∀(pins:List (Addr×Obj))(s:Shared)(σ:St)(H:Hp)(x y:V)(u v:Value)(Q:VK),Inv X pins σ H s→RelV x u→RelV y v→rd x y H Q→wpAny (model X.prog X.w) X.A (inplaceOp op u v) (EP X pins σ Q) X.xe s
noncomputable def klM(K:Nt)(ta tv:TE)(rd:V→V→Hp→VK→Prop)(f:Str):TS:=fun D σ H=>ta σ H fun x H1=>∃a C dx fs v,x=.ref a∧H1 a=some (.ins C dx fs)∧Cls K C∧NoAttr K C f∧fs.lookup f=some v∧
 tv σ H1 fun y H2=>rd v y H2 fun z H3=>∃dx' fs',H3 a=some (.ins C dx' fs')∧fs'.length<1000∧D.nx σ (upd H3 a (.ins C dx' (putF f z fs')))
section
variable {X:Cx} {o e value:Expr} {f:Str} {pos pos' tpos:Pos} {ta tv:TE}
theorem kmv(he:PE X e ta)(hb:attributeBase e f X.env (eval e X.env)=eval e X.env):PE X (.Attribute e f pos) (tFld X.K ta f):=by
 intro pins s σ H Q I h
 refine kmi hb (thn (he pins s σ H _ I h) fun u s1 ⟨x,H1,I1,rx,a,C,dx,fs,v,ex,ea,c,n,l,q⟩=>?_)
 subst ex
 obtain rfl:u=Value.ref a:=rx
 exact kfj I1 ea c n l fun u' s2 I2 ru=>⟨v,H1,I2,ru,q⟩
theorem kaw(ha:PE X o ta)(hv:PE X value tv)(hs:swapsWith value (some (.Attribute o f pos')) pos.line X.env=pure false):PS X (.Assign [.Attribute o f pos'] value pos) (sFld X.K ta tv f):=by
 intro pins s σ H D I h
 refine plainObj_wpAny_Assign_Attribute (thn (hv pins s σ H _ I h) fun u s1 ⟨y,H1,I1,ry,q⟩=>thn (ha pins s1 σ H1 _ I1 q) fun ov s2 ⟨x,H2,I2,rx,a,C,dx,fs,ex,ea,c,n,l,q2⟩=>?_) hs
 subst ex
 obtain rfl:ov=Value.ref a:=rx
 exact kfc I2 ea c n l ry fun s3 I3=>⟨σ,_,I3,q2⟩
theorem ki9{op:Operator}{rd:V→V→Hp→VK→Prop}(ha:PE X o ta)(hv:PE X value tv)(hop:InOp X op rd):PS X (.AugAssign (.Attribute o f tpos) op value pos) (klM X.K ta tv rd f):=by
 intro pins s σ H D I h
 refine wpAny_AugAssign_AttributeAny (thn (ha pins s σ H _ I h) fun ov s1 ⟨x,H1,I1,rx,a,C,dx,fs,v,ex,ea,c,n,l,q⟩=>?_)
 subst ex
 obtain rfl:ov=Value.ref a:=rx
 refine kfj I1 ea c n l fun u s2 I2 ru=>thn (hv pins s2 σ H1 _ I2 q) fun w3 s3 ⟨y,H2,I3,ry,q3⟩=>thn (hop pins s3 σ H2 v y u w3 _ I3 ru ry q3) fun w4 s4 ⟨z,H3,I4,rz,dx',fs',ea',l',q4⟩=>?_
 exact kfc I4 ea' c n l' rz fun s5 I5=>⟨σ,_,I5,q4⟩
noncomputable def rSub:V→V→Hp→VK→Prop:=fun x y H Q=>∃i j,x=.int i∧y=.int j∧Q (.int (i-j)) H
theorem kmN:InOp X .Sub rSub:=by
 rintro pins s σ H x y u v Q I rx ry ⟨i,j,rfl,rfl,q⟩
 obtain⟨t,rfl⟩:=(show ∃t,u=Value.int i t from rx)
 obtain⟨t',rfl⟩:=(show ∃t',v=Value.int j t' from ry)
 exact PyProof.Rows.isub_int ⟨.int (i-j),H,I.tok _,⟨_,rfl⟩,q⟩
end
section
variable {X:Cx} {pins:List (Addr×Obj)} {σ:St} {H:Hp} {s:Shared} {A:Around} {E:Value→Shared→Prop} {Q:Value→Shared→Prop} {c:Value} {b:Bool}
inductive TyOf (K:Nt) (H:Hp):V→Value→Prop where
 |non:TyOf K H .non (.type "NoneType")
 |bl (x:Bool):TyOf K H (.bl x) (.type "bool")
 |int (i:Int):TyOf K H (.int i) (.type "int")
 |str (x:Str):TyOf K H (.str x) (.type "str")
 |flt (x:UInt64):TyOf K H (.flt x) (.type "float")
 |lst {a:Addr} {xs:List V} (e:H a=some (.lst xs)):TyOf K H (.ref a) (.type "list")
 |frz {a:Addr} {o:Obj} {xs:List V} (e:H a=some (.frz o (.lst xs))):TyOf K H (.ref a) (.type "list")
 |tup {a:Addr} {xs:List V} (e:H a=some (.tup xs)):TyOf K H (.ref a) (.type "tuple")
 |dK {a:Addr} {kvs:List (Key×V)} (e:H a=some (.dK kvs)):TyOf K H (.ref a) (.type "dict")
 |dT {a:Addr} {kvs:List (List Key×V)} (e:H a=some (.dT kvs)):TyOf K H (.ref a) (.type "dict")
 | ins {a C dx:Addr} {fs:List (Str×V)} (e:H a=some (.ins C dx fs)) (cl:Cls K C) (ha:Nu K (.ref C) "__class__"=some (some (.builtin "object.__class__")))
   (hn:Ea K (.builtin "object.__class__") "__get__"=some (some (.builtin "getset_descriptor.__get__"))) (htk:EW K (.builtin "object.__class__")=some true)
   (hm:Nz K C (.type "object")=some true):TyOf K H (.ref a) (.ref C)
theorem kjD{x:V}{u t:Value}(I:Inv X pins σ H s)(rx:RelV x u)(ty:TyOf X.K H x t)(e:NL X.K t c=some b)(h:∀tk,Q (.bool b) {s with toks:=tk}):
  wpAny (model X.prog X.w) A (call (.builtin "isinstance") [u,c]) Q E s:=by
 cases ty with
 |non=>cases(show u=Value.none from rx);exact Mr PySem.W.kitx_none I.kIn True.intro e (fun z=>nomatch z) h
 |bl y=>cases(show u=Value.bool y from rx);exact Mr PySem.W.kitx_bool I.kIn True.intro e (fun z=>nomatch z) h
 |int i=>obtain⟨t,q⟩:=(show ∃t,u=Value.int i t from rx);cases q;exact Mr PySem.W.kitx_int I.kIn True.intro e (fun z=>nomatch z) h
 |str y=>obtain⟨t,q⟩:=(show ∃t,u=Value.str y t from rx);cases q;exact Mr PySem.W.kitx_str I.kIn True.intro e (fun z=>nomatch z) h
 |flt y=>obtain⟨t,q⟩:=(show ∃t,u=Value.float y t from rx);cases q;exact Mr PySem.W.kitx_float I.kIn True.intro e (fun z=>nomatch z) h
 | @lst a xs ea=>
  cases(show u=Value.ref a from rx)
  obtain⟨_,_,n,_,h1⟩:=(show ObjOk X.prog X.w H s.heap a (.lst xs) from I.hok a _ ea)
  exact Mr PySem.W.kitx_list I.kIn ⟨_,h1,rfl⟩ e (fun z=>nomatch z) h
 | @frz a ob xs ea=>
  cases(show u=Value.ref a from rx)
  obtain⟨_,_,_,n,_,h1⟩:=(show ObjOk X.prog X.w H s.heap a (.frz ob (.lst xs)) from I.hok a _ ea)
  exact Mr PySem.W.kitx_list I.kIn ⟨_,h1,rfl⟩ e (fun z=>nomatch z) h
 | @tup a xs ea=>
  cases(show u=Value.ref a from rx)
  obtain⟨_,_,_,p⟩:=(show ObjOk X.prog X.w H s.heap a (.tup xs) from I.hok a _ ea)
  obtain⟨o,h1,h2,_⟩:=p
  exact Mr PySem.W.kitx_tuple I.kIn ⟨o,h1,h2⟩ e (fun z=>nomatch z) h
 | @dK a kvs ea=>
  cases(show u=Value.ref a from rx)
  obtain⟨_,_,vs,_,p⟩:=(show ObjOk X.prog X.w H s.heap a (.dK kvs) from I.hok a _ ea)
  obtain⟨o,es,ep,h1,h2,_⟩:=p
  exact Mr PySem.W.kitx_dict I.kIn ⟨o,h1,h2.1⟩ e (fun z=>nomatch z) h
 | @dT a kvs ea=>
  cases(show u=Value.ref a from rx)
  obtain⟨_,_,xs,_,o,es,ep,h1,h2,_⟩:=(show ObjOk X.prog X.w H s.heap a (.dT kvs) from I.hok a _ ea)
  exact Mr PySem.W.kitx_dict I.kIn ⟨o,h1,h2.1⟩ e (fun z=>nomatch z) h
 | @ins a C dx fs ea cl ha hn htk hm=>
  cases(show u=Value.ref a from rx)
  obtain⟨mA,O,_⟩:=kfW I.hok ea
  obtain⟨od,J,_⟩:=O.look
  exact Mr (PySem.W.kitx_own (cl.get _) cl.hd ha hn htk hm) I.kIn J e (fun z=>nomatch z) h
end
end L2
namespace L2
open PySem PySem.Spec PyProof.Rows
structure Room (k:Nat) (A:Around):Prop where
 hd:A.handled=none
 dp:A.depth+3*k+5<recursionLimit
 un:A.units+16*k+200<cLine
def Room.mono{j k:Nat}{A:Around}(r:Room k A)(h:j≤k):Room j A:=⟨r.hd,by have:=r.dp;omega,by have:=r.un;omega⟩
def Room.deeper{k:Nat}{A:Around}(r:Room (k+1) A)(env:Env):Room k (A.deeper env):=
 ⟨r.hd,by have:=r.dp;show A.depth+1+3*k+5<_;omega,by have:=r.un;show A.units+3+16*k+200<_;omega⟩
def Room.in1{k:Nat}{A:Around}(r:Room (k+1) A):Room k A.in1:=
 ⟨r.hd,by have:=r.dp;show A.depth+3*k+5<_;omega,by have:=r.un;show A.units+1+16*k+200<_;omega⟩
def kip{A:Around}{C:Addr}{us:List Value}{kw:List (Str×Value)}:(A.under (.builtin "type.__call__" ⟨.ref C::us,kw⟩)).depth=A.depth+1:=by
 first|rfl|simp[Around.under,Code.weight,Code.isCreation,Code.isGuard,Code.isCaller,Code.frames,Code.isFrame,guardIds]
def kio{A:Around}{C:Addr}{us:List Value}{kw:List (Str×Value)}:(A.under (.builtin "type.__call__" ⟨.ref C::us,kw⟩)).units=A.units+1:=by
 first|rfl|simp[Around.under,Code.cUnits,Code.frames,Code.isFrame]
def Room.make{k:Nat}{A:Around}(r:Room (k+1) A)(C:Addr)(us:List Value)(kw:List (Str×Value)):Room k (A.under (.builtin "type.__call__" ⟨.ref C::us,kw⟩)):=
 ⟨r.hd,by have:=r.dp;rw[kip];omega,by have:=r.un;rw[kio];omega⟩
def Room.depth{k:Nat}{A:Around}(r:Room k A):A.depth<recursionLimit:=by have:=r.dp;omega
def Room.units{k:Nat}{A:Around}(r:Room k A):A.units+64<cLine:=by have:=r.un;omega
def Room.units0{k:Nat}{A:Around}(r:Room k A):A.units<cLine:=by have:=r.un;omega
noncomputable def tNil:TA:=fun _ H Q=>Q [] H
noncomputable def tCons(ta:TE)(tr:TA):TA:=fun σ H Q=>ta σ H fun x H1=>tr σ H1 fun xs H2=>Q (x::xs) H2
section
variable {X:Cx} {e:Expr} {es:List Expr} {te:TE} {t:TA} {pos:Pos}
theorem kae:PA X [] tNil:=fun _ _ _ _ H Q I h=>Calls.spliced_nil ⟨[],H,I, .nil,h⟩
theorem kaa(ha:PE X e te)(hr:PA X es t)(hs:starEach (e::es) X.env=(false,eval e X.env)::starEach es X.env:=by rfl):PA X (e::es) (tCons te t):=by
 intro pos pins s σ H Q I h
 rw[hs]
 show wpAny _ _ (spliced ((false,eval e X.env)::backTo pos (starEach es X.env))) _ _ s
 refine Calls.spliced_cons (thn (ha pins s σ H _ I h) fun u s1 ⟨x,H1,I1,r1,q1⟩=>?_)
 exact thn (hr pos pins s1 σ H1 _ I1 q1) fun us s2 ⟨xs,H2,I2,r2,q2⟩=>⟨x::xs,H2,I2, .cons r1 r2,q2⟩
noncomputable def tTup(t:TA):TE:=fun σ H Q=>t σ H fun xs H1=>xs.length≤sizeLine∧∀p,H1 p=none→Q (.ref p) (upd H1 p (.tup xs))
noncomputable def tLst(t:TA):TE:=fun σ H Q=>t σ H fun xs H1=>xs.length≤sizeLine∧∀p,H1 p=none→Q (.ref p) (upd H1 p (.lst xs))
theorem ka0{x1}(h:PA X es t):PE X (.Tuple es x1 pos) (tTup t):=by
 intro pins s σ H Q I hq
 refine wpAny_Tuple_spliced (thn (h pos pins s σ H _ I hq) fun us s1 ⟨xs,H1,I1,r,z,q⟩=>⟨by rw[←r.length];exact z,?_⟩)
 have hf:H1 s1.heap.objs.size=none:=I1.hok.fresh (Nv _)
 refine⟨.ref s1.heap.objs.size,upd H1 s1.heap.objs.size (.tup xs),I1.laid (t':=s1.toks) (fun b u e=>Heap.get?_push_of_some _ e) (Nv _) ?_,rfl,q _ hf⟩
 exact⟨z,us,r,⟨_,Heap.get?_push_size _ rfl,rfl,_,rfl⟩⟩
theorem kaK(h:PA X es t):PE X (.List es pos) (tLst t):=by
 intro pins s σ H Q I hq
 refine wpAny_List_spliced (thn (h pos pins s σ H _ I hq) fun us s1 ⟨xs,H1,I1,r,z,q⟩=>⟨by rw[←r.length];exact z,?_⟩)
 have hf:H1 s1.heap.objs.size=none:=I1.hok.fresh (Nv _)
 refine⟨.ref s1.heap.objs.size,upd H1 s1.heap.objs.size (.lst xs),I1.laid (t':=s1.toks) (fun b u e=>Heap.get?_push_of_some _ e) (Nv _) ?_,rfl,q _ hf⟩
 exact⟨z,us,0,r,Heap.get?_push_size _ rfl⟩
end
noncomputable abbrev Sp:=List V→Hp→VK→XK→Prop
noncomputable abbrev CXT:=List Env→Hp→Shared→XK→Value→Shared→Prop
structure Env0 (P:Program) (w:World) (K:Nt) (mg:Str→Option Value) (base:Heap) (A:Around) (outer:List Env) (s:Shared) (H:Hp):Prop where
 frames:A.frames=some outer
 mod:Mod K mg base
 bs:∀b o,base.get? b=some o→s.heap.get? b=some o∧H b=none
 bsz:base.objs.size≤s.heap.objs.size
 funs:s.heap.FunFrames base outer
 frf:∀b∈frs outer,H b=none
 hok:HOk P w H s.heap
 bare:AllBare s.gens
noncomputable def CE(outer:List Env)(P:Program)(w:World)(H:Hp)(s:Shared)(Q:VK)(u:Value)(s':Shared):Prop:=
 ∃v H',s'.os=s.os∧AllBare s'.gens∧Un (frs outer) [] H H' s.heap s'.heap∧HOk P w H' s'.heap∧RelV v u∧Q v H'
noncomputable def CR(CX:CXT)(outer:List Env)(P:Program)(w:World)(H:Hp)(s:Shared)(Q:VK)(E:XK)(r:Result)(s':Shared):Prop:=
 match r with
 | .ok (.ret u)=>CE outer P w H s Q u s'
 | .ok _=>False
 | .error e=>CX outer H s E e s'
structure FnOk (P:Program) (w:World) (K:Nt) (mg:Str→Option Value) (base:Heap) (CX:CXT) (k:Nat) (f:Addr) (fd:FuncData) (ps:List Str) (sp:Sp):Prop where
 len:∀vs H Q E,sp vs H Q E→vs.length=ps.length
 run:∀(A:Around)(outer:List Env)(s:Shared)(H:Hp)(args:Args)(us:List Value)(vs:List V)(Q:VK)(E:XK),Room k A→Env0 P w K mg base A outer s H→BindsTo s fd args (ps.zip us)→Vals vs us→sp vs H Q E→
  codeAny (model P w) A (.call (.ref f) args) (CR CX outer P w H s Q E) s
theorem FnOk.mono{P:Program}{w:World}{K:Nt}{mg:Str→Option Value}{base:Heap}{CX:CXT}{j k:Nat}{f:Addr}{fd:FuncData}{ps:List Str}{sp:Sp}(F:FnOk P w K mg base CX j f fd ps sp)(h:j≤k):
  FnOk P w K mg base CX k f fd ps sp:=⟨F.len,fun A outer s H args us vs Q E hr=>F.run A outer s H args us vs Q E (hr.mono h)⟩
theorem FnOk.imp{P:Program}{w:World}{K:Nt}{mg:Str→Option Value}{base:Heap}{CX:CXT}{k:Nat}{f:Addr}{fd:FuncData}{ps:List Str}{sp sp':Sp}(F:FnOk P w K mg base CX k f fd ps sp)
  (h:∀vs H Q E,sp' vs H Q E→sp vs H Q E):FnOk P w K mg base CX k f fd ps sp':=
 ⟨fun vs H Q E q=>F.len vs H Q E (h _ _ _ _ q),fun A outer s H args us vs Q E hr he hb hv hs=>F.run A outer s H args us vs Q E hr he hb hv (h _ _ _ _ hs)⟩
theorem Env0.make{P:Program}{w:World}{K:Nt}{mg:Str→Option Value}{base:Heap}{A:Around}{outer:List Env}{s:Shared}{H:Hp}(e:Env0 P w K mg base A outer s H)(C:Addr)(us:List Value)(kw:List (Str×Value)):
  Env0 P w K mg base (A.under (.builtin "type.__call__" ⟨.ref C::us,kw⟩)) outer s H:=⟨by first|exact e.frames|(simpa[Around.under,Code.envs,Code.isFrame,pushEnvs] using e.frames),e.mod,e.bs,e.bsz,e.funs,e.frf,e.hok,e.bare⟩
theorem Env0.in1{P:Program}{w:World}{K:Nt}{mg:Str→Option Value}{base:Heap}{A:Around}{outer:List Env}{s:Shared}{H:Hp}(e:Env0 P w K mg base A outer s H):
  Env0 P w K mg base A.in1 outer s H:=⟨e.frames,e.mod,e.bs,e.bsz,e.funs,e.frf,e.hok,e.bare⟩
section
variable {X:Cx} {pins:List (Addr×Obj)} {σ:St} {H:Hp} {s s':Shared}
theorem Inv.env0(I:Inv X pins σ H s):Env0 X.prog X.w X.K X.mg X.base X.A X.stack s H:=
 ⟨I.ok.frames,I.ok.mod,I.bs,Nx I.ok.bsz I.sz,I.stack,I.stkFree,I.hok,I.bare⟩
theorem Inv.after{Q:VK}{u:Value}(I:Inv X pins σ H s)(h:CE X.stack X.prog X.w H s Q u s'):EP X pins σ Q u s':=by
 obtain⟨v,H',os,bare,un,hok,r,q⟩:=h
 obtain⟨hh,g,d,t,os'⟩:=s'
 obtain rfl:os'=s.os:=os
 exact⟨v,H',I.call (h':=hh) (g':=g) (d':=d) (t':=t) (ch:=[]) un hok bare (fun b z=>absurd z (by simp)),r,q⟩
end
noncomputable def tCall(sp:Sp)(dvs:List V)(E:XK)(t:TA):TE:=fun σ H Q=>t σ H fun vs H1=>sp (vs++dvs) H1 Q E
noncomputable def tMeth(C:Addr)(m:Str)(sp:Sp)(dvs:List V)(E:XK)(ta:TE)(t:TA):TE:=fun σ H Q=>ta σ H fun x H1=>∃a dx fs,x=.ref a∧H1 a=some (.ins C dx fs)∧fs.lookup m=none∧
 t σ H1 fun vs H2=>sp (x::(vs++dvs)) H2 Q E
noncomputable def tMake(C:Addr)(sp:Sp)(dvs:List V)(E:XK)(t:TA):TE:=fun σ H Q=>t σ H fun vs H1=>∀x dx,H1 x=none→H1 dx=none→dx≠x→
 sp (.ref x::(vs++dvs)) (upd (upd H1 dx (.own x)) x (.ins C dx [])) (fun v H2=>v=.non∧Q (.ref x) H2) E
noncomputable def Binds(K:Nt)(fd:FuncData)(ps:List Str)(ds:List Value):Prop:=
 ∀(s:Shared)(us:List Value),K.In s.heap→(us++ds).length=ps.length→BindsTo s fd ⟨us,[]⟩ (ps.zip (us++ds))
def Binds.all{K:Nt}{fd:FuncData}{ps:List Str}(h:∀us:List Value,us.length=ps.length→bindArgs fd ⟨us,[]⟩=pure (ps.zip us)):Binds K fd ps []:=fun s us _ hl=>by
 rw[Eb] at hl⊢
 exact .of_eq (h us hl)
noncomputable def kdH(CX:CXT)(X:Cx)(E:XK):Prop:=∀(pins:List (Addr×Obj))(σ:St)(H:Hp)(s:Shared)(e:Value)(s':Shared),Inv X pins σ H s→CX X.stack H s E e s'→X.xe e s'
section
variable {X:Cx} {CX:CXT} {k:Nat} {f C:Addr} {fd:FuncData} {ps:List Str} {sp:Sp} {dvs:List V} {ds:List Value} {E:XK} {x m:Str} {p pos apos:Pos} {e o:Expr} {es:List Expr} {ta:TE} {t:TA}
theorem khG{pins:List (Addr×Obj)}{σ:St}{H:Hp}{s:Shared}{Q:VK}{us:List Value}{vs:List V}(F:FnOk X.prog X.w X.K X.mg X.base CX k f fd ps sp)(hr:Room k X.A)(hb:Binds X.K fd ps ds)(hd:Vals dvs ds)(hx:kdH CX X E)
  (I:Inv X pins σ H s) (r:Vals vs us) (h:sp (vs++dvs) H Q E):wpAny (model X.prog X.w) X.A (call (.ref f) us) (EP X pins σ Q) X.xe s:=by
 have r2:Vals (vs++dvs) (us++ds):=r.append hd
 have hl:(us++ds).length=ps.length:=by rw[←r2.length];exact F.len _ _ _ _ h
 refine wpAny_call (codeAny_mono (F.run X.A X.stack s H ⟨us,[]⟩ (us++ds) (vs++dvs) Q E hr I.env0 (hb s us I.kIn hl) r2 h) fun r s' hq=>?_)
 cases r with
 |error e=>exact hx pins σ H s e s' I hq
 |ok fl=>
  cases fl with
  |ret u=>exact I.after hq
  |next=>exact False.elim hq
  |brk=>exact False.elim hq
  |cont=>exact False.elim hq
theorem klU(F:FnOk X.prog X.w X.K X.mg X.base CX k f fd ps sp)(hr:Room k X.A)(hg:Gl X x)(hm:X.mg x=some (.ref f))(hk:NN X.K (.ref f)=true)(hb:Binds X.K fd ps ds)(hd:Vals dvs ds)(hx:kdH CX X E)
  (ha:PA X (e::es) t) (hdb:(x==("__debug__" :Str))=false:=by decide) (he:starEach (e::es) X.env=(false,eval e X.env)::starEach es X.env:=by rfl) (hpl:(backTo pos (starEach es X.env)).any (·.1)=false:=by rfl):
  PE X (.Call (.Name x p) (e::es) [] pos) (tCall sp dvs E t):=by
 intro pins s σ H Q I h
 refine wpAny_Call_Name_kw (kdU I hg hm ?_ hdb)
 refine Ec (h₀:=X.base) I.ok.mod.kin hk (thn (ha pos pins s σ H _ I h) fun us s1 ⟨vs,H1,I1,r,q⟩=>⟨I1.kIn,?_⟩) he hpl
 exact khG F hr hb hd hx I1 r q
theorem kbi{pl:Sem Bool}(he:PE X o ta)(c:Cls X.K C)(hm:Meth X.K C m f)(F:FnOk X.prog X.w X.K X.mg X.base CX k f fd ps sp)(hr:Room k X.A)(hb:Binds X.K fd ps ds)(hd:Vals dvs ds)(hx:kdH CX X E)(ha:PA X (e::es) t)
  (hst:starEach (e::es) X.env=(false,eval e X.env)::starEach es X.env:=by rfl) (hpl:(backTo pos (starEach es X.env)).any (·.1)=false:=by rfl)
  (ht:eval (.Call (.Attribute o m apos) (e::es) [] pos) X.env=(do
   let ov ←eval o X.env
   standAt apos.atName
   let(f,first) ←holding [ov] (getMethod ov m pl)
   callWith pos f first (backTo pos (starEach (e::es) X.env)) (backToKw pos (keywordEach [] X.env))):=by rfl):
  PE X (.Call (.Attribute o m apos) (e::es) [] pos) (tMeth C m sp dvs E ta t):=by
 intro pins s σ H Q I h
 refine Es (pl:=pl) (thn (he pins s σ H _ I h) fun u s1 ⟨x,H1,I1,rx,a,dx,fs,ex,ea,l,q⟩=>?_) ht
 subst ex
 obtain rfl:u=Value.ref a:=rx
 refine kdV I1 ea c hm l ?_
 refine Ec (first:=[.ref a]) (h₀:=X.base) I.ok.mod.kin hm.kp (thn (ha pos pins s1 σ H1 _ I1 q) fun us s2 ⟨vs,H2,I2,r,q2⟩=>⟨I2.kIn,?_⟩) hst hpl
 exact khG (us:=.ref a::us) (vs:=.ref a::vs) F hr hb hd hx I2 (.cons rfl r) q2
theorem kek{pl:Sem Bool}(he:PE X o ta)(c:Cls X.K C)(hm:Meth X.K C m f)(F:FnOk X.prog X.w X.K X.mg X.base CX k f fd ps sp)(hr:Room k X.A)(hb:Binds X.K fd ps ds)(hd:Vals dvs ds)(hx:kdH CX X E)
  (ht:eval (.Call (.Attribute o m apos) [] [] pos) X.env=(do
   let ov ←eval o X.env
   standAt apos.atName
   let(f,first) ←holding [ov] (getMethod ov m pl)
   callWith pos f first (backTo pos (starEach [] X.env)) (backToKw pos (keywordEach [] X.env))):=by rfl):
  PE X (.Call (.Attribute o m apos) [] [] pos) (tMeth C m sp dvs E ta tNil):=by
 intro pins s σ H Q I h
 refine Es (pl:=pl) (thn (he pins s σ H _ I h) fun u s1 ⟨x,H1,I1,rx,a,dx,fs,ex,ea,l,q⟩=>?_) ht
 subst ex
 obtain rfl:u=Value.ref a:=rx
 refine kdV I1 ea c hm l ?_
 exact Dp (first:=[.ref a]) I1.kIn hm.kp (khG (us:=[.ref a]) (vs:=[.ref a]) F hr hb hd hx I1 (.cons rfl .nil) q)
structure Mk (K:Nt) (C f:Addr):Prop where
 makes:Md K C=true
 init:Nu K (.ref C) "__init__"=some (some (.ref f))
 fn:Mg K (.ref f)=true
 kp:NN K (.ref C)=true
theorem khF{pins:List (Addr×Obj)}{σ:St}{H:Hp}{s:Shared}{Q:VK}{us:List Value}{vs:List V}(M:Mk X.K C f)(F:FnOk X.prog X.w X.K X.mg X.base CX k f fd ps sp)(hr:Room (k+1) X.A)(hb:Binds X.K fd ps ds)(hd:Vals dvs ds)
  (hx:kdH CX X E) (I:Inv X pins σ H s) (r:Vals vs us)
  (h:∀x dx,H x=none→H dx=none→dx≠x→sp (.ref x::(vs++dvs)) (upd (upd H dx (.own x)) x (.ins C dx [])) (fun v H2=>v=.non∧Q (.ref x) H2) E):
  wpAny (model X.prog X.w) X.A (call (.ref C) us) (EP X pins σ Q) X.xe s:=by
 have hq:=h (s.heap.objs.size+1) s.heap.objs.size (I.hok.fresh (Ed _)) (I.hok.fresh (Nv _)) (NY (EV _))
 have I2:=Inv.made (C:=C) I
 have r2:Vals (V.ref (s.heap.objs.size+1)::(vs++dvs)) (Value.ref (s.heap.objs.size+1)::(us++ds)):=.cons rfl (r.append hd)
 have hl:(Value.ref (s.heap.objs.size+1)::us++ds).length=ps.length:=by
  have e:=r2.length
  rw[F.len _ _ _ _ hq] at e
  exact e.symm
 refine wpAny_call (kkw (f:=f) I.kIn M.makes M.init (beq_iff_eq.mp M.fn) (codeAny_mono (F.run _ X.stack _ _ ⟨Value.ref (s.heap.objs.size+1)::us,[]⟩ (Value.ref (s.heap.objs.size+1)::(us++ds)) _ _ E (hr.make C us [])
  (I2.env0.make C us []) (hb _ (Value.ref (s.heap.objs.size+1)::us) I2.kIn hl) r2 hq) fun r s' hq'=>?_))
 cases r with
 |error e=>exact hx pins σ _ _ e s' I2 hq'
 | ok fl=>
  cases fl with
  |ret u=>
   obtain⟨v,H',I3,rv,ev,q3⟩:=I2.after hq'
   subst ev
   exact⟨rv,⟨V.ref (s.heap.objs.size+1),H',I3,rfl,q3⟩⟩
  |next=>exact False.elim hq'
  |brk=>exact False.elim hq'
  |cont=>exact False.elim hq'
theorem kaT(M:Mk X.K C f)(F:FnOk X.prog X.w X.K X.mg X.base CX k f fd ps sp)(hr:Room (k+1) X.A)(hg:Gl X x)(hm:X.mg x=some (.ref C))(hb:Binds X.K fd ps ds)(hd:Vals dvs ds)(hx:kdH CX X E)
  (ha:PA X (e::es) t) (hdb:(x==("__debug__" :Str))=false:=by decide) (he:starEach (e::es) X.env=(false,eval e X.env)::starEach es X.env:=by rfl) (hpl:(backTo pos (starEach es X.env)).any (·.1)=false:=by rfl):
  PE X (.Call (.Name x p) (e::es) [] pos) (tMake C sp dvs E t):=by
 intro pins s σ H Q I h
 refine wpAny_Call_Name_kw (kdU I hg hm ?_ hdb)
 refine Ec (h₀:=X.base) I.ok.mod.kin M.kp (thn (ha pos pins s σ H _ I h) fun us s1 ⟨vs,H1,I1,r,q⟩=>⟨I1.kIn,?_⟩) he hpl
 exact khF M F hr hb hd hx I1 r q
theorem kkl(M:Mk X.K C f)(F:FnOk X.prog X.w X.K X.mg X.base CX k f fd ps sp)(hr:Room (k+1) X.A)(hg:Gl X x)(hm:X.mg x=some (.ref C))(hb:Binds X.K fd ps ds)(hd:Vals dvs ds)(hx:kdH CX X E)
  (hdb:(x==("__debug__" :Str))=false:=by decide):PE X (.Call (.Name x p) [] [] pos) (tMake C sp dvs E tNil):=by
 intro pins s σ H Q I h
 refine wpAny_Call_Name_kw (kdU I hg hm ?_ hdb)
 exact Dp I.kIn M.kp (khF (us:=[]) M F hr hb hd hx I .nil h)
end
section
variable {X:Cx} {CX:CXT} {k:Nat} {f C:Addr} {fd:FuncData} {ps ks:List Str} {sp:Sp} {E:XK} {x m:Str} {p pos apos kpos:Pos} {e o:Expr} {es:List Expr} {kws:List Keyword} {te ta:TE} {t tk:TA} {nm:Option Str}
variable {g:List Value→List Value→List Value} {gV:List V→List V→List V}
end
structure kao (N P:List Str) (sc:Scope):Prop where
 kind:sc.kind=.function
 co:sc.isCoroutine=false
 gen:sc.isGenerator=false
 nd:N.Nodup
 pre:N.take P.length=P
 par:∀x∈P,sc.names.lookup x=some .local∨sc.names.lookup x=some .cell
 nofree:∀y∈sc.names,y.2≠.free
theorem kgK{kindOf:Str→Option NameKind}{x:Str}:∀{binds:List (Str×Value)}{m:Str→Option Value},(∀v,(x,v)∉binds)→bindL kindOf binds m x=m x
 |[],_,_=>rfl
 | (n,v)::r,m,h=>by
  unfold bindL
  rw[kgK fun w hw=>h w (NP _ hw)]
  split
  ·have:x≠n:=by rintro rfl;exact h v NW
   simp[this]
  ·rfl
theorem kgM{kindOf:Str→Option NameKind}{x:Str}:∀{binds:List (Str×Value)}{m:Str→Option Value},(∀v,(x,v)∉binds)→bindC kindOf binds m x=m x
 |[],_,_=>rfl
 | (n,v)::r,m,h=>by
  unfold bindC
  rw[kgM fun w hw=>h w (NP _ hw)]
  split
  ·rfl
  ·have:x≠n:=by rintro rfl;exact h v NW
   simp[this]
theorem kgL{kindOf:Str→Option NameKind}{x:Str}{v:Value}:∀{P:List Str}{vs:List Value}{i:Nat}{m:Str→Option Value},P.Nodup→P[i]?=some x→vs[i]?=some v→kindOf x=some .local→
  bindL kindOf (P.zip vs) m x=some v
 |[],_,_,_,_,h,_,_=>by simp at h
 |_::_,[],_,_,_,_,h,_=>by simp at h
 |p::P,w::vs,0,m,nd,h1,h2,hk=>by
  simp at h1 h2;subst h1;subst h2
  show bindL kindOf ((p,w)::P.zip vs) m p=_
  unfold bindL
  rw[kgK fun v hv=>(Mw.mp nd).1 (MK hv).1,if_pos hk]
  simp
 |p::P,w::vs,i+1,m,nd,h1,h2,hk=>by
  show bindL kindOf ((p,w)::P.zip vs) m x=_
  unfold bindL
  exact kgL (i:=i) (Mw.mp nd).2 (by simpa using h1) (by simpa using h2) hk
theorem kgN{kindOf:Str→Option NameKind}{x:Str}{v:Value}:∀{P:List Str}{vs:List Value}{i:Nat}{m:Str→Option Value},P.Nodup→P[i]?=some x→vs[i]?=some v→kindOf x≠some .local→
  bindC kindOf (P.zip vs) m x=some v
 |[],_,_,_,_,h,_,_=>by simp at h
 |_::_,[],_,_,_,_,h,_=>by simp at h
 |p::P,w::vs,0,m,nd,h1,h2,hk=>by
  simp at h1 h2;subst h1;subst h2
  show bindC kindOf ((p,w)::P.zip vs) m p=_
  unfold bindC
  rw[kgM fun v hv=>(Mw.mp nd).1 (MK hv).1,if_neg hk]
  simp
 |p::P,w::vs,i+1,m,nd,h1,h2,hk=>by
  show bindC kindOf ((p,w)::P.zip vs) m x=_
  unfold bindC
  exact kgN (i:=i) (Mw.mp nd).2 (by simpa using h1) (by simpa using h2) hk
noncomputable def start(N:List Str)(vs:List V):St:=vs.map some++Nw (N.length-vs.length) none
noncomputable def cxOf(CX:CXT)(P:Program)(w:World)(K:Nt)(mg:Str→Option Value)(base:Heap)(N:List Str)(qual:Str)(scope:Scope)(f:Addr)(cd:Value)(A:Around)(outer:List Env)(s:Shared)(H:Hp)(E:XK):Cx where
 prog:=P
 w:=w
 K:=K
 mg:=mg
 base:=base
 A:=A.deeper (envOfC qual scope s.heap.objs.size f cd)
 N:=N
 s₀:=s
 H₀:=H
 env:=envOfC qual scope s.heap.objs.size f cd
 outer:=outer
 stack:=envOfC qual scope s.heap.objs.size f cd::outer
 ex:=[]
 calm:=true
 fn:=fun _=>true
 pn:=[]
 xe:=fun e s'=>wpAny (model P w) (A.deeper (envOfC qual scope s.heap.objs.size f cd)) (leaving (envOfC qual scope s.heap.objs.size f cd) e) (fun _ s''=>CX outer H s E e s'') (fun e' s''=>CX outer H s E e' s'') s'
def keo{sc:Scope}{n:Nat}{x:Str}(h:sc.names.lookup x=some .cell):∃c,(cellsFrom n sc.names []).lookup x=some c:=by
 have q:=Dq sc.names n [] (.inl h)
 exact EY.mp q
theorem kjE{CX:CXT}{P:Program}{w:World}{K:Nt}{mg:Str→Option Value}{base:Heap}{N ps:List Str}{qual:Str}{scope:Scope}{f:Addr}{cd:Value}{A:Around}{outer:List Env}{s s1:Shared}{H:Hp}{E:XK}{us:List Value}{vs:List V}
  (S:kao N ps scope) (hd:A.handled=none) (e0:Env0 P w K mg base A outer s H) (hl:vs.length=ps.length) (r:Vals vs us)
  (x:InCallC s s.heap.objs.size (bindL (envOfC qual scope s.heap.objs.size f cd).kindOf (ps.zip us) fun _=>none) (cellsFrom (s.heap.objs.size+1) scope.names []) (bindC (envOfC qual scope s.heap.objs.size f cd).kindOf (ps.zip us) fun _=>none) s1):
  Inv (cxOf CX P w K mg base N qual scope f cd A outer s H E) [] (start N vs) H s1:=by
 have hpl:ps.length≤N.length:=by have:=congrArg Et S.pre;rw[NH] at this;omega
 obtain⟨h1,tk,rfl,hk⟩:=x.done
 have noA:∀b:Addr,b∉(cxOf CX P w K mg base N qual scope f cd A outer s H E).ex:=fun b z=>absurd (show b∈([]:List Addr) from z) (by simp)
 refine⟨⟨e0.mod,S.kind,rfl,rfl,Nv _,fun y z c h1 h2=>?_,fun y hy=>?_,fun y c _ h=>?_,fun _=>hd,Around.frames_deeper e0.frames, .inr ⟨rfl,rfl⟩,fun b z=>absurd z (noA b),e0.bs,e0.bsz,fun b _ _=>noA b,fun b z=>absurd z (noA b),e0.funs,e0.frf⟩,
  rfl,e0.bare,Un.kept hk,⟨_,x.toInCall.ns,fun i y v h1 h2 h3=>?_⟩,fun y c h=>⟨_,x.cell y c h⟩,e0.hok.fresh (Nv _),fun y c h=>?_,fun p hp=>absurd (show p∈([]:List (Addr×Obj)) from hp) (by simp),e0.hok.kept hk,?_⟩
 ·exact name_of_addr x.apart (PySem.mem_of_lookup h1) (PySem.mem_of_lookup h2)
 ·have hy:scope.names.lookup y=some .cell∨scope.names.lookup y=some .free:=hy
  rcases hy with hy|hy
  ·exact keo hy
  ·exact absurd rfl (S.nofree _ (PySem.mem_of_lookup hy))
 ·exact NF (x.above y c (PySem.mem_of_lookup h))
 ·have hi:i<vs.length:=by
   unfold start at h2
   by_cases hi:i<vs.length
   ·exact hi
   ·rw[MZ (by simpa using hi)] at h2
    rw[EZ] at h2
    split at h2 <;> cases h2
  have ha:vs[i]?=some v:=by
   unfold start at h2
   rw[Ee (by simpa using hi),NC] at h2
   cases e:vs[i]? with
   |none=>rw[e] at h2;cases h2
   |some a=>rw[e] at h2;cases h2;rfl
  obtain⟨u,hu,rv⟩:=r.get ha
  have hp:ps[i]?=some y:=by
   rw[←S.pre,Dr (by omega)];exact h1
  have ndP:ps.Nodup:=by rw[←S.pre];exact S.nd.sublist (List.take_sublist _ _)
  refine⟨u,rv,?_⟩
  rcases S.par y (NA hp) with k|k
  ·exact .inl ⟨k,kgL ndP hp hu k⟩
  ·obtain⟨c,e⟩:=keo (n:=s.heap.objs.size+1) k
   refine .inr ⟨.inl k,c,e,?_⟩
   have q:=x.cell y c e
   rw[kgN ndP hp hu (by show scope.names.lookup y≠_;rw[k];decide)] at q
   exact q
 ·exact e0.hok.fresh (NF (x.above y c (PySem.mem_of_lookup h)))
 ·unfold start
  show _=N.length
  rw[NI,Nr,Mx]
  omega
theorem fn_of{CX:CXT}{P:Program}{w:World}{K:Nt}{mg:Str→Option Value}{base:Heap}{k:Nat}{f:Addr}{name qual:Str}{params:Arguments}{body:List Stmt}{scope:Scope}{dV kV doc pm cdv ct oc:Value}{an od:Option Addr}
  {osl:Array (Option Value)} {N ps:List Str} {sp:Sp} (lk:K.lookup f=some ⟨oc,od, .func (NM name qual params body scope dV kV doc pm an cdv ct),osl⟩) (hcd:Ma K cdv qual=true) (S:kao N ps scope)
  (len:∀vs H Q E,sp vs H Q E→vs.length=ps.length)
  (hbody:∀(A:Around)(outer:List Env)(s:Shared)(H:Hp)(vs:List V)(Q:VK)(E:XK),Room k (A.deeper (envOfC qual scope s.heap.objs.size f cdv))→sp vs H Q E→
   ∃t,PSs (cxOf CX P w K mg base N qual scope f cdv A outer s H E) body t∧t {nx:=fun _ H'=>Q .non H',rt:=Q} (start N vs) H):
  FnOk P w K mg base CX (k+1) f (NM name qual params body scope dV kV doc pm an cdv ct) ps sp:=by
 refine⟨len,fun A outer s H args us vs Q E hr e0 hb r hsp=>?_⟩
 have hl:=len _ _ _ _ hsp
 have KX:K.In s.heap:=e0.mod.kin.keeps fun b o e=>(e0.bs b o e).1
 have lim:s.heap.NoLimit:=e0.mod.nolimit.keeps fun b o e=>(e0.bs b o e).1
 have hkind:∀y∈ps.zip us,scope.names.lookup y.1=some .local∨(scope.names.lookup y.1=some .cell∧((cellsFrom (s.heap.objs.size+1) scope.names []).lookup y.1).isSome=true):=fun⟨n,v⟩ hy=>by
  rcases S.par n (MK hy).1 with q|q
  ·exact .inl q
  ·exact .inr ⟨q,Dq _ _ _ (.inl q)⟩
 refine codeAny_call_function hr.depth (KX _ _ lk) rfl S.co S.gen rfl (PySem.W.codeRec_of KX hcd) (hb _ _ _ _ ?_)
 refine wpAny_newFunctionEnv_cells S.kind hkind fun env he s1 x=>?_
 subst he
 refine⟨lim.keeps x.toInCall.keep,codeAny_func ?_⟩
 obtain⟨t,ht,hq⟩:=hbody A outer s H vs Q E (hr.deeper _) hsp
 have I:Inv (cxOf CX P w K mg base N qual scope f cdv A outer s H E) [] (start N vs) H s1:=kjE S hr.hd e0 hl r x
 refine wpAny_mono (ht [] s1 (start N vs) H _ I hq) (fun fl s' hs=>?_) fun e s' hs=>hs
 have fin:∀{σ':St}{H':Hp}{v:V}{u:Value},Inv (cxOf CX P w K mg base N qual scope f cdv A outer s H E) [] σ' H' s'→RelV v u→Q v H'→CE outer P w H s Q u s':=
  fun {σ' H' v u} J rv q=>⟨v,H',J.os,J.bare,J.base,J.hok,rv,q⟩
 cases fl with
 |ret u=>
  obtain⟨v,σ',H',J,rv,q⟩:=hs
  exact fin J rv q
 |next=>
  obtain⟨σ',H',J,q⟩:=hs
  exact fin (v:=V.non) (u:=Value.none) J rfl q
 |brk=>
  obtain⟨_,_,_,q⟩:=hs
  exact False.elim q
 |cont=>
  obtain⟨_,_,_,q⟩:=hs
  exact False.elim q
end L2
namespace L2
open PySem PySem.Spec PyProof.Rows
section
variable {X:Cx} {x:Str} {p pos:Pos} {e:Expr} {es:List Expr} {t:TA} {id T:String} {r:List V→Hp→VK→Prop}
noncomputable def tCB(r:List V→Hp→VK→Prop)(t:TA):TE:=fun σ H Q=>t σ H fun vs H1=>r vs H1 Q
theorem kau(hc:CallR X (.builtin id) r)(hg:Gl X x)(hm:X.mg x=none)(hv:bootBuiltins x=some (.builtin id))(ha:PA X (e::es) t)(hn:x≠"__name__":=by decide)(hdb:(x==("__debug__" :Str))=false:=by decide)
  (he:starEach (e::es) X.env=(false,eval e X.env)::starEach es X.env:=by rfl) (hpl:(backTo pos (starEach es X.env)).any (·.1)=false:=by rfl):PE X (.Call (.Name x p) (e::es) [] pos) (tCB r t):=by
 intro pins s σ H Q I h
 refine wpAny_Call_Name_kw (kdc I hg hm hv ?_ hn hdb)
 exact PyProof.Rows.callWith_builtin1 (thn (ha pos pins s σ H _ I h) fun us s1 ⟨vs,H1,I1,r1,q1⟩=>hc pins s1 σ H1 vs us Q I1 r1 q1) he hpl
theorem kaH(hc:CallR X (.type T) r)(hg:Gl X x)(hm:X.mg x=none)(hv:bootBuiltins x=some (.type T))(ha:PA X (e::es) t)(hn:x≠"__name__":=by decide)(hdb:(x==("__debug__" :Str))=false:=by decide)
  (he:starEach (e::es) X.env=(false,eval e X.env)::starEach es X.env:=by rfl) (hpl:(backTo pos (starEach es X.env)).any (·.1)=false:=by rfl):PE X (.Call (.Name x p) (e::es) [] pos) (tCB r t):=by
 intro pins s σ H Q I h
 refine wpAny_Call_Name_kw (kdc I hg hm hv ?_ hn hdb)
 exact PyProof.Rows.callWith_type1 (thn (ha pos pins s σ H _ I h) fun us s1 ⟨vs,H1,I1,r1,q1⟩=>hc pins s1 σ H1 vs us Q I1 r1 q1) he hpl
end
end L2
namespace HT
open PySem PyProof.Rows
section
open PySem.SeqAt
open PySem.AutoSeq1 (wpAny_loadPart')
open PySem.MeetsSeq PySem.MeetsSeq2 PySem.MeetsSeq3
end
section
variable {prog:Program} {w:World} {A:Around} {E:Value→Shared→Prop} {s:Shared}
noncomputable def sIx(n d:Nat):Option Int→Nat
 |none=>d
 |some v=>if v<0 then(v+(n:Int)).toNat else min v.toNat n
theorem sIx_none(n d:Nat):sIx n d none=d:=rfl
theorem sIx_nat(n d k:Nat):sIx n d (some (k:Int))=min k n:=by
 show(if(k:Int)<0 then((k:Int)+(n:Int)).toNat else min (k:Int).toNat n)=min k n
 rw[if_neg (by omega),Int.toNat_natCast]
end
end HT
namespace L2
open PySem PySem.Spec PyProof.Rows
noncomputable abbrev TO:=St→Hp→(Option Int→Hp→Prop)→Prop
noncomputable def PO(X:Cx)(e:Option Expr)(t:TO):Prop:=
 ∀(pins:List (Addr×Obj))(s:Shared)(σ:St)(H:Hp)(Q:Option Int→Hp→Prop),Inv X pins σ H s→t σ H Q→
  wpAny (model X.prog X.w) X.A (evalPart e X.env) (fun u s'=>∃o H',Inv X pins σ H' s'∧IsPart u o∧Q o H') X.xe s
noncomputable def klE:TO:=fun _ H Q=>Q none H
noncomputable def tPart(t:TE):TO:=fun σ H Q=>t σ H fun x H1=>∃i,x=.int i∧Q (some i) H1
theorem intsAre_of{ns:List Int}:∀{us:List Value},Vals (ns.map V.int) us→IntsAre us ns:=by
 induction ns with
 |nil=>intro us r;rw[E1] at r;cases r;exact .nil
 | cons n ns ih=>
  intro us r
  rw[NJ] at r
  cases r with
  |cons r1 r2=>
   obtain⟨t,e⟩:=r1
   subst e
   exact .cons n t (ih r2)
section
variable {X:Cx} {e:Expr} {te:TE} {lo hi:Option Expr} {tl th:TO} {pos p2:Pos}
theorem kfH:PO X none klE:=by
 intro pins s σ H Q I h
 rw[evalPart_none]
 exact wpAny_pure ⟨none,H,I, .none,h⟩
theorem kcQ(h:PE X e te):PO X (some e) (tPart te):=by
 intro pins s σ H Q I hw
 rw[evalPart_some]
 refine thn (h pins s σ H _ I hw) fun u s1 ⟨x,H1,I1,r1,q1⟩=>?_
 obtain⟨i,rfl,q⟩:=q1
 obtain⟨t,rfl⟩:=r1
 exact⟨some i,H1,I1, .int i t,q⟩
noncomputable def SlR(X:Cx)(r:V→Option Int→Option Int→Hp→VK→Prop):Prop:=
 ∀(pins:List (Addr×Obj))(s:Shared)(σ:St)(H:Hp)(x:V)(v vl vu:Value)(lo hi:Option Int)(sl:Addr)(Q:VK),Inv X pins σ H s→RelV x v→s.heap.IsSliceOf sl vl vu .none→IsPart vl lo→IsPart vu hi→r x lo hi H Q→
  ∃T id,typeLookup (.type T) "__getitem__"=pure (some (.builtin id))∧s.TypeIs v T∧wpAny (model X.prog X.w) X.A (getItem v (.ref sl)) (EP X pins σ Q) X.xe s
theorem SlR.or{r r':V→Option Int→Option Int→Hp→VK→Prop}(h:SlR X r)(h':SlR X r'):SlR X (fun x lo hi H Q=>r x lo hi H Q∨r' x lo hi H Q):=by
 intro pins s σ H x v vl vu lo hi sl Q I rx hs pl pu q
 rcases q with q|q
 ·exact h pins s σ H x v vl vu lo hi sl Q I rx hs pl pu q
 ·exact h' pins s σ H x v vl vu lo hi sl Q I rx hs pl pu q
noncomputable def tSl(r:V→Option Int→Option Int→Hp→VK→Prop)(te:TE)(tl th:TO):TE:=fun σ H Q=>te σ H fun x H1=>tl σ H1 fun l H2=>th σ H2 fun u H3=>r x l u H3 Q
theorem kc2{r:V→Option Int→Option Int→Hp→VK→Prop}(hr:SlR X r)(he:PE X e te)(hl:PO X lo tl)(hu:PO X hi th):PE X (.Subscript e (.Slice lo hi none p2) pos) (tSl r te tl th):=by
 intro pins s σ H Q I h
 refine Subscript_ (thn (he pins s σ H _ I h) fun v s1 ⟨x,H1,I1,r1,q1⟩=>?_)
 refine wpAny_Slice (thn (hl pins s1 σ H1 _ I1 q1) fun vl s2 ⟨l,H2,I2,pl,q2⟩=>thn (hu pins s2 σ H2 _ I2 q2) fun vu s3 ⟨u,H3,I3,pu,q3⟩=>?_)
 rw[evalPart_none]
 refine wpAny_pure ?_
 have I4:Inv X pins σ H3 {s3 with heap:=s3.heap.push {cls:=.type "slice",data:=.fields #[vl,vu, .none]}}:=I3.kept (t':=s3.toks) fun b ob q=>Heap.get?_push_of_some _ q
 obtain⟨T,id,hT,ht,hg⟩:=hr pins {s3 with heap:=s3.heap.push {cls:=.type "slice",data:=.fields #[vl,vu, .none]}} σ H3 x v vl vu l u s3.heap.objs.size Q I4 r1 (Heap.IsSliceOf.new ..) pl pu q3
 show wpAny (model X.prog X.w) X.A (subscriptTail e (.Slice lo hi none p2) v (.ref s3.heap.objs.size)) (EP X pins σ Q) X.xe {s3 with heap:=s3.heap.push {cls:=.type "slice",data:=.fields #[vl,vu, .none]}}
 exact tail_any (ops:=[.ref s3.heap.objs.size,v]) ht hT hg (by with_unfolding_all rfl)
noncomputable def cutV(xs:List V)(lo hi:Option Int):List V:=(xs.drop (HT.sIx xs.length 0 lo)).take (HT.sIx xs.length xs.length hi-HT.sIx xs.length 0 lo)
theorem khh(xs:List V)(lo hi:Option Int):(cutV xs lo hi).length≤xs.length:=by
 unfold cutV
 rw[NH,Ef]
 omega
end
end L2
namespace L2
open PySem PySem.Spec PyProof.Rows
noncomputable def ixN(n:Nat)(i:Int):Option Nat:=if 0≤i then(if i<n then some i.toNat else none) else if -(n:Int)≤i then some (i+n).toNat else none
noncomputable def atI{α:Type}(xs:List α)(i:Int):Option α:=(ixN xs.length i).bind fun j=>xs[j]?
def kjB{n:Nat}{i:Int}{j:Nat}(h:ixN n i=some j):seqIndex? i n=some j∧j<n∧-(n:Int)≤i∧i<n:=by
 unfold ixN at h
 by_cases h0:0≤i
 ·rw[if_pos h0] at h
  by_cases h1:i<n
  ·rw[if_pos h1] at h
   have e:i.toNat=j:=Option.some.inj h
   exact⟨by rw[seqIndex_of h0 h1,e],by omega,by omega,h1⟩
  ·rw[if_neg h1] at h;cases h
 ·rw[if_neg h0] at h
  by_cases h1: -(n:Int)≤i
  ·rw[if_pos h1] at h
   have e:(i+n).toNat=j:=Option.some.inj h
   exact⟨by rw[seqIndex_neg (by omega) h1,e],by omega,h1,by omega⟩
  ·rw[if_neg h1] at h;cases h
theorem kj7{α:Type}{xs:List α}{i:Int}{v: α}(h:atI xs i=some v):∃j,seqIndex? i xs.length=some j∧xs[j]?=some v∧j<xs.length∧-(xs.length:Int)≤i∧i<xs.length:=by
 unfold atI at h
 cases e:ixN xs.length i with
 |none=>rw[e] at h;cases h
 |some j=>
  rw[e] at h
  obtain⟨h1,h2,h3,h4⟩:=kjB e
  exact⟨j,h1,h,h2,h3,h4⟩
def kaU{α:Type}{xs:List α}{j:Nat}{v: α}(h:xs[j]?=some v):atI xs (j:Int)=some v:=by
 have hj:j<xs.length:=(NG.mp h).1
 have e:ixN xs.length (j:Int)=some j:=by
  unfold ixN
  rw[if_pos (by omega),if_pos (by omega)];simp
 unfold atI;rw[e];exact h
noncomputable def kml(b:Expr):Prop:=∀o i,subscripted b false o i=operate [o,i] (getItem o i)
noncomputable def IxR(X:Cx)(r:R2):Prop:=
 ∀(value slice:Expr)(pins:List (Addr×Obj))(s:Shared)(σ:St)(H:Hp)(x y:V)(v u:Value)(Q:VK),Inv X pins σ H s→RelV x v→RelV y u→r x y H Q→
  subscripted slice false v u=operate [v,u] (getItem v u)→wpAny (model X.prog X.w) X.A (subscriptTail value slice v u) (EP X pins σ Q) X.xe s
noncomputable def MtR(X:Cx)(id:String)(r:V→List V→Hp→VK→Prop):Prop:=
 ∀(pins:List (Addr×Obj))(s:Shared)(σ:St)(H:Hp)(x:V)(xs:List V)(v:Value)(us:List Value)(Q:VK),Inv X pins σ H s→RelV x v→Vals xs us→r x xs H Q→
  wpAny (model X.prog X.w) X.A (call (.builtin id) (v::us)) (EP X pins σ Q) X.xe s
section
variable {X:Cx} {a b:Expr} {ta tb:TE} {pos:Pos}
theorem IxR.or{r r':R2}(h:IxR X r)(h':IxR X r'):IxR X (fun x y H Q=>r x y H Q∨r' x y H Q):=by
 intro value slice pins s σ H x y v u Q I rx ry q hs
 rcases q with q|q
 ·exact h value slice pins s σ H x y v u Q I rx ry q hs
 ·exact h' value slice pins s σ H x y v u Q I rx ry q hs
theorem MtR.or{id:String}{r r':V→List V→Hp→VK→Prop}(h:MtR X id r)(h':MtR X id r'):MtR X id (fun x xs H Q=>r x xs H Q∨r' x xs H Q):=by
 intro pins s σ H x xs v us Q I rx rs q
 rcases q with q|q
 ·exact h pins s σ H x xs v us Q I rx rs q
 ·exact h' pins s σ H x xs v us Q I rx rs q
theorem pe_ix{r:R2}(hr:IxR X r)(ha:PE X a ta)(hb:PE X b tb)(hs:kml b):PE X (.Subscript a b pos) (tOp r ta tb):=by
 intro pins s σ H Q I h
 exact Subscript_ (binT ha hb I h fun v u s2 x y H2 I2 rx ry q=>hr a b pins s2 σ H2 x y v u Q I2 rx ry q (hs _ _))
noncomputable def rIxL(K:Nt):R2:=fun x y H Q=>∃p xs i v,x=.ref p∧y=.int i∧SqL K H p xs∧atI xs i=some v∧Q v H
noncomputable def rIxT(K:Nt):R2:=fun x y H Q=>∃p xs i v,x=.ref p∧y=.int i∧SqT K H p xs∧atI xs i=some v∧Q v H
theorem kaC:IxR X (rIxL X.K):=by
 intro value slice pins s σ H x y v u Q I rx ry h hs
 obtain⟨p,xs,i,z,rfl,rfl,hq,he,q⟩:=h
 cases rx
 obtain⟨t,rfl⟩:=ry
 obtain⟨its,r,pl,hz⟩:=I.list hq
 obtain⟨j,h1,h2,h3,h4,h5⟩:=kj7 he
 obtain⟨w,ew,rw'⟩:=r.get h2
 have hl:=r.length
 have hn:=kgA
 have fin:EP X pins σ Q w s:=⟨z,H,I,rw',q⟩
 by_cases h0:0≤i
 ·have hj:i.toNat=j:=by
   rw[seqIndex_of h0 h5] at h1
   exact Option.some.inj h1
  exact item_listR pl.isList h0 (by omega) (by rw[hj];simpa using ew) fin hs
 ·have hj:(i+(its.toArray.size:Int)).toNat=j:=by
   rw[seqIndex_neg (by omega) h4] at h1
   rw[NS,←hl]
   exact Option.some.inj h1
  exact subscriptTail_builtinR (x:=w) pl.isList.typeIs slot_list_getitem.lookup
   (wpAny_getItem_list_neg (Q:=fun r s'=>r=w∧EP X pins σ Q r s') pl.isList (by omega) (by rw[NS] <;> omega) (by omega) (by rw[hj];simpa using ew) ⟨rfl,fin⟩) hs
theorem keU:IxR X (rIxT X.K):=by
 intro value slice pins s σ H x y v u Q I rx ry h hs
 obtain⟨p,xs,i,z,rfl,rfl,hq,he,q⟩:=h
 cases rx
 obtain⟨t,rfl⟩:=ry
 obtain⟨its,r,pl,hz⟩:=I.tuple hq
 obtain⟨j,h1,h2,h3,h4,h5⟩:=kj7 he
 obtain⟨w,ew,rw'⟩:=r.get h2
 have hl:=r.length
 have hn:=kgA
 have fin:EP X pins σ Q w s:=⟨z,H,I,rw',q⟩
 exact subscriptTail_builtinR (x:=w) pl.typeIs slot_tuple_getitem.lookup
  (getItem_tuple (j:=j) (Q:=fun r s'=>r=w∧EP X pins σ Q r s') pl (by omega) (by omega) (by rw[NS,←hl];exact h1) (by simpa using ew) ⟨rfl,fin⟩) hs
theorem kim(its:List Value)(n j:Nat)(u:Value):Obj.mapSeq (·.setIfInBounds j u) {cls:=.type "list",data:=.seq its.toArray n}= {cls:=.type "list",data:=.seq (its.set j u).toArray n}:=by
 simp[Obj.mapSeq]
theorem Inv.lst{pins:List (Addr×Obj)}{σ:St}{H:Hp}{s:Shared}{p:Addr}{xs:List V}(I:Inv X pins σ H s)(h:H p=some (.lst xs)):
  ∃(its:List Value)(n:Nat),Vals xs its∧s.heap.get? p=some {cls:=.type "list",data:=.seq its.toArray n}∧xs.length≤sizeLine:=by
 obtain⟨z,its,n,r,e⟩:=I.hok p _ h
 exact⟨its,n,r,e,z⟩
theorem Inv.lstUpd{pins:List (Addr×Obj)}{σ:St}{H:Hp}{s:Shared}{p:Addr}{xs ys:List V}{its its':List Value}{n n':Nat}{f:Obj→Obj}(I:Inv X pins σ H s)(h:H p=some (.lst xs))
  (ho:s.heap.get? p=some {cls:=.type "list",data:=.seq its.toArray n}) (hf:f {cls:=.type "list",data:=.seq its.toArray n}= {cls:=.type "list",data:=.seq its'.toArray n'}) (r:Vals ys its') (hz:ys.length≤sizeLine) (t:Nat):
  Inv X pins σ (upd H p (.lst ys)) {s with heap:=s.heap.update p f,toks:=t}:=by
 have e:(s.heap.update p f).get? p=some {cls:=.type "list",data:=.seq its'.toArray n'}:=by
  rw[Heap.get?_update_self f ho (by rw[hf] <;> rfl),hf]
 refine I.write (x:=p) (e:=p) (by rw[h];trivial) (.inl rfl) (fun b u hb q=>(Heap.get?_update_other _ _ (Ne.symm hb)).trans q) ⟨_,e⟩ ?_
 exact⟨hz,its',n',r,e⟩
noncomputable def rSetL:V→V→V→Hp→(Hp→Prop)→Prop:=fun o i v H Q=>∃p xs k j,o=.ref p∧i=.int k∧H p=some (.lst xs)∧ixN xs.length k=some j∧Q (upd H p (.lst (xs.set j v)))
theorem set_list:PSet X rSetL:=by
 intro pins s σ H o i v ov iv u Q I ro ri rv h
 obtain⟨p,xs,k,j,rfl,rfl,hp,hj,q⟩:=h
 cases ro
 obtain⟨t,rfl⟩:=ri
 obtain⟨its,n,r,ho,hz⟩:=I.lst hp
 obtain⟨h1,h2,h3,h4⟩:=kjB hj
 have hl:=r.length
 have hn:=kgA
 have I':Inv X pins σ (upd H p (.lst (xs.set j v))) {s with heap:=s.heap.update p (Obj.mapSeq (·.setIfInBounds j u))}:=
  I.lstUpd hp ho (kim its n j u) (r.set rv j) (by rw[M0];exact hz) s.toks
 by_cases h0:0≤k
 ·have hk:k.toNat=j:=by
   rw[seqIndex_of h0 h4] at h1
   exact Option.some.inj h1
  exact PySem.W.ki_setAt ho h0 (by omega) (by rw[NS,←hl];exact h4) (by rw[hk];exact⟨_,I',q⟩)
 ·have hk:(k+(its.toArray.size:Int)).toNat=j:=by
   rw[seqIndex_neg (by omega) h3] at h1
   rw[NS,←hl]
   exact Option.some.inj h1
  exact PySem.W.ki_setBack ho (by omega) (by rw[NS,←hl];exact h3) (by omega) (by rw[hk];exact⟨_,I',q⟩)
theorem kgk(lo hi:Option Int)(n:Nat):(sliceBounds lo hi none n).1=((HT.sIx n 0 lo:Nat):Int)∧(sliceBounds lo hi none n).2.1=((HT.sIx n n hi:Nat):Int)∧(sliceBounds lo hi none n).2.2=1:=by
 refine⟨?_,?_,rfl⟩
 ·cases lo with
  |none=>simp[sliceBounds,HT.sIx]
  |some i=>
   simp only[sliceBounds,HT.sIx,E2,show(1:Int) > 0 by decide,if_true]
   by_cases h:i<0
   ·simp only[h,if_true] <;> omega
   ·simp only[h,if_false] <;> omega
 ·cases hi with
  |none=>simp[sliceBounds,HT.sIx]
  |some i=>
   simp only[sliceBounds,HT.sIx,E2,show(1:Int) > 0 by decide,if_true]
   by_cases h:i<0
   ·simp only[h,if_true] <;> omega
   ·simp only[h,if_false] <;> omega
theorem kfy(its:List Value)(lo hi:Option Int):slicePick its.toArray lo hi none=((its.drop (HT.sIx its.length 0 lo)).take (HT.sIx its.length its.length hi-HT.sIx its.length 0 lo)).toArray:=by
 obtain⟨h1,h2,h3⟩:=kgk lo hi its.toArray.size
 unfold slicePick
 rw[h1,h2,h3]
 simp only[sliceRange_one,pick_run,NS] <;> rfl
noncomputable def rSlL(K:Nt):V→Option Int→Option Int→Hp→VK→Prop:=fun x lo hi H Q=>∃a xs,x=.ref a∧SqL K H a xs∧∀p,H p=none→Q (.ref p) (upd H p (.lst (cutV xs lo hi)))
theorem kdK:SlR X (rSlL X.K):=by
 intro pins s σ H x v vl vu lo hi sl Q I rx hs pl pu h
 obtain⟨a,xs,rfl,hx,q⟩:=h
 cases rx
 obtain⟨its,r,ht,hz⟩:=I.list hx
 have hlen:=r.length
 refine⟨"list",_,slot_list_getitem.lookup,ht.isList.typeIs,?_⟩
 refine wpAny_getItem_list_slice ht.isList hs pl pu .none (by simp) ?_ (by rw[NS] <;> omega)
 rw[kfy,←hlen]
 refine⟨.ref s.heap.objs.size,_,I.laid (t':=s.toks) (o:=.lst (cutV xs lo hi)) (fun b ob q=>Heap.get?_push_of_some _ q) (Nv _) ?_,rfl,q _ (I.hok.fresh (Nv _))⟩
 exact⟨Nx (khh xs lo hi) hz,_,0,(r.drop (HT.sIx xs.length 0 lo)).take (HT.sIx xs.length xs.length hi-HT.sIx xs.length 0 lo),Heap.get?_push_size _ rfl⟩
noncomputable def flatV:V→Bool
 | .non=>true
 | .bl _=>true
 | .int _=>true
 | .str _=>true
 |_=>false
noncomputable def eqV:V→V→Bool
 | .non, .non=>true
 | .bl a, .bl b=>a==b
 | .bl a, .int b=>(if a then 1 else 0)==b
 | .int a, .bl b=>a==(if b then 1 else 0)
 | .int a, .int b=>a==b
 | .str a, .str b=>a==b
 |_,_=>false
theorem kjV{A:Around}{s:Shared}{y x:V}{u v:Value}(ry:RelV y u)(rx:RelV x v)(fy:flatV y=true)(fx:flatV x=true):SeqAt.EqAt A s u v (eqV y x):=by
 cases y with
 |non=>
  cases ry
  cases x with
  |non=>cases rx;exact SeqAt.EqAt.same _
  |bl b=>cases rx;exact SeqAt.EqAt.none_bool b
  |int b=>obtain⟨t,rfl⟩:=rx;exact SeqAt.EqAt.none_int b t
  |str b=>obtain⟨t,rfl⟩:=rx;exact SeqAt.EqAt.none_str b t
  |_=>exact absurd (show false=true from fx) ND
 |bl a=>
  cases ry
  cases x with
  |non=>cases rx;exact SeqAt.EqAt.bool_none a
  |bl b=>cases rx;exact SeqAt.EqAt.bool_bool a b
  |int b=>obtain⟨t,rfl⟩:=rx;exact SeqAt.EqAt.bool_int a b t
  |str b=>obtain⟨t,rfl⟩:=rx;exact SeqAt.EqAt.bool_str a b t
  |_=>exact absurd (show false=true from fx) ND
 |int a=>
  obtain⟨t',rfl⟩:=ry
  cases x with
  |non=>cases rx;exact SeqAt.EqAt.int_none a t'
  |bl b=>cases rx;exact SeqAt.EqAt.int_bool a t' b
  |int b=>obtain⟨t,rfl⟩:=rx;exact SeqAt.EqAt.int_int a t' b t
  |str b=>obtain⟨t,rfl⟩:=rx;exact SeqAt.EqAt.int_str a t' b t
  |_=>exact absurd (show false=true from fx) ND
 |str a=>
  obtain⟨t',rfl⟩:=ry
  cases x with
  |non=>cases rx;exact SeqAt.EqAt.str_none a t'
  |bl b=>cases rx;exact SeqAt.EqAt.str_bool a t' b
  |int b=>obtain⟨t,rfl⟩:=rx;exact SeqAt.EqAt.str_int a t' b t
  |str b=>obtain⟨t,rfl⟩:=rx;exact SeqAt.EqAt.str_str a t' b t
  |_=>exact absurd (show false=true from fx) ND
 |_=>exact absurd (show false=true from fy) ND
noncomputable def eqU(x:V)(u:Value):Bool:=match u with
 | .none=>eqV .non x
 | .bool b=>eqV (.bl b) x
 | .int i _=>eqV (.int i) x
 | .str z _=>eqV (.str z) x
 |_=>false
theorem klo{x y:V}{u:Value}(r:RelV y u)(f:flatV y=true):eqU x u=eqV y x:=by
 cases y with
 |non=>cases r;rfl
 |bl b=>cases r;rfl
 |int i=>obtain⟨t,rfl⟩:=r;rfl
 |str z=>obtain⟨t,rfl⟩:=r;rfl
 |_=>exact absurd (show false=true from f) ND
theorem ke2{x:V}:∀{xs:List V}{us:List Value},Vals xs us→xs.all flatV=true→us.any (eqU x)=xs.any fun y=>eqV y x
 |_,_, .nil,_=>rfl
 |y::xs,u::us, .cons r t,f=>by
  rw[E3,Ms] at f
  rw[MC,MC,klo r f.1,ke2 t f.2]
theorem kdz{A:Around}{s:Shared}{x:V}{v:Value}(rx:RelV x v)(fx:flatV x=true):∀{xs:List V}{us:List Value},Vals xs us→xs.all flatV=true→∀u∈us,SeqAt.EqAt A s u v (eqU x u)
 |_,_, .nil,_=>fun u hu=>by cases hu
 |y::xs,u::us, .cons r t,f=>fun u' hu=>by
  rw[E3,Ms] at f
  rcases NO.mp hu with rfl|hu
  ·rw[klo r f.1];exact kjV r rx f.1 fx
  ·exact kdz rx fx t f.2 u' hu
noncomputable def inV(x:V)(xs:List V):Bool:=xs.any fun y=>eqV y x
noncomputable def rIn(K:Nt)(neg:Bool):R2:=fun x y H Q=>∃p xs,y=.ref p∧(SqL K H p xs∨SqT K H p xs)∧flatV x=true∧xs.all flatV=true∧Q (.bl (if neg then !inV x xs else inV x xs)) H
theorem kcS:OpR X (compareOp .In) (rIn X.K false):=by
 intro pins s σ H x y v u Q I rx ry h
 obtain⟨p,xs,rfl,hq,fx,fs,q⟩:=h
 cases ry
 rcases hq with hq|hq
 ·obtain⟨its,r,pl,hz⟩:=I.list hq
  refine SeqAt.in_listAt (eqU x) pl.isList (fun w hw=>kdz rx fx r fs w (by simpa using hw)) ⟨.bl _,H,I,rfl,?_⟩
  rw[show its.toArray.any (eqU x)=its.any (eqU x) by simp,ke2 r fs]
  exact q
 ·obtain⟨its,r,pl,hz⟩:=I.tuple hq
  refine SeqAt.in_tupleAt (eqU x) pl (fun w hw=>kdz rx fx r fs w (by simpa using hw)) ⟨.bl _,H,I,rfl,?_⟩
  rw[show its.toArray.any (eqU x)=its.any (eqU x) by simp,ke2 r fs]
  exact q
theorem kgt:OpR X (compareOp .NotIn) (rIn X.K true):=by
 intro pins s σ H x y v u Q I rx ry h
 obtain⟨p,xs,rfl,hq,fx,fs,q⟩:=h
 cases ry
 rcases hq with hq|hq
 ·obtain⟨its,r,pl,hz⟩:=I.list hq
  refine SeqAt.notIn_listAt (eqU x) pl.isList (fun w hw=>kdz rx fx r fs w (by simpa using hw)) ⟨.bl _,H,I,rfl,?_⟩
  rw[show its.toArray.any (eqU x)=its.any (eqU x) by simp,ke2 r fs]
  exact q
 ·obtain⟨its,r,pl,hz⟩:=I.tuple hq
  refine SeqAt.notIn_tupleAt (eqU x) pl (fun w hw=>kdz rx fx r fs w (by simpa using hw)) ⟨.bl _,H,I,rfl,?_⟩
  rw[show its.toArray.any (eqU x)=its.any (eqU x) by simp,ke2 r fs]
  exact q
theorem kax:CallR X (.builtin "len") (fun xs H Q=>∃p ys,xs=[.ref p]∧(SqL X.K H p ys∨SqT X.K H p ys)∧Q (.int ys.length) H):=by
 intro pins s σ H xs us Q I r h
 obtain⟨p,ys,rfl,hq,q⟩:=h
 obtain⟨u,rfl,rx⟩:=vals1 r
 cases rx
 have hn:=kgA
 rcases hq with hq|hq
 ·obtain⟨its,r',pl,hz⟩:=I.list hq
  have hlen:=r'.length
  exact Calls.call_len_list pl.isList (by simp only[NS] <;> omega) ⟨.int ys.length,H,I.tok _,⟨s.toks+1,by rw[NS,hlen]⟩,q⟩
 ·obtain⟨its,r',pl,hz⟩:=I.tuple hq
  have hlen:=r'.length
  exact len_tuple pl (by simp only[NS] <;> omega) ⟨.int ys.length,H,I.tok _,⟨s.toks+1,by rw[NS,hlen]⟩,q⟩
theorem CallR.or{f:Value}{r r':List V→Hp→VK→Prop}(h:CallR X f r)(h':CallR X f r'):CallR X f (fun xs H Q=>r xs H Q∨r' xs H Q):=by
 intro pins s σ H xs us Q I rs q
 rcases q with q|q
 ·exact h pins s σ H xs us Q I rs q
 ·exact h' pins s σ H xs us Q I rs q
theorem kaB:CallR X (.type "list") (fun xs H Q=>∃p ys,xs=[.ref p]∧(SqL X.K H p ys∨SqT X.K H p ys)∧∀l,H l=none→Q (.ref l) (upd H l (.lst ys))):=by
 intro pins s σ H xs us Q I r h
 obtain⟨p,ys,rfl,hq,q⟩:=h
 obtain⟨u,rfl,rx⟩:=vals1 r
 cases rx
 have fin:∀(its:List Value),Vals ys its→ys.length≤sizeLine→∀(h':Heap)(c':Nat),(∀b o',s.heap.get? b=some o'→h'.get? b=some o')→
   h'.get? s.heap.objs.size=some {cls:=.type "list",dict:=none,data:=.seq its.toArray c',slots:=#[]}→EP X pins σ Q (.ref s.heap.objs.size) {s with heap:=h'}:=fun its r' hz h' c' kp e=>
  ⟨.ref s.heap.objs.size,_,I.laid (t':=s.toks) kp (Nv _) (show ObjOk X.prog X.w _ h' _ (.lst ys) from⟨hz,its,c',r',e⟩),rfl,q _ (I.hok.fresh (Nv _))⟩
 rcases hq with hq|hq
 ·obtain⟨its,r',pl,hz⟩:=I.list hq
  have hlen:=r'.length
  obtain⟨o,ho,hc,n,hd⟩:=pl.isList
  exact call_list_seq p (.inl rfl) ho hc hd (fun h' c' kp e=>fin its r' hz h' c' kp e) (by simp only[NS] <;> omega)
 ·obtain⟨its,r',pl,hz⟩:=I.tuple hq
  have hlen:=r'.length
  obtain⟨o,ho,hc,n,hd⟩:=pl
  exact call_list_seq p (.inr rfl) ho hc hd (fun h' c' kp e=>fin its r' hz h' c' kp e) (by simp only[NS] <;> omega)
noncomputable def tyV(K:Nt)(T:String)(x:V)(H:Hp):Prop:=match x with
 | .str _=>T="str"
 | .int _=>T="int"
 | .ref p=>(T="list"∧∃xs,SqL K H p xs)∨(T="tuple"∧∃o,K.lookup p=some o∧o.cls=.type "tuple"∧o.dict=none)∨
   (T="dict"∧((∃kvs,H p=some (.dK kvs))∨∃kvs,H p=some (.dT kvs)))∨(T="set"∧∃S n,H p=some (.set S n))
 |_=>False
theorem kix{pins:List (Addr×Obj)}{σ:St}{H:Hp}{s:Shared}{T:String}{x:V}{v:Value}(I:Inv X pins σ H s)(r:RelV x v)(ty:tyV X.K T x H):
  s.TypeIs v T∧∀a,v=.ref a→∃ob,s.heap.get? a=some ob∧ob.dict=none:=by
 cases x with
 |str z=>
  obtain⟨t,rfl⟩:=r
  cases(show T="str" from ty)
  exact⟨typeIs_str s z t,fun _ e=>nomatch e⟩
 |int i=>
  obtain⟨t,rfl⟩:=r
  cases(show T="int" from ty)
  exact⟨typeIs_int s i t,fun _ e=>nomatch e⟩
 | ref p=>
  cases r
  rcases ty with⟨rfl,xs,hq⟩|⟨rfl,o,hk,hc,hd⟩|⟨rfl,hk⟩|⟨rfl,S,n,hk⟩
  ·obtain⟨its,_,pl,_⟩:=I.list hq
   refine⟨pl.isList.typeIs,fun a e=>?_⟩
   cases e
   obtain⟨o,n,e,c,hd,_⟩:=pl
   exact⟨o,e,hd⟩
  ·refine⟨⟨o,I.kIn p o hk,hc⟩,fun a e=>?_⟩
   cases e
   exact⟨o,I.kIn _ o hk,hd⟩
  ·have z:∃o,s.heap.get? p=some o∧o.ExactDict:=by
    rcases hk with⟨kvs,hk⟩|⟨kvs,hk⟩
    ·obtain⟨_,_,_,_,o,_,_,e,ex,_⟩:=I.hok p _ hk
     exact⟨o,e,ex⟩
    ·obtain⟨_,_,_,_,o,_,_,e,ex,_⟩:=I.hok p _ hk
     exact⟨o,e,ex⟩
   obtain⟨o,e,ex⟩:=z
   refine⟨⟨o,e,ex.1⟩,fun a e2=>?_⟩
   cases e2
   exact⟨o,e,ex.2.1⟩
  ·obtain⟨o,_,_,_,e,ex,_⟩:=I.hok p _ hk
   refine⟨⟨o,e,ex.1⟩,fun a e2=>?_⟩
   cases e2
   exact⟨o,e,ex.2.1⟩
 |_=>exact False.elim ty
noncomputable def tBM0(K:Nt)(T:String)(r:V→List V→Hp→VK→Prop)(to:TE):TE:=fun σ H Q=>to σ H fun x H1=>tyV K T x H1∧r x [] H1 Q
noncomputable def tBM(K:Nt)(T:String)(r:V→List V→Hp→VK→Prop)(to:TE)(t:TA):TE:=fun σ H Q=>to σ H fun x H1=>tyV K T x H1∧t σ H1 fun xs H2=>r x xs H2 Q
variable {o e:Expr} {es:List Expr} {to:TE} {t:TA} {name:Str} {apos cpos:Pos} {T id:String} {r:V→List V→Hp→VK→Prop}
theorem kmx(pa:PlainAttrs T)(slot:Slot T name id)(hty:typeOf (.builtin id)=pure (.type "method_descriptor"))(hm:MtR X id r)(ho:PE X o to)
  (hbase:attributeBase o name X.env (eval o X.env)=eval o X.env:=by rfl) (hline:(apos.endLine==cpos.line)=true:=by rfl):PE X (.Call (.Attribute o name apos) [] [] cpos) (tBM0 X.K T r to):=by
 intro pins s σ H Q I h
 refine wpAny_Call_method0_late hbase hline (thn (ho pins s σ H _ I h) fun v s1 ⟨x,H1,I1,r1,ty,q1⟩=>?_)
 obtain⟨h1,h2⟩:=kix I1 r1 ty
 exact⟨T,id,pa,slot,hty,h1,h2,Calls.callWith_builtin rfl (PySem.evalArgs_none (hm pins s1 σ H1 x [] v [] Q I1 r1 .nil q1))⟩
theorem pe_bm(pa:PlainAttrs T)(slot:Slot T name id)(hty:typeOf (.builtin id)=pure (.type "method_descriptor"))(hm:MtR X id r)(ho:PE X o to)(ha:PA X (e::es) t)
  (hbase:attributeBase o name X.env (eval o X.env)=eval o X.env:=by rfl)
  (hfew:((backTo cpos (starEach (e::es) X.env)).all (fun x=>!x.1)&&(backToKw cpos (keywordEach [] X.env)).all (fun x=>x.1.isSome)
   &&decide ((e::es).length+([]:List Keyword).length+(if([]:List Keyword).isEmpty then 0 else 1)<30))=true:=by rfl)
  (hline:(apos.endLine==cpos.line)=true:=by rfl) (hs:starEach (e::es) X.env=(false,eval e X.env)::starEach es X.env:=by rfl) (hplain:(backTo cpos (starEach es X.env)).any (·.1)=false:=by rfl):
  PE X (.Call (.Attribute o name apos) (e::es) [] cpos) (tBM X.K T r to t):=by
 intro pins s σ H Q I h
 refine wpAny_Call_method_late hbase hfew hline rfl (thn (ho pins s σ H _ I h) fun v s1 ⟨x,H1,I1,r1,ty,q1⟩=>?_)
 obtain⟨h1,h2⟩:=kix I1 r1 ty
 refine⟨T,id,pa,slot,hty,h1,h2,?_⟩
 have hA:=ha cpos pins s1 σ H1 _ I1 q1
 rw[hs] at hA⊢
 refine Calls.callWith_builtin (by show(false||(backTo cpos (starEach es X.env)).any (·.1))=false;rw[hplain] <;> rfl) (Calls.evalArgs_plain ?_)
 exact thn hA fun us s2 ⟨vs,H2,I2,r2,q2⟩=>hm pins s2 σ H2 x vs v us Q I2 r1 r2 q2
end
end L2
namespace L2
open PySem PySem.Spec PyProof.Rows
noncomputable def MtM(X:Cx)(id:String)(r:V→List V→Hp→VK→Prop):Prop:=
 ∀(pins:List (Addr×Obj))(s:Shared)(σ:St)(H:Hp)(x:V)(xs:List V)(v:Value)(us:List Value)(Q:VK),Inv X pins σ H s→RelV x v→Vals xs us→r x xs H Q→
  wpAny (model X.prog X.w) X.A (call (.builtin id) (v::us)) (EP X pins σ Q) X.xe s
theorem Vals.one:∀{x:V}{us:List Value},Vals [x] us→∃u,us=[u]∧RelV x u
 |_,_, .cons r .nil=>⟨_,rfl,r⟩
theorem Vals.two:∀{x y:V}{us:List Value},Vals [x,y] us→∃u v,us=[u,v]∧RelV x u∧RelV y v
 |_,_,_, .cons r (.cons q .nil)=>⟨_,_,rfl,r,q⟩
theorem Vals.zero:∀{us:List Value},Vals [] us→us=[]
 |_, .nil=>rfl
theorem Vals.dropLast{xs:List V}{us:List Value}(h:Vals xs us):Vals xs.dropLast us.dropLast:=by
 induction h with
 |nil=>exact .nil
 |cons r t ih=>
  cases t with
  |nil=>exact .nil
  |cons q t'=>exact .cons r ih
theorem Vals.eraseIdx:∀{xs:List V}{us:List Value}(i:Nat),Vals xs us→Vals (xs.eraseIdx i) (us.eraseIdx i)
 |_,_,_, .nil=>.nil
 |_,_,0, .cons _ t=>t
 |_,_,i+1, .cons r t=>.cons r (Vals.eraseIdx i t)
theorem Vals.reverse{xs:List V}{us:List Value}(h:Vals xs us):Vals xs.reverse us.reverse:=by
 induction h with
 |nil=>exact .nil
 |cons r t ih=>rw[Eu,Eu];exact Vals.append ih (.cons r .nil)
theorem Vals.rep{xs:List V}{us:List Value}(h:Vals xs us):∀k:Nat,Vals (Nw k xs).flatten (Nw k us).flatten
 |0=>.nil
 |k+1=>by
  rw[My,My,NZ,NZ]
  exact Vals.append h (Vals.rep h k)
theorem kis{α:Type}(l:List α):l.eraseIdx (l.length-1)=l.dropLast:=by
 induction l with
 |nil=>rfl
 | cons a r ih=>
  cases r with
  |nil=>rfl
  | cons b r=>
   have e:(a::b::r).length-1=((b::r).length-1)+1:=by
    have h1:(a::b::r).length=r.length+2:=rfl
    have h2:(b::r).length=r.length+1:=rfl
    omega
   rw[e,List.eraseIdx_cons_succ,ih]
   all_goals rfl
theorem foldl_rep(its:List Value):∀(k:Nat)(acc:List Value),
  List.foldl (fun x1 x2=>x1++x2) acc.toArray (Nw k its.toArray)=(acc++(Nw k its).flatten).toArray
 |0,acc=>by simp
 | k+1,acc=>by
  have e:acc.toArray++its.toArray=(acc++its).toArray:=by simp
  have e2:(acc++its)++(Nw k its).flatten=acc++(Nw (k+1) its).flatten:=by
   rw[My,NZ,Mj]
  rw[←e2,←foldl_rep its k (acc++its),←e,My,List.foldl_cons]
section
variable {X:Cx} {pins:List (Addr×Obj)} {σ:St} {H:Hp} {s:Shared} {l b:Addr} {xs ys zs:List V}
theorem Inv.lset{its its':List Value}{n:Nat}{f:Array Value→Array Value}{t':Nat}(I:Inv X pins σ H s)(hH:H l=some (.lst xs))
  (e:s.heap.get? l=some {cls:=.type "list",data:=.seq its.toArray n}) (hf:f its.toArray=its'.toArray) (hv:Vals ys its') (hz:ys.length≤sizeLine):
  Inv X pins σ (upd H l (.lst ys)) {s with heap:=s.heap.update l (Obj.mapSeq f),toks:=t'}:=by
 have q:=PySem.IsL.update e f
 rw[hf] at q
 refine I.write (x:=l) (e:=l) (by rw[hH];exact trivial) (.inl rfl) (fun b' u hb hu=>(Heap.get?_update_other s.heap (Obj.mapSeq f) (Ne.symm hb)).trans hu) ⟨_,q⟩ ?_
 exact⟨hz,its',_,hv,q⟩
theorem Inv.lnew{its:List Value}{t':Nat}(I:Inv X pins σ H s)(hv:Vals ys its)(hz:ys.length≤sizeLine):
  Inv X pins σ (upd H s.heap.objs.size (.lst ys)) {s with heap:=s.heap.push {cls:=.type "list",data:=.seq its.toArray},toks:=t'}:=
 I.laid (fun _ _ q=>Heap.get?_push_of_some _ q) (Nv _) ⟨hz,its,0,hv,Heap.get?_push_size _ rfl⟩
theorem Inv.fresh(I:Inv X pins σ H s):H s.heap.objs.size=none:=I.hok.fresh (Nv _)
theorem Inv.lstM(I:Inv X pins σ H s)(hH:H l=some (.lst xs)):xs.length≤sizeLine∧∃(its:List Value)(n:Nat),Vals xs its∧xs.length=its.length∧s.heap.get? l=some {cls:=.type "list",data:=.seq its.toArray n}:=by
 obtain⟨z,its,n,r,e⟩:=I.hok l _ hH
 exact⟨z,its,n,r,r.length,e⟩
theorem khU{n:Nat}(h:n≤sizeLine):Builtin.List.listTooLong n=false:=by
 unfold Builtin.List.listTooLong
 exact decide_eq_false (by omega)
end
section
variable {X:Cx}
noncomputable def ki4:V→List V→Hp→VK→Prop:=fun x vs H Q=>∃l xs y,x=.ref l∧vs=[y]∧H l=some (.lst xs)∧xs.length<sizeLine∧Q .non (upd H l (.lst (xs++[y])))
theorem ka5:MtM X "list.append" ki4:=by
 intro pins s σ H x vs v us Q I rx rv h
 obtain⟨l,xs,y,rfl,rfl,hH,hz,q⟩:=h
 cases rx
 obtain⟨u,rfl,ru⟩:=rv.one
 obtain⟨z,its,n,r,hl,e⟩:=I.lstM hH
 refine call_meets F.slot_list_append ⟨_,e,rfl⟩ F.entry_list_append (F.args_list_append_2 _ _) (PySem.list_append l its.toArray n u (by rw[NS];omega)) ⟨e,?_⟩
 refine⟨.non,_,I.lset (its':=its++[u]) hH e (by simp) (r.append (.cons ru .nil)) ?_,rfl,q⟩
 rw[NI,E4]
 omega
noncomputable def klQ:V→List V→Hp→VK→Prop:=fun x vs H Q=>∃l b xs zs,x=.ref l∧vs=[.ref b]∧H l=some (.lst xs)∧H b=some (.lst zs)∧xs.length+zs.length≤sizeLine∧Q .non (upd H l (.lst (xs++zs)))
theorem keP:MtM X "list.extend" klQ:=by
 intro pins s σ H x vs v us Q I rx rv h
 obtain⟨l,b,xs,zs,rfl,rfl,hH,hB,hz,q⟩:=h
 cases rx
 obtain⟨u,rfl,ru⟩:=rv.one
 cases ru
 obtain⟨z,its,n,r,hl,e⟩:=I.lstM hH
 obtain⟨z2,its2,n2,r2,hl2,e2⟩:=I.lstM hB
 have hsz:its.toArray.size+its2.toArray.size≤sizeLine:=by rw[NS,NS];omega
 have hlong:¬(!its.toArray.isEmpty&&Builtin.List.listTooLong (its.toArray.size+its2.toArray.size))=true:=by
  rw[khU hsz,ML]
  exact ND
 refine call_meets F.slot_list_extend ⟨_,e,rfl⟩ F.entry_list_extend (F.args_list_extend_2 _ _)
  (AutoSeq1.list_extend_list_list_0 l its.toArray n b its2.toArray n2 hlong (by rw[NS];omega) (by omega)) ⟨e,e2,?_⟩
 refine⟨.non,_,I.lset (its':=its++its2) hH e (by simp) (r.append r2) ?_,rfl,q⟩
 rw[NI]
 omega
noncomputable def rPop:V→List V→Hp→VK→Prop:=fun x vs H Q=>∃l xs y,x=.ref l∧vs=[]∧H l=some (.lst xs)∧xs[xs.length-1]?=some y∧Q y (upd H l (.lst xs.dropLast))
theorem kmF:MtM X "list.pop" rPop:=by
 intro pins s σ H x vs v us Q I rx rv h
 obtain⟨l,xs,y,rfl,rfl,hH,hy,q⟩:=h
 cases rx
 have hus:=rv.zero
 subst hus
 obtain⟨z,its,n,r,hl,e⟩:=I.lstM hH
 obtain⟨u,hu,ru⟩:=r.get hy
 have hy':its.toArray[its.toArray.size-1]?=some u:=by
  show its.toArray[its.length-1]?=some u
  rw[←Dt,←hl]
  exact hu
 refine call_meets F.slot_list_pop ⟨_,e,rfl⟩ F.entry_list_pop (F.args_list_pop_1 _) (MeetsSeq.list_pop_last l its.toArray n u hy' (by rw[NS];omega)) ⟨e,?_⟩
 refine⟨y,_,I.lset (its':=its.dropLast) hH e ?_ r.dropLast ?_,ru,q⟩
 ·show its.toArray.eraseIdxIfInBounds (its.toArray.size-1)=its.dropLast.toArray
  rw[NS,List.eraseIdxIfInBounds_toArray,kis]
 ·rw[E5]
  omega
noncomputable def rCat:R2:=fun x y H Q=>∃l b xs zs,x=.ref l∧y=.ref b∧H l=some (.lst xs)∧H b=some (.lst zs)∧xs.length+zs.length≤sizeLine∧∀p,H p=none→Q (.ref p) (upd H p (.lst (xs++zs)))
theorem keH:OpR X (binaryOp .Add) rCat:=by
 intro pins s σ H x y v u Q I rx ry h
 obtain⟨l,b,xs,zs,rfl,rfl,hH,hB,hz,q⟩:=h
 cases rx
 cases ry
 obtain⟨z,its,n,r,hl,e⟩:=I.lstM hH
 obtain⟨z2,its2,n2,r2,hl2,e2⟩:=I.lstM hB
 refine PySem.P.add_list e e2 ?_ (by rw[NS,NS];omega)
 have ea:its.toArray++its2.toArray=(its++its2).toArray:=by simp
 rw[ea]
 exact⟨.ref _,_,I.lnew (t':=s.toks) (r.append r2) (by rw[NI];omega),rfl,q _ I.fresh⟩
noncomputable def rRep:R2:=fun x y H Q=>∃l k xs,x=.ref l∧y=.int k∧H l=some (.lst xs)∧-(2 ^ 63)≤k∧k<2 ^ 63∧xs.length*k.toNat≤sizeLine∧
 ∀p,H p=none→Q (.ref p) (upd H p (.lst (Nw k.toNat xs).flatten))
theorem len_rep{α:Type}(xs:List α)(k:Nat):(Nw k xs).flatten.length=k*xs.length:=by
 induction k with
 |zero=>simp
 |succ k ih=>rw[My,NZ,NI,ih,Nat.succ_mul,Nat.add_comm]
theorem kjk:OpR X (binaryOp .Mult) rRep:=by
 intro pins s σ H x y v u Q I rx ry h
 obtain⟨l,k,xs,rfl,rfl,hH,h1,h2,hz,q⟩:=h
 cases rx
 obtain⟨t,rfl⟩:=ry
 obtain⟨z,its,n,r,hl,e⟩:=I.lstM hH
 have hlen:its.toArray.size*k.toNat≤sizeLine:=by rw[NS,←hl];exact hz
 have hcap:¬its.toArray.size*k.toNat > (2 ^ 63-1)/8:=by
  have:(sizeLine:Nat)≤(2 ^ 63-1)/8:=by decide
  omega
 have hfit:¬(!Builtin.List.listFitsIndex k)=true:=by
  rw[fitsIndex_both h1 h2]
  exact ND
 have hlong:¬Builtin.List.listTooLong (its.toArray.size*k.toNat)=true:=by
  rw[khU hlen]
  exact ND
 have hnew:List.foldl (fun x1 x2=>x1++x2) #[] (Nw (if its.toArray.isEmpty=true then 0 else k.toNat) its.toArray)=(Nw k.toNat its).flatten.toArray:=by
  have f0:∀m:Nat,List.foldl (fun x1 x2=>x1++x2) #[] (Nw m its.toArray)=(Nw m its).flatten.toArray:=fun m=>by
   have:=foldl_rep its m []
   rw[Eg] at this
   exact this
  rw[f0]
  cases its with
  |nil=>simp
  |cons a r'=>rw[if_neg (by simp)]
 refine wpAny_binaryOp_repeat_ref (T:="list") (U:="int") (by decide) ⟨_,e,rfl⟩ (fun s'=>typeIs_int s' k t) noFill_list_mul F.fills_int_mul F.slot_int_rmul repeat_list F.slot_int_index.lookup
  (call_meets F.slot_int_rmul (typeIs_int s k t) F.entry_int_rmul (F.args_int_rmul_2 _ _) (int___rmul___int_list k t l its.toArray n)
   ⟨e,rfl,⟨_,e,rfl⟩,call_meets F.slot_list_mul ⟨_,e,rfl⟩ F.entry_list_mul (F.args_list_mul_2 _ _) (AutoListH.list___mul___list_int_3 l its.toArray n k t hfit hcap hlong) ⟨e,?_⟩⟩)
 rw[hnew]
 exact⟨.ref _,_,I.lnew (t':=s.toks) (r.rep k.toNat) (by rw[len_rep,Nat.mul_comm];exact hz),rfl,q _ I.fresh⟩
end
section
variable {prog:Program} {w:World} {A:Around} {E:Value→Shared→Prop} {s:Shared}
set_option maxRecDepth 100000 in
end
section
variable {X:Cx}
end
end L2
namespace Att
open PySem PySem.W PySem.Calls PyProof.Rows
theorem keV{P:Params}{h:Heap}:∀(ns:List Int)(vs:List Value),WellAll P h vs (ns.map WData.int)→IntsAre vs ns:=by
 intro ns
 induction ns with
 |nil=>
  intro vs w
  rw[E1] at w
  cases w
  exact .nil
 | cons n ns ih=>
  intro vs w
  rw[NJ] at w
  cases w with
  |cons a b=>
   cases a
   exact .cons _ _ (ih _ b)
theorem kiY{l:OpenLaw}{n:Nat}(hn:l.most=some n){P:Params}{h:Heap}{args:List WData}{vals:List Value}
  (hpre:l.row.toRowW.claim.pre args=true) (hwl:WellAll P h vals args):
  ∃a vs ns,vals=[Value.ref a]∧args=[WData.list (ns.map WData.int)]∧h.get? a=some {cls:=.type "list",data:=.seq vs.toArray}∧IntsAre vs ns∧ns.length≤n:=by
 have hsh:WShape.hasAll [] args [.list .int]=true:=(pre_splitW hpre).1
 have hc:l.pre.holds [] {args:=args}=true:=(pre_splitW hpre).2
 obtain⟨d,r,rfl,h1,h2⟩:=hasAllW_cons hsh
 obtain rfl:=hasAllW_nil h2
 obtain⟨xs,rfl,h3⟩:=hasW_list h1
 obtain⟨ns,rfl⟩:=items_int h3
 have hlen:ns.length≤n:=by
  unfold OpenLaw.pre at hc
  have h4:(WTm.not (.lt (.lit (.int (n:Int))) (.len (.arg 0)))).holds [] {args:=[.list (ns.map .int)]}=true:=by
   have h4:=(holds_andW hc).1
   rw[hn] at h4
   exact h4
  have h5:=condW_of h4 (w_not (w_lt w_lit (w_len_list (w_arg rfl))))
  rw[Nr] at h5
  refine Nat.le_of_not_lt fun q=>?_
  have q':(n:Int)<((ns.length:Nat):Int):=by omega
  first
   |(rw[decide_eq_true q'] at h5;exact absurd h5 (by decide))
   |(simp at h5;omega)
 cases hwl with
 |cons w1 w2=>
  cases w2
  cases w1 with
  |list ho hall=>exact⟨_,_,ns,rfl,rfl,ho,keV ns _ hall,hlen⟩
def kjc(l:OpenLaw)(args:List WData):l.row.toRowW.claim.post args (.bool true) args=true:=
 postW_of (r:=l.row.toRowW) (X:=(true==true))
  (show WShape.has [] (.bool true) .bool=true by first|rfl|decide|simp[WShape.has,WShape.arms,WShape.armsAll])
  (show(WTm.eq .res (.lit (.bool true))).value [] {args:=args,res:=some (.bool true),after:=args}=some (.bool (true==true)) from w_eq_bool (w_res rfl) w_lit) rfl
theorem attach_call{l:OpenLaw}{n:Nat}{q:Program}{loose:List Str}{XP:(Str→Option Value)→Heap→Prop}{YP:World→Heap→Prop}{d:DefRec}
  (hn:l.most=some n) (hdf:d.params.defaults=[])
  (call:∀(w:World)(s₀ s₁:Shared)(mg mb:Str→Option Value)(fa:Addr)(o:Obj)(pm cd doc:Value)(a:Addr)(vs:List Value)(ns:List Int),
   Ground q loose [] XP w s₀ mg mb s₁.heap→YP w s₁.heap→
   s₁.heap.get? fa=some o→o.data=.func (docDef d.name d.params d.body d.scope pm cd doc)→s₁.heap.CodeRec cd d.name→mg d.name=some (.ref fa)→
   s₁.heap.get? a=some {cls:=.type "list",data:=.seq vs.toArray}→IntsAre vs ns→ns.length≤n→s₁.gens= #[]→
   codeAny (model l.prog w) callerA (.call (.ref fa) ⟨[.ref a],[]⟩) (fun r s'=>r=.ok (.ret (.bool true))∧OldK s₁.heap s'.heap∧s'.os=s₁.os∧AllBare s'.gens) s₁):
  WalkO q loose XP YP l.row.toRowW d [] (fun f vs=>PySem.call f vs):=by
 intro w s₀ s₁ mg mb G Y fa o pm cd doc dV kV ho hd hcd hD hmg hg args vals as hpre hlay hrd hwl hlo
 obtain rfl:dV=.none:=Dflts.none hD hdf
 obtain rfl:kV=.none:=Dflts.noKw hD
 obtain⟨a,vs,ns,rfl,rfl,hobj,hints,hlen⟩:=kiY hn hpre hwl
 refine enter_call (codeAny_mono (call w s₀ s₁ mg mb fa o pm cd doc a vs ns G Y ho (fd_plain hd) hcd hmg hobj hints hlen hg) fun r s' hq=>?_)
 obtain⟨rfl,h2,h3,h4⟩:=hq
 exact⟨.inl ⟨.bool true, .bool true,[],rfl,fun _=>rfl, .bool true,kjc l _,fun _=>⟨M1.nil,fun _ hm=>(nomatch hm)⟩⟩,h2,h3,h4⟩
section
variable {prog:Program} {w:World} {A:Around} {E:Value→Shared→Prop} {s:Shared} {K:Frag}
end
end Att
namespace L2
open PySem PySem.Spec PyProof.Rows
theorem kf9:∀{vs:List Value}{ns:List Int},IntsAre vs ns→Vals (ns.map V.int) vs
 |_,_, .nil=>.nil
 |_,_, .cons n t h=>.cons ⟨t,rfl⟩ (kf9 h)
end L2
namespace L2
open PySem PySem.Spec PyProof.Rows
end L2
namespace L2
open PySem PySem.Spec PyProof.Rows
noncomputable def inClass(s:Stmt)(j:Nat):Stmt:=match s with
 | .ClassDef _ _ _ body _ _ _ _ _ _ _=>body.getD j (.Pass ⟨0,0,0,0⟩)
 |_=>.Pass ⟨0,0,0,0⟩
noncomputable def kaD(s:Stmt):Arguments:=match s with
 | .FunctionDef _ a _ _ _ _ _ _ _ _=>a
 |_=>{posonlyargs:=[],args:=[],vararg:=none,kwonlyargs:=[],kw_defaults:=[],kwarg:=none,defaults:=[]}
noncomputable def kaA(s:Stmt):List Stmt:=match s with
 | .FunctionDef _ _ b _ _ _ _ _ _ _=>b
 |_=>[]
noncomputable def kag(s:Stmt):Scope:=match s with
 | .FunctionDef _ _ _ _ _ _ sc _ _ _=>sc
 |_=>{kind:=.function,names:=[],isGenerator:=false,isCoroutine:=false}
noncomputable abbrev CX0:CXT:=fun _ _ _ _ _ _=>False
noncomputable abbrev E0:XK:=fun _ _ _=>False
def pass0{X:Cx}:kdH CX0 X E0:=fun _ _ _ _ _ _ _ h=>h.elim
structure Fun (K:Nt) (x qual:Str) (st:Stmt) (f:Addr) (fd:FuncData):Prop where
 ex:∃(oc:Value)(od:Option Addr)(kV doc pm:Value)(an:Option Addr)(cdv ct:Value)(osl:Array (Option Value)),
  fd=NM x qual (kaD st) (kaA st) (kag st) .none kV doc pm an cdv ct∧K.lookup f=some ⟨oc,od, .func fd,osl⟩∧Ma K cdv qual=true
 kp:NN K (.ref f)=true
section
variable {P:Program} {w:World} {K:Nt} {mg:Str→Option Value} {base:Heap}
theorem Fun.ok{x qual:Str}{st:Stmt}{f:Addr}{fd:FuncData}{N ps:List Str}{k:Nat}{sp:Sp}(F:Fun K x qual st f fd)(S:kao N ps (kag st))(len:∀vs H Q E,sp vs H Q E→vs.length=ps.length)
  (hbody:∀(cdv:Value)(A:Around)(outer:List Env)(s:Shared)(H:Hp)(vs:List V)(Q:VK)(E:XK),Room k (A.deeper (envOfC qual (kag st) s.heap.objs.size f cdv))→sp vs H Q E→
   ∃t,PSs (cxOf CX0 P w K mg base N qual (kag st) f cdv A outer s H E).nox (kaA st) t∧t {nx:=fun _ H'=>Q .non H',rt:=Q} (start N vs) H):FnOk P w K mg base CX0 (k+1) f fd ps sp:=by
 obtain⟨oc,od,kV,doc,pm,an,cdv,ct,osl,rfl,lk,hcd⟩:=F.ex
 refine fn_of lk hcd S len fun A outer s H vs Q E hr hsp=>?_
 obtain⟨t,h,q⟩:=hbody cdv A outer s H vs Q E hr hsp
 exact⟨t,h.nox,q⟩
theorem Fun.binds{x qual:Str}{st:Stmt}{f:Addr}{fd:FuncData}{ps:List Str}(F:Fun K x qual st f fd)
  (h:∀(kV doc pm:Value)(an:Option Addr)(cdv ct:Value)(us:List Value),us.length=ps.length→bindArgs (NM x qual (kaD st) (kaA st) (kag st) .none kV doc pm an cdv ct) ⟨us,[]⟩=pure (ps.zip us)):Binds K fd ps []:=by
 obtain⟨oc,od,kV,doc,pm,an,cdv,ct,osl,rfl,lk,hcd⟩:=F.ex
 exact .all (h kV doc pm an cdv ct)
end
def kan{n:Nat}(h:n≤1000):n<sizeLine:=MD h (by decide)
section
variable {X:Cx}
theorem pv(i:Nat){x:Str}{pos:Pos}(hN:X.N[i]?=some x:=by rfl)(hv:Vis X.env.scope x:=by first|exact Or.inl rfl|exact Or.inr (Or.inl rfl)|exact Or.inr (Or.inr rfl))(hd:(x==("__debug__" :Str))=false:=by decide)
  (hcd:(x==("__classdict__" :Str))=false:=by decide):PE X (.Name x pos) (tVar i):=kmu hN hv hd hcd
end
def iteF{A B:Prop}(h:B):if false=true then A else B:=by
 rw[if_neg ND]
 exact h
def iteT{A B:Prop}(h:A):if true=true then A else B:=by
 rw[if_pos rfl]
 exact h
def ite2{c A B:Prop} [Decidable c] (h1:c→A) (h2:¬c→B):if c then A else B:=by
 by_cases h:c
 ·rw[if_pos h]
  exact h1 h
 ·rw[if_neg h]
  exact h2 h
end L2
set_option maxHeartbeats 4000000
namespace L3
end L3
namespace L2
open PySem PySem.Spec PyProof.Rows
section
variable {X:Cx}
theorem log2_small{n:Nat}(h:n<2 ^ 200):n.log2<9000:=by
 by_cases h0:n=0
 ·subst h0
  decide
 ·have h1:n.log2<200:=(Nat.log2_lt h0).mpr h
  omega
noncomputable def CDivB(_ j:Int):Prop:=0<j∧j<2 ^ 199
theorem kkp:OpR X (binaryOp .FloorDiv) (rI CDivB fun i j=>.int (i/j)):=opI fun i j _ _ _ _ _ hc q=>by
 have h1:(0:Int)<j:=hc.1
 have h2:j<2 ^ 199:=hc.2
 have h3:j.natAbs<2 ^ 200:=by omega
 exact floordiv_int (by omega) (by rw[Int.fdiv_eq_ediv_of_nonneg i (by omega)];exact q) (.inl (PyProof.noPylong_of_log2 (log2_small h3)))
theorem kbO(hc:X.calm=true):CallR X (.builtin "sum") (fun xs H Q=>∃(p:Addr)(ns:List Int),xs=[.ref p]∧SqL X.K H p (ns.map V.int)∧Q (.int ns.sum) H):=by
 intro pins s σ H xs us Q I r h
 obtain⟨p,ns,rfl,hq,q⟩:=h
 obtain⟨u,rfl,rx⟩:=vals1 r
 cases rx
 obtain⟨its,r',pl,hz⟩:=I.list hq
 have hi:IntsAre its ns:=intsAre_of r'
 have ha:=hi.allInts
 obtain⟨zs,hx⟩:=ha.items
 have hl:=pl.isList
 rw[hx] at hl
 refine sum_intListG (I.ok.hd hc) hl fun h' tk t' hk=>⟨.int ns.sum,H,I.kept hk,⟨t',?_⟩,q⟩
 have e2:preSum (numAt zs) zs.size=(numsOf (intItems zs).toList).sum:=by
  rw[nums_intItems,preSum_eq,Ml (by simp)]
 have e3:numsOf its.toArray.toList=ns:=hi.numsOf
 rw[e2,←hx,e3]
noncomputable def eqVs:List V→List V→Bool
 |[],[]=>true
 |x::xs,y::ys=>eqV x y&&eqVs xs ys
 |_,_=>false
theorem kh8:∀{xs ys:List V},xs.length≠ys.length→eqVs xs ys=false
 |[],[],h=>absurd rfl h
 |[],_::_,_=>rfl
 |_::_,[],_=>rfl
 |x::xs,y::ys,h=>by
  show(eqV x y&&eqVs xs ys)=false
  rw[kh8 (fun e=>h (by simp[e])),ML]
theorem kfd:∀(xs ys:List V),xs.length=ys.length→(NB xs.length).all (fun j=>eqV (xs.getD j .non) (ys.getD j .non))=eqVs xs ys
 |[],[],_=>rfl
 |[],_::_,h=>by simp at h
 |_::_,[],h=>by simp at h
 |x::xs,y::ys,h=>by
  have ih:=kfd xs ys (by simpa using h)
  show(NB (xs.length+1)).all _=(eqV x y&&eqVs xs ys)
  rw[List.range_succ_eq_map,E3,List.all_map]
  show(eqV x y&&_)=_
  rw[←ih]
  rfl
theorem kkM:∀{x:V},flatV x=true→eqV x x=true
 | .non,_=>rfl
 | .bl b,_=>by simp[eqV]
 | .int i,_=>by simp[eqV]
 | .str z,_=>by simp[eqV]
noncomputable def rEqL(K:Nt)(neg:Bool):R2:=fun x y H Q=>∃a b xs ys,x=.ref a∧y=.ref b∧SqL K H a xs∧SqL K H b ys∧xs.all flatV=true∧ys.all flatV=true∧Q (.bl (if neg then !eqVs xs ys else eqVs xs ys)) H
theorem kjP{xs:List V}(h:xs.all flatV=true){j:Nat}(hj:j<xs.length):flatV xs[j]=true:=by
 rw[Ew] at h
 exact h _ (List.getElem_mem hj)
theorem kmd{A:Around}{s:Shared}{xs ys:List V}{us ws:List Value}(r:Vals xs us)(q:Vals ys ws)(fx:xs.all flatV=true)(fy:ys.all flatV=true):
  ∀j (h1:j<us.toArray.size) (h2:j<ws.toArray.size),SeqAt.EqAt A s us.toArray[j] ws.toArray[j] (eqV (xs.getD j .non) (ys.getD j .non)):=by
 intro j h1 h2
 have l1:=r.length
 have l2:=q.length
 have h1':j<us.length:=by simpa using h1
 have h2':j<ws.length:=by simpa using h2
 have k1:j<xs.length:=by omega
 have k2:j<ys.length:=by omega
 obtain⟨u,e1,r1⟩:=r.get (i:=j) (x:=xs[j]) (by simp[k1])
 obtain⟨w,e2,r2⟩:=q.get (i:=j) (x:=ys[j]) (by simp[k2])
 have g1:us.toArray[j]=u:=by
  have:=NG.mp e1
  obtain⟨_,e⟩:=this
  simpa using e
 have g2:ws.toArray[j]=w:=by
  have:=NG.mp e2
  obtain⟨_,e⟩:=this
  simpa using e
 have d1:xs.getD j .non=xs[j]:=by simp[k1]
 have d2:ys.getD j .non=ys[j]:=by simp[k2]
 rw[g1,g2,d1,d2]
 exact kjV r1 r2 (kjP fx k1) (kjP fy k2)
theorem kmC(hu:X.A.units<cLine):OpR X (compareOp .Eq) (rEqL X.K false):=by
 intro pins s σ H x y v u Q I rx ry h
 obtain⟨a,b,xs,ys,rfl,rfl,hx,hy,fx,fy,q⟩:=h
 cases rx
 cases ry
 obtain⟨us,r1,p1,z1⟩:=I.list hx
 obtain⟨ws,r2,p2,z2⟩:=I.list hy
 have l1:=r1.length
 have l2:=r2.length
 by_cases hl:xs.length=ys.length
 ·refine SeqAt.eq_listAt p1.isList p2.isList (by simp;omega) hu (kmd r1 r2 fx fy) ⟨.bl (eqVs xs ys),H,I,?_,q⟩
  have e:us.toArray.size=xs.length:=by simp[l1]
  rw[e,kfd xs ys hl]
  rfl
 ·refine SeqAt.eq_list_lengthsAt p1.isList p2.isList (by simp;omega) hu ⟨.bl (eqVs xs ys),H,I,?_,q⟩
  rw[kh8 hl]
  rfl
noncomputable def cV:V→Value
 | .ty n=>.type n
 | .ref a=>.ref a
 |_=>.none
theorem kb3:CallR X (.builtin "isinstance") (fun xs H Q=>∃x c t b,xs=[x,c]∧((∃n,c=.ty n)∨∃a,c=.ref a)∧TyOf X.K H x t∧NL X.K t (cV c)=some b∧Q (.bl b) H):=by
 intro pins s σ H xs us Q I r h
 obtain⟨x,c,t,b,rfl,hc,ty,e,q⟩:=h
 obtain⟨u,w',rfl,r1,r2⟩:=vals2 r
 have ew:w'=cV c:=by
  rcases hc with⟨n,rfl⟩|⟨a,rfl⟩
  ·exact r2
  ·exact r2
 subst ew
 exact kjD I r1 ty e fun tk=>⟨.bl b,H,I.tok tk,rfl,q⟩
theorem b_isi:bootBuiltins "isinstance"=some (.builtin "isinstance"):=by decide +kernel
theorem b_int:bootBuiltins "int"=some (.type "int"):=by decide +kernel
theorem kbD:bootBuiltins "list"=some (.type "list"):=by decide +kernel
theorem b_sum:bootBuiltins "sum"=some (.builtin "sum"):=by decide +kernel
theorem b_min:bootBuiltins "min"=some (.builtin "min"):=by decide +kernel
theorem b_max:bootBuiltins "max"=some (.builtin "max"):=by decide +kernel
theorem b_len:bootBuiltins "len"=some (.builtin "len"):=by decide +kernel
theorem kc4(K:Nt)(t:Value):NL K t t=some true:=by
 unfold NL
 rw[if_pos (by simp)]
noncomputable def tCut(t:TS):TS:=fun D σ H=>∃P:St→Hp→Prop,t {D with nx:=P} σ H∧∀σ' H',P σ' H'→D.nx σ' H'
theorem kc8{st:Stmt}{t:TS}(h:PS X st t):PS X st (tCut t):=by
 intro pins s σ H D I hw
 obtain⟨P,h1,h2⟩:=hw
 refine thn (h pins s σ H {D with nx:=P} I h1) fun f s' q=>?_
 cases f with
 |next=>
  obtain⟨σ',H',I',q'⟩:=q
  exact⟨σ',H',I',h2 σ' H' q'⟩
 |brk=>exact q
 |cont=>exact q
 |ret u=>exact q
noncomputable def tCutE(t:TE):TE:=fun σ H Q=>∃P:V→Hp→Prop,t σ H P∧∀v H',P v H'→Q v H'
theorem kmw{e:Expr}{t:TE}(h:PE X e t):PE X e (tCutE t):=by
 intro pins s σ H Q I hw
 obtain⟨P,h1,h2⟩:=hw
 exact thn (h pins s σ H P I h1) fun u s' ⟨v,H',I',r,q⟩=>⟨v,H',I',r,h2 v H' q⟩
noncomputable def Its(lo st:Int)(n:Nat):It:=⟨fun i _=>i<n,fun i H x H'=>H'=H∧x=.int (lo+i*st),fun i _=>n≤i⟩
theorem kiy{P:Program}{w:World}{K:Nt}{tg:Expr}(it:Addr)(lo st:Int)(n:Nat):Turn P w K tg (Its lo st n) [it] it (fun i h=>IsRangeIter h it (lo+(i:Nat)*st) ((n:Int)-(i:Nat)) st) where
 mem:=by simp
 obj:=fun i h st b hb=>by
  have e:b=it:=by simpa using hb
  subst e
  exact⟨_,st,fun v z=>by
   have z':Data.fields _=Data.cell v:=z
   cases z'⟩
 keep:=fun i h h' st k=>k it (by simp) _ st
 item:=by
  intro X hP hw hK hc i pins s σ H E I hf st' hg
  subst hP hw hK
  obtain⟨f0,f1,f2,f3,f4,f5⟩:=hf it (by simp)
  have W:=Walks.range (prog:=X.prog) (w:=X.w) (I.ok.hd hc) it lo st n
  refine W.item i s _ _ hg st' fun v h' tk hv st'' kk=>?_
  obtain⟨t,rfl⟩:=hv
  have I1:Inv X pins σ H {s with heap:=h',toks:=tk}:=I.turned (fun b o hb e=>kk b o (by simpa using hb) e) f0 f1 f3 f4 f5
  exact⟨_,rfl,go_of (s:={s with heap:=h',toks:=tk}) (n:="range_iterator") st'' rfl rfl (by decide) ⟨.int (lo+i*st),H,I1,⟨t,rfl⟩,⟨rfl,rfl⟩,st'',fun b hb=>(hf b hb).1⟩⟩
 done:=by
  intro X hP hw hK hc i pins s σ H E I hf st hg
  subst hP hw hK
  obtain⟨f0,f1,f2,f3,f4,f5⟩:=hf it (by simp)
  exact wpAny_pyNext_range_end (I.ok.hd hc) st (by have:n≤i:=hg;omega) fun h' eb=>⟨rfl,I.turned (t':=s.toks) (fun b o hb e=>eb b o hb e) f0 f1 f3 f4 f5⟩
 self:=fun _ _ _ _ _ st h=>wpAny_pyIter_rangeiter st h
theorem kgl{a b c:Int}(hc:0<c)(ha: -(2 ^ 31)≤a∧a<2 ^ 31)(hb: -(2 ^ 31)≤b∧b<2 ^ 31):0≤Builtin.Range.rangeSize a b c∧Builtin.Range.rangeSize a b c<2 ^ 33:=by
 unfold Builtin.Range.rangeSize
 rw[if_pos hc]
 split
 ·have h1:0≤(b-a-1)/c:=Int.ediv_nonneg (by omega) (by omega)
  have h2:(b-a-1)/c≤b-a-1:=Int.ediv_le_self _ (by omega)
  omega
 ·omega
theorem kif{a b c:Int}(hc:0<c)(hc2:c<2 ^ 30)(ha: -(2 ^ 31)≤a∧a<2 ^ 31)(hb: -(2 ^ 31)≤b∧b<2 ^ 31):Builtin.Range.small a b c=true:=by
 have h:=kgl hc ha hb
 unfold Builtin.Range.small
 generalize Builtin.Range.rangeSize a b c=n at h
 simp only[Builtin.Range.rangeFitsLong,Ms,E6,decide_eq_true_eq,beq_iff_eq,show c > 0 from hc,if_true]
 omega
end
def kj0(xs:List V)(k:Nat):cutV xs none (some (k:Int))=xs.take k:=by
 unfold cutV
 rw[HT.sIx_none,HT.sIx_nat,M3,Nat.sub_zero,Du]
 omega
def kkP(xs:List V)(k:Nat):cutV xs (some (k:Int)) none=xs.drop k:=by
 unfold cutV
 rw[HT.sIx_none,HT.sIx_nat]
 by_cases h:k≤xs.length
 ·rw[MM h,Ml (by simp)]
 ·rw[Nat.min_eq_right (by omega),Ex (Nv _),Ex (by omega)]
  simp
end L2
namespace L2
open PySem PySem.Spec PyProof.Rows
def Inv.adopt{X:Cx}{pins:List (Addr×Obj)}{σ:St}{H:Hp}{s:Shared}{a:Addr}{o:HO}(I:Inv X pins σ H s)(f:FpOk X pins H a)(h0:X.s₀.heap.objs.size≤a)(new:ObjOk X.prog X.w (upd H a o) s.heap a o):Inv X pins σ (upd H a o) s:=by
 obtain⟨hn,hL,_,_,hC,hp⟩:=f
 have nt:∀b u,H b=some u→b≠a:=fun b u e=>kaj e hn
 refine⟨I.ok,I.os,I.bare,⟨I.base.keep,I.base.slot,fun b ob e n hx=>?_,I.base.there,fun b xs e=>?_,fun b ob u e=>?_,fun b ps e=>?_⟩,I.loc,I.cell,?_,fun x c e=>?_,fun p hp'=>?_,fun b u e=>?_,I.len⟩
 ·rw[kal (NY (NV (Heap.lt_size e) h0))]
  exact I.base.free b ob e n hx
 ·have q:=I.base.tups b xs e
  rw[kal (nt _ _ q)]
  exact q
 ·have q:=I.base.frzs b ob u e
  rw[kal (nt _ _ q)]
  exact q
 ·obtain⟨m,q⟩:=I.base.tbls b ps e
  exact⟨m,by rw[kal (nt _ _ q)];exact q⟩
 ·rw[kal (Ne.symm hL)]
  exact I.free
 ·rw[kal (hC x c e)]
  exact I.freeC x c e
 ·obtain⟨e,n,r⟩:=I.pin p hp'
  exact⟨e,by rw[kal (hp p hp')];exact n,r⟩
 ·by_cases hb:b=a
  ·subst hb
   rw[kad] at e
   cases e
   exact new
  ·rw[kal hb] at e
   exact(I.hok b u e).stay (fun c v _ q=>q) (fun c q=>by rw[kal (nt _ _ q)];exact q) fun c xs q=>by rw[kal (nt _ _ q)];exact q
noncomputable def capσ(cap:List (Option Nat))(σ:St):St:=cap.map fun o=>match o with
 |some i=>(σ[i]?).getD none
 |none=>none
noncomputable def closL(cells:List (Str×Addr))(names:List (Str×NameKind)):List (Str×Addr)→List (Str×Addr):=fun acc=>names.foldl (fun acc p=>if p.2== .free then(p.1,(cells.lookup p.1).getD 0)::acc else acc) acc
theorem keW{α β:Type}{f: α→β→Sem (ForInStep β)}{g: β→α→β}:∀(l:List α)(b: β),(∀x∈l,∀b,f x b=pure (.yield (g b x)))→forIn l b f=pure (l.foldl g b)
 |[],b,_=>by rw[List.forIn_nil];rfl
 |x::l,b,h=>by
  rw[List.forIn_cons,h x NW]
  show forIn l (g b x) f=_
  rw[keW l (g b x) fun y hy=>h y (NP _ hy)]
  rfl
def kf5{scope:Scope}{env:Env}(h:∀x∈scope.names,x.2=.free→∃c,env.cells.lookup x.1=some c):closureFor scope env=pure (closL env.cells scope.names []):=by
 unfold closureFor
 dsimp only
 rw[keW (g:=fun acc p=>if p.2== .free then(p.1,(env.cells.lookup p.1).getD 0)::acc else acc) scope.names [] fun x hx b=>?_]
 ·rfl
 ·obtain⟨n,k⟩:=x
  by_cases hk:k=.free
  ·subst hk
   obtain⟨c,ec⟩:=h _ hx rfl
   have ec':env.cells.lookup n=some c:=ec
   have e1:cellOf env n=pure c:=by unfold cellOf;rw[ec']
   simp only[beq_self_eq_true,if_true,e1,ec',Option.getD_some]
   rfl
  ·have:(k==NameKind.free)=false:=by simpa using hk
   simp only[this,Mh,if_false]
def kfm(cells:List (Str×Addr))(p:Str×NameKind)(r:List (Str×NameKind))(acc:List (Str×Addr)):closL cells (p::r) acc=closL cells r (if p.2== .free then(p.1,(cells.lookup p.1).getD 0)::acc else acc):=rfl
theorem ken{cells:List (Str×Addr)}{x:Str}{c:Addr}:∀(names:List (Str×NameKind))(acc:List (Str×Addr)),(closL cells names acc).lookup x=some c→(((x,NameKind.free)∈names∧c=(cells.lookup x).getD 0)∨acc.lookup x=some c)
 |[],acc,h=>.inr h
 | (n,k)::r,acc,h=>by
  rw[kfm] at h
  rcases ken r _ h with⟨h1,h2⟩|h1
  ·exact .inl ⟨NP _ h1,h2⟩
  ·by_cases hk:k=.free
   ·subst hk
    simp only[beq_self_eq_true,if_true] at h1
    rw[Me] at h1
    by_cases hx:x=n
    ·subst hx
     simp only[beq_self_eq_true] at h1
     exact .inl ⟨NW,(Option.some.inj h1).symm⟩
    ·have hb:(x==n)=false:=beq_eq_false_iff_ne.mpr hx
     rw[hb] at h1
     exact .inr h1
   ·have:(k==NameKind.free)=false:=by simpa using hk
    simp only[this,Mh,if_false] at h1
    exact .inr h1
theorem kc0{cells:List (Str×Addr)}{x:Str}:∀(names:List (Str×NameKind))(acc:List (Str×Addr)),((x,NameKind.free)∈names∨∃c,acc.lookup x=some c)→∃c,(closL cells names acc).lookup x=some c
 |[],acc,h=>by
  rcases h with h|h
  ·cases h
  ·exact h
 | (n,k)::r,acc,h=>by
  rw[kfm]
  refine kc0 r _ ?_
  by_cases hm:(x,NameKind.free)∈r
  ·exact .inl hm
  ·refine .inr ?_
   rcases h with h|⟨c,h⟩
   ·rcases NO.mp h with e|h
    ·cases e
     simp[Me]
    ·exact absurd h hm
   ·split
    ·rw[Me]
     by_cases hx:x=n
     ·subst hx
      simp
     ·have hb:(x==n)=false:=beq_eq_false_iff_ne.mpr hx
      rw[hb]
      exact⟨c,h⟩
    ·exact⟨c,h⟩
theorem kcA:∀(names:List (Str×NameKind))(n:Nat)(acc acc':List (Str×Addr)),cellsFrom n names (acc++acc')=cellsFrom n names acc++acc'
 |[],_,_,_=>rfl
 |(m,k)::r,n,acc,acc'=>by
  unfold cellsFrom
  split
  ·exact kcA r (n+1) ((m,n)::acc) acc'
  ·exact kcA r n acc acc'
def kb0(names:List (Str×NameKind))(n:Nat)(acc:List (Str×Addr))(x:Str):(cellsFrom n names acc).lookup x=((cellsFrom n names []).lookup x).or (acc.lookup x):=by
 rw[←List.lookup_append,←kcA,Eg]
theorem kcz{x:Str}:∀(names:List (Str×NameKind))(n:Nat)(acc:List (Str×Addr)),(x,NameKind.cell)∉names→(cellsFrom n names acc).lookup x=acc.lookup x
 |[],_,_,_=>rfl
 | (m,k)::r,n,acc,h=>by
  unfold cellsFrom
  by_cases hk:k=.cell
  ·subst hk
   simp only[beq_self_eq_true,if_true]
   rw[kcz r _ _ fun z=>h (NP _ z),Me]
   have hx:x≠m:=fun e=>h (by rw[e];exact NW)
   have hb:(x==m)=false:=beq_eq_false_iff_ne.mpr hx
   rw[hb]
  ·have:(k==NameKind.cell)=false:=by simpa using hk
   simp only[this,Mh,if_false]
   exact kcz r _ _ fun z=>h (NP _ z)
noncomputable def relN(names ns:List (Str×NameKind)):List (Str×NameKind):=names.map fun(n,k)=>if(k== .free&&ns.lookup n==some .cell) then(n, .cell) else(n,k)
def kdw{scope:Scope}{env:Env}(hk:env.scope.kind=.function):(relabel scope env).names=relN scope.names env.scope.names:=by
 unfold relabel relN
 have e:(ScopeKind.function==ScopeKind.function)=true:=by decide
 simp only[hk,e,Bool.and_true]
 rfl
theorem kdl{ns:List (Str×NameKind)}{x:Str}:∀(names:List (Str×NameKind)),(relN names ns).lookup x=(names.lookup x).map fun k=>if(k== .free&&ns.lookup x==some .cell) then .cell else k
 |[]=>rfl
 | (n,k)::r=>by
  have ih:=kdl (ns:=ns) (x:=x) r
  show Mq x ((if(k== .free&&ns.lookup n==some .cell)=true then(n,NameKind.cell) else(n,k))::relN r ns)=_
  by_cases hx:x=n
  ·subst hx
   by_cases hc:(k== .free&&ns.lookup x==some .cell)=true
   ·rw[if_pos hc]
    simp only[Me,beq_self_eq_true,Ey]
    rw[if_pos hc]
   ·rw[if_neg hc]
    simp only[Me,beq_self_eq_true,Ey]
    rw[if_neg hc]
  ·have hb:(x==n)=false:=beq_eq_false_iff_ne.mpr hx
   by_cases hc:(k== .free&&ns.lookup n==some .cell)=true
   ·rw[if_pos hc]
    simp only[Me,hb]
    exact ih
   ·rw[if_neg hc]
    simp only[Me,hb]
    exact ih
theorem klO{names ns:List (Str×NameKind)}{x:Str}(h:(relN names ns).lookup x=some .cell∨(relN names ns).lookup x=some .free):names.lookup x=some .cell∨names.lookup x=some .free:=by
 rw[kdl] at h
 cases e:names.lookup x with
 |none=>rw[e] at h;simp at h
 |some k=>
  rw[e] at h
  cases k <;> simp_all
def ki3{names ns:List (Str×NameKind)}{x:Str}(h:names.lookup x=some .free):(relN names ns).lookup x=some .cell∨(relN names ns).lookup x=some .free:=by
 rw[kdl,h]
 by_cases hc:ns.lookup x==some .cell
 ·left;simp[hc]
 ·right;simp[hc]
structure CompScope (X:Cx) (scope:Scope) (N:List Str) (cap:List (Option Nat)):Prop where
 kind:scope.kind=.function
 names:∀x∈scope.names,x.2=.local→scope.names.lookup x.1=some .local
 free:∀x∈scope.names,x.2=.free→X.env.scope.names.lookup x.1=some .cell∨X.env.scope.names.lookup x.1=some .free
 nd:N.Nodup
 len:cap.length=N.length
 cap:∀(j i:Nat)(x:Str),cap[j]?=some (some i)→N[j]?=some x→X.N[i]?=some x∧scope.names.lookup x=some .free∧(x,NameKind.cell)∉scope.names
noncomputable def kd7(X:Cx)(scope:Scope)(C:Addr):List (Str×Addr):=cellsFrom (C+1) scope.names (closL X.env.cells scope.names [])
noncomputable def cxC(X:Cx)(scope:Scope)(N:List Str)(fp:List Addr)(s:Shared)(H:Hp)(C:Addr):Cx:=
 {X with N:=N,s₀:=s,H₀:=H,env:=compEnvC scope (kd7 X scope C) C X.env,outer:=X.stack,ex:=fp,fn:=fun x=>scope.names.lookup x==some .cell,pn:=[],xe:=fun _ _=>False}
theorem kfT{M:Model}{A:Around}{E:Value→Shared→Prop}{s:Shared}{scope:Scope}{globals:Addr}{cl:List (Str×Addr)}{qual:Str}{func:Option Addr}{code:Value}{outer:Env}{builtins:Addr}{Q:Env→Shared→Prop}
  (hQ:Q (newEnv scope s.heap.objs.size globals (cellsFrom (s.heap.objs.size+1) scope.names cl) qual func code (some outer) builtins) {s with heap:=pushCells (s.heap.push {cls:=.type "dict",data:=.dict #[]}) scope.names}):
  wpAny M A (newFunctionEnv scope globals cl [] qual func code (some outer) builtins) Q E s:=by
 simp only[newFunctionEnv,Option.isSome_some,if_true]
 refine wpAny_bind (wpAny_alloc ?_)
 refine wpAny_bind (wpAny_layCells _ (fun name kind cells=>by cases hkc:kind==NameKind.cell <;> simp[hkc]) _ _ _ _ ?_)
 rw[show({s with heap:=s.heap.push {cls:=.type "dict",data:=.dict #[]}}:Shared).heap.objs.size=s.heap.objs.size+1 from Heap.size_push ..]
 exact wpAny_bind (wpAny_pure (wpAny_pure hQ))
section
variable {X:Cx} {scope:Scope} {N:List Str} {cap:List (Option Nat)} {pins:List (Addr×Obj)} {σ:St} {H:Hp} {s:Shared}
theorem kiF(I:Inv X pins σ H s){b:Addr}(hb:b∈frs X.stack):b<s.heap.objs.size:=by
 obtain⟨_,o,ho,_⟩:=I.stack.mem hb
 exact Heap.lt_size ho
theorem kco(S:CompScope X scope N cap)(I:Inv X pins σ H s):closureFor scope X.env=pure (closL X.env.cells scope.names []):=
 kf5 fun x hx hf=>I.ok.has x.1 (S.free x hx hf)
theorem kb4{C:Addr}{x:Str}{c:Addr}(S:CompScope X scope N cap)(I:Inv X pins σ H s)(h:(kd7 X scope C).lookup x=some c):(cellsFrom (C+1) scope.names []).lookup x=some c∨X.env.cells.lookup x=some c:=by
 unfold kd7 at h
 rw[kb0] at h
 cases e:(cellsFrom (C+1) scope.names []).lookup x with
 |some c'=>
  rw[e] at h
  exact .inl h
 | none=>
  rw[e] at h
  have h':(closL X.env.cells scope.names []).lookup x=some c:=h
  rcases ken _ _ h' with⟨h1,h2⟩|h1
  ·obtain⟨c',ec⟩:=I.ok.has x (S.free _ h1 rfl)
   rw[ec] at h2
   rw[h2]
   exact .inr ec
  ·cases h1
theorem kkB{fp:List Addr}{C D:Addr}{o:Obj}{s4:Shared}{m:Str→Option Value}(S:CompScope X scope N cap)(I:Inv X pins σ H s)(f:∀b∈fp,FpOk X pins H b)(hfp:∀b∈fp,b<s.heap.objs.size)
  (hk:∀b u,s.heap.get? b=some u→s4.heap.get? b=some u) (hns:s4.heap.Ns C m) (hC:s.heap.objs.size≤C) (hD:s.heap.objs.size≤D) (hDC:D≠C) (eD:s4.heap.get? D=some o) (hcell:∀v,o.data≠.cell v)
  (hnew:CellsOk s4.heap (C+1) (cellsFrom (C+1) scope.names [])) (hos:s4.os=s.os) (hg:s4.gens=s.gens):Inv (cxC X scope N fp s H C) [(D,o)] (capσ cap σ) H s4:=by
 have stkne:∀b∈fp,b∉frs X.stack:=fun b hb hz=>by
  obtain⟨_,h1,h2,_⟩:=f b hb
  rcases NO.mp (I.stkSub b hz) with e|e
  ·exact h1 e
  ·exact h2 e
 have nw:∀{x:Str}{c:Addr},(cellsFrom (C+1) scope.names []).lookup x=some c→s4.heap.IsCell c none∧Nat.lt C c:=fun {x c} h=>hnew.empty x c (PySem.mem_of_lookup h)
 have od:∀{x:Str}{c:Addr},X.env.cells.lookup x=some c→c<s.heap.objs.size:=fun {x c} h=>let⟨_,q⟩:=I.cell x c h;q.lt
 refine⟨⟨I.ok.mod,S.kind,I.ok.glob,I.ok.blt,hC,fun x y c h1 h2=>?_,fun x h=>?_,fun x c h1 h2=>?_,I.ok.hd,I.ok.frames, .inl rfl,fun b hb=>⟨?_,fun x c e=>?_⟩,I.bs,Nx I.ok.bsz I.sz,fun b ob e hb=>?_,stkne,I.stack,I.stkFree⟩,
  hos,by rw[hg];exact I.bare,Un.kept hk,⟨m,hns,fun j x v e1 e2 e3=>?_⟩,fun x c e=>?_,I.hok.fresh hC,fun x c e=>?_,fun p hp=>?_,I.hok.kept hk,?_⟩
 ·rcases kb4 S I h1 with q1|q1 <;> rcases kb4 S I h2 with q2|q2
  ·exact name_of_addr hnew.apart (PySem.mem_of_lookup q1) (PySem.mem_of_lookup q2)
  ·exact absurd (MD hC (nw q1).2) (Nat.not_lt_of_lt (od q2))
  ·exact absurd (MD hC (nw q2).2) (Nat.not_lt_of_lt (od q1))
  ·exact I.ok.inj x y c q1 q2
 ·have h':(relabel scope X.env).names.lookup x=some .cell∨(relabel scope X.env).names.lookup x=some .free:=h
  rw[kdw I.ok.kind] at h'
  show ∃c,(cellsFrom (C+1) scope.names (closL X.env.cells scope.names [])).lookup x=some c
  rw[kb0]
  rcases klO h' with q|q
  ·obtain⟨c,e⟩:=keo (n:=C+1) q
   exact⟨c,by rw[e];rfl⟩
  ·obtain⟨c,e⟩:=kc0 (cells:=X.env.cells) scope.names [] (.inl (PySem.mem_of_lookup q))
   cases e2:(cellsFrom (C+1) scope.names []).lookup x with
   |some c'=>exact⟨c',rfl⟩
   |none=>exact⟨c,e⟩
 ·have h1':(scope.names.lookup x==some .cell)=true:=h1
  have q:scope.names.lookup x=some .cell:=by simpa using h1'
  obtain⟨c',e⟩:=keo (n:=C+1) q
  have h2':(cellsFrom (C+1) scope.names (closL X.env.cells scope.names [])).lookup x=some c:=h2
  rw[kb0,e] at h2'
  have h3:c'=c:=Option.some.inj h2'
  rw[←h3]
  exact NF (MD hC (nw e).2)
 ·exact NY (NV (hfp b hb) hC)
 ·rcases kb4 S I e with q|q
  ·exact Mp (Ez (NV (hfp b hb) hC) (nw q).2)
  ·exact(f b hb).2.2.2.2.1 x c q
 ·obtain⟨_,_,_,h4,_⟩:=f b hb
  rcases h4 with h4|h4
  ·exact I.ok.noex b ob e h4
  ·exact absurd (NV (Heap.lt_size e) (Nx I.ok.bsz h4)) (ME _)
 ·
  have e2':(cap.map fun o=>match o with|some i=>(σ[i]?).getD none|none=>none)[j]?=some (some v):=e2
  rw[NC] at e2'
  cases ec:cap[j]? with
  |none=>rw[ec] at e2';cases e2'
  | some oi=>
   rw[ec] at e2'
   cases oi with
   |none=>cases e2'
   | some i=>
    have e4:(σ[i]?).getD none=some v:=Option.some.inj e2'
    have e5: σ[i]?=some (some v):=by
     cases q: σ[i]? with
     |none=>rw[q] at e4;cases e4
     |some w=>rw[q] at e4;exact congrArg some e4
    obtain⟨h1,hf,hnc⟩:=S.cap j i x ec e1
    have hm:=PySem.mem_of_lookup hf
    have h2:=S.free _ hm rfl
    obtain⟨mo,_,hl⟩:=I.loc
    obtain⟨u,ru,lk⟩:=hl i x v h1 e5 (.inr h2)
    have h3:(relabel scope X.env).names.lookup x=some .cell∨(relabel scope X.env).names.lookup x=some .free:=by
     rw[kdw I.ok.kind]
     exact ki3 hf
    refine⟨u,ru, .inr ⟨h3,?_⟩⟩
    rcases lk with⟨k1,_⟩|⟨_,c,ec',z⟩
    ·have k1':X.env.scope.names.lookup x=some .local:=k1
     rcases h2 with h2|h2 <;> rw[h2] at k1' <;> cases k1'
    ·obtain⟨c',ec2⟩:=kc0 (cells:=X.env.cells) scope.names [] (.inl hm)
     have ec3:(kd7 X scope C).lookup x=some c':=by
      unfold kd7
      rw[kcz _ _ _ hnc]
      exact ec2
     rcases ken _ _ ec2 with⟨_,q2⟩|q2
     ·rw[ec'] at q2
      have q3:c'=c:=q2
      subst q3
      obtain⟨oc,ho,hd⟩:=z
      exact⟨c',ec3,oc,hk _ _ ho,hd⟩
     ·cases q2
 ·rcases kb4 S I e with q|q
  ·exact⟨none,(nw q).1⟩
  ·obtain⟨v,oc,ho,hd⟩:=I.cell x c q
   exact⟨v,oc,hk _ _ ho,hd⟩
 ·rcases kb4 S I e with q|q
  ·exact I.hok.fresh (Nx hC (NF (nw q).2))
  ·exact I.freeC x c q
 ·have e:p=(D,o):=by simpa[cxC] using hp
  subst e
  exact⟨eD,I.hok.fresh hD,hDC,fun hz=>absurd (kiF I hz) (Eh.mpr hD),hcell⟩
 ·show(cap.map _).length=N.length
  rw[Nr,S.len]
theorem comp_back{fp:List Addr}{C:Addr}{σ':St}{H':Hp}{s':Shared}(I:Inv X pins σ H s)(f:∀b∈fp,FpOk X pins H b)(J:Inv (cxC X scope N fp s H C) [] σ' H' s'):Inv X pins σ H' s':=
 I.call' (ch:=fp) J.os J.base J.hok J.bare fun b hb=>let⟨_,h1,_,h3,h4,h5⟩:=f b hb;⟨h3,h1,h4,h5⟩
end
noncomputable def PIf(X:Cx)(ifs:List Expr)(t:TT):Prop:=∀(pins:List (Addr×Obj))(s:Shared)(σ:St)(H:Hp)(Q:Bool→Hp→Prop),Inv X pins σ H s→t σ H Q→
 wpAny (model X.prog X.w) X.A (forIn ifs true fun c r=>if r=true then do let ok ←isTrue c X.env (eval c X.env);pure (ForInStep.yield ok) else pure (ForInStep.yield r)) (TP X pins σ Q) X.xe s
noncomputable def tYes:TT:=fun _ H Q=>Q true H
def kjd{X:Cx}:PIf X [] tYes:=fun _ _ _ H _ I h=>wpAny_tests_nil ⟨H,I,h⟩
def kg5{X:Cx}{c:Expr}{t:TT}(h:PT X c t):PIf X [c] t:=fun pins s σ H Q I hw=>wpAny_tests_one (h pins s σ H Q I hw)
theorem kgH{prog:Program}{w:World}{A:Around}{R:Result→Shared→Prop}{s:Shared}{elt target iter:Expr}{ifs:List Expr}{scope:Scope}{pos:Pos}{it acc:Value}{env:Env}(I:Nat→Shared→Prop)
  (turn:∀n s,I n s→wpAny (model prog w) A (pyNext it) (fun r s₁=>match r with
   |none=>R (.ok .next) s₁
   | some v=>wpAny (model prog w) A (letOwnedTupleGo target it v) (fun _ s₁'=>wpAny (model prog w) A (assign target env v) (fun _ s₂=>
     wpAny (model prog w) A (forIn ifs true fun c r=>if r=true then do let ok ←isTrue c env (eval c env);pure (ForInStep.yield ok) else pure (ForInStep.yield r)) (fun ok s₂'=>
      if ok=true then wpAny (model prog w) A (eval elt env) (fun x s₃=>
       wpAny (model prog w) A (call (.builtin "list.append") [acc,x]) (fun _ s₄=>∃m,m<n∧I m s₄) (fun _ _=>False) s₃) (fun _ _=>False) s₂'
      else ∃m,m<n∧I m s₂') (fun _ _=>False) s₂) (fun _ _=>False) s₁') (fun _ _=>False) s₁) (fun _ _=>False) s)
  (n:Nat) (h:I n s):codeAny (model prog w) A (.compLoop (.ListComp elt [⟨target,iter,ifs,0⟩] scope pos) 0 it acc env) R s:=by
 refine codeAny_loop rfl I (fun n s hI=>?_) n h
 show wpAny _ _ ((compTurn (.ListComp elt [⟨target,iter,ifs,0⟩] scope pos) 0 it acc env).onRaise (fun x=>do noteFrame x env;theTreesLotGoes x)) _ _ s
 refine wpAny_noted ?_
 rw[compTurn_list]
 refine wpAny_bind (wpAny_standAt (wpAny_bind (wpAny_mono (turn n s hI) (fun r s₁ h₁=>?_) fun _ _ h'=>h'.elim)))
 cases r with
 |none=>exact wpAny_pure h₁
 | some v=>
  refine wpAny_bind (wpAny_mono h₁ (fun _ s₁' h₁'=>?_) fun _ _ h'=>h'.elim)
  refine wpAny_bind (wpAny_mono h₁' (fun _ s₂ h₂=>wpAny_bind (wpAny_mono h₂ (fun ok s₂' h₂'=>?_) fun _ _ h'=>h'.elim)) fun _ _ h'=>h'.elim)
  cases ok with
  |false=>exact wpAny_pure ⟨rfl,h₂'⟩
  |true=>
   exact wpAny_bind (wpAny_bind (wpAny_mono h₂' (fun x s₃ h₃=>wpAny_bind (wpAny_mono h₃ (fun _ s₄ h₄=>wpAny_pure (wpAny_pure ⟨rfl,h₄⟩)) fun _ _ h'=>h'.elim)) fun _ _ h'=>h'.elim))
noncomputable def kkX(wi:TI)(cap:List (Option Nat))(g:TG)(tt:TT)(te:TE):TE:=fun σ H Q=>wi σ H fun J H1=>∃W:Nat→Nat→St→List V→Hp→Prop,(∃m,W 0 m (capσ cap σ) [] H1)∧∀i m σ' ys H',W i m σ' ys H'→
 (J.stop i H'∧∀D,H' D=none→Q (.ref D) (upd H' D (.lst ys)))∨(J.go i H'∧ys.length<sizeLine∧∃(N:St→V→Hp→Prop)(N0:St→Hp→Prop),(∀σ2 y H4,N σ2 y H4→∃m',m'<m∧W (i+1) m' σ2 (ys++[y]) H4)∧(∀σ2 H4,N0 σ2 H4→∃m',m'<m∧W (i+1) m' σ2 ys H4)∧
  ∀x H2,J.yld i H' x H2→g x σ' H2 fun σ2 H3=>tt σ2 H3 fun b H4=>if b=true then te σ2 H4 (N σ2) else N0 σ2 H4)
noncomputable def tComp(wi:TI)(cap:List (Option Nat))(g:TG)(te:TE):TE:=fun σ H Q=>wi σ H fun J H1=>∃W:Nat→Nat→St→List V→Hp→Prop,(∃m,W 0 m (capσ cap σ) [] H1)∧∀i m σ' ys H',W i m σ' ys H'→
 (J.stop i H'∧∀D,H' D=none→Q (.ref D) (upd H' D (.lst ys)))∨(J.go i H'∧ys.length<sizeLine∧∃N:St→V→Hp→Prop,(∀σ2 y H4,N σ2 y H4→∃m',m'<m∧W (i+1) m' σ2 (ys++[y]) H4)∧
  ∀x H2,J.yld i H' x H2→g x σ' H2 fun σ2 H3=>te σ2 H3 (N σ2))
section
variable {X:Cx} {scope:Scope} {N:List Str} {cap:List (Option Nat)} {pins:List (Addr×Obj)} {σ:St} {H2:Hp} {s2:Shared} {tg elt iter:Expr} {ifs:List Expr} {pos:Pos} {g:TG} {tt:TT} {te:TE}
theorem kc5{fp:List Addr}{it:Addr}{tn:Nat→Heap→Prop}{J:It}{Q:VK}{RR:Value→Addr→Result→Shared→Prop}{E:Value→Shared→Prop}(S:CompScope X scope N cap)(hc:X.calm=true)
  (hg:∀fp s H C,PG (cxC X scope N fp s H C) tg g) (ht:∀fp s H C,PIf (cxC X scope N fp s H C) ifs tt) (he:∀fp s H C,PE (cxC X scope N fp s H C) elt te)
  (I2:Inv X pins σ H2 s2) (T:Turn X.prog X.w X.K tg J fp it tn) (st2:tn 0 s2.heap) (f2:∀b∈fp,FpOk X pins H2 b)
  (W:Nat→Nat→St→List V→Hp→Prop) {m0:Nat} (w0:W 0 m0 (capσ cap σ) [] H2)
  (turn:∀i m σ' ys H',W i m σ' ys H'→(J.stop i H'∧∀D,H' D=none→Q (.ref D) (upd H' D (.lst ys)))∨(J.go i H'∧ys.length<sizeLine∧∃(N:St→V→Hp→Prop)(N0:St→Hp→Prop),(∀σ2 y H4,N σ2 y H4→∃m',m'<m∧W (i+1) m' σ2 (ys++[y]) H4)∧(∀σ2 H4,N0 σ2 H4→∃m',m'<m∧W (i+1) m' σ2 ys H4)∧
   ∀x H2,J.yld i H' x H2→g x σ' H2 fun σ2 H3=>tt σ2 H3 fun b H4=>if b=true then te σ2 H4 (N σ2) else N0 σ2 H4))
  (hRR:∀(D C:Addr)(H':Hp)(s':Shared)(m:Str→Option Value),Inv X pins σ H' s'→FpOk X pins H' C→C≠D→s'.heap.Ns C m→Q (.ref D) H'→RR (.ref D) C (.ok .next) s'):
  wpAny (model X.prog X.w) X.A (newList []) (fun acc s₃=>wpAny (model X.prog X.w) X.A (newFunctionEnv scope X.env.globals (closL X.env.cells scope.names []) [] X.env.qual none .none (some X.env)) (fun cenv s₄=>
   codeAny (model X.prog X.w) X.A (.compStart (.ListComp elt [⟨tg,iter,ifs,0⟩] scope pos) 0 (.ref it) acc {cenv with scope:=relabel scope X.env}) (RR acc cenv.locals) s₄) E s₃) E s2:=by
 refine wpAny_newObj_type (kfT ?_)
 dsimp only
 generalize hP:s2.heap.push {cls:=.type "list",dict:=none,data:=.seq ([]:List Value).toArray}=P
 have hnew:CellsOk (pushCells (P.push {cls:=.type "dict",data:=.dict #[]}) scope.names) (P.objs.size+1) (cellsFrom (P.objs.size+1) scope.names []):=by
  have q:=cellsFrom_ok scope.names (P.push {cls:=.type "dict",data:=.dict #[]}) (P.objs.size+1) [] ⟨fun _ _ hm=>(nomatch hm),M1.nil⟩ (by rw[Heap.size_push];exact Nv _)
  rwa [Heap.size_push] at q
 have hns₁:(pushCells (P.push {cls:=.type "dict",data:=.dict #[]}) scope.names).Ns P.objs.size (fun _=>none):=(Heap.Ns.new P (.type "dict")).keeps (pushCells_keeps _ _)
 have keep₁:∀b o,P.get? b=some o→(pushCells (P.push {cls:=.type "dict",data:=.dict #[]}) scope.names).get? b=some o:=fun b o e=>pushCells_keeps _ _ b o (Heap.get?_push_of_some _ e)
 generalize pushCells (P.push {cls:=.type "dict",data:=.dict #[]}) scope.names=h₁ at hnew hns₁ keep₁⊢
 have hC:P.objs.size=s2.heap.objs.size+1:=by rw[←hP,Heap.size_push]
 have hDC:s2.heap.objs.size≠P.objs.size:=by rw[hC];exact NY (EV _)
 have hCle:s2.heap.objs.size≤P.objs.size:=by rw[hC];exact Ed _
 have hDle:s2.heap.objs.size≤s2.heap.objs.size:=Nv _
 have old:∀b o,s2.heap.get? b=some o→h₁.get? b=some o:=fun b o e=>keep₁ b o (hP▸Heap.get?_push_of_some _ e)
 have hacc:h₁.get? s2.heap.objs.size=some {cls:=.type "list",data:=.seq ([]:List Value).toArray}:=keep₁ _ _ (hP▸Heap.get?_push_size _ rfl)
 have hfp:∀b∈fp,b<s2.heap.objs.size:=fun b hb=>let⟨_,e,_⟩:=T.obj 0 _ st2 b hb;Heap.lt_size e
 generalize hDd:s2.heap.objs.size=D at hacc hDC hDle⊢
 rw[hDd] at hCle hC
 generalize P.objs.size=C at hnew hns₁ hC hDC hCle⊢
 have dne:∀b∈fp,D≠b:=fun b hb=>Mp (hDd▸hfp b hb)
 have cne:∀b∈fp,b≠C:=fun b hb=>NY (NV (hDd▸hfp b hb) hCle)
 have stkne:∀b∈fp,b∉frs X.stack:=fun b hb hz=>by
  obtain⟨_,h1,h2,_⟩:=f2 b hb
  rcases NO.mp (I2.stkSub b hz) with e|e
  ·exact h1 e
  ·exact h2 e
 have dfs:D∉frs X.stack:=fun hz=>absurd (kiF I2 hz) (by rw[hDd];exact ME _)
 have dcell:∀x c,(kd7 X scope C).lookup x=some c→c≠D:=fun x c e z=>by
  rcases kb4 S I2 e with e|e
  ·have q:Nat.lt C c:=(hnew.empty x c (PySem.mem_of_lookup e)).2
   rw[z] at q
   exact absurd (MD hCle q) (ME _)
  ·obtain⟨v,q⟩:=I2.cell x c e
   have:=q.lt
   rw[z,hDd] at this
   exact absurd this (ME _)
 have bcell:∀b∈fp,∀x c,(kd7 X scope C).lookup x=some c→c≠b:=fun b hb x c e=>by
  rcases kb4 S I2 e with e|e
  ·have q:Nat.lt C c:=(hnew.empty x c (PySem.mem_of_lookup e)).2
   exact Mp (Ez (NV (hDd▸hfp b hb) hCle) q)
  ·exact(f2 b hb).2.2.2.2.1 x c e
 have stat:∀{o:Obj}{H':Hp},(∀b∈fp,H' b=none)→∀b∈fp,FpOk (cxC X scope N fp s2 H2 C) [(D,o)] H' b:=fun {o H'} hn b hb=>
  ⟨hn b hb,cne b hb,stkne b hb, .inl hb,bcell b hb,fun p hp=>by
   have e:p=(D,o):=by simpa[cxC] using hp
   subst e
   exact dne b hb⟩
 have loop:∀s₃:Shared,s₃= {s2 with heap:=h₁}→
   codeAny (model X.prog X.w) X.A (.compLoop (.ListComp elt [⟨tg,iter,ifs,0⟩] scope pos) 0 (.ref it) (.ref D) (compEnvC scope (kd7 X scope C) C X.env)) (RR (.ref D) C) s₃:=by
  rintro s₃ rfl
  have I3:Inv (cxC X scope N fp s2 H2 C) [(D,_)] (capσ cap σ) H2 {s2 with heap:=h₁}:=
   kkB S I2 f2 hfp old hns₁ (by rw[hDd];exact hCle) (by rw[hDd];exact Nv _) hDC hacc (fun v z=>by cases z) hnew rfl rfl
  refine kgH (fun n s'=>∃i σ' ys H' its k,Inv (cxC X scope N fp s2 H2 C) [] σ' H' s'∧tn i s'.heap∧(∀b∈fp,H' b=none)∧H' D=none∧s'.heap.get? D=some {cls:=.type "list",data:=.seq (its:List Value).toArray k}∧Vals ys its∧ys.length≤sizeLine∧W i n σ' ys H') ?_ m0
   ⟨0,_,[],H2,[],_,I3.pins_of (fun p hp=>nomatch hp),T.keep _ _ _ st2 (fun b hb o e=>old b o e),fun b hb=>(f2 b hb).1,I2.hok.fresh (by rw[hDd];exact Nv _),hacc, .nil,Mb _,w0⟩
  rintro n s3 ⟨i,σ3,ys,H3,its,k,J3,st3,fr3,hD3,e3,r3,z3,w3⟩
  have J3':Inv (cxC X scope N fp s2 H2 C) [(D,{cls:=.type "list",data:=.seq its.toArray k})] σ3 H3 s3:=J3.pins_of fun p hp=>by
   have e:p=(D,{cls:=.type "list",data:=.seq its.toArray k}):=by simpa using hp
   subst e
   exact⟨e3,hD3,hDC,dfs,fun v z=>by cases z⟩
  rcases turn i n σ3 ys H3 w3 with⟨stop,qn⟩|⟨go,hlt,N',N0',hN,hN0,step⟩
  ·refine thn (T.done (cxC X scope N fp s2 H2 C) rfl rfl rfl hc i _ s3 σ3 H3 (fun _ _=>False) J3' (stat fr3) st3 stop) fun r s4 ⟨hr,I4⟩=>?_
   subst hr
   have e4:=(I4.pin (D,{cls:=.type "list",data:=.seq its.toArray k}) (by simp[cxC])).1
   have B:Inv X pins σ H3 s4:=comp_back I2 f2 (I4.pins_of fun p hp=>nomatch hp)
   obtain⟨m,hm,_⟩:=I4.loc
   have fD:FpOk X pins H3 D:=I2.fpOk (by rw[hDd];exact Nv _) hD3
   have B':Inv X pins σ (upd H3 D (.lst ys)) s4:=B.adopt fD (by rw[←hDd];exact I2.sz) ⟨z3,its,k,r3,e4⟩
   refine hRR D C _ s4 m B' (I2.fpOk (by rw[hDd];exact hCle) ?_) hDC.symm hm (qn D hD3)
   rw[kal hDC.symm]
   exact I4.free
  ·refine thn (T.item (cxC X scope N fp s2 H2 C) rfl rfl rfl hc i _ s3 σ3 H3 (fun _ _=>False) J3' (stat fr3) st3 go) fun r s4 ⟨u,hr,h4⟩=>?_
   subst hr
   refine thn h4 fun _ s5 ⟨x,H5,I5,r5,y5,st5,fr5⟩=>?_
   have I5':=I5.pinned (stat fr5) (T.obj _ _ st5)
   refine thn (hg fp s2 H2 C _ s5 σ3 H5 x u _ I5' r5 (step x H5 y5)) fun _ s6 ⟨σ6,H6,I6,q6⟩=>?_
   refine thn (ht fp s2 H2 C _ s6 σ6 H6 _ I6 q6) fun ok s6' ⟨H6',I6',q6'⟩=>?_
   cases ok with
   | false=>
    have q6':N0' σ6 H6':=by simpa using q6'
    obtain⟨m',hm',w7⟩:=hN0 σ6 H6' q6'
    have p7:=I6'.pin (D,{cls:=.type "list",data:=.seq its.toArray k}) (by simp[cxC])
    have e7:s6'.heap.get? D=some {cls:=.type "list",data:=.seq its.toArray k}:=p7.1
    have pf:∀b∈fp,∀o,s5.heap.get? b=some o→s6'.heap.get? b=some o∧H6' b=none:=fun b hb o e=>
     let z:=I6'.pin (b,o) (N6 _ (N6 _ (kc3 hb e)))
     ⟨z.1,z.2.1⟩
    refine⟨m',hm',i+1,σ6,ys,H6',its,_,I6'.pins_of (fun p hp=>nomatch hp),T.keep _ _ _ st5 (fun b hb o e=>(pf b hb o e).1),fun b hb=>?_,p7.2.1,e7,r3,z3,w7⟩
    obtain⟨o,e,_⟩:=T.obj _ _ st5 b hb
    exact(pf b hb o e).2
   |true=>
   have q6':te σ6 H6' (N' σ6):=by simpa using q6'
   refine thn (he fp s2 H2 C _ s6' σ6 H6' _ I6' q6') fun v s7 ⟨y,H7,I7,r7,q7⟩=>?_
   obtain⟨m',hm',w7⟩:=hN σ6 y H7 q7
   have p7:=I7.pin (D,{cls:=.type "list",data:=.seq its.toArray k}) (by simp[cxC])
   have e7:s7.heap.get? D=some {cls:=.type "list",data:=.seq its.toArray k}:=p7.1
   have hl7:=r3.length
   refine call_meets F.slot_list_append ⟨_,e7,rfl⟩ F.entry_list_append (F.args_list_append_2 _ _) (PySem.list_append D its.toArray k v (by rw[NS];omega)) ⟨e7,?_⟩
   have q8:=PySem.IsL.update e7 (·.push v)
   have ex8:its.toArray.push v=(its++[v]).toArray:=by simp
   rw[ex8] at q8
   have pf:∀b∈fp,∀o,s5.heap.get? b=some o→s7.heap.get? b=some o∧H7 b=none:=fun b hb o e=>
    let z:=I7.pin (b,o) (N6 _ (N6 _ (kc3 hb e)))
    ⟨z.1,z.2.1⟩
   have I7':Inv (cxC X scope N fp s2 H2 C) [] σ6 H7 s7:=I7.pins_of fun p hp=>nomatch hp
   refine⟨m',hm',i+1,σ6,ys++[y],H7,its++[v],_,I7'.turned (it:=D) (fun b o hb e=>(Heap.get?_update_other _ _ (Ne.symm hb)).trans e) p7.2.1 hDC (.inr (by show s2.heap.objs.size≤D;rw[hDd];exact Nv _)) dcell (fun p hp=>nomatch hp),
    T.keep _ _ _ st5 (fun b hb o e=>(Heap.get?_update_other _ _ (dne b hb)).trans (pf b hb o e).1),fun b hb=>?_,p7.2.1,q8,r3.append (.cons r7 .nil),by rw[NI,E4];omega,w7⟩
   obtain⟨o,e,_⟩:=T.obj _ _ st5 b hb
   exact(pf b hb o e).2
 have st1:tn 0 h₁:=T.keep _ _ _ st2 (fun b hb o e=>old b o e)
 exact codeAny_compStart_list (loop _ rfl) (T.self X.A 0 _ _ _ st1 (loop _ rfl))
theorem khO{wi:TI}(S:CompScope X scope N cap)(hc:X.calm=true)(hi:PI X tg iter wi)(hg:∀fp s H C,PG (cxC X scope N fp s H C) tg g)(ht:∀fp s H C,PIf (cxC X scope N fp s H C) ifs tt)(he:∀fp s H C,PE (cxC X scope N fp s H C) elt te)
  (hs:∀x,foldedSetIterable iter X.env x=pure x:=by intro _;rfl):PE X (.ListComp elt [⟨tg,iter,ifs,0⟩] scope pos) (kkX wi cap g tt te):=by
 intro pins s σ H Q I h
 rw[eval_ListComp]
 refine wpAny_comprehension_free (use:=none) rfl hs (kco S I) S.kind S.names (thn (hi pins s σ H _ I h) fun v s1 h1=>thn h1 fun itv s2 h2=>?_)
 obtain⟨it,fp,tn,J,H2,e,I2,T,st2,f2,W,⟨m0,w0⟩,turn⟩:=h2
 subst e
 refine kc5 (RR:=fun acc C=>compPost (model X.prog X.w) X.A X.xe none (EP X pins σ Q) acc C) S hc hg ht he I2 T st2 f2 W w0 turn fun D C H' s' m B fC hCD hm q=>?_
 obtain⟨c0,c1,c2,c3,c4,c5⟩:=fC
 exact⟨m,hm,fun h' hs'=>⟨.ref D,H',B.turned (t':=s'.toks) (fun b o hb e=>(hs'.2 b hb).trans e) c0 c1 c3 c4 c5,rfl,q⟩⟩
theorem kkh{wi:TI}{i:Nat}{y:Str}{py spos:Pos}(S:CompScope X scope N cap)(hc:X.calm=true)(hi:PI X tg iter wi)(hg:∀fp s H C,PG (cxC X scope N fp s H C) tg g)(ht:∀fp s H C,PIf (cxC X scope N fp s H C) ifs tt)(he:∀fp s H C,PE (cxC X scope N fp s H C) elt te)
  (hA:PG X (.Name y py) (gName i)) (hsw:swapsWith (.ListComp elt [⟨tg,iter,ifs,0⟩] scope pos) (some (.Name y py)) spos.line X.env=pure true:=by rfl)
  (hs:∀x,foldedSetIterable iter X.env x=pure x:=by intro _;rfl):PS X (.Assign [.Name y py] (.ListComp elt [⟨tg,iter,ifs,0⟩] scope pos) spos) (tAsg (kkX wi cap g tt te) (gName i)):=by
 intro pins s σ H D I h
 rw[exec_Assign_Name_used _ _ _ _ hsw]
 refine wpAny_bind (wpAny_standAt (wpAny_bind ?_))
 show wpAny _ X.A (do let _ ←comprehension (.ListComp elt [⟨tg,iter,ifs,0⟩] scope pos) scope X.env _ (newList []) false (eval iter X.env) (some (assign (.Name y py) X.env))) _ _ s
 refine wpAny_bind (wpAny_mono (wpAny_comprehension_free (use:=some (assign (.Name y py) X.env)) (Q:=fun _ s'=>SP X pins D .next s') rfl hs (kco S I) S.kind S.names
  (thn (hi pins s σ H _ I h) fun v s1 h1=>thn h1 fun itv s2 h2=>?_)) (fun _ s' hq=>wpAny_pure (wpAny_pure hq)) fun _ _ e=>e)
 obtain⟨it,fp,tn,J,H2,e,I2,T,st2,f2,W,⟨m0,w0⟩,turn⟩:=h2
 subst e
 refine kc5 (Q:=fun v H'=>gName i v σ H' D.nx) (RR:=fun acc C=>compPost (model X.prog X.w) X.A X.xe (some (assign (.Name y py) X.env)) (fun _ s'=>SP X pins D .next s') acc C) S hc hg ht he I2 T st2 f2 W w0 turn fun D' C H' s' m B fC hCD hm q=>?_
 obtain⟨c0,c1,c2,c3,c4,c5⟩:=fC
 obtain⟨oC,es,ep,eC,dC,kC⟩:=hm
 have B':Inv X (pins++[(C,oC)]) σ H' s':=B.pins_of fun p hp=>by
  rcases N1.mp hp with hp|hp
  ·exact B.pin p (N6 _ hp)
  ·have e:p=(C,oC):=by simpa using hp
   subst e
   exact⟨eC,c0,c1,c2,fun v z=>by rw[dC] at z;cases z⟩
 refine thn (hA _ s' σ H' (.ref D') (.ref D') _ B' rfl q) fun _ s'' ⟨σ2,H3,I3,q3⟩=>?_
 obtain⟨e3,n3,_⟩:=I3.pin (C,oC) (N6 _ (N6 _ (by simp)))
 exact⟨m,⟨oC,es,ep,e3,dC,kC⟩,fun h' hs'=>⟨σ2,H3,I3.unpinned.turned (t':=s''.toks) (fun b o hb e=>(hs'.2 b hb).trans e) n3 c1 c3 c4 c5,q3⟩⟩
theorem kgG{J:It}{Q:VK}{W:Nat→Nat→St→List V→Hp→Prop}(h:∀i m σ' ys H',W i m σ' ys H'→(J.stop i H'∧∀D,H' D=none→Q (.ref D) (upd H' D (.lst ys)))∨(J.go i H'∧ys.length<sizeLine∧∃N:St→V→Hp→Prop,(∀σ2 y H4,N σ2 y H4→∃m',m'<m∧W (i+1) m' σ2 (ys++[y]) H4)∧
   ∀x H2,J.yld i H' x H2→g x σ' H2 fun σ2 H3=>te σ2 H3 (N σ2))):∀i m σ' ys H',W i m σ' ys H'→(J.stop i H'∧∀D,H' D=none→Q (.ref D) (upd H' D (.lst ys)))∨(J.go i H'∧ys.length<sizeLine∧∃(N:St→V→Hp→Prop)(N0:St→Hp→Prop),(∀σ2 y H4,N σ2 y H4→∃m',m'<m∧W (i+1) m' σ2 (ys++[y]) H4)∧(∀σ2 H4,N0 σ2 H4→∃m',m'<m∧W (i+1) m' σ2 ys H4)∧
   ∀x H2,J.yld i H' x H2→g x σ' H2 fun σ2 H3=>tYes σ2 H3 fun b H4=>if b=true then te σ2 H4 (N σ2) else N0 σ2 H4):=by
 intro i m σ' ys H' w
 rcases h i m σ' ys H' w with h|⟨go,hl,N,hN,st⟩
 ·exact .inl h
 ·refine .inr ⟨go,hl,N,fun _ _=>False,hN,(fun _ _ z=>z.elim),fun x H2 y=>?_⟩
  have e:(fun(σ2:St)(H3:Hp)=>tYes σ2 H3 fun b H4=>if b=true then te σ2 H4 (N σ2) else False)=fun σ2 H3=>te σ2 H3 (N σ2):=by
   funext σ2 H3
   show(if true=true then te σ2 H3 (N σ2) else False)=te σ2 H3 (N σ2)
   rw[if_pos rfl]
  rw[e]
  exact st x H2 y
theorem kbf{wi:TI}(S:CompScope X scope N cap)(hc:X.calm=true)(hi:PI X tg iter wi)(hg:∀fp s H C,PG (cxC X scope N fp s H C) tg g)(he:∀fp s H C,PE (cxC X scope N fp s H C) elt te)
  (hs:∀x,foldedSetIterable iter X.env x=pure x:=by intro _;rfl):PE X (.ListComp elt [⟨tg,iter,[],0⟩] scope pos) (tComp wi cap g te):=by
 intro pins s σ H Q I h
 rw[eval_ListComp]
 refine wpAny_comprehension_free (use:=none) rfl hs (kco S I) S.kind S.names (thn (hi pins s σ H _ I h) fun v s1 h1=>thn h1 fun itv s2 h2=>?_)
 obtain⟨it,fp,tn,J,H2,e,I2,T,st2,f2,W,⟨m0,w0⟩,turn⟩:=h2
 subst e
 refine kc5 (RR:=fun acc C=>compPost (model X.prog X.w) X.A X.xe none (EP X pins σ Q) acc C) S hc hg (fun _ _ _ _=>kjd) he I2 T st2 f2 W w0 (kgG turn) fun D C H' s' m B fC hCD hm q=>?_
 obtain⟨c0,c1,c2,c3,c4,c5⟩:=fC
 exact⟨m,hm,fun h' hs'=>⟨.ref D,H',B.turned (t':=s'.toks) (fun b o hb e=>(hs'.2 b hb).trans e) c0 c1 c3 c4 c5,rfl,q⟩⟩
theorem keA{wi:TI}{i:Nat}{y:Str}{py spos:Pos}(S:CompScope X scope N cap)(hc:X.calm=true)(hi:PI X tg iter wi)(hg:∀fp s H C,PG (cxC X scope N fp s H C) tg g)(he:∀fp s H C,PE (cxC X scope N fp s H C) elt te)
  (hA:PG X (.Name y py) (gName i)) (hsw:swapsWith (.ListComp elt [⟨tg,iter,[],0⟩] scope pos) (some (.Name y py)) spos.line X.env=pure true:=by rfl)
  (hs:∀x,foldedSetIterable iter X.env x=pure x:=by intro _;rfl):PS X (.Assign [.Name y py] (.ListComp elt [⟨tg,iter,[],0⟩] scope pos) spos) (tAsg (tComp wi cap g te) (gName i)):=by
 intro pins s σ H D I h
 rw[exec_Assign_Name_used _ _ _ _ hsw]
 refine wpAny_bind (wpAny_standAt (wpAny_bind ?_))
 show wpAny _ X.A (do let _ ←comprehension (.ListComp elt [⟨tg,iter,[],0⟩] scope pos) scope X.env _ (newList []) false (eval iter X.env) (some (assign (.Name y py) X.env))) _ _ s
 refine wpAny_bind (wpAny_mono (wpAny_comprehension_free (use:=some (assign (.Name y py) X.env)) (Q:=fun _ s'=>SP X pins D .next s') rfl hs (kco S I) S.kind S.names
  (thn (hi pins s σ H _ I h) fun v s1 h1=>thn h1 fun itv s2 h2=>?_)) (fun _ s' hq=>wpAny_pure (wpAny_pure hq)) fun _ _ e=>e)
 obtain⟨it,fp,tn,J,H2,e,I2,T,st2,f2,W,⟨m0,w0⟩,turn⟩:=h2
 subst e
 refine kc5 (Q:=fun v H'=>gName i v σ H' D.nx) (RR:=fun acc C=>compPost (model X.prog X.w) X.A X.xe (some (assign (.Name y py) X.env)) (fun _ s'=>SP X pins D .next s') acc C) S hc hg (fun _ _ _ _=>kjd) he I2 T st2 f2 W w0 (kgG (Q:=fun v H'=>gName i v σ H' D.nx) turn) fun D' C H' s' m B fC hCD hm q=>?_
 obtain⟨c0,c1,c2,c3,c4,c5⟩:=fC
 obtain⟨oC,es,ep,eC,dC,kC⟩:=hm
 have B':Inv X (pins++[(C,oC)]) σ H' s':=B.pins_of fun p hp=>by
  rcases N1.mp hp with hp|hp
  ·exact B.pin p (N6 _ hp)
  ·have e:p=(C,oC):=by simpa using hp
   subst e
   exact⟨eC,c0,c1,c2,fun v z=>by rw[dC] at z;cases z⟩
 refine thn (hA _ s' σ H' (.ref D') (.ref D') _ B' rfl q) fun _ s'' ⟨σ2,H3,I3,q3⟩=>?_
 obtain⟨e3,n3,_⟩:=I3.pin (C,oC) (N6 _ (N6 _ (by simp)))
 exact⟨m,⟨oC,es,ep,e3,dC,kC⟩,fun h' hs'=>⟨σ2,H3,I3.unpinned.turned (t':=s''.toks) (fun b o hb e=>(hs'.2 b hb).trans e) n3 c1 c3 c4 c5,q3⟩⟩
end
section
variable {g:TG} {te:TE} {σ:St} {H:Hp} {R:List V→Hp→Addr→Prop}
theorem kaO{K:Nt}{a:Addr}{xs:List V}(Pv:Nat→St→List V→Hp→Prop)(h0:Pv 0 σ [] H)(hz:xs.length≤sizeLine)(hl:∀i σ ys H,i≤xs.length→Pv i σ ys H→SqL K H a xs∧ys.length=i)
  (hs:∀i x σ ys H,xs[i]?=some x→Pv i σ ys H→g x σ H fun σ2 H2=>te σ2 H2 fun y H3=>Pv (i+1) σ2 (ys++[y]) H3) (hd:∀σ ys H,Pv xs.length σ ys H→∀D,H D=none→R ys H D):
  ∃ W:Nat→Nat→St→List V→Hp→Prop,(∃m,W 0 m σ [] H)∧∀i m σ' ys H',W i m σ' ys H'→
   ((Itl K a).stop i H'∧∀D,H' D=none→R ys H' D)∨((Itl K a).go i H'∧ys.length<sizeLine∧∃N:St→V→Hp→Prop,(∀σ2 y H4,N σ2 y H4→∃m',m'<m∧W (i+1) m' σ2 (ys++[y]) H4)∧
    ∀x H2,(Itl K a).yld i H' x H2→g x σ' H2 fun σ2 H3=>te σ2 H3 (N σ2)):=by
 refine⟨fun i m σ ys H=>m=xs.length-i∧i≤xs.length∧Pv i σ ys H,⟨xs.length,by simp,Mb _,h0⟩,?_⟩
 rintro i m σ ys H ⟨rfl,hi,p⟩
 obtain⟨q,el⟩:=hl i σ ys H hi p
 by_cases hlt:i<xs.length
 ·refine .inr ⟨⟨xs,xs[i],q,by simp[hlt]⟩,by omega,fun σ2 y H3=>Pv (i+1) σ2 (ys++[y]) H3,fun σ' y H' p'=>⟨xs.length-(i+1),by omega,rfl,hlt,p'⟩,fun x H' yl=>?_⟩
  obtain⟨e,yl⟩:=yl
  subst e
  exact hs i x σ ys _ (yl xs q) p
 ·have e:i=xs.length:=by omega
  subst e
  exact .inl ⟨⟨xs,q,Nv _⟩,hd σ ys H p⟩
theorem kfl{lo:Int}{n:Nat}(Pv:Nat→St→List V→Hp→Prop)(h0:Pv 0 σ [] H)(hz:n≤sizeLine)(hl:∀i σ ys H,i≤n→Pv i σ ys H→ys.length=i)
  (hs:∀i σ ys H,i<n→Pv i σ ys H→g (.int (lo+i)) σ H fun σ2 H2=>te σ2 H2 fun y H3=>Pv (i+1) σ2 (ys++[y]) H3) (hd:∀σ ys H,Pv n σ ys H→∀D,H D=none→R ys H D):
  ∃ W:Nat→Nat→St→List V→Hp→Prop,(∃m,W 0 m σ [] H)∧∀i m σ' ys H',W i m σ' ys H'→
   ((Itr lo n).stop i H'∧∀D,H' D=none→R ys H' D)∨((Itr lo n).go i H'∧ys.length<sizeLine∧∃N:St→V→Hp→Prop,(∀σ2 y H4,N σ2 y H4→∃m',m'<m∧W (i+1) m' σ2 (ys++[y]) H4)∧
    ∀x H2,(Itr lo n).yld i H' x H2→g x σ' H2 fun σ2 H3=>te σ2 H3 (N σ2)):=by
 refine⟨fun i m σ ys H=>m=n-i∧i≤n∧Pv i σ ys H,⟨n,by simp,Mb _,h0⟩,?_⟩
 rintro i m σ ys H ⟨rfl,hi,p⟩
 have el:=hl i σ ys H hi p
 by_cases hlt:i<n
 ·refine .inr ⟨hlt,by omega,fun σ2 y H3=>Pv (i+1) σ2 (ys++[y]) H3,fun σ' y H' p'=>⟨n-(i+1),by omega,rfl,hlt,p'⟩,fun x H' yl=>?_⟩
  obtain⟨e,yl⟩:=yl
  subst e yl
  exact hs i σ ys _ hlt p
 ·have e:i=n:=by omega
  subst e
  exact .inl ⟨Nv _,hd σ ys H p⟩
end
theorem CompScope.plain{X:Cx}{scope:Scope}{N:List Str}(kind:scope.kind=.function)(names:∀x∈scope.names,x.2=.local→scope.names.lookup x.1=some .local)(_:∀x∈scope.names,x.2≠.cell)(nf:∀x∈scope.names,x.2≠.free)(nd:N.Nodup):
  CompScope X scope N (Nw N.length none):=by
 refine⟨kind,names,fun x hx hf=>absurd hf (nf x hx),nd,by simp,fun j i x e _=>?_⟩
 rw[EZ] at e
 split at e
 ·cases e
 ·cases e
noncomputable def klr(scope:Scope)(ns:List (Str×NameKind))(XN N:List Str)(cap:List (Option Nat)):Bool:=
 scope.kind== .function&&scope.names.all (fun x=>!(x.2== .local)||scope.names.lookup x.1==some .local)&&scope.names.all (fun x=>!(x.2== .free)||(ns.lookup x.1==some .cell||ns.lookup x.1==some .free))&&decide N.Nodup&&decide (cap.length=N.length) &&
  (cap.zip N).all fun p=>match p.1 with
   |none=>true
   |some i=>XN[i]? ==some p.2&&scope.names.lookup p.2==some .free&&scope.names.all fun y=>!(y.1==p.2&&y.2== .cell)
def CompScope.of{X:Cx}{scope:Scope}{N:List Str}{cap:List (Option Nat)}(ns:List (Str×NameKind))(XN:List Str)(hn:X.env.scope.names=ns)(hN:X.N=XN)(h:klr scope ns XN N cap=true):CompScope X scope N cap:=by
 unfold klr at h
 simp only[Ms,decide_eq_true_eq,Ew,E6,Bool.not_eq_true',beq_iff_eq,beq_eq_false_iff_ne] at h
 obtain⟨⟨⟨⟨⟨h1,h2⟩,h3⟩,h4⟩,h5⟩,h6⟩:=h
 refine⟨h1,fun x hx hl=>?_,fun x hx hf=>?_,h4,h5,fun j i x e1 e2=>?_⟩
 ·rcases h2 x hx with q|q
  ·exact absurd hl q
  ·exact q
 ·rw[hn]
  rcases h3 x hx with q|q
  ·exact absurd hf q
  ·exact q
 ·have hz:(cap.zip N)[j]?=some (some i,x):=by
   rw[List.getElem?_zip_eq_some]
   exact⟨e1,e2⟩
  have q:=h6 _ (NA hz)
  simp only[Ms,beq_iff_eq,Ew,Bool.not_eq_true',Bool.and_eq_false_iff,beq_eq_false_iff_ne] at q
  obtain⟨⟨q1,q2⟩,q3⟩:=q
  refine⟨by rw[hN];exact q1,q2,fun z=>?_⟩
  rcases q3 _ z with q|q
  ·exact q rfl
  ·exact q rfl
end L2
namespace L2
open PySem PySem.Spec PyProof.Rows
theorem Inv.turnedL{X:Cx}{pins:List (Addr×Obj)}{σ:St}{H:Hp}{s:Shared}{h':Heap}{t':Nat}{ch:List Addr}(I:Inv X pins σ H s)(k:∀b o,b∉ch→s.heap.get? b=some o→h'.get? b=some o)(hf:∀b∈ch,FpOk X pins H b):
  Inv X pins σ H {s with heap:=h',toks:=t'}:=by
 have nch:∀b u,H b=some u→b∉ch:=fun b u e z=>by
  have:=(hf b z).1
  rw[this] at e
  cases e
 refine I.step (g':=s.gens) (d':=s.drawn) (ch:=ch) (fun b hb=>let⟨_,h1,_,h3,h4,h5⟩:=hf b hb;⟨h3,h1,h4,h5⟩) (fun b o _ _ hc e _=>k b o hc e) (fun b o _ _ hc e _=>⟨o.slots,k b o hc e⟩) (fun _ _ _ _ n=>n)
  (fun b o hc e=>⟨o,k b o hc e⟩) (fun _ _ e=>e) (fun _ _ _ e=>e) (fun b ps e=>⟨#[],by rw[e];simp⟩) (fun m hm=>?_) (fun b u e=>?_) I.bare
 ·obtain⟨o,es,ep,ho,r⟩:=hm
  exact⟨o,es,ep,k _ o (fun z=>(hf _ z).2.1 rfl) ho,r⟩
 ·refine(I.hok b u e).stay (fun c v hc q=>k c v ?_ q) (fun _ q=>q) fun _ _ q=>q
  rcases hc with z|z
  ·rw[z];exact nch b u e
  ·exact nch c _ z
noncomputable def Ite(a:Addr):It:=⟨fun i H=>∃xs x,H a=some (.lst xs)∧xs[i]?=some x,fun i H x H'=>∃t y,H t=none∧x=.ref t∧H'=upd H t (.tup [.int i,y])∧∀xs,H a=some (.lst xs)→xs[i]?=some y,fun i H=>∃xs,H a=some (.lst xs)∧xs.length≤i⟩
theorem kiA{P:Program}{w:World}{K:Nt}{es:List Expr}{k:Nat}{pos:Pos}(a e it:Addr)(hne:e≠it):Turn P w K (.Tuple es k pos) (Ite a) [e,it] e (fun i h=>(∃old,IsEnum h e it ((i:Nat):Int) old)∧h.IsListIter it a i) where
 mem:=by simp
 obj:=fun i h st b hb=>by
  obtain⟨⟨old,he⟩,o,eo,c,d⟩:=st
  have hb':b=e∨b=it:=by simpa using hb
  rcases hb' with rfl|rfl
  ·exact⟨_,he,fun v z=>by
    have z':Data.fields _=Data.cell v:=z
    cases z'⟩
  ·exact⟨o,eo,fun v z=>by rw[d] at z;cases z⟩
 keep:=fun i h h' st k=>⟨let⟨old,he⟩:=st.1;⟨old,k e (by simp) _ he⟩,st.2.at fun o eo=>k it (by simp) o eo⟩
 item:=by
  intro X hP hw hK hc i pins s σ H E I hf st hg
  subst hP hw hK
  obtain⟨⟨old,he⟩,hit⟩:=st
  obtain⟨xs,x,hq,hx⟩:=hg
  obtain⟨its,n,r,ho,hz⟩:=I.lst hq
  obtain⟨u,hu,ru⟩:=r.get hx
  have hl:s.heap.IsList a its.toArray:=⟨_,ho,rfl,n,rfl⟩
  refine wpAny_pyNext_enum_item he hit hl (x:=u) (by simpa using hu) hne fun h1 heo hit1 ht1 hz1 hk1=>?_
  refine⟨.ref s.heap.objs.size,rfl,wpAny_letOwnedTupleGo_enum heo fun h2 he2 hs2=>?_⟩
  have hs2':Heap.SameBut e h1 h2:=hs2
  have el:e<s.heap.objs.size:=Heap.lt_size he
  have kk:∀b o,b∉[e,it]→s.heap.get? b=some o→h2.get? b=some o:=fun b o hb eo=>by
   have hb':b≠e∧b≠it:=by simpa using hb
   exact(hs2'.2 b hb'.1).trans (hk1 b o hb'.1 hb'.2 eo)
  have I1:Inv X pins σ H {s with heap:=h2,toks:=s.toks+1}:=I.turnedL (ch:=[e,it]) kk hf
  have fr:H s.heap.objs.size=none:=I.hok.fresh (Nv _)
  have ft:FpOk X pins H s.heap.objs.size:=I.fpOk (Nv _) fr
  have ht2:h2.get? s.heap.objs.size=some {cls:=.type "tuple",data:=.seq #[.int i s.toks,u]}:=(hs2'.2 _ (Mp el)).trans ht1
  have I2:Inv X pins σ (upd H s.heap.objs.size (.tup [.int i,x])) {s with heap:=h2,toks:=s.toks+1}:=
   I1.adopt ft I.sz ⟨by show 2≤sizeLine;decide,[.int i s.toks,u], .cons ⟨_,rfl⟩ (.cons ru .nil),_,ht2,rfl,_,rfl⟩
  have hit2:h2.IsListIter it a (i+1):=hit1.extBut hs2'.extBut (Ne.symm hne)
  refine⟨.ref s.heap.objs.size,_,I2,rfl,⟨s.heap.objs.size,x,fr,rfl,rfl,fun ys hy=>by rw[hq] at hy;cases hy;exact hx⟩,⟨⟨u,?_⟩,hit2⟩,fun b hb=>?_⟩
  ·have e1:((i+1:Nat):Int)=(i:Int)+1:=rfl
   rw[e1]
   exact he2
  ·have hbl:b<s.heap.objs.size:=by
    have hb':b=e∨b=it:=by simpa using hb
    rcases hb' with rfl|rfl
    ·exact el
    ·obtain⟨o,eo,_⟩:=hit
     exact Heap.lt_size eo
   rw[kal (NY hbl)]
   exact(hf b hb).1
 done:=by
  intro X hP hw hK hc i pins s σ H E I hf st hg
  subst hP hw hK
  obtain⟨⟨old,he⟩,hit⟩:=st
  obtain⟨xs,hq,hx⟩:=hg
  obtain⟨its,n,r,ho,hz⟩:=I.lst hq
  have hl:s.heap.IsList a its.toArray:=⟨_,ho,rfl,n,rfl⟩
  have hlen:=r.length
  obtain⟨f0,f1,f2,f3,f4,f5⟩:=hf it (by simp)
  exact wpAny_pyNext_enum_end (I.ok.hd hc) he hit hl (by simp;omega) fun h' eb=>⟨rfl,I.turned (t':=s.toks) (fun b o hb e=>eb b o hb e) f0 f1 f3 f4 f5⟩
 self:=fun _ _ _ _ _ st h=>let⟨_,he⟩:=st.1;wpAny_pyIter_enum he h
section
variable {X:Cx}
noncomputable def iEnum(ta:TA):TI:=fun σ H R=>ta σ H fun vs H1=>∃a xs,vs=[.ref a]∧H1 a=some (.lst xs)∧R (Ite a) H1
theorem kjf{es:List Expr}{k:Nat}{tpos:Pos}{e:Expr}{ta:TA}{p pos:Pos}(hg:Gl X "enumerate")(hm:X.mg "enumerate"=none)(ha:PA X [e] ta)(he:starEach [e] X.env=(false,eval e X.env)::starEach [] X.env:=by rfl)
  (hpl:(backTo pos (starEach [] X.env)).any (·.1)=false:=by rfl):PI X (.Tuple es k tpos) (.Call (.Name "enumerate" p) [e] [] pos) (iEnum ta):=by
 intro pins s σ H R I h
 refine Call_ (kdc I hg hm boot_enumerate (PyProof.Rows.callWith_type1 (thn (ha pos pins s σ H _ I h) fun us s1 ⟨vs,H1,I1,r1,q1⟩=>?_) he hpl))
 obtain⟨a,xs,rfl,hq,q⟩:=q1
 obtain⟨u,rfl,rx⟩:=vals1 r1
 cases rx
 obtain⟨its,n,r,ho,hz⟩:=I1.lst hq
 refine call_enumerate_1 ho fun h' he' hit' hsz hk=>wpAny_pyIter_enum he' ?_
 have I2:Inv X pins σ H1 {s1 with heap:=h'}:=I1.kept (t':=s1.toks) hk
 refine⟨s1.heap.objs.size+1,[s1.heap.objs.size+1,s1.heap.objs.size],_,_,H1,rfl,I2,kiA a (s1.heap.objs.size+1) s1.heap.objs.size (Nat.succ_ne_self _),⟨⟨_,he'⟩,hit'⟩,fun b hb=>?_,q⟩
 have hb':b=s1.heap.objs.size+1∨b=s1.heap.objs.size:=by simpa using hb
 have hle:s1.heap.objs.size≤b:=by rcases hb' with rfl|rfl <;> omega
 exact I1.fpOk hle (I1.hok.fresh hle)
end
theorem kkI{a:Addr}{xs:List V}{g:TG}{tb:TS}{D:Ends}{σ:St}{H:Hp}(Pv:Nat→St→Hp→Prop)(h0:Pv 0 σ H)(hl:∀i σ H,i≤xs.length→Pv i σ H→H a=some (.lst xs))
  (hs:∀i y t σ H,xs[i]?=some y→Pv i σ H→H t=none→g (.ref t) σ (upd H t (.tup [.int (i:Nat),y])) fun σ2 H2=>tb {D with nx:=Pv (i+1),ct:=Pv (i+1),bk:=D.nx} σ2 H2) (hd:∀σ H,Pv xs.length σ H→D.nx σ H):
  ∃W:Nat→Nat→St→Hp→Prop,(∃m,W 0 m σ H)∧∀i m σ H,W i m σ H→
   ((Ite a).stop i H∧D.nx σ H)∨((Ite a).go i H∧∃N:St→Hp→Prop,(∀σ' H',N σ' H'→∃m',m'<m∧W (i+1) m' σ' H')∧∀x H',(Ite a).yld i H x H'→g x σ H' fun σ2 H2=>tb {D with nx:=N,ct:=N,bk:=D.nx} σ2 H2):=by
 refine⟨fun i m σ H=>m=xs.length-i∧i≤xs.length∧Pv i σ H,⟨xs.length,by simp,Mb _,h0⟩,?_⟩
 rintro i m σ H ⟨rfl,hi,p⟩
 have q:=hl i σ H hi p
 by_cases hlt:i<xs.length
 ·refine .inr ⟨⟨xs,xs[i],q,by simp[hlt]⟩,Pv (i+1),fun σ' H' p'=>⟨xs.length-(i+1),by omega,rfl,hlt,p'⟩,fun x H' y=>?_⟩
  obtain⟨t,y,hn,rfl,rfl,hy⟩:=y
  exact hs i y t σ _ (hy xs q) p hn
 ·have e:i=xs.length:=by omega
  subst e
  exact .inl ⟨⟨xs,q,Nv _⟩,hd σ H p⟩
section
variable {X:Cx}
noncomputable def klP:V→List V→Hp→VK→Prop:=fun x vs H Q=>∃(l:Addr)(xs:List V)(k:Int)(y:V),x=.ref l∧vs=[.int k,y]∧H l=some (.lst xs)∧0≤k∧k≤xs.length∧xs.length<sizeLine∧Q .non (upd H l (.lst (xs.take k.toNat++y::xs.drop k.toNat)))
theorem kl8(its:List Value)(k:Nat)(u:Value):(its.toArray.extract 0 k).push u++its.toArray.extract k=(its.take k++u::its.drop k).toArray:=by
 apply Array.ext'
 simp
 exact Ml (by simp)
theorem kjo:MtM X "list.insert" klP:=by
 intro pins s σ H x vs v us Q I rx rv h
 obtain⟨l,xs,k,y,rfl,rfl,hH,hk0,hk,hz,q⟩:=h
 cases rx
 obtain⟨uk,u,rfl,⟨t,rfl⟩,ru⟩:=rv.two
 obtain⟨z,its,n,r,hl,e⟩:=I.lstM hH
 have hn:=kgA
 have hfit:¬(!Builtin.List.listFitsIndex k)=true:=by
  unfold Builtin.List.listFitsIndex
  simp
  omega
 have hsz:its.toArray.size≤sizeLine:=by rw[NS];omega
 refine call_meets F.slot_list_insert ⟨_,e,rfl⟩ F.entry_list_insert (F.args_list_insert_3 _ _ _) (AutoSeq1.list_insert_list_int_val_1 l its.toArray n k t u hfit hsz) ⟨e,?_⟩
 refine⟨.non,_,I.lset (its':=its.take k.toNat++u::its.drop k.toNat) hH e ?_ ((r.take k.toNat).append (.cons ru (r.drop k.toNat))) ?_,rfl,q⟩
 ·have e1:(if k<0 then(k+(its.toArray.size:Int)).toNat else min k.toNat its.toArray.size)=k.toNat:=by
   rw[if_neg (by omega),MM (by simp;omega)]
  show(its.toArray.extract 0 (if k<0 then(k+(its.toArray.size:Int)).toNat else min k.toNat its.toArray.size)).push u++its.toArray.extract (if k<0 then(k+(its.toArray.size:Int)).toNat else min k.toNat its.toArray.size)=_
  rw[e1]
  exact kl8 its k.toNat u
 ·simp
  omega
end
section
variable {X:Cx}
end
end L2
namespace L2
open PySem PySem.Spec PyProof.Rows
section
variable {prog:Program} {w:World} {A:Around} {E:Value→Shared→Prop} {s:Shared}
end
section
variable {X:Cx}
end
section
variable {X:Cx} {CX:CXT} {k:Nat} {f C:Addr} {fd:FuncData} {ps ks:List Str} {sp:Sp} {E:XK} {x:Str} {p pos:Pos} {e:Expr} {es:List Expr} {kws:List Keyword} {t tk:TA} {g:List Value→List Value→List Value} {gV:List V→List V→List V}
end
end L2
namespace L2
open PySem PySem.Spec PyProof.Rows
noncomputable def kbe(K:Nt):List V→Hp→VK→Prop:=fun xs H Q=>∃p ys,xs=[.ref p]∧(SqL K H p ys∨SqT K H p ys)∧∀l,H l=none→Q (.ref l) (upd H l (.lst ys))
noncomputable def ka6(K:Nt):List V→Hp→VK→Prop:=fun xs H Q=>∃p ys,xs=[.ref p]∧(SqL K H p ys∨SqT K H p ys)∧Q (.int ys.length) H
noncomputable def rSum(K:Nt):List V→Hp→VK→Prop:=fun xs H Q=>∃(p:Addr)(ns:List Int),xs=[.ref p]∧SqL K H p (ns.map V.int)∧Q (.int ns.sum) H
noncomputable def rIsi(K:Nt):List V→Hp→VK→Prop:=fun xs H Q=>∃x c t b,xs=[x,c]∧((∃n,c=.ty n)∨∃a,c=.ref a)∧TyOf K H x t∧NL K t (cV c)=some b∧Q (.bl b) H
section
variable {X:Cx} {K:Nt} {pos:Pos}
theorem kai{e:Expr}{ta:TE}{f:Str}(he:PE X e ta)(hb:attributeBase e f X.env (eval e X.env)=eval e X.env)(hK:X.K=K:=by rfl):PE X (.Attribute e f pos) (tFld K ta f):=by
 subst hK
 exact kmv he hb
theorem kaG{tg l:Expr}{tl:TE}(hl:PE X l tl)(hK:X.K=K:=by rfl):PI X tg l (iList K tl):=by
 subst hK
 exact klS hl
theorem kbs{es:List Expr}{k:Nat}{t:TGs}{n:Nat}(hc:X.calm=true)(h:PGs X es t)(hK:X.K=K:=by rfl)
  (hn:(assignEach es X.env).length=n:=by rfl) (hst:(assignEach es X.env).findIdx? (·.1)=none:=by rfl):PG X (.Tuple es k pos) (gTup K n t):=by
 subst hK
 exact kmt hc h hn hst
end
end L2
namespace L2
open PySem PySem.Spec PyProof.Rows
inductive DEq (K:Nt) (H:Hp):Nat→V→V→Prop
 |flat {n:Nat} {x y:V} (fx:flatV x=true) (fy:flatV y=true) (e:eqV x y=true):DEq K H n x y
 |same {n:Nat} (a:Addr):DEq K H n (.ref a) (.ref a)
 |lst {n:Nat} {a b:Addr} {xs ys:List V} (ha:SqL K H a xs) (hb:SqL K H b ys) (hl:xs.length=ys.length) (h:∀(i:Nat)(x y:V),xs[i]?=some x→ys[i]?=some y→DEq K H n x y):DEq K H (n+1) (.ref a) (.ref b)
 |tup {n:Nat} {a b:Addr} {xs ys:List V} (ha:SqT K H a xs) (hb:SqT K H b ys) (hl:xs.length=ys.length) (h:∀(i:Nat)(x y:V),xs[i]?=some x→ys[i]?=some y→DEq K H n x y):DEq K H (n+1) (.ref a) (.ref b)
def DEq.self{K:Nt}{H:Hp}{n:Nat}{x:V}(h:flatV x=true):DEq K H n x x:=.flat h h (kkM h)
def DEq.int{K:Nt}{H:Hp}{n:Nat}(i:Int):DEq K H n (.int i) (.int i):=.self rfl
def DEq.bl{K:Nt}{H:Hp}{n:Nat}(i:Bool):DEq K H n (.bl i) (.bl i):=.self rfl
def DEq.non{K:Nt}{H:Hp}{n:Nat}:DEq K H n .non .non:=.self rfl
def DEq.str{K:Nt}{H:Hp}{n:Nat}(i:Str):DEq K H n (.str i) (.str i):=.self rfl
section
variable {X:Cx}
theorem all_true(n:Nat):(NB n).all (fun _=>true)=true:=by simp
theorem kcF{xs:List V}{us:List Value}(r:Vals xs us){j:Nat}(h:j<us.toArray.size):∃x,xs[j]?=some x∧RelV x us.toArray[j]:=by
 have h':j<us.length:=by simpa using h
 have l:=r.length
 obtain⟨u,e,ru⟩:=r.get (i:=j) (x:=xs[j]'(by omega)) (by simp[show j<xs.length by omega])
 refine⟨xs[j]'(by omega),by simp[show j<xs.length by omega],?_⟩
 have:us.toArray[j]=u:=by
  obtain⟨_,e'⟩:=NG.mp e
  simpa using e'
 rw[this]
 exact ru
theorem kh9{pins:List (Addr×Obj)}{σ:St}{H:Hp}{s:Shared}(I:Inv X pins σ H s){n:Nat}{x y:V}(h:DEq X.K H n x y):∀{A:Around}{u w:Value},A.units+n<cLine→RelV x u→RelV y w→SeqAt.EqAt A s u w true:=by
 induction h with
 |flat fx fy e=>
  intro A u w _ r1 r2
  have:=kjV (A:=A) (s:=s) r1 r2 fx fy
  rw[e] at this
  exact this
 |same a=>
  intro A u w _ r1 r2
  cases r1
  cases r2
  exact SeqAt.EqAt.same _
 | @lst n a b xs ys ha hb hl h ih=>
  intro A u w hu r1 r2
  cases r1
  cases r2
  by_cases e:a=b
  ·subst e
   exact SeqAt.EqAt.same _
  obtain⟨us,q1,p1,z1⟩:=I.list ha
  obtain⟨ws,q2,p2,z2⟩:=I.list hb
  have l1:=q1.length
  have l2:=q2.length
  have key:=SeqAt.RcAt.lists (A:=A) (e:=fun _=>true) p1.isList p2.isList (by simp;omega) (by omega) fun j h1 h2=>by
   obtain⟨x,e1,g1⟩:=kcF q1 h1
   obtain⟨y,e2,g2⟩:=kcF q2 h2
   exact ih j x y e1 e2 (A:=A.in1) (by show A.units+1+n<cLine;omega) g1 g2
  rw[all_true] at key
  exact SeqAt.EqAt.of_refs e key
 | @tup n a b xs ys ha hb hl h ih=>
  intro A u w hu r1 r2
  cases r1
  cases r2
  by_cases e:a=b
  ·subst e
   exact SeqAt.EqAt.same _
  obtain⟨us,q1,p1,z1⟩:=I.tuple ha
  obtain⟨ws,q2,p2,z2⟩:=I.tuple hb
  have l1:=q1.length
  have l2:=q2.length
  have key:=SeqAt.RcAt.tuples (A:=A) (e:=fun _=>true) p1 p2 (by omega) fun j h1 h2=>by
   obtain⟨x,e1,g1⟩:=kcF q1 h1
   obtain⟨y,e2,g2⟩:=kcF q2 h2
   exact ih j x y e1 e2 (A:=A.in1) (by show A.units+1+n<cLine;omega) g1 g2
  rw[all_true,show(us.toArray.size==ws.toArray.size)=true by simp;omega] at key
  exact SeqAt.EqAt.of_refs e key
noncomputable def klb(K:Nt)(b:Bool):R2:=fun x y H Q=>∃(a c:Addr)(xs ys:List V),x=.ref a∧y=.ref c∧((SqL K H a xs∧SqL K H c ys)∨(SqT K H a xs∧SqT K H c ys))∧xs.length=ys.length∧(∀(i:Nat)(x y:V),xs[i]?=some x→ys[i]?=some y→DEq K H 32 x y)∧Q (.bl b) H
theorem kmD(hu:X.A.units+64<cLine):OpR X (compareOp .Eq) (klb X.K true):=by
 intro pins s σ H x y v u Q I rx ry h
 obtain⟨a,c,xs,ys,rfl,rfl,hq,hl,hd,q⟩:=h
 cases rx
 cases ry
 rcases hq with⟨ha,hb⟩|⟨ha,hb⟩
 ·obtain⟨us,q1,p1,z1⟩:=I.list ha
  obtain⟨ws,q2,p2,z2⟩:=I.list hb
  have l1:=q1.length
  have l2:=q2.length
  refine SeqAt.eq_listAt (e:=fun _=>true) p1.isList p2.isList (by simp;omega) (by omega) (fun j h1 h2=>?_) ⟨.bl true,H,I,?_,q⟩
  ·obtain⟨x,e1,g1⟩:=kcF q1 h1
   obtain⟨y,e2,g2⟩:=kcF q2 h2
   exact kh9 I (hd j x y e1 e2) (by show X.A.units+1+32<cLine;omega) g1 g2
  ·rw[all_true]
   rfl
 ·obtain⟨us,q1,p1,z1⟩:=I.tuple ha
  obtain⟨ws,q2,p2,z2⟩:=I.tuple hb
  have l1:=q1.length
  have l2:=q2.length
  refine SeqAt.eq_tupleAt (e:=fun _=>true) p1 p2 (by omega) (fun j h1 h2=>?_) ⟨.bl true,H,I,?_,q⟩
  ·obtain⟨x,e1,g1⟩:=kcF q1 h1
   obtain⟨y,e2,g2⟩:=kcF q2 h2
   exact kh9 I (hd j x y e1 e2) (by show X.A.units+1+32<cLine;omega) g1 g2
  ·rw[all_true,show(us.toArray.size==ws.toArray.size)=true by simp;omega]
   rfl
theorem kmB(hu:X.A.units+64<cLine):OpR X (compareOp .NotEq) (klb X.K false):=by
 intro pins s σ H x y v u Q I rx ry h
 obtain⟨a,c,xs,ys,rfl,rfl,hq,hl,hd,q⟩:=h
 cases rx
 cases ry
 show wpAny _ _ (richCompare .NotEq (.ref a) (.ref c)) _ _ s
 rcases hq with⟨ha,hb⟩|⟨ha,hb⟩
 ·obtain⟨us,q1,p1,z1⟩:=I.list ha
  obtain⟨ws,q2,p2,z2⟩:=I.list hb
  have l1:=q1.length
  have l2:=q2.length
  refine SeqAt.RcNeAt.lists (e:=fun _=>true) p1.isList p2.isList (by simp;omega) (by omega) (fun j h1 h2=>?_) _ _ _ _ ⟨.bl false,H,I,?_,q⟩
  ·obtain⟨x,e1,g1⟩:=kcF q1 h1
   obtain⟨y,e2,g2⟩:=kcF q2 h2
   exact kh9 I (hd j x y e1 e2) (by show X.A.units+1+32<cLine;omega) g1 g2
  ·rw[all_true]
   rfl
 ·obtain⟨us,q1,p1,z1⟩:=I.tuple ha
  obtain⟨ws,q2,p2,z2⟩:=I.tuple hb
  have l1:=q1.length
  have l2:=q2.length
  refine SeqAt.RcNeAt.tuples (e:=fun _=>true) p1 p2 (by omega) (fun j h1 h2=>?_) _ _ _ _ ⟨.bl false,H,I,?_,q⟩
  ·obtain⟨x,e1,g1⟩:=kcF q1 h1
   obtain⟨y,e2,g2⟩:=kcF q2 h2
   exact kh9 I (hd j x y e1 e2) (by show X.A.units+1+32<cLine;omega) g1 g2
  ·rw[all_true,show(us.toArray.size==ws.toArray.size)=true by simp;omega]
   rfl
end
noncomputable def Itz(a b:Addr):It:=⟨fun i H=>∃xs ys x y,H a=some (.lst xs)∧H b=some (.lst ys)∧xs[i]?=some x∧ys[i]?=some y,
 fun i H v H'=>∃t x y,H t=none∧v=.ref t∧H'=upd H t (.tup [x,y])∧(∀xs,H a=some (.lst xs)→xs[i]?=some x)∧∀ys,H b=some (.lst ys)→ys[i]?=some y,
 fun i H=>∃xs ys,H a=some (.lst xs)∧H b=some (.lst ys)∧(xs.length≤i∨ys.length≤i)⟩
theorem kkb{P:Program}{w:World}{K:Nt}{es:List Expr}{k:Nat}{pos:Pos}(a b z TI TO i1 i2:Addr)(nd:[z,TI,TO,i1,i2].Nodup):
  Turn P w K (.Tuple es k pos) (Itz a b) [z,TI,TO,i1,i2] z (fun i h=>IsZip h z TI TO .none∧IsPair h TI (.ref i1) (.ref i2)∧(∃u v,IsPair h TO u v)∧h.IsListIter i1 a i∧h.IsListIter i2 b i) where
 mem:=by simp
 obj:=fun i h st b hb=>by
  obtain⟨hz,hI,⟨_,_,hO⟩,⟨o1,e1,_,d1⟩,⟨o2,e2,_,d2⟩⟩:=st
  simp only[NO,Mi,or_false] at hb
  rcases hb with rfl|rfl|rfl|rfl|rfl
  ·exact⟨_,hz,fun v q=>by cases(show Data.fields _=Data.cell v from q)⟩
  ·exact⟨_,hI,fun v q=>by cases(show Data.seq _ _=Data.cell v from q)⟩
  ·exact⟨_,hO,fun v q=>by cases(show Data.seq _ _=Data.cell v from q)⟩
  ·exact⟨o1,e1,fun v q=>by rw[d1] at q;cases q⟩
  ·exact⟨o2,e2,fun v q=>by rw[d2] at q;cases q⟩
 keep:=fun i h h' st kk=>by
  obtain⟨hz,hI,⟨u,v,hO⟩,h1,h2⟩:=st
  exact⟨kk z (by simp) _ hz,kk TI (by simp) _ hI,⟨u,v,kk TO (by simp) _ hO⟩,h1.at fun o e=>kk i1 (by simp) o e,h2.at fun o e=>kk i2 (by simp) o e⟩
 item:=by
  intro X hP hw hK hc i pins s σ H E I hf st hg
  subst hP hw hK
  obtain⟨hz,hI,⟨u,v,hO⟩,h1,h2⟩:=st
  obtain⟨xs,ys,x,y,ha,hb,hx,hy⟩:=hg
  obtain⟨its1,n1,r1,ho1,_⟩:=I.lst ha
  obtain⟨its2,n2,r2,ho2,_⟩:=I.lst hb
  obtain⟨u1,g1,ru1⟩:=r1.get hx
  obtain⟨u2,g2,ru2⟩:=r2.get hy
  have L1:s.heap.IsList a its1.toArray:=⟨_,ho1,rfl,n1,rfl⟩
  have L2':s.heap.IsList b its2.toArray:=⟨_,ho2,rfl,n2,rfl⟩
  have off:∀{l:Addr}{zs:List V},H l=some (.lst zs)→l∉[z,TI,TO,i1,i2]:=fun {l zs} e m=>by
   have:=(hf l m).1
   rw[this] at e
   cases e
  have oa:=off ha
  have ob:=off hb
  have nd':=nd
  simp only[Mw,NO,Mi,or_false,not_or,E7,and_true,not_false_eq_true] at nd' oa ob
  obtain⟨⟨nzI,nzO,nz1,nz2⟩,⟨nIO,nI1,nI2⟩,⟨nO1,nO2⟩,n12⟩:=nd'
  have D:ZipApart z TI TO i1 i2 a b:=⟨Ne.symm nzI,Ne.symm nzO,Ne.symm nz1,Ne.symm nz2,nIO,nI1,nI2,nO1,nO2,n12,oa.1,oa.2.2.1,oa.2.2.2.1,oa.2.2.2.2,ob.1,ob.2.2.1,ob.2.2.2.1,ob.2.2.2.2⟩
  refine wpAny_pyNext_zip_item D hz hI hO h1 h2 L1 L2' (x:=u1) (y:=u2) (by simpa using g1) (by simpa using g2) fun h' a1 a2 a3 a4 a5 a6 a7=>?_
  refine⟨.ref s.heap.objs.size,rfl,wpAny_letOwnedTupleGo_zip a1 fun h2' z2 s2=>?_⟩
  have s2':Heap.SameBut z h' h2':=s2
  have zl:z<s.heap.objs.size:=Heap.lt_size hz
  have kk:∀b o,b∉[z,TI,TO,i1,i2]→s.heap.get? b=some o→h2'.get? b=some o:=fun b o hb eo=>by
   simp only[NO,Mi,or_false,not_or] at hb
   exact(s2'.2 b hb.1).trans (a7 b o hb.1 hb.2.2.1 hb.2.2.2.1 hb.2.2.2.2 eo)
  have I1:Inv X pins σ H {s with heap:=h2',toks:=s.toks}:=I.turnedL (ch:=[z,TI,TO,i1,i2]) kk hf
  have fr:H s.heap.objs.size=none:=I.hok.fresh (Nv _)
  have ft:FpOk X pins H s.heap.objs.size:=I.fpOk (Nv _) fr
  have t2:h2'.get? s.heap.objs.size=some {cls:=.type "tuple",data:=.seq #[u1,u2]}:=(s2'.2 _ (Mp zl)).trans a5
  have I2:Inv X pins σ (upd H s.heap.objs.size (.tup [x,y])) {s with heap:=h2',toks:=s.toks}:=
   I1.adopt ft I.sz ⟨by show 2≤sizeLine;decide,[u1,u2], .cons ru1 (.cons ru2 .nil),_,t2,rfl,_,rfl⟩
  have hI2:IsPair h2' TI (.ref i1) (.ref i2):=(s2'.2 _ (Ne.symm nzI)).trans (a7 TI _ (Ne.symm nzI) nIO nI1 nI2 hI)
  refine⟨.ref s.heap.objs.size,_,I2,rfl,⟨s.heap.objs.size,x,y,fr,rfl,rfl,fun ws e=>by rw[ha] at e;cases e;exact hx,fun ws e=>by rw[hb] at e;cases e;exact hy⟩,
   ⟨z2,hI2,⟨_,_,(s2'.2 _ (Ne.symm nzO)).trans a2⟩,a3.extBut s2'.extBut (Ne.symm nz1),a4.extBut s2'.extBut (Ne.symm nz2)⟩,fun b hb=>?_⟩
  have hbl:b<s.heap.objs.size:=by
   simp only[NO,Mi,or_false] at hb
   rcases hb with rfl|rfl|rfl|rfl|rfl
   ·exact zl
   ·exact Heap.lt_size hI
   ·exact Heap.lt_size hO
   ·obtain⟨o,e,_⟩:=h1;exact Heap.lt_size e
   ·obtain⟨o,e,_⟩:=h2;exact Heap.lt_size e
  rw[kal (NY hbl)]
  exact(hf b hb).1
 done:=by
  intro X hP hw hK hc i pins s σ H E I hf st hg
  subst hP hw hK
  obtain⟨hz,hI,⟨u,v,hO⟩,h1,h2⟩:=st
  obtain⟨xs,ys,ha,hb,hx⟩:=hg
  obtain⟨its1,n1,r1,ho1,_⟩:=I.lst ha
  obtain⟨its2,n2,r2,ho2,_⟩:=I.lst hb
  have L1:s.heap.IsList a its1.toArray:=⟨_,ho1,rfl,n1,rfl⟩
  have L2':s.heap.IsList b its2.toArray:=⟨_,ho2,rfl,n2,rfl⟩
  have hlen1:=r1.length
  have hlen2:=r2.length
  have off:∀{l:Addr}{zs:List V},H l=some (.lst zs)→l∉[z,TI,TO,i1,i2]:=fun {l zs} e m=>by
   have:=(hf l m).1
   rw[this] at e
   cases e
  have oa:=off ha
  have ob:=off hb
  have nd':=nd
  simp only[Mw,NO,Mi,or_false,not_or,E7,and_true,not_false_eq_true] at nd' oa ob
  obtain⟨⟨nzI,nzO,nz1,nz2⟩,⟨nIO,nI1,nI2⟩,⟨nO1,nO2⟩,n12⟩:=nd'
  have D:ZipApart z TI TO i1 i2 a b:=⟨Ne.symm nzI,Ne.symm nzO,Ne.symm nz1,Ne.symm nz2,nIO,nI1,nI2,nO1,nO2,n12,oa.1,oa.2.2.1,oa.2.2.2.1,oa.2.2.2.2,ob.1,ob.2.2.1,ob.2.2.2.1,ob.2.2.2.2⟩
  refine wpAny_pyNext_zip_end (I.ok.hd hc) D hz hI hO h1 h2 L1 L2' ?_ fun h' hk=>⟨rfl,?_⟩
  ·rcases hx with hx|hx
   ·exact .inl (by simp;omega)
   ·exact .inr (by simp;omega)
  ·refine I.turnedL (t':=s.toks) (ch:=[z,TI,TO,i1,i2]) (fun b o hb e=>?_) hf
   simp only[NO,Mi,or_false,not_or] at hb
   exact hk b o hb.1 hb.2.2.1 hb.2.2.2.1 hb.2.2.2.2 e
 self:=fun _ _ _ _ _ st h=>wpAny_pyIter_zip st.1 h
def kma(n:Nat):([n+4,n+2,n+3,n,n+1]:List Nat).Nodup:=by
 simp only[Mw,NO,Mi,or_false,not_or,E7,and_true,not_false_eq_true]
 omega
def kmb{n x:Nat}(h:x∈([n+4,n+2,n+3,n,n+1]:List Nat)):n≤x:=by
 simp only[NO,Mi,or_false] at h
 omega
section
variable {X:Cx}
noncomputable def iZip(ta:TA):TI:=fun σ H R=>ta σ H fun vs H1=>∃a b xs ys,vs=[.ref a, .ref b]∧H1 a=some (.lst xs)∧H1 b=some (.lst ys)∧R (Itz a b) H1
theorem kmU:bootBuiltins "zip"=some (.type "zip"):=by decide +kernel
theorem keB{es:List Expr}{k:Nat}{tpos:Pos}{e1 e2:Expr}{ta:TA}{p pos:Pos}(hg:Gl X "zip")(hm:X.mg "zip"=none)(ha:PA X [e1,e2] ta)(he:starEach [e1,e2] X.env=(false,eval e1 X.env)::starEach [e2] X.env:=by rfl)
  (hpl:(backTo pos (starEach [e2] X.env)).any (·.1)=false:=by rfl):PI X (.Tuple es k tpos) (.Call (.Name "zip" p) [e1,e2] [] pos) (iZip ta):=by
 intro pins s σ H R I h
 refine Call_ (kdc I hg hm kmU (PyProof.Rows.callWith_type1 (thn (ha pos pins s σ H _ I h) fun us s1 ⟨vs,H1,I1,r1,q1⟩=>?_) he hpl))
 obtain⟨a,b,xs,ys,rfl,qa,qb,q⟩:=q1
 cases r1 with
 | cons ra rr=>
  cases rr with
  |cons rb rr=>
   cases rr
   cases ra
   cases rb
   obtain⟨its1,n1,_,ho1,_⟩:=I1.lst qa
   obtain⟨its2,n2,_,ho2,_⟩:=I1.lst qb
   refine call_zip_2 (xs:=its1.toArray) (ys:=its2.toArray) ⟨_,ho1,rfl,n1,rfl⟩ ⟨_,ho2,rfl,n2,rfl⟩ fun h' b1 b2 b3 b4 b5 _ hk=>wpAny_pyIter_zip b1 ?_
   have I2:Inv X pins σ H1 {s1 with heap:=h'}:=I1.kept (t':=s1.toks) hk
   refine⟨s1.heap.objs.size+4,[s1.heap.objs.size+4,s1.heap.objs.size+2,s1.heap.objs.size+3,s1.heap.objs.size,s1.heap.objs.size+1],_,_,H1,rfl,I2,kkb a b _ _ _ _ _ (kma _),⟨b1,b2,⟨_,_,b3⟩,b4,b5⟩,fun x hx=>?_,q⟩
   have hle:s1.heap.objs.size≤x:=kmb hx
   exact I1.fpOk hle (I1.hok.fresh hle)
end
theorem kjO{a b:Addr}{xs ys:List V}{g:TG}{tb:TS}{D:Ends}{σ:St}{H:Hp}(Pv:Nat→St→Hp→Prop)(h0:Pv 0 σ H)(hl:∀i σ H,i≤min xs.length ys.length→Pv i σ H→H a=some (.lst xs)∧H b=some (.lst ys))
  (hs:∀i x y t σ H,xs[i]?=some x→ys[i]?=some y→Pv i σ H→H t=none→g (.ref t) σ (upd H t (.tup [x,y])) fun σ2 H2=>tb {D with nx:=Pv (i+1),ct:=Pv (i+1),bk:=D.nx} σ2 H2) (hd:∀σ H,Pv (min xs.length ys.length) σ H→D.nx σ H):
  ∃W:Nat→Nat→St→Hp→Prop,(∃m,W 0 m σ H)∧∀i m σ H,W i m σ H→
   ((Itz a b).stop i H∧D.nx σ H)∨((Itz a b).go i H∧∃N:St→Hp→Prop,(∀σ' H',N σ' H'→∃m',m'<m∧W (i+1) m' σ' H')∧∀x H',(Itz a b).yld i H x H'→g x σ H' fun σ2 H2=>tb {D with nx:=N,ct:=N,bk:=D.nx} σ2 H2):=by
 refine⟨fun i m σ H=>m=min xs.length ys.length-i∧i≤min xs.length ys.length∧Pv i σ H,⟨min xs.length ys.length,by simp,Mb _,h0⟩,?_⟩
 rintro i m σ H ⟨rfl,hi,p⟩
 obtain⟨q1,q2⟩:=hl i σ H hi p
 by_cases hlt:i<min xs.length ys.length
 ·refine .inr ⟨⟨xs,ys,xs[i]'(by omega),ys[i]'(by omega),q1,q2,by simp[show i<xs.length by omega],by simp[show i<ys.length by omega]⟩,Pv (i+1),fun σ' H' p'=>⟨min xs.length ys.length-(i+1),by omega,rfl,hlt,p'⟩,fun x H' y=>?_⟩
  obtain⟨t,x,y,hn,rfl,rfl,h1,h2⟩:=y
  exact hs i x y t σ _ (h1 _ q1) (h2 _ q2) p hn
 ·have e:i=min xs.length ys.length:=by omega
  refine .inl ⟨⟨xs,ys,q1,q2,by omega⟩,?_⟩
  rw[e] at p
  exact hd σ H p
theorem kf2{a b:Addr}{xs ys:List V}{g:TG}{te:TE}{σ:St}{H:Hp}{R:List V→Hp→Addr→Prop}(Pv:Nat→St→List V→Hp→Prop)(h0:Pv 0 σ [] H)(hz:min xs.length ys.length≤sizeLine)(hl:∀i σ zs H,i≤min xs.length ys.length→Pv i σ zs H→H a=some (.lst xs)∧H b=some (.lst ys)∧zs.length=i)
  (hs:∀i x y t σ zs H,xs[i]?=some x→ys[i]?=some y→Pv i σ zs H→H t=none→g (.ref t) σ (upd H t (.tup [x,y])) fun σ2 H2=>te σ2 H2 fun z H3=>Pv (i+1) σ2 (zs++[z]) H3) (hd:∀σ zs H,Pv (min xs.length ys.length) σ zs H→∀D,H D=none→R zs H D):
  ∃ W:Nat→Nat→St→List V→Hp→Prop,(∃m,W 0 m σ [] H)∧∀i m σ' zs H',W i m σ' zs H'→
   ((Itz a b).stop i H'∧∀D,H' D=none→R zs H' D)∨((Itz a b).go i H'∧zs.length<sizeLine∧∃N:St→V→Hp→Prop,(∀σ2 y H4,N σ2 y H4→∃m',m'<m∧W (i+1) m' σ2 (zs++[y]) H4)∧
    ∀x H2,(Itz a b).yld i H' x H2→g x σ' H2 fun σ2 H3=>te σ2 H3 (N σ2)):=by
 refine⟨fun i m σ zs H=>m=min xs.length ys.length-i∧i≤min xs.length ys.length∧Pv i σ zs H,⟨min xs.length ys.length,by simp,Mb _,h0⟩,?_⟩
 rintro i m σ zs H ⟨rfl,hi,p⟩
 obtain⟨q1,q2,el⟩:=hl i σ zs H hi p
 by_cases hlt:i<min xs.length ys.length
 ·refine .inr ⟨⟨xs,ys,xs[i]'(by omega),ys[i]'(by omega),q1,q2,by simp[show i<xs.length by omega],by simp[show i<ys.length by omega]⟩,by omega,fun σ2 y H3=>Pv (i+1) σ2 (zs++[y]) H3,fun σ' y H' p'=>⟨min xs.length ys.length-(i+1),by omega,rfl,hlt,p'⟩,fun x H' yl=>?_⟩
  obtain⟨t,x,y,hn,rfl,rfl,h1,h2⟩:=yl
  exact hs i x y t σ zs _ (h1 _ q1) (h2 _ q2) p hn
 ·have e:i=min xs.length ys.length:=by omega
  refine .inl ⟨⟨xs,ys,q1,q2,by omega⟩,?_⟩
  rw[e] at p
  exact hd σ zs H p
end L2
namespace L2
open PySem PySem.Spec PyProof.Rows
section
variable {g:TG} {tt:TT} {te:TE} {σ:St} {H:Hp} {R:List V→Hp→Addr→Prop}
theorem kf3{J:It}{n:Nat}(Pv:Nat→St→List V→Hp→Prop)(h0:Pv 0 σ [] H)(hz:n≤sizeLine)(hl:∀i σ ys H,i≤n→Pv i σ ys H→ys.length≤i)(hgo:∀i σ ys H,i<n→Pv i σ ys H→J.go i H)(hst:∀σ ys H,Pv n σ ys H→J.stop n H)
  (hs:∀i σ ys H x H',i<n→Pv i σ ys H→J.yld i H x H'→g x σ H' fun σ2 H2=>tt σ2 H2 fun b H3=>if b=true then te σ2 H3 (fun y H4=>Pv (i+1) σ2 (ys++[y]) H4) else Pv (i+1) σ2 ys H3) (hd:∀σ ys H,Pv n σ ys H→∀D,H D=none→R ys H D):
  ∃ W:Nat→Nat→St→List V→Hp→Prop,(∃m,W 0 m σ [] H)∧∀i m σ' ys H',W i m σ' ys H'→
   (J.stop i H'∧∀D,H' D=none→R ys H' D)∨(J.go i H'∧ys.length<sizeLine∧∃(N:St→V→Hp→Prop)(N0:St→Hp→Prop),(∀σ2 y H4,N σ2 y H4→∃m',m'<m∧W (i+1) m' σ2 (ys++[y]) H4)∧(∀σ2 H4,N0 σ2 H4→∃m',m'<m∧W (i+1) m' σ2 ys H4)∧
    ∀x H2,J.yld i H' x H2→g x σ' H2 fun σ2 H3=>tt σ2 H3 fun b H4=>if b=true then te σ2 H4 (N σ2) else N0 σ2 H4):=by
 refine⟨fun i m σ ys H=>m=n-i∧i≤n∧Pv i σ ys H,⟨n,by simp,Mb _,h0⟩,?_⟩
 rintro i m σ ys H ⟨rfl,hi,p⟩
 have el:=hl i σ ys H hi p
 by_cases hlt:i<n
 ·refine .inr ⟨hgo i σ ys H hlt p,by omega,fun σ2 y H3=>Pv (i+1) σ2 (ys++[y]) H3,fun σ2 H3=>Pv (i+1) σ2 ys H3,fun σ' y H' p'=>⟨n-(i+1),by omega,rfl,hlt,p'⟩,fun σ' H' p'=>⟨n-(i+1),by omega,rfl,hlt,p'⟩,fun x H' yl=>?_⟩
  exact hs i σ ys H x H' hlt p yl
 ·have e:i=n:=by omega
  subst e
  exact .inl ⟨hst σ ys H p,hd σ ys H p⟩
theorem khj{lo:Int}{n:Nat}(Pv:Nat→St→List V→Hp→Prop)(h0:Pv 0 σ [] H)(hz:n≤sizeLine)(hl:∀i σ ys H,i≤n→Pv i σ ys H→ys.length≤i)
  (hs:∀i σ ys H,i<n→Pv i σ ys H→g (.int (lo+i)) σ H fun σ2 H2=>tt σ2 H2 fun b H3=>if b=true then te σ2 H3 (fun y H4=>Pv (i+1) σ2 (ys++[y]) H4) else Pv (i+1) σ2 ys H3) (hd:∀σ ys H,Pv n σ ys H→∀D,H D=none→R ys H D):
  ∃ W:Nat→Nat→St→List V→Hp→Prop,(∃m,W 0 m σ [] H)∧∀i m σ' ys H',W i m σ' ys H'→
   ((Itr lo n).stop i H'∧∀D,H' D=none→R ys H' D)∨((Itr lo n).go i H'∧ys.length<sizeLine∧∃(N:St→V→Hp→Prop)(N0:St→Hp→Prop),(∀σ2 y H4,N σ2 y H4→∃m',m'<m∧W (i+1) m' σ2 (ys++[y]) H4)∧(∀σ2 H4,N0 σ2 H4→∃m',m'<m∧W (i+1) m' σ2 ys H4)∧
    ∀x H2,(Itr lo n).yld i H' x H2→g x σ' H2 fun σ2 H3=>tt σ2 H3 fun b H4=>if b=true then te σ2 H4 (N σ2) else N0 σ2 H4):=
 kf3 Pv h0 hz hl (fun _ _ _ _ hi _=>hi) (fun _ _ _ _=>Nv _) (fun i σ ys H x H' hi p yl=>by
  obtain⟨e,q⟩:=yl
  subst e q
  exact hs i σ ys _ hi p) hd
theorem kit{a:Addr}{xs:List V}(Pv:Nat→St→List V→Hp→Prop)(h0:Pv 0 σ [] H)(hz:xs.length≤sizeLine)(hl:∀i σ ys H,i≤xs.length→Pv i σ ys H→H a=some (.lst xs)∧ys.length≤i)
  (hs:∀i y t σ ys H,xs[i]?=some y→Pv i σ ys H→H t=none→g (.ref t) σ (upd H t (.tup [.int (i:Nat),y])) fun σ2 H2=>tt σ2 H2 fun b H3=>if b=true then te σ2 H3 (fun y H4=>Pv (i+1) σ2 (ys++[y]) H4) else Pv (i+1) σ2 ys H3) (hd:∀σ ys H,Pv xs.length σ ys H→∀D,H D=none→R ys H D):
  ∃ W:Nat→Nat→St→List V→Hp→Prop,(∃m,W 0 m σ [] H)∧∀i m σ' ys H',W i m σ' ys H'→
   ((Ite a).stop i H'∧∀D,H' D=none→R ys H' D)∨((Ite a).go i H'∧ys.length<sizeLine∧∃(N:St→V→Hp→Prop)(N0:St→Hp→Prop),(∀σ2 y H4,N σ2 y H4→∃m',m'<m∧W (i+1) m' σ2 (ys++[y]) H4)∧(∀σ2 H4,N0 σ2 H4→∃m',m'<m∧W (i+1) m' σ2 ys H4)∧
    ∀x H2,(Ite a).yld i H' x H2→g x σ' H2 fun σ2 H3=>tt σ2 H3 fun b H4=>if b=true then te σ2 H4 (N σ2) else N0 σ2 H4):=
 kf3 Pv h0 hz (fun i σ ys H hi p=>(hl i σ ys H hi p).2) (fun i σ ys H hi p=>⟨xs,xs[i],(hl i σ ys H (NF hi) p).1,by simp[hi]⟩) (fun σ ys H p=>⟨xs,(hl _ σ ys H (Nv _) p).1,Nv _⟩)
  (fun i σ ys H x H' hi p yl=>by
   obtain⟨t,y,hn,rfl,rfl,hy⟩:=yl
   exact hs i y t σ ys _ (hy xs (hl i σ ys _ (NF hi) p).1) p hn) hd
end
section
variable {X:Cx}
noncomputable def isI(k:Int):Value→Bool
 | .int a _=>a==k
 |_=>false
theorem kgC:∀{ns:List Int}{us:List Value},Vals (ns.map V.int) us→∀(j:Nat)(n:Int),ns[j]?=some n→∃t,us[j]?=some (.int n t)
 |[],_,_,j,n,e=>by simp at e
 | m::ns,u::us, .cons r t,j,n,e=>by
  cases j with
  |zero=>
   have e':m=n:=by simpa using e
   subst e'
   obtain⟨t,rfl⟩:=r
   exact⟨t,rfl⟩
  |succ j=>
   obtain⟨q,h⟩:=kgC t j n (by simpa using e)
   exact⟨q,by simpa using h⟩
end
end L2
namespace L2
open PySem PySem.Spec PyProof.Rows
structure BaseT (K:Nt) (C:Addr) (m:Str) (f:Addr):Prop where
 rd:PySem.W.readsIn K C (.type "type")=true
 ga:Ea K (.ref C) "__getattribute__"=some (some (.builtin "type.__getattribute__"))
 fc:PySem.W.findCls K (.ref C) (.type "type") m=some (.val (.ref f))
section
variable {X:Cx} {CX:CXT} {k:Nat} {f C:Addr} {fd:FuncData} {ps:List Str} {sp:Sp} {dvs:List V} {ds:List Value} {E:XK} {x m:Str} {p pos apos:Pos} {e o:Expr} {es:List Expr} {ta:TE} {t:TA}
theorem keC{pl:Sem Bool}(B:BaseT X.K C m f)(F:FnOk X.prog X.w X.K X.mg X.base CX k f fd ps sp)(hr:Room k X.A)(hg:Gl X x)(hm:X.mg x=some (.ref C))(hk:NN X.K (.ref f)=true)(hb:Binds X.K fd ps ds)(hd:Vals dvs ds)(hx:kdH CX X E)
  (ha:PA X (e::es) t) (hdb:(x==("__debug__" :Str))=false:=by decide)
  (hst:starEach (e::es) X.env=(false,eval e X.env)::starEach es X.env:=by rfl) (hpl:(backTo pos (starEach es X.env)).any (·.1)=false:=by rfl)
  (ht:eval (.Call (.Attribute (.Name x p) m apos) (e::es) [] pos) X.env=(do
   let ov ←eval (.Name x p) X.env
   standAt apos.atName
   let(f,first) ←holding [ov] (getMethod ov m pl)
   callWith pos f first (backTo pos (starEach (e::es) X.env)) (backToKw pos (keywordEach [] X.env))):=by rfl):
  PE X (.Call (.Attribute (.Name x p) m apos) (e::es) [] pos) (tCall sp dvs E t):=by
 intro pins s σ H Q I h
 refine Es (pl:=pl) (thn (kcw (v:=.ref C) hg hm rfl hdb pins s σ H (fun y H1=>y=.ref C∧H1=H) I ⟨rfl,rfl⟩) fun u s1 ⟨y,H1,I1,ry,ey,eH⟩=>?_) ht
 subst ey eH
 obtain rfl:u=Value.ref C:=ry
 refine PySem.W.method_cls I1.kIn B.ga (PySem.W.cls_value I1.kIn B.rd B.fc rfl ?_)
 have I2:=I1.tok (s1.toks+1)
 refine Ec (h₀:=X.base) I.ok.mod.kin hk (thn (ha pos pins _ σ H1 _ I2 h) fun us s2 ⟨vs,H2,I3,r,q2⟩=>⟨I3.kIn,?_⟩) hst hpl
 exact khG F hr hb hd hx I3 r q2
end
def kjC{n j:Nat}(h:j<n):ixN n (j:Int)=some j:=by
 unfold ixN
 rw[if_pos (by omega),if_pos (by omega)]
 simp
section
variable {X:Cx}
end
section
variable {X:Cx}
noncomputable def kmO(ta:TA):TI:=fun σ H R=>ta σ H fun vs H1=>∃i j k:Int,vs=[.int i, .int j, .int k]∧(-(2 ^ 31)≤i∧i<2 ^ 31)∧(-(2 ^ 31)≤j∧j<2 ^ 31)∧0<k∧k<2 ^ 30∧R (Its i k (Builtin.Range.rangeSize i j k).toNat) H1
theorem kih{tg a b c:Expr}{ta:TA}{p pos:Pos}(hg:Gl X "range")(hm:X.mg "range"=none)(ha:PA X [a,b,c] ta)(he:starEach [a,b,c] X.env=(false,eval a X.env)::starEach [b,c] X.env:=by rfl)
  (hpl:(backTo pos (starEach [b,c] X.env)).any (·.1)=false:=by rfl):PI X tg (.Call (.Name "range" p) [a,b,c] [] pos) (kmO ta):=by
 intro pins s σ H R I h
 refine Call_ (kdc I hg hm boot_range (PyProof.Rows.callWith_type1 (thn (ha pos pins s σ H _ I h) fun us s1 ⟨vs,H1,I1,r1,q1⟩=>?_) he hpl))
 obtain⟨i,j,k,e,hi,hj,hk,hk2,q⟩:=q1
 subst e
 cases r1 with
 | cons r rr=>
  cases rr with
  | cons r' rr=>
   cases rr with
   | cons r'' rr=>
    cases rr
    obtain⟨t,rfl⟩:=r
    obtain⟨t',rfl⟩:=r'
    obtain⟨t'',rfl⟩:=r''
    refine call_range_3 (by omega) ?_ (.inl (PyProof.noPylong_small (by omega)))
    refine wpAny_pyIter_range (IsRange.new ..) (kif hk hk2 hi hj) ?_
    have I2:Inv X pins σ H1 {s1 with heap:=s1.heap.push {cls:=.type "range",data:=.fields #[.int i t, .int j t', .int k t'']},toks:=s1.toks}:=I1.kept fun b o e=>Heap.get?_push_of_some _ e
    have hn:=kgl hk hi hj
    refine⟨(s1.heap.push {cls:=.type "range",data:=.fields #[.int i t, .int j t', .int k t'']}).objs.size,[(s1.heap.push {cls:=.type "range",data:=.fields #[.int i t, .int j t', .int k t'']}).objs.size],_,_,H1,rfl,
     I2.kept (t':=s1.toks) fun b o e=>Heap.get?_push_of_some _ e,kiy _ i k (Builtin.Range.rangeSize i j k).toNat,?_,fun b hb=>?_,q⟩
    ·have e1:i+((0:Nat):Int)*k=i:=by simp
     have e2:(((Builtin.Range.rangeSize i j k).toNat:Nat):Int)-((0:Nat):Int)=Builtin.Range.rangeSize i j k:=by omega
     show IsRangeIter _ _ (i+((0:Nat):Int)*k) ((((Builtin.Range.rangeSize i j k).toNat:Nat):Int)-((0:Nat):Int)) k
     rw[e1,e2]
     exact Heap.get?_push_size _ rfl
    ·have e:b=(s1.heap.push {cls:=.type "range",data:=.fields #[.int i t, .int j t', .int k t'']}).objs.size:=by simpa using hb
     subst e
     exact I2.fpOk (Nv _) (I2.hok.fresh (Nv _))
end
section
variable {g:TG} {te:TE} {σ:St} {H:Hp} {R:List V→Hp→Addr→Prop}
theorem kj1{lo st:Int}{n:Nat}(Pv:Nat→St→List V→Hp→Prop)(h0:Pv 0 σ [] H)(hz:n≤sizeLine)(hl:∀i σ ys H,i≤n→Pv i σ ys H→ys.length=i)
  (hs:∀i σ ys H,i<n→Pv i σ ys H→g (.int (lo+i*st)) σ H fun σ2 H2=>te σ2 H2 fun y H3=>Pv (i+1) σ2 (ys++[y]) H3) (hd:∀σ ys H,Pv n σ ys H→∀D,H D=none→R ys H D):
  ∃ W:Nat→Nat→St→List V→Hp→Prop,(∃m,W 0 m σ [] H)∧∀i m σ' ys H',W i m σ' ys H'→
   ((Its lo st n).stop i H'∧∀D,H' D=none→R ys H' D)∨((Its lo st n).go i H'∧ys.length<sizeLine∧∃N:St→V→Hp→Prop,(∀σ2 y H4,N σ2 y H4→∃m',m'<m∧W (i+1) m' σ2 (ys++[y]) H4)∧
    ∀x H2,(Its lo st n).yld i H' x H2→g x σ' H2 fun σ2 H3=>te σ2 H3 (N σ2)):=by
 refine⟨fun i m σ ys H=>m=n-i∧i≤n∧Pv i σ ys H,⟨n,by simp,Mb _,h0⟩,?_⟩
 rintro i m σ ys H ⟨rfl,hi,p⟩
 have el:=hl i σ ys H hi p
 by_cases hlt:i<n
 ·refine .inr ⟨hlt,by omega,fun σ2 y H3=>Pv (i+1) σ2 (ys++[y]) H3,fun σ' y H' p'=>⟨n-(i+1),by omega,rfl,hlt,p'⟩,fun x H' yl=>?_⟩
  obtain⟨e,yl⟩:=yl
  subst e yl
  exact hs i σ ys _ hlt p
 ·have e:i=n:=by omega
  subst e
  exact .inl ⟨Nv _,hd σ ys H p⟩
end
def kgX{L m:Nat}(hm:0<m):(Builtin.Range.rangeSize 0 ((L:Int)-(m:Int)+1) (m:Int)).toNat=L/m:=by
 unfold Builtin.Range.rangeSize
 rw[if_pos (by omega)]
 by_cases h:m≤L
 ·rw[if_pos (by omega),show(L:Int)-(m:Int)+1-0-1=((L-m:Nat):Int) by omega,←Int.natCast_ediv,Nat.div_eq_sub_div hm h]
  generalize (L-m)/m=q
  omega
 ·rw[if_neg (by omega),Nat.div_eq_of_lt (by omega)]
  rfl
end L2
namespace L2
open PySem PySem.Spec PyProof.Rows
inductive Src where
 |p (i:Nat)
 |k (j:Nat)
 |d (v:Value) (x:V)
noncomputable def Src.val(us ws:List Value):Src→Value
 | .p i=>us.getD i .none
 | .k j=>ws.getD j .none
 | .d v _=>v
noncomputable def Src.abs(vs zs:List V):Src→V
 | .p i=>vs.getD i .non
 | .k j=>zs.getD j .non
 | .d _ x=>x
noncomputable def Src.Ok:Src→Prop
 | .d v x=>RelV x v
 |_=>True
section
variable {X:Cx} {CX:CXT} {k:Nat} {f C:Addr} {fd:FuncData} {ps ks:List Str} {sp:Sp} {E:XK} {x:Str} {p pos:Pos} {kws:List Keyword} {tk:TA} {g:List Value→List Value→List Value} {gV:List V→List V→List V}
end
end L2
namespace L2
open PySem PySem.Spec PyProof.Rows
noncomputable def atK(kvs:List (Key×V))(k:Key):Option V:=(kvs.find? fun p=>decide (p.1=k)).map Prod.snd
theorem khl:∀{kvs:List (Key×V)}{vs:List (Key×Value)},KV kvs vs→∀k,RelO (atK kvs k) (valueAt vs k)
 |_,_, .nil,_=>True.intro
 | p::ps,q::qs, .cons h t,k=>by
  obtain⟨h1,h2⟩:=h
  have ih:=khl t k
  unfold atK valueAt at *
  by_cases e:p.1=k
  ·have e':q.1=k:=h1.symm.trans e
   simp only[Mz,e,e',decide_true,Ey]
   exact h2
  ·have e':¬q.1=k:=fun z=>e (h1.trans z)
   simp only[Mz,e,e',decide_false]
   exact ih
theorem kvAny:∀{kvs:List (Key×V)}{vs:List (Key×Value)},KV kvs vs→∀k:Key,atK kvs k=none→(vs.any fun p=>decide (p.1=k))=false
 |_,_, .nil,_,_=>rfl
 | p::ps,q::qs, .cons h t,k,hn=>by
  obtain⟨h1,h2⟩:=h
  unfold atK at hn
  by_cases e:p.1=k
  ·simp[Mz,e] at hn
  ·have e':¬q.1=k:=fun z=>e (h1.trans z)
   rw[MC,decide_eq_false e',Bool.false_or]
   refine kvAny t k ?_
   unfold atK
   simpa[Mz,e] using hn
theorem klk:∀{kvs:List (Key×V)}{vs:List (Key×Value)},KV kvs vs→∀{k:Key}{y:V}{u:Value},RelV y u→KV (kvs++[(k,y)]) (vs++[(k,u)])
 |_,_, .nil,_,_,_,r=>.cons ⟨rfl,r⟩ .nil
 |_,_, .cons h t,_,_,_,r=>.cons h (klk t r)
theorem kvLen:∀{kvs:List (Key×V)}{vs:List (Key×Value)},KV kvs vs→kvs.length=vs.length
 |_,_, .nil=>rfl
 |_,_, .cons _ t=>by rw[N8,N8,kvLen t]
theorem klj:∀{kvs:List (Key×V)}{vs:List (Key×Value)},KV kvs vs→Vals (kvs.map Prod.snd) (vs.map Prod.snd)
 |_,_, .nil=>.nil
 |_,_, .cons h t=>.cons h.2 (klj t)
section
variable {X:Cx}
noncomputable def kmm:TE:=fun _ H Q=>∀p,H p=none→Q (.ref p) (upd H p (.dK []))
theorem kkm{pos:Pos}:PE X (.Dict [] [] pos) kmm:=fun pins s σ H Q I h=>
 have big:sysModules<s.heap.objs.size:=Ez (by decide) (show mainGlobals<s.heap.objs.size from(I.mod.glob.keeps I.bk).lt)
 wpAny_Dict_empty ⟨.ref s.heap.objs.size,_,I.laid (a:=s.heap.objs.size) (o:=.dK []) (t':=s.toks) (fun _ _ q=>Heap.get?_push_of_some _ q) (Nv _)
  (show ObjOk X.prog X.w _ _ _ (.dK []) from⟨Mb _,beq_eq_false_iff_ne.mpr (Ne.symm (NY big)),[], .nil,Heap.DictOf.new _⟩),rfl,h _ (I.hok.fresh (Nv _))⟩
noncomputable def rSetd:V→List V→Hp→VK→Prop:=fun x vs H Q=>∃(a:Addr)(kvs:List (Key×V))(i:Int)(y:V),x=.ref a∧vs=[.int i,y]∧H a=some (.dK kvs)∧kvs.length<sizeLine∧(∀v,atK kvs (.inl i)=some v→Q v H)∧(atK kvs (.inl i)=none→Q y (upd H a (.dK (kvs++[(.inl i,y)]))))
theorem kfU:MtM X "dict.setdefault" rSetd:=by
 intro pins s σ H x vs v us Q I rx rv h
 obtain⟨a,kvs,i,y,rfl,rfl,e,hz,h1,h2⟩:=h
 cases rx
 obtain⟨u1,u2,rfl,⟨t,rfl⟩,ru2⟩:=vals2 rv
 obtain⟨z,hd,ws,rel,dd⟩:=(show ObjOk X.prog X.w H s.heap a (.dK kvs) from I.hok a _ e)
 have key:(kdq X.prog X.w).is (Sum.inl i:Key) (.int i t)=true:=kg9 _ _ i t
 refine call_meetsIn Dv dd.typeIs PySem.F.entry_dict_setdefault (PySem.F.args_dict_setdefault_3 _ _ _) (kt_meets_setdefault (kdq X.prog X.w) a key hd u2)
  ⟨ws,dd,by rw[←kvLen rel];exact z,fun v hv=>?_,fun hn h' dd' hs=>?_⟩
 ·have r:=khl rel (Sum.inl i)
  rw[hv] at r
  cases ea:atK kvs (Sum.inl i) with
  |none=>rw[ea] at r;exact(show False from r).elim
  |some w'=>
   rw[ea] at r
   exact⟨w',H,I.tok _,r,h1 w' ea⟩
 ·have r:=khl rel (Sum.inl i)
  rw[hn] at r
  have ea:atK kvs (Sum.inl i)=none:=by
   cases ea:atK kvs (Sum.inl i) with
   |none=>rfl
   |some w'=>rw[ea] at r;exact(show False from r).elim
  have est:stored ws (Sum.inl i:Key) u2=ws++[(Sum.inl i,u2)]:=by
   unfold stored
   rw[kvAny rel _ ea,if_neg ND]
  rw[est] at dd'
  have he:∃q,h'.get? a=some q:=let⟨q,_,_,hq,_⟩:=dd';⟨q,hq⟩
  refine⟨y,_,I.write (x:=a) (e:=a) (by rw[e];exact True.intro) (.inl rfl) (fun b q hb w'=>(hs.2 b hb).trans w') he ?_,ru2,h2 ea⟩
  exact(show ObjOk X.prog X.w _ h' a (.dK (kvs++[(.inl i,y)])) from⟨by rw[NI,E4];omega,hd,_,klk rel ru2,dd'⟩)
noncomputable def kiC(te:TE):TE:=fun σ H Q=>te σ H fun v H1=>∃(a:Addr)(kvs:List (Key×V)),v=.ref a∧H1 a=some (.dK kvs)∧∀l,H1 l=none→Q (.ref l) (upd H1 l (.lst (kvs.map Prod.snd)))
theorem kg6{e:Expr}{te:TE}{p1 pos1 apos cpos:Pos}(hc:X.calm=true)(h1:Gl X "list")(m1:X.mg "list"=none)(he:PE X e te)
  (hbase:attributeBase e "values" X.env (eval e X.env)=eval e X.env:=by rfl) (hline:(apos.endLine==cpos.line)=true:=by rfl)
  (s2:starEach [.Call (.Attribute e "values" apos) [] [] cpos] X.env=[(false,eval (.Call (.Attribute e "values" apos) [] [] cpos) X.env)]:=by rfl):PE X (.Call (.Name "list" p1) [.Call (.Attribute e "values" apos) [] [] cpos] [] pos1) (kiC te):=by
 intro pins s σ H Q I h
 refine wpAny_Call_Name_kw (kdc I h1 m1 kbD ?_ (by decide) (by decide))
 refine PyProof.Rows.callWith_type1 ?_ s2 rfl
 rw[s2]
 refine Calls.spliced_cons (wpAny_Call_method0_late hbase hline (thn (he pins s σ H _ I h) fun u s3 ⟨v,H1,I1,r1,a,kvs,ev,ea,q⟩=>?_))
 subst ev
 cases r1
 obtain⟨t1,t2⟩:=kix (T:="dict") (x:=.ref a) (v:=.ref a) I1 rfl (.inr (.inr (.inl ⟨rfl, .inl ⟨kvs,ea⟩⟩)))
 obtain⟨z,hd,ws,rel,dd⟩:=(show ObjOk X.prog X.w H1 s3.heap a (.dK kvs) from I1.hok a _ ea)
 obtain⟨ep,hat⟩:=dd.dictAt
 refine⟨"dict","dict.values",Dw,Dx,PySem.F.type_dict_values,t1,t2,Calls.callWith_builtin rfl (PySem.evalArgs_none ?_)⟩
 refine call_meetsIn Dx dd.typeIs PySem.F.entry_dict_values (PySem.F.args_dict_values_1 _) (meets_dict_values (kdq X.prog X.w) a hd) ⟨⟨ws,dd⟩,Calls.spliced_nil ?_⟩
 refine PySem.W.kdl_call (PySem.W.kdl_values (knd:=kdq X.prog X.w) (kvs:=ws) (ep:=ep)) (I1.ok.hd hc) ⟨⟨_,Heap.get?_push_size _ rfl,rfl,rfl⟩,hat.push _⟩ (by rw[←kvLen rel];exact z) fun h' tk acc' c' hk hS hacc=>?_
 have hv:acc'.toList=ws.map (·.2):=PySem.W.kdl_vals_eq acc'.toList (by rw[MY];exact hacc.1) fun j v' ej=>hacc.2 j v' (by rw[←Dt];exact ej)
 generalize ho:({cls:=.type "dict_values",data:=.fields #[.ref a]}:Obj)=ob at *
 have hsz:(s3.heap.push ob).objs.size=s3.heap.objs.size+1:=Heap.size_push ..
 have rv:Vals (kvs.map Prod.snd) acc'.toList:=by rw[hv];exact klj rel
 have I2:Inv X pins σ (upd H1 (s3.heap.push ob).objs.size (.lst (kvs.map Prod.snd))) {s3 with heap:=h',toks:=tk}:=
  I1.laid (fun b o e=>hk b o (Heap.get?_push_of_some _ e)) (by rw[hsz];exact Ed _) (show ObjOk X.prog X.w _ h' _ (.lst (kvs.map Prod.snd)) from⟨by rw[Nr];exact z,acc'.toList,c',rv,by simpa using hS⟩)
 exact⟨.ref _,_,I2,rfl,q _ (I1.hok.fresh (by rw[hsz];exact Ed _))⟩
end
end L2
namespace L2
open PySem PySem.Spec PyProof.Rows
section
variable {X:Cx}
end
end L2
namespace Stb
open PySem PyProof.Rows
noncomputable def T(xs:Array Keyed)(i:Nat):Int:=match xs[i]? with
 |some p=>numOf p.2
 |none=>0
def T_at{xs ys:Array Keyed}{i j:Nat}(h:xs[i]?=ys[j]?):T xs i=T ys j:=by unfold T;rw[h]
noncomputable def Lx(xs:Array Keyed)(i j:Nat):Prop:=K xs i<K xs j∨(K xs i=K xs j∧T xs i<T xs j)
def Lx.trans{xs:Array Keyed}{i j k:Nat}(h:Lx xs i j)(h':Lx xs j k):Lx xs i k:=by unfold Lx at *;omega
def Lx.le{xs:Array Keyed}{i j:Nat}(h:Lx xs i j):K xs i≤K xs j:=by unfold Lx at *;omega
noncomputable def Up(xs:Array Keyed)(k:Nat):Prop:=∀i j,i<j→j<k→Lx xs i j
noncomputable def Dn(xs:Array Keyed)(k:Nat):Prop:=∀i j,i<j→j<k→Lx xs j i
noncomputable def Lat(a₀ xs:Array Keyed)(k:Nat):Prop:=∀i j,i<j→k≤j→j<a₀.size→T xs i<T xs j
def Lat.mono{a₀ xs:Array Keyed}{k k':Nat}(h:Lat a₀ xs k)(hk:k≤k'):Lat a₀ xs k':=fun i j h1 h2 h3=>h i j h1 (by omega) h3
theorem kic{xs:Array Keyed}{src d:Nat}(hs:src<xs.size)(hd:d≤src)(k:Nat):
  ∃k',(K (bubble xs src d) k=K xs k'∧T (bubble xs src d) k=T xs k')∧k'=if k=src-d then src else if src-d<k∧k≤src then k-1 else k:=by
 refine⟨_,?_,rfl⟩
 have e:=getElem?_bubble hs d hd k
 have e':(bubble xs src d)[k]?=xs[if k=src-d then src else if src-d<k∧k≤src then k-1 else k]?:=by
  rw[e]
  split
  ·rfl
  ·split <;> rfl
 exact⟨K_congr e',T_at e'⟩
theorem kcE{xs:Array Keyed}{i j:Nat}(hj:j≤xs.size)(k:Nat):
  ∃k',(K (mirror xs i j ((j-i)/2)) k=K xs k'∧T (mirror xs i j ((j-i)/2)) k=T xs k')∧k'=if i≤k∧k<j then i+j-1-k else k:=by
 refine⟨_,?_,rfl⟩
 have e:=getElem?_mirror_all (i:=i) hj k
 have e':(mirror xs i j ((j-i)/2))[k]?=xs[if i≤k∧k<j then i+j-1-k else k]?:=by
  rw[e]
  split <;> rfl
 exact⟨K_congr e',T_at e'⟩
def khb{a₀ xs:Array Keyed}{i j k:Nat}(hj:j≤xs.size)(hk:j≤k)(h:Lat a₀ xs k):Lat a₀ (mirror xs i j ((j-i)/2)) k:=by
 intro a b hab hkb hb
 obtain⟨a',⟨_,ea⟩,ha⟩:=kcE (i:=i) hj a
 obtain⟨b',⟨_,eb⟩,hb'⟩:=kcE (i:=i) hj b
 rw[ea,eb]
 rw[if_neg (by omega)] at hb'
 subst hb'
 refine h _ _ ?_ hkb hb
 rw[ha]
 split <;> omega
section
variable {prog:Program} {w:World} {A:Around} {E:Value→Shared→Prop} {s:Shared} {a₀:Array Keyed}
theorem asc{st:SortSt}{a nrem:Nat}{Q:AscSt→SortSt→Prop}(h0:IntKeys a₀)(hn:nrem≤a₀.size)(ha:1≤a)(han:a≤nrem)(hB:SBase a₀ st)(hs:Up (arrOf st) a)(hl:Lat a₀ (arrOf st) a)
  (h:∀n,a≤n→n≤nrem→Up (arrOf st) n→(n=nrem∨K (arrOf st) n<K (arrOf st) (n-1))→Q (none,n) st):wpS (model prog w) A E s (ascLoop a nrem) Q st:=by
 unfold ascLoop
 refine wpS_forRange (I:=fun x c st'=>st'=st∧c=(none,x)∧Up (arrOf st) x) ?turn ?over ⟨rfl,rfl,hs⟩
 case over=>
  rintro c st' ⟨rfl,rfl,u⟩
  rw[show max a nrem=nrem by omega] at u⊢
  exact h nrem han (Nv _) u (.inl rfl)
 case turn=>
  rintro x c st' hax hxn ⟨rfl,rfl,u⟩
  dsimp only
  refine wpS_bind (wpS_ltK hB h0 (by omega) (by omega) ?_)
  by_cases c1:K (arrOf st') x<K (arrOf st') (x-1)
  ·simp only[c1,decide_true,if_true]
   exact wpS_pure (h x hax (by omega) u (.inr c1))
  ·simp only[c1,decide_false,Mh,if_false]
   refine wpS_pure ⟨rfl,rfl,fun i j hij hj=>?_⟩
   by_cases hjx:j<x
   ·exact u i j hij hjx
   ·have e:j=x:=by omega
    subst e
    have t1:=hl (j-1) j (by omega) hax (by omega)
    have l1:Lx (arrOf st') (j-1) j:=by unfold Lx;omega
    by_cases e2:i=j-1
    ·rw[e2];exact l1
    ·exact(u i (j-1) (by omega) (by omega)).trans l1
theorem tail{st:SortSt}{n nrem:Nat}{Q:Option Nat→SortSt→Prop}(h0:IntKeys a₀)(hn:nrem≤a₀.size)(h1:1≤n)(hnn:n≤nrem)(hB:SBase a₀ st)(hs:Dn (arrOf st) n)(hl:Lat a₀ (arrOf st) n)
  (h:∀m st',SBase a₀ st'→1≤m→m≤nrem→Up (arrOf st') m→Lat a₀ (arrOf st') m→Q (some m) st'):wpS (model prog w) A E s (tail3 n nrem) Q st:=by
 unfold tail3
 have sz:n≤(arrOf st).size:=by rw[hB.size];omega
 refine wpS_bind (wpS_reverse ?_)
 have hB2:SBase a₀ (setArr st (mirror (arrOf st) 0 n ((n-0)/2))):=hB.setArr (mirror_perm _ _ _ _)
 have hl2:Lat a₀ (mirror (arrOf st) 0 n ((n-0)/2)) n:=khb sz (Nv _) hl
 refine wpS_bind (asc h0 hn h1 hnn hB2 ?_ hl2 fun m hm1 hm2 hu _=>wpS_pure (h m _ hB2 (by omega) hm2 hu (hl2.mono hm1)))
 intro i j hij hj
 show Lx (mirror (arrOf st) 0 n ((n-0)/2)) i j
 obtain⟨i',⟨k1,t1⟩,e1⟩:=kcE (i:=0) sz i
 obtain⟨j',⟨k2,t2⟩,e2⟩:=kcE (i:=0) sz j
 rw[if_pos (by omega)] at e1 e2
 have:=hs j' i' (by omega) (by omega)
 unfold Lx at this⊢
 rw[k1,k2,t1,t2]
 exact this
structure Fl (a₀ xs:Array Keyed) (x neq:Nat):Prop where
 few:neq+1≤x
 hd:Dn xs (x-(neq+1))
 cr:∀i j,i<x-(neq+1)→x-(neq+1)≤j→j<x→K xs j<K xs i
 tl:∀i j,x-(neq+1)≤i→i<j→j<x→K xs i=K xs j∧T xs i<T xs j
 lat:Lat a₀ xs x
theorem Fl.turned{xs:Array Keyed}{x neq:Nat}(h:Fl a₀ xs x neq)(hx:x≤xs.size):Dn (mirror xs (x-(neq+1)) x ((x-(x-(neq+1)))/2)) x∧(∀i,i<x→K xs (x-1)≤K (mirror xs (x-(neq+1)) x ((x-(x-(neq+1)))/2)) i)∧Lat a₀ (mirror xs (x-(neq+1)) x ((x-(x-(neq+1)))/2)) x∧
  ∀k,x≤k→K (mirror xs (x-(neq+1)) x ((x-(x-(neq+1)))/2)) k=K xs k:=by
 have hf:=h.few
 refine⟨fun i j hij hj=>?_,fun i hi=>?_,khb hx (Nv _) h.lat,fun k hk=>?_⟩
 ·obtain⟨i',⟨k1,t1⟩,e1⟩:=kcE (i:=x-(neq+1)) hx i
  obtain⟨j',⟨k2,t2⟩,e2⟩:=kcE (i:=x-(neq+1)) hx j
  unfold Lx
  rw[k1,k2,t1,t2]
  by_cases c1:j<x-(neq+1)
  ·rw[if_neg (by omega)] at e1 e2
   subst e1 e2
   exact h.hd i' j' hij c1
  ·rw[if_pos (by omega)] at e2
   by_cases c2:i<x-(neq+1)
   ·rw[if_neg (by omega)] at e1
    subst e1
    exact .inl (h.cr i' j' c2 (by omega) (by omega))
   ·rw[if_pos (by omega)] at e1
    have:=h.tl j' i' (by omega) (by omega) (by omega)
    omega
 ·obtain⟨i',⟨k1,_⟩,e1⟩:=kcE (i:=x-(neq+1)) hx i
  rw[k1]
  by_cases c2:i<x-(neq+1)
  ·rw[if_neg (by omega)] at e1
   subst e1
   have:=h.cr i' (x-1) c2 (by omega) (by omega)
   omega
  ·rw[if_pos (by omega)] at e1
   by_cases c3:i'=x-1
   ·rw[c3];exact Int.le_refl _
   ·have:=h.tl i' (x-1) (by omega) (by omega) (by omega)
    omega
 ·obtain⟨k',⟨k1,_⟩,e1⟩:=kcE (i:=x-(neq+1)) hx k
  rw[if_neg (by omega)] at e1
  rw[k1,e1]
theorem Fl.plain{xs:Array Keyed}{x:Nat}(h:Fl a₀ xs x 0):Dn xs x∧(∀i,i<x→K xs (x-1)≤K xs i):=by
 have hf:=h.few
 refine⟨fun i j hij hj=>?_,fun i hi=>?_⟩
 ·by_cases c1:j<x-(0+1)
  ·exact h.hd i j hij c1
  ·exact .inl (h.cr i j (by omega) (by omega) hj)
 ·by_cases c3:i=x-1
  ·rw[c3];exact Int.le_refl _
  ·have:=h.cr i (x-1) (by omega) (by omega) (by omega)
   omega
theorem Fl.next{xs:Array Keyed}{x:Nat}(hd:Dn xs x)(hk:∀i,i<x→K xs x<K xs i)(hl:Lat a₀ xs x):Fl a₀ xs (x+1) 0:=
 ⟨by omega,fun i j h1 h2=>hd i j h1 (by omega),fun i j h1 h2 h3=>by
  have e:j=x:=by omega
  subst e
  exact hk i (by omega),fun i j h1 h2 h3=>by omega,hl.mono (by omega)⟩
theorem desc{st:SortSt}{n nrem:Nat}{Q:DescSt→SortSt→Prop}(h0:IntKeys a₀)(hn:nrem≤a₀.size)(hnn:n≤nrem)(hB:SBase a₀ st)(hs:Fl a₀ (arrOf st) n 0)
  (h:∀m neq st',SBase a₀ st'→n≤m→m≤nrem→Fl a₀ (arrOf st') m neq→Q (none,m,neq) st'):wpS (model prog w) A E s (descLoop n nrem) Q st:=by
 unfold descLoop
 refine wpS_forRange (I:=fun x c st'=>∃neq,c=(none,x,neq)∧SBase a₀ st'∧Fl a₀ (arrOf st') x neq) ?turn ?over ⟨0,rfl,hB,hs⟩
 case over=>
  rintro c st' ⟨neq,rfl,hB',f⟩
  rw[show max n nrem=nrem by omega] at f⊢
  exact h nrem neq st' hB' hnn (Nv _) f
 case turn=>
  rintro x c st' hax hxn ⟨neq,rfl,hB',f⟩
  dsimp only
  have few:=f.few
  have sz:x≤(arrOf st').size:=by rw[hB'.size];omega
  refine wpS_bind (wpS_ltK hB' h0 (by omega) (by omega) ?_)
  by_cases c1:K (arrOf st') x<K (arrOf st') (x-1)
  ·simp only[c1,decide_true,if_true]
   by_cases c2:neq > 0
   ·rw[if_pos c2]
    obtain⟨d1,d2,d3,d4⟩:=f.turned sz
    refine wpS_bind (wpS_reverse (wpS_pure ⟨0,rfl,hB'.setArr (mirror_perm _ _ _ _),Fl.next d1 (fun i hi=>?_) d3⟩))
    have:=d2 i hi
    have e:=d4 x (Nv _)
    show K (mirror (arrOf st') _ _ _) x<K (mirror (arrOf st') _ _ _) i
    omega
   ·rw[if_neg c2]
    have e:neq=0:=by omega
    subst e
    obtain⟨d1,d2⟩:=f.plain
    exact wpS_pure ⟨0,rfl,hB',Fl.next d1 (fun i hi=>by have:=d2 i hi;omega) f.lat⟩
  ·simp only[c1,decide_false,Mh,if_false]
   refine wpS_bind (wpS_ltK hB' h0 (by omega) (by omega) ?_)
   by_cases c2:K (arrOf st') (x-1)<K (arrOf st') x
   ·simp only[c2,decide_true,if_true]
    exact wpS_pure (h x neq st' hB' hax (by omega) f)
   ·simp only[c2,decide_false,Mh,if_false]
    have ek:K (arrOf st') x=K (arrOf st') (x-1):=by omega
    refine wpS_pure ⟨neq+1,rfl,hB',⟨by omega,?_,?_,?_,f.lat.mono (by omega)⟩⟩
    ·rw[show x+1-(neq+1+1)=x-(neq+1) by omega]
     exact f.hd
    ·rw[show x+1-(neq+1+1)=x-(neq+1) by omega]
     intro i j h1 h2 h3
     by_cases c3:j<x
     ·exact f.cr i j h1 h2 c3
     ·have e:j=x:=by omega
      subst e
      rw[ek]
      exact f.cr i (j-1) h1 (by omega) (by omega)
    ·rw[show x+1-(neq+1+1)=x-(neq+1) by omega]
     intro i j h1 h2 h3
     by_cases c3:j<x
     ·exact f.tl i j h1 h2 c3
     ·have e:j=x:=by omega
      subst e
      refine⟨?_,f.lat i j h2 (Nv _) (by omega)⟩
      rw[ek]
      by_cases c4:i=j-1
      ·rw[c4]
      ·exact(f.tl i (j-1) h1 (by omega) (by omega)).1
theorem falls{st:SortSt}{n nrem:Nat}{Q:Option Nat→SortSt→Prop}(h0:IntKeys a₀)(hn:nrem≤a₀.size)(hnn:n+1≤nrem)(hB:SBase a₀ st)(hs:Fl a₀ (arrOf st) (n+1) 0)
  (h:∀m st',SBase a₀ st'→1≤m→m≤nrem→Up (arrOf st') m→Lat a₀ (arrOf st') m→Q (some m) st'):wpS (model prog w) A E s (descPart n nrem) Q st:=by
 unfold descPart
 refine wpS_bind (wpS_lift (wpAny_rule ⟨rfl,?_⟩))
 refine wpS_bind (desc h0 hn hnn hB hs fun m neq st' hB' hm1 hm2 f=>?_)
 dsimp only
 have sz:m≤(arrOf st').size:=by rw[hB'.size];omega
 by_cases c2:neq > 0
 ·rw[if_pos c2]
  obtain⟨d1,_,d3,_⟩:=f.turned sz
  exact wpS_bind (wpS_reverse (tail h0 hn (by omega) hm2 (hB'.setArr (mirror_perm _ _ _ _)) d1 d3 h))
 ·rw[if_neg c2]
  have e:neq=0:=by omega
  subst e
  exact tail h0 hn (by omega) hm2 hB' f.plain.1 f.lat h
theorem count{st:SortSt}{nrem:Nat}{Q:Option Nat→SortSt→Prop}(h0:IntKeys a₀)(hn:nrem≤a₀.size)(h1:1≤nrem)(hB:SBase a₀ st)(hl:Lat a₀ (arrOf st) 1)
  (h:∀m st',SBase a₀ st'→1≤m→m≤nrem→Up (arrOf st') m→Lat a₀ (arrOf st') m→Q (some m) st'):wpS (model prog w) A E s (countRun' 0 nrem) Q st:=by
 rw[countRun0_eq]
 refine wpS_bind (asc h0 hn (Nv 1) h1 hB (fun i j hij hj=>by omega) hl fun n hn1 hn2 hu hor=>?_)
 dsimp only
 by_cases c1:n=nrem
 ·rw[if_pos (by simpa using c1)]
  exact wpS_pure (h n st hB hn1 hn2 hu (hl.mono hn1))
 ·rw [if_neg (by simpa using c1)]
  have lt:K (arrOf st) n<K (arrOf st) (n-1):=hor.resolve_left c1
  by_cases c2:n > 1
  ·rw [if_pos c2]
   refine wpS_bind (wpS_ltK hB h0 (by omega) (by omega) ?_)
   by_cases c3:K (arrOf st) 0<K (arrOf st) (n-1)
   ·simp only[c3,decide_true,if_true]
    exact wpS_pure (h n st hB hn1 hn2 hu (hl.mono hn1))
   ·simp only[c3,decide_false,Mh,if_false]
    have sz:n≤(arrOf st).size:=by rw[hB.size];omega
    have same:∀i,i<n→K (arrOf st) i=K (arrOf st) (n-1):=fun i hi=>by
     by_cases z:i=0
     ·subst z
      have:=(hu 0 (n-1) (by omega) (by omega)).le
      omega
     ·have a1:=(hu 0 i (by omega) hi).le
      by_cases z2:i=n-1
      ·rw[z2]
      ·have a2:=(hu i (n-1) (by omega) (by omega)).le
       omega
    refine wpS_bind (wpS_reverse (falls h0 hn (by omega) (hB.setArr (mirror_perm _ _ _ _)) (Fl.next (fun i j hij hj=>?_) (fun i hi=>?_) (khb sz (Nv _) (hl.mono hn1))) h))
    ·show Lx (mirror (arrOf st) 0 n ((n-0)/2)) j i
     obtain⟨i',⟨k1,t1⟩,e1⟩:=kcE (i:=0) sz i
     obtain⟨j',⟨k2,t2⟩,e2⟩:=kcE (i:=0) sz j
     rw[if_pos (by omega)] at e1 e2
     have:=hu j' i' (by omega) (by omega)
     unfold Lx at this⊢
     rw[k1,k2,t1,t2]
     exact this
    ·show K (mirror (arrOf st) 0 n ((n-0)/2)) n<K (mirror (arrOf st) 0 n ((n-0)/2)) i
     obtain⟨i',⟨k1,_⟩,e1⟩:=kcE (i:=0) sz i
     obtain⟨n',⟨k2,_⟩,e2⟩:=kcE (i:=0) sz n
     rw[if_pos (by omega)] at e1
     rw[if_neg (by omega)] at e2
     subst e2
     rw[k1,k2,same i' (by omega)]
     exact lt
  ·rw[if_neg c2]
   have e:n=1:=by omega
   subst e
   refine falls h0 hn (by omega) hB (Fl.next (fun i j hij hj=>by omega) (fun i hi=>?_) hl) h
   have z:i=0:=by omega
   subst z
   exact lt
theorem insert{st:SortSt}{n ok:Nat}{Q:Bool→SortSt→Prop}(h0:IntKeys a₀)(hn:n≤a₀.size)(h1:1≤ok)(hok:ok≤n)(hB:SBase a₀ st)(hs:Up (arrOf st) ok)(hl:Lat a₀ (arrOf st) ok)
  (h:∀st',SBase a₀ st'→Up (arrOf st') n→Q true st'):wpS (model prog w) A E s (binarySort' 0 n ok) Q st:=by
 rw[binarySort'_eq]
 simp only[EA]
 refine wpS_bind (wpS_mono (wpS_forRange (I:=fun k c st'=>c=(none,())∧SBase a₀ st'∧Up (arrOf st') (min k n)∧Lat a₀ (arrOf st') (min k n)) (Q:=fun c st'=>c=(none,())∧SBase a₀ st'∧Up (arrOf st') n) ?turn ?over ?begin) ?behind)
 case behind=>
  rintro c st' ⟨rfl,hB',hu⟩
  exact wpS_pure (h st' hB' hu)
 case begin=>
  rw[show max ok 1=ok by omega,show min ok n=ok by omega]
  exact⟨rfl,hB,hs,hl⟩
 case over=>
  rintro c st' ⟨hc,hB',hu,_⟩
  refine⟨hc,hB',?_⟩
  rwa [show min (max (max ok 1) n) n=n by omega] at hu
 case turn=>
  rintro k c st' hak hkn ⟨rfl,hB',hu,hla⟩
  rw[show min k n=k by omega] at hu hla
  have hk:k<a₀.size:=by omega
  refine wpS_bind (wpS_mono (wpS_forRange (I:=fun x c st''=>st''=st'∧∃l r,c=(none,l,r)∧l≤r∧r≤k∧r-l≤k-x∧(∀i,i<l→K (arrOf st') i≤K (arrOf st') k)∧(∀i,r≤i→i<k→K (arrOf st') k<K (arrOf st') i))
   (Q:=fun c st''=>st''=st'∧∃l r,c=(none,l,r)∧l≤k∧(∀i,i<l→K (arrOf st') i≤K (arrOf st') k)∧(∀i,l≤i→i<k→K (arrOf st') k<K (arrOf st') i)) ?turn2 ?over2 ?begin2) ?behind2)
  case begin2=>exact⟨rfl,0,k,rfl,by omega,by omega,by omega,fun i hi=>by omega,fun i a b=>by omega⟩
  case over2=>
   rintro c st'' ⟨rfl,l,r,rfl,hlr,hrk,hm,lo,hi⟩
   have e:l=r:=by omega
   subst e
   exact⟨rfl,l,l,rfl,hrk,lo,hi⟩
  case turn2=>
   rintro x c st'' _ hxk ⟨rfl,l,r,rfl,hlr,hrk,hm,lo,hi⟩
   dsimp only
   by_cases c1:l≥r
   ·rw[if_pos c1]
    have e:l=r:=by omega
    subst e
    exact wpS_pure ⟨rfl,l,l,rfl,hrk,lo,hi⟩
   ·rw[if_neg c1]
    refine wpS_bind (wpS_ltK hB' h0 hk (by omega) ?_)
    by_cases c2:K (arrOf st'') k<K (arrOf st'') ((l+r)/2)
    ·simp only[c2,decide_true,if_true]
     refine wpS_pure ⟨rfl,l,(l+r)/2,rfl,by omega,by omega,by omega,lo,fun i a b=>?_⟩
     by_cases z:i=(l+r)/2
     ·rw[z];exact c2
     ·exact Int.lt_of_lt_of_le c2 (hu _ _ (by omega) b).le
    ·simp only[c2,decide_false,Mh,if_false]
     refine wpS_pure ⟨rfl,(l+r)/2+1,r,rfl,by omega,by omega,by omega,fun i a=>?_,hi⟩
     by_cases z:i=(l+r)/2
     ·rw[z];omega
     ·exact Int.le_trans (hu i ((l+r)/2) (by omega) (by omega)).le (Int.not_lt.mp c2)
  case behind2=>
   rintro c st'' ⟨rfl,l,r,rfl,hlk,lo,hi⟩
   show wpS _ _ _ _ (do moveDown' k l;pure (ForInStep.yield (none,()))) _ _
   rw[moveDown'_eq]
   have hks:k<(arrOf st'').size:=by rw[hB'.size];exact hk
   refine wpS_bind (wpS_modify (wpS_pure ⟨rfl,hB'.setArr (bubble_perm _ _ _),?_,?_⟩))
   ·rw [show min (k+1) n=k+1 by omega]
    intro i j hij hj
    show Lx (bubble (arrOf st'') k (k-l)) i j
    obtain⟨i',⟨k1,t1⟩,e1⟩:=kic hks (show k-l≤k by omega) i
    obtain⟨j',⟨k2,t2⟩,e2⟩:=kic hks (show k-l≤k by omega) j
    rw[show k-(k-l)=l by omega] at e1 e2
    unfold Lx
    rw[k1,k2,t1,t2]
    by_cases z1:i=l
    ·rw[if_pos z1] at e1
     rw[if_neg (by omega),if_pos (by omega)] at e2
     subst e1
     exact .inl (hi j' (by omega) (by omega))
    ·rw[if_neg z1] at e1
     by_cases z2:j=l
     ·rw[if_pos z2] at e2
      rw[if_neg (by omega)] at e1
      subst e2
      have a1:=lo i' (by omega)
      have a2:=hla i' j' (by omega) (Nv _) hk
      omega
     ·rw[if_neg z2] at e2
      refine hu i' j' ?_ ?_
      ·rw[e1,e2]
       repeat' split
       all_goals omega
      ·rw[e2]
       split <;> omega
   ·rw[show min (k+1) n=k+1 by omega]
    intro a b hab hkb hb
    show T (bubble (arrOf st'') k (k-l)) a<T (bubble (arrOf st'') k (k-l)) b
    obtain⟨a',⟨_,t1⟩,e1⟩:=kic hks (show k-l≤k by omega) a
    obtain⟨b',⟨_,t2⟩,e2⟩:=kic hks (show k-l≤k by omega) b
    rw[show k-(k-l)=l by omega] at e1 e2
    rw[if_neg (by omega),if_neg (by omega)] at e2
    subst e2
    rw[t1,t2]
    refine hla a' b' ?_ (by omega) hb
    rw[e1]
    repeat' split
    all_goals omega
noncomputable def Done(a₀:Array Keyed)(st:SortSt):Prop:=(arrOf st).Perm a₀∧failedOf st=none∧pendingOf st= #[(0,a₀.size,0)]∧Up (arrOf st) a₀.size
theorem done{st:SortSt}(hB:SBase a₀ st)(hu:Up (arrOf st) a₀.size):Done a₀ (setPending st ((pendingOf st).push (0,a₀.size,0))):=⟨hB.perm,hB.failed,by show(pendingOf st).push _=_;rw[hB.pend];rfl,hu⟩
theorem runs{st:SortSt}{Q:Unit→SortSt→Prop}(h0:IntKeys a₀)(hB:SBase a₀ st)(h2:2≤a₀.size)(h64:a₀.size<64)(hl:Lat a₀ (arrOf st) 1)
  (h:∀st',(arrOf st').Perm a₀→failedOf st'=none→Up (arrOf st') a₀.size→Q () st'):wpS (model prog w) A E s sortRuns' Q st:=by
 rw[sortRuns'_eq]
 refine wpS_bind (wpS_get ?_)
 dsimp only
 have mr:minRun' a₀.size a₀.size 0=a₀.size:=by
  obtain⟨f,hf⟩:∃f,a₀.size=f+1:=⟨a₀.size-1,by omega⟩
  have z:minRun' (f+1) a₀.size 0=a₀.size:=by rw[minRun'_succ,if_pos h64];rfl
  rwa [←hf] at z
 simp only[hB.size,mr]
 refine wpS_bind (wpS_mono (wpS_forRange (I:=fun x c st'=>(x=0∧c=(none,0)∧st'=st)∨(1≤x∧c=(none,a₀.size)∧Done a₀ st')) (Q:=fun c st'=>c=(none,a₀.size)∧Done a₀ st') ?turn ?over (.inl ⟨rfl,rfl,rfl⟩)) ?behind)
 case over=>
  rintro c st' (⟨hx,_,_⟩|⟨_,hc,hD⟩)
  ·omega
  ·exact⟨hc,hD⟩
 case turn=>
  rintro x c st' _ hx (⟨rfl,rfl,rfl⟩|⟨hx1,rfl,hD⟩)
  ·dsimp only
   rw[if_neg (by omega)]
   simp only[Nat.sub_zero,MN,EA]
   refine wpS_bind (count h0 (Nv _) (by omega) hB hl fun m st2 hB2 hm1 hm2 hu2 hl2=>?_)
   dsimp only
   by_cases c1:m<a₀.size
   ·rw[if_pos c1]
    refine wpS_bind (wpS_lift (wpAny_rule ⟨rfl,?_⟩))
    refine wpS_bind (insert h0 (Nv _) hm1 hm2 hB2 hu2 hl2 fun st3 hB3 hu3=>?_)
    simp only[Bool.not_true,Mh,if_false]
    refine wpS_bind (wpS_get ?_)
    have hb:(pendingOf st3).back?=none:=by rw[hB3.pend];rfl
    rw[hb]
    dsimp only
    exact wpS_bind (wpS_modify (wpS_pure (.inr ⟨by omega,rfl,done hB3 hu3⟩)))
   ·rw[if_neg c1]
    have e:m=a₀.size:=by omega
    subst e
    refine wpS_bind (wpS_get ?_)
    have hb:(pendingOf st2).back?=none:=by rw[hB2.pend];rfl
    rw[hb]
    dsimp only
    exact wpS_bind (wpS_modify (wpS_pure (.inr ⟨by omega,rfl,done hB2 hu2⟩)))
  ·dsimp only
   rw[if_pos (Nv _)]
   exact wpS_pure ⟨rfl,hD⟩
 case behind=>
  rintro c st' ⟨rfl,hD⟩
  dsimp only
  refine wpS_bind (wpS_mono (wpS_forRange (I:=fun _ c st''=>st''=st'∧c=(none,())) (Q:=fun c st''=>st''=st'∧c=(none,())) ?_ (fun _ _ z=>z) ⟨rfl,rfl⟩) ?_)
  ·rintro x c st'' _ _ ⟨rfl,rfl⟩
   refine wpS_bind (wpS_get ?_)
   rw[if_pos (by rw[hD.2.2.1];exact Nv 1)]
   exact wpS_pure ⟨rfl,rfl⟩
  ·rintro c st'' ⟨rfl,rfl⟩
   exact wpS_pure (h _ hD.1 hD.2.1 hD.2.2.2)
end
end Stb
namespace Stb
open PySem PyProof.Rows
structure SJ (J:Shared→Prop) (n0:Nat):Prop where
 sz:∀s,J s→n0≤s.heap.objs.size
 push:∀s c xs n,J s→J {s with heap:=s.heap.push (seqObj c xs n)}
 upd:∀s b g,J s→n0≤b→J {s with heap:=s.heap.update b (Obj.mapSeq g)}
noncomputable def Tells(J:Shared→Prop)(n0:Nat)(k:Int)(s:Shared)(v:Value)(s':Shared):Prop:=(∃t,v=.int k t)∧J s'∧∀b o,n0≤b→s.heap.get? b=some o→s'.heap.get? b=some o
noncomputable def Rows(keys:Array Value)(vs:List Value)(out:Array Value):Prop:=∃xs:Array Keyed,xs.Perm (keys.zip vs.toArray)∧Up xs xs.size∧out=xs.map (·.2)
section
variable {prog:Program} {w:World} {A:Around} {E:Value→Shared→Prop} {s:Shared} {J:Shared→Prop} {n0:Nat} {a kS:Addr} {vs:List Value} {kz:List Int} {keys:Array Value} {e e1:Nat} {P:PySem.Fin→Shared→Prop}
theorem tailK(S:SJ J n0)(hJ:J s)(hk:s.heap.get? kS=some (seqObj "list" keys e))(ha:s.heap.get? a=some (seqObj "list" #[] e1))(ne:kS≠a)(nk:n0≤kS)(na:n0≤a){st:SortSt}(hz:keys.size≤64)(hp:(arrOf st).Perm (keys.zip vs.toArray))(hu:Up (arrOf st) (arrOf st).size)
  (hf:failedOf st=none) (hv:vs.length≤64) (h:∀h' out c,J {s with heap:=h'}→h'.get? a=some (seqObj "list" out c)→Rows keys vs out→P (.done (.ret .none)) {s with heap:=h'}):wpAny (model prog w) A (ksk_tail a false e1 (.ref kS) st) P E s:=by
 have sz2:(arrOf st).size≤64:=by
  have hvs:vs.toArray.size=vs.length:=by simp
  rw[hp.size_eq,EB]
  omega
 have q1:=Heap.SameBut.update s.heap kS (Obj.mapSeq fun _=>(#[]:Array Value))
 have g1:(s.heap.update kS (Obj.mapSeq fun _=>(#[]:Array Value))).get? a=some (seqObj "list" #[] e1):=(q1.2 a ne.symm).trans ha
 have J1:=S.upd s kS (fun _=>#[]) hJ nk
 have J2:=S.upd _ a (fun _=>(arrOf st).map (·.2)) J1 na
 unfold ksk_tail
 try dsimp only
 refine wpAny_bind (listUpdate_at hk rfl ?_ (by rw[sizeLine_eq];omega) (Mb _))
 refine wpAny_bind (wpAny_letGo ?_)
 refine wpAny_bind (seqEpoch_at g1 rfl ?_)
 refine wpAny_bind (listUpdate_at g1 rfl ?_ (Mb _) (by simp only[Mh,if_false,Array.size_map];rw[sizeLine_eq];omega))
 rw[hf]
 simp only[bne_self_eq_false,Mh,if_false]
 exact wpAny_pure (h _ _ _ J2 (get?_update_seq g1 fun _=>(arrOf st).map (·.2)) ⟨arrOf st,hp,hu,rfl⟩)
theorem zip_T{keys:Array Value}{vs:List Value}{i:Nat}(hl:keys.size=vs.length):T (keys.zip vs.toArray) i=match vs[i]? with|some v=>numOf v|none=>0:=by
 unfold T
 have hvs:vs.toArray.size=vs.length:=by simp
 cases ev:vs[i]? with
 |none=>
  have hi:vs.length≤i:=EO.mp ev
  have e:(keys.zip vs.toArray)[i]?=none:=Array.getElem?_eq_none (by rw[EB];omega)
  rw[e]
 | some v=>
  have hi:i<vs.length:=(NG.mp ev).1
  have hz:i<(keys.zip vs.toArray).size:=by rw[EB];omega
  have ev':vs[i]=v:=by
   rw[MA hi] at ev
   exact Option.some.inj ev
  have e:(keys.zip vs.toArray)[i]?=some (keys[i]'(by omega),vs[i]):=by
   rw[E8 hz]
   simp
  rw[e,ev']
theorem endK(S:SJ J n0)(hJ:J s)(hk:s.heap.get? kS=some (seqObj "list" keys e))(ha:s.heap.get? a=some (seqObj "list" #[] e1))(ne:kS≠a)(nk:n0≤kS)(na:n0≤a)(hi:IntsAre keys.toList kz)(hl:keys.size=vs.length)(h64:vs.length<64)
  (up:∀(i j:Nat)(x y:Value),i<j→vs[i]?=some x→vs[j]?=some y→numOf x<numOf y)
  (h:∀h' out c,J {s with heap:=h'}→h'.get? a=some (seqObj "list" out c)→Rows keys vs out→P (.done (.ret .none)) {s with heap:=h'}):wpAny (model prog w) A (ksk_end a false vs.toArray e1 (.ref kS) keys) P E s:=by
 have hvs:vs.toArray.size=vs.length:=by simp
 have zs:(keys.zip vs.toArray).size=vs.length:=by rw[EB];omega
 unfold ksk_end
 try dsimp only
 simp only[Mh,if_false]
 by_cases h2:vs.toArray.size<2
 ·rw[if_pos h2,if_pos h2]
  refine wpAny_bind (wpAny_pure ?_)
  rw[StateT.run_pure]
  refine wpAny_bind (wpAny_pure ?_)
  try dsimp only
  refine tailK (st:=SortSt.mk' general' (keys.zip vs.toArray) #[] 7 none) S hJ hk ha ne nk na (by omega) (Array.Perm.refl _) ?_ rfl (by omega) h
  intro i j hij hj
  have hj2:j<(keys.zip vs.toArray).size:=hj
  rw[zs] at hj2
  rw[NS] at h2
  omega
 ·rw[if_neg h2,if_neg h2]
  rw[NS] at h2
  rw[ksk_kind hi (by rw[hl];omega)]
  refine wpAny_bind (wpAny_pure ?_)
  have lat:Lat (keys.zip vs.toArray) (keys.zip vs.toArray) 1:=fun i j hij _ hj=>by
   rw[zs] at hj
   rw[zip_T hl,zip_T hl,MA (show i<vs.length by omega),MA hj]
   exact up i j _ _ hij (MA (show i<vs.length by omega)) (MA hj)
  refine wpAny_bind (wpAny_mono (runs (a₀:=keys.zip vs.toArray) (st:=SortSt.mk' oneType' (keys.zip vs.toArray) #[] 7 none) (Q:=fun _ st'=>(arrOf st').Perm (keys.zip vs.toArray)∧failedOf st'=none∧Up (arrOf st') (keys.zip vs.toArray).size)
   (ksk_intKeys hi) ⟨Array.Perm.refl _,rfl,rfl,rfl⟩ (by rw[zs];omega) (by rw[zs];exact h64) lat fun st' b1 b2 b3=>⟨b1,b2,b3⟩) ?_ fun _ _ z=>z)
  rintro⟨⟨⟩,st'⟩ s' ⟨rfl,b1,b2,b3⟩
  try dsimp only
  exact tailK S hJ hk ha ne nk na (by omega) b1 (by rw[b1.size_eq];exact b3) b2 (by omega) h
theorem restK{f:Value}(S:SJ J n0)(hJ:J s)(hk:s.heap.get? kS=some (seqObj "list" #[] 0))(ha:s.heap.get? a=some (seqObj "list" #[] e1))(ne:kS≠a)(nk:n0≤kS)(na:n0≤a)(hl:kz.length=vs.length)(h64:vs.length<64)
  (up:∀(i j:Nat)(x y:Value),i<j→vs[i]?=some x→vs[j]?=some y→numOf x<numOf y)
  (turn:∀(i:Nat)(v:Value)(k:Int),vs[i]?=some v→kz[i]?=some k→∀s',J s'→wpAny (model prog w) A (call f [v]) (Tells J n0 k s') (fun _ _=>False) s')
  (h:∀s' keys out c,J s'→s'.heap.get? a=some (seqObj "list" out c)→IntsAre keys.toList kz→keys.size=vs.length→Rows keys vs out→P (.done (.ret .none)) s'):wpAny (model prog w) A (ksk_rest a f false vs.toArray e1 (.ref kS)) P E s:=by
 unfold ksk_rest
 refine wpAny_bind (wpAny_rule ?_)
 first
  |rw[List.forIn_toArray]
  |rw[←Array.forIn_toList]
 refine wpAny_bind (ksk_fold (fun i s'=>J s'∧∃kA e,s'.heap.get? kS=some (seqObj "list" kA e)∧s'.heap.get? a=some (seqObj "list" #[] e1)∧IntsAre kA.toList (kz.take i)) vs 0 s ⟨hJ,#[],0,hk,ha,by simpa using IntsAre.nil⟩ ?turnP ?doneP)
 case turnP=>
  rintro j x s' hx ⟨J',kA,e,g1,g2,hi⟩
  simp only[EA] at hi⊢
  have hj:j<vs.length:=(NG.mp hx).1
  obtain⟨k,ek⟩:∃k,kz[j]?=some k:=⟨_,MA (by omega)⟩
  have lz:kA.size≤vs.length:=by
   have h1:=hi.length
   rw[MY,NH] at h1
   omega
  refine wpAny_bind (wpAny_attempt (wpAny_mono (turn j x k hx ek s' J') (fun v s'' hT=>?_) fun _ _ z=>z.elim))
  obtain⟨⟨t,rfl⟩,J2,kp⟩:=hT
  try dsimp only
  have g1':=kp _ _ nk g1
  have g2':=kp _ _ na g2
  have q1:=Heap.SameBut.update s''.heap kS (Obj.mapSeq (·.push (.int k t)))
  refine wpAny_bind (listUpdate_at g1' rfl ?_ (by rw[sizeLine_eq];omega) (Nx (Er (Array.size_push ..)) (by rw[sizeLine_eq];omega)))
  have et:kz.take (j+1)=kz.take j++[k]:=by rw[MG,ek];simp
  have ep:(kA.push (Value.int k t)).toList=kA.toList++[Value.int k t]:=by simp
  exact wpAny_pure ⟨rfl,S.upd _ kS _ J2 nk,kA.push (.int k t),_,get?_update_seq g1' (·.push (.int k t)),(q1.2 a ne.symm).trans g2',by rw[ep,et];exact ksk_snoc hi⟩
 case doneP=>
  rintro s' ⟨J',kA,e,g1,g2,hi⟩
  have e3:kz.take (0+vs.length)=kz:=Ml (by omega)
  rw[e3] at hi
  have lk:kA.size=vs.length:=by
   have:=hi.length
   rw[MY] at this
   omega
  try dsimp only
  refine wpAny_bind (listItems_at g1 rfl ?_)
  exact endK S J' g1 g2 ne nk na hi lk h64 up fun h' out c z1 z2 z3=>h _ kA out c z1 z2 hi lk z3
theorem sortK{f:Value}{n:Nat}(S:SJ J n0)(hJ:J s)(ho:s.heap.get? a=some (seqObj "list" vs.toArray n))(na:n0≤a)(hl:kz.length=vs.length)(h64:vs.length<64)
  (up:∀(i j:Nat)(x y:Value),i<j→vs[i]?=some x→vs[j]?=some y→numOf x<numOf y)
  (turn:∀(i:Nat)(v:Value)(k:Int),vs[i]?=some v→kz[i]?=some k→∀s',J s'→wpAny (model prog w) A (call f [v]) (Tells J n0 k s') (fun _ _=>False) s')
  (h:∀s' keys out c,J s'→s'.heap.get? a=some (seqObj "list" out c)→IntsAre keys.toList kz→keys.size=vs.length→Rows keys vs out→P (.done (.ret .none)) s'):wpAny (model prog w) A (ksk_tree a f false) P E s:=by
 have la:a<s.heap.objs.size:=Heap.lt_size ho
 have J1:=S.upd s a (fun _=>#[]) hJ na
 have J2:=S.push _ "tuple" vs.toArray 0 J1
 have J3:=S.push _ "list" #[] 0 J2
 obtain⟨e1,g1⟩:∃e1,(s.heap.update a (Obj.mapSeq fun _=>(#[]:Array Value))).get? a=some (seqObj "list" #[] e1):=⟨_,get?_update_seq ho fun _=>#[]⟩
 have sz:((s.heap.update a (Obj.mapSeq fun _=>(#[]:Array Value))).push (seqObj "tuple" vs.toArray 0)).objs.size=s.heap.objs.size+1:=by rw[size_push',Heap.size_update]
 have n0s:=S.sz s hJ
 unfold ksk_tree
 refine wpAny_bind (listItems_at ho rfl ?_)
 refine wpAny_bind (listUpdate_at ho rfl ?_ (by rw[NS,sizeLine_eq];omega) (Mb _))
 refine wpAny_bind (seqEpoch_at g1 rfl ?_)
 refine wpAny_bind (wpAny_newTuple ?_ (by show vs.length≤_;rw[sizeLine_eq];omega))
 refine wpAny_bind (wpAny_newList ?_ (Mb _))
 refine wpAny_holding ?_
 refine restK (s:={s with heap:=((s.heap.update a (Obj.mapSeq fun _=>(#[]:Array Value))).push (seqObj "tuple" vs.toArray 0)).push (seqObj "list" #[] 0)}) (kS:=((s.heap.update a (Obj.mapSeq fun _=>(#[]:Array Value))).push (seqObj "tuple" vs.toArray 0)).objs.size)
  S J3 (Heap.get?_push_size _ rfl) (Heap.get?_push_of_some _ (Heap.get?_push_of_some _ g1)) (by rw[sz];exact Mp (Nat.lt_succ_of_lt la)) (by rw[sz];omega) na hl h64 up turn h
end
section
variable {prog:Program} {w:World} {A:Around} {E:Value→Shared→Prop} {s:Shared} {J:Shared→Prop} {n0:Nat} {vs:List Value} {kz:List Int} {Q:Value→Shared→Prop}
theorem sortedK{l f:Addr}(S:SJ J n0)(hJ:J s)(hL:s.heap.IsList l vs.toArray)(hl:kz.length=vs.length)(h64:vs.length<64)
  (up:∀(i j:Nat)(x y:Value),i<j→vs[i]?=some x→vs[j]?=some y→numOf x<numOf y)
  (turn:∀(i:Nat)(v:Value)(k:Int),vs[i]?=some v→kz[i]?=some k→∀s',J s'→wpAny (model prog w) A.in1.in1 (call (.ref f) [v]) (Tells J n0 k s') (fun _ _=>False) s')
  (h:∀s' D keys out c,n0≤D→J s'→s'.heap.get? D=some (seqObj "list" out c)→IntsAre keys.toList kz→keys.size=vs.length→Rows keys vs out→Q (.ref D) s'):wpAny (model prog w) A (call (.builtin "sorted") [.ref l] [(Str.ofString "key", .ref f)]) Q E s:=by
 refine call_function_entry_kw kind_sorted plain_sorted entry_sorted (ksk_s1 _ _) ?_
 unfold Builtin.«sorted»
 refine wpAny_bind (m:=checkCount "sorted" 1 1 _) (wpAny_pure ?_)
 refine wpAny_bind (collect_list hL ?_ (by rw[sizeLine_eq];omega))
 refine wpAny_bind (wpAny_newList ?_ (by rw[sizeLine_eq];omega))
 have n0s:=S.sz s hJ
 have J1:=S.push s "list" #[] 0 hJ
 have J2:=S.upd _ s.heap.objs.size (· ++vs.toArray) J1 n0s
 have J3:=S.push _ "list" vs.toArray 0 J2
 have sz:((s.heap.push (seqObj "list" #[] 0)).update s.heap.objs.size (Obj.mapSeq (· ++vs.toArray))).objs.size=s.heap.objs.size+1:=by rw[Heap.size_update,size_push']
 have g1:(((s.heap.push (seqObj "list" #[] 0)).update s.heap.objs.size (Obj.mapSeq (· ++vs.toArray))).push (seqObj "list" vs.toArray 0)).get? (s.heap.objs.size+1)=some (seqObj "list" vs.toArray 0):=by
  rw[←sz]
  exact Heap.get?_push_size _ rfl
 show wpAny _ _ _ _ _ {s with heap:=((s.heap.push (seqObj "list" #[] 0)).update s.heap.objs.size (Obj.mapSeq (· ++vs.toArray))).push (seqObj "list" vs.toArray 0)}
 rw[sz]
 refine wpAny_bind (wpAny_holding (wpAny_call_entry_kw slot_list_sort ⟨_,g1,rfl⟩ entry_list_sort ?inner (ksk_l1 _ _)))
 case inner=>
  show wpAny (model prog w) A.in1.in1 (Builtin.«list.sort» ⟨[.ref (s.heap.objs.size+1)],[(Str.ofString "key", .ref f)]⟩) _ _ _
  rw[ksk_t1]
  refine sortK (s:={s with heap:=((s.heap.push (seqObj "list" #[] 0)).update s.heap.objs.size (Obj.mapSeq (· ++vs.toArray))).push (seqObj "list" vs.toArray 0)}) S J3 g1 (by omega) hl h64 up turn fun s' keys out c z1 z2 z3 z4 z5=>⟨_,rfl,?_⟩
  exact wpAny_pure ⟨_,rfl,h s' _ keys out c (by omega) z1 z2 z3 z4 z5⟩
end
end Stb
namespace L2
open PySem PySem.Spec PyProof.Rows
structure kdI (X:Cx) (scope:Scope) (x:Str) (N:List Str) (cap:List (Option Nat)):Prop where
 S:CompScope X scope N (none::cap)
 hd:N[0]?=some x
 par:scope.names.lookup x=some .local
 co:scope.isCoroutine=false
 gen:scope.isGenerator=false
 nocell:∀y∈scope.names,y.2≠.cell
noncomputable abbrev kjy(X:Cx)(scope:Scope)(qual:Str)(L f c:Addr):Env:=PySem.W.envX qual scope L f (.ref c) (closL X.env.cells scope.names [])
noncomputable def cxL(X:Cx)(A:Around)(scope:Scope)(N:List Str)(qual:Str)(f c:Addr)(s:Shared)(H:Hp):Cx:=
 {X with A:=A.deeper (kjy X scope qual s.heap.objs.size f c),N:=N,s₀:=s,H₀:=H,env:=kjy X scope qual s.heap.objs.size f c,outer:=X.stack,stack:=kjy X scope qual s.heap.objs.size f c::X.stack,ex:=[],fn:=fun _=>false,calm:=true,pn:=[],xe:=fun _ _=>False}
section
variable {X:Cx} {A:Around} {scope:Scope} {x:Str} {N:List Str} {cap:List (Option Nat)} {pins:List (Addr×Obj)} {σ:St} {H:Hp} {s s1:Shared} {qual:Str} {f c:Addr}
theorem kcV(S:kdI X scope x N cap)(I:Inv X pins σ H s){y:Str}{a:Addr}(h:(closL X.env.cells scope.names []).lookup y=some a):X.env.cells.lookup y=some a:=by
 rcases ken _ _ h with⟨h1,h2⟩|h1
 ·obtain⟨a',ea⟩:=I.ok.has y (S.S.free _ h1 rfl)
  rw[ea] at h2
  rw[h2]
  exact ea
 ·cases h1
theorem kl7(S:kdI X scope x N cap)(I:Inv X pins σ H s)(hfr:A.frames=some X.stack)(hh:A.handled=none){v:V}{u:Value}(r:RelV v u){h1:Heap}{t:Nat}(hns:h1.Ns s.heap.objs.size fun y=>[(x,u)].reverse.lookup y)(hk:∀b o,s.heap.get? b=some o→h1.get? b=some o):
  Inv (cxL X A scope N qual f c s H) [] (some v::capσ cap σ) H {s with heap:=h1,toks:=t}:=by
 have noA:∀b:Addr,b∉(cxL X A scope N qual f c s H).ex:=fun b z=>absurd (show b∈([]:List Addr) from z) (by simp)
 have od:∀{y:Str}{a:Addr},X.env.cells.lookup y=some a→a<s.heap.objs.size:=fun {y a} h=>let⟨_,q⟩:=I.cell y a h;q.lt
 refine⟨⟨I.ok.mod,S.S.kind,rfl,rfl,Nv _,fun y z a e1 e2=>I.ok.inj y z a (kcV S I e1) (kcV S I e2),fun y hy=>?_,fun y a e1 _=>?_,fun _=>hh,Around.frames_deeper hfr, .inr ⟨rfl,rfl⟩,fun b z=>absurd z (noA b),I.bs,Nx I.ok.bsz I.sz,fun b _ _=>noA b,fun b z=>absurd z (noA b),I.stack,I.stkFree⟩,
  rfl,I.bare,Un.kept hk,⟨_,hns,fun j y w e1 e2 e3=>?_⟩,fun y a e=>?_,I.hok.fresh (Nv _),fun y a e=>I.freeC y a (kcV S I e),fun p hp=>absurd (show p∈([]:List (Addr×Obj)) from hp) (by simp),I.hok.kept hk,?_⟩
 ·have hy':scope.names.lookup y=some .cell∨scope.names.lookup y=some .free:=hy
  rcases hy' with q|q
  ·exact absurd rfl (S.nocell _ (PySem.mem_of_lookup q))
  ·exact kc0 (cells:=X.env.cells) scope.names [] (.inl (PySem.mem_of_lookup q))
 ·cases(show false=true from e1)
 ·cases j with
  | zero=>
   have ex:y=x:=by
    have e1':N[0]?=some y:=e1
    rw[S.hd] at e1'
    exact(Option.some.inj e1').symm
   have ev:w=v:=by
    have e2':some (some v)=some (some w):=e2
    exact(Option.some.inj (Option.some.inj e2')).symm
   subst ex ev
   refine⟨u,r, .inl ⟨S.par,?_⟩⟩
   simp
  | succ j=>
   have e2':(capσ cap σ)[j]?=some (some w):=by simpa using e2
   have e2'':(cap.map fun o=>match o with|some i=>(σ[i]?).getD none|none=>none)[j]?=some (some w):=e2'
   rw[NC] at e2''
   cases ec:cap[j]? with
   |none=>rw[ec] at e2'';cases e2''
   | some oi=>
    rw[ec] at e2''
    cases oi with
    |none=>cases e2''
    | some i=>
     have e4:(σ[i]?).getD none=some w:=Option.some.inj e2''
     have e5: σ[i]?=some (some w):=by
      cases q: σ[i]? with
      |none=>rw[q] at e4;cases e4
      |some w'=>rw[q] at e4;exact congrArg some e4
     obtain⟨q1,hf,_⟩:=S.S.cap (j+1) i y (by simpa using ec) e1
     have hm:=PySem.mem_of_lookup hf
     have q2:=S.S.free _ hm rfl
     obtain⟨mo,_,hl⟩:=I.loc
     obtain⟨u',ru,lk⟩:=hl i y w q1 e5 (.inr q2)
     refine⟨u',ru, .inr ⟨.inr hf,?_⟩⟩
     rcases lk with⟨k1,_⟩|⟨_,a,ea,z⟩
     ·have k1':X.env.scope.names.lookup y=some .local:=k1
      rcases q2 with q2|q2 <;> rw[q2] at k1' <;> cases k1'
     ·obtain⟨a',ea2⟩:=kc0 (cells:=X.env.cells) scope.names [] (.inl hm)
      have e6:=kcV S I ea2
      rw[ea] at e6
      have e7:a=a':=Option.some.inj e6
      subst e7
      obtain⟨oc,ho,hd⟩:=z
      exact⟨a,ea2,oc,hk _ _ ho,hd⟩
 ·obtain⟨w,oc,ho,hd⟩:=I.cell y a (kcV S I e)
  exact⟨w,oc,hk _ _ ho,hd⟩
 ·have:=S.S.len
  show(some v::capσ cap σ).length=N.length
  rw[←this,N8,N8]
  unfold capσ
  rw[Nr]
theorem kky{name:Str}{params:Arguments}{body:Expr}{pm ctv:Value}{te:TE}{v:V}{u:Value}{Q:VK}(S:kdI X scope x N cap)(I:Inv X pins σ H s)(hfr:A.frames=some X.stack)(hh:A.handled=none)(hdp:A.depth<recursionLimit)
  (ho:s.heap.get? f=some (EC name qual params body scope (closL X.env.cells scope.names []) pm c ctv)) (hcd:s.heap.CodeRec (.ref c) qual)
  (hbind:bindArgs (PySem.W.kla_fn name qual params body scope (closL X.env.cells scope.names []) pm (.ref c) ctv) ⟨[u],[]⟩=pure [(x,u)]) (r:RelV v u) (he:PE (cxL X A scope N qual f c s H) body te) (hq:te (some v::capσ cap σ) H Q):
  wpAny (model X.prog X.w) A (call (.ref f) [u]) (fun w' s'=>∃v' H',Inv X pins σ H' s'∧RelV v' w'∧Q v' H'∧Un (frs X.stack) [] H H' s.heap s'.heap∧s.heap.objs.size≤s'.heap.objs.size) (fun _ _=>False) s:=by
 refine wpAny_call (PySem.W.kla_callFunE hdp ho rfl S.co S.gen rfl hcd ?_)
 rw[hbind]
 refine wpAny_pure (wpAny_newFunctionEnv S.nocell (fun y hy=>?_) (fun h1 hns hsb=>⟨I.nolimit.fresh _ hsb,?_⟩) S.S.kind)
 ·rw[Mt] at hy
  subst hy
  exact S.par
 have hk:∀b o,s.heap.get? b=some o→h1.get? b=some o:=fun b o e=>hsb.extBut b o (NY (Heap.lt_size e)) (Heap.get?_push_of_some _ e)
 have J:=kl7 (A:=A) (qual:=qual) (f:=f) (c:=c) (t:=s.toks+1) S I hfr hh r hns hk
 refine PySem.W.kla_codeExpr (wpAny_mono (he [] _ _ _ Q J hq) (fun w' s' hw=>?_) fun _ _ z=>z.elim)
 obtain⟨v',H',J',rv,qv⟩:=hw
 exact⟨v',H',I.call' (ch:=[]) J'.os J'.base J'.hok J'.bare (fun b hb=>by simp at hb),rv,qv,J'.base,J'.sz⟩
end
end L2
namespace L2
open PySem PySem.Spec PyProof.Rows
noncomputable def CodeO(c:Addr)(qual:Str):HO:=.ext fun h=>h.CodeRec (.ref c) qual
noncomputable def lamN(p:Pos):Str:=if p.col=38 then "first_use.<locals>.<lambda>" else "falling_groups.<locals>.<lambda>"
def kkz{p p':Pos}(h:p.col=p'.col):lamN p=lamN p':=by unfold lamN;rw[h]
noncomputable def TbAt(P:Addr)(H:Hp):Prop:=∃ps:Array Value,H P=some (.tbl ps)∧TriplesOk ps.toList∧∀pos c,codeAmong pos ps.toList=some c→∃c',c=.ref c'∧H c'=some (CodeO c' (lamN pos))
structure Grew (P:Addr) (H H':Hp):Prop where
 kp:∀b o,b≠P→H b=some o→H' b=some o
 tb:TbAt P H'
theorem kka{pos:Pos}{a b:Int}{c:Value}(l:List Value)(h:TriplesOk l){x:Value}(e:codeAmong pos (l++[rawInt a,rawInt b,c])=some x):codeAmong pos l=some x∨(x=c∧b=pos.col):=by
 fun_induction TriplesOk l with
 |case1=>
  right
  unfold rawInt codeAmong at e
  simp only[Eg] at e
  split at e
  next hc=>exact⟨(Option.some.inj e).symm,by simpa using(Bool.and_eq_true_iff.mp hc).2⟩
  ·simp[codeAmong] at e
 | case2 n t m u d rest ih=>
  simp only[E9,codeAmong] at e⊢
  split at e
  ·left
   rename_i hc
   rw[if_pos hc]
   exact e
  ·rename_i hc
   rw[if_neg hc]
   exact ih h e
 |case3=>exact h.elim
noncomputable def CodeK(K:Nt)(c P:Addr):Prop:=
 ∃o vs file tf flags tg inF text tt,K.lookup c=some o∧o.cls=.type "code"∧o.data=.fields vs∧vs[11]?=some (.ref P)∧vs.getD 11 .none=.ref P∧vs.getD 18 .none=.str file tf∧vs.getD 7 .none=.int flags tg∧vs.getD 9 .none=.bool inF∧vs.getD 10 .none=.int text tt∧c≠P
def CodeK.hd{K:Nt}{c P:Addr}{h:Heap}(x:CodeK K c P)(X:K.In h):PySem.W.CodeHd h c P:=by
 obtain⟨o,vs,file,tf,flags,tg,inF,text,tt,e,r⟩:=x
 exact⟨o,vs,file,tf,flags,tg,inF,text,tt,X _ _ e,r⟩
noncomputable def BltM(mg:Str→Option Value)(base:Heap):Prop:=∃bm ob,mg "__builtins__"=some (.ref bm)∧bm≠builtinsNs∧base.get? bm=some ob∧ob.cls=.type "module"∧ob.dict=some builtinsNs∧ob.data=.plain
section
variable {X:Cx} {scope:Scope} {x:Str} {N:List Str} {cap:List (Option Nat)} {pins:List (Addr×Obj)} {σ:St} {H:Hp} {s:Shared} {c0 P:Addr} {params:Arguments} {body:Expr} {lpos:Pos}
theorem kkx{E:Value→Shared→Prop}{Q:Value→Shared→Prop}(S:kdI X scope x N cap)(I:Inv X pins σ H s)(hcode:X.env.code=.ref c0)(CK:CodeK X.K c0 P)(hB:BltM X.mg X.base)(TB:TbAt P H)(hq:X.env.qual++ "<lambda>"=(lamN lpos))(hdef:defaultsOf params X.env=([],[]))
  (h:∀(s':Shared)(H':Hp)(f c:Addr)(pm ctv:Value),Inv X pins σ H' s'→Grew P H H'→s'.heap.get? f=some (EC "<lambda>" (lamN lpos) params body scope (closL X.env.cells scope.names []) pm c ctv)→H' f=none→s.heap.objs.size≤f→(∀b,s.heap.objs.size≤b→s'.heap.objs.size≤b→H' b=none)→H' c=some (CodeO c (lamN lpos))→Q (.ref f) s'):
  wpAny (model X.prog X.w) X.A (eval (.Lambda params body scope lpos) X.env) Q E s:=by
 obtain⟨ps,eP,ht,hor⟩:=TB
 have hP:s.heap.get? P=some (ED ps):=(show ObjOk X.prog X.w H s.heap P (.tbl ps) from I.hok P _ eP)
 have hg:=I.mod.glob.keeps I.bk
 have nbP:∀b o,X.base.get? b=some o→b≠P:=fun b o e z=>by
  have:=(I.bs b o e).2
  rw[z,eP] at this
  cases this
 have hgP:mainGlobals≠P:=by
  obtain⟨o,_,_,e,_⟩:=I.mod.glob
  exact nbP _ o e
 have hb:s.heap.BuiltinsAt X.mg P:=by
  obtain⟨bm,ob,b1,b2,b3,b4,b5,b6⟩:=hB
  refine⟨bm,ob,b1,b2,fun z=>?_,nbP _ ob b3,I.bk _ _ b3,b4,b5,b6⟩
  obtain⟨o,es,ep,e,hd,_⟩:=I.mod.glob
  rw[←z,b3] at e
  cases e
  rw[b6] at hd
  cases hd
 have CH:=CK.hd I.kIn
 refine PySem.W.kla_eval hdef ?_
 rw[hq]
 cases hor':codeAmong lpos ps.toList with
 | none=>
  have hnf:=hor'
  refine PySem.W.kla_makeFunction (mg:=X.mg) (kco S.S I) I.ok.glob hg hcode CH hP ht hnf hgP hb fun c' ctv h' tk hx hge hlt hrec htb=>?_
  have hc0:H c'=none:=I.hok.fresh hge
  have nPc:P≠c':=kaj eP hc0
  have szP:P<s.heap.objs.size:=Heap.lt_size hP
  generalize hob:EC "<lambda>" (lamN lpos) params body scope (closL X.env.cells scope.names []) ((X.mg "__name__").getD .none) c' ctv=ob
  have k2:∀b o,b≠P→s.heap.get? b=some o→(h'.push ob).get? b=some o:=fun b o hbp e=>Heap.get?_push_of_some _ (hx b o hbp e)
  have nN:∀{b:Addr},H b=none→b≠P:=fun {b} n z=>by rw[z,eP] at n;cases n
  have at2:∀{b:Addr},b≠P→b≠c'→(upd (upd H P (.tbl (ps++ #[rawInt lpos.line,rawInt lpos.col, .ref c']))) c' (CodeO c' (lamN lpos))) b=H b:=fun {b} h1 h2=>by rw[kal h2,kal h1]
  have eP2:(upd (upd H P (.tbl (ps++ #[rawInt lpos.line,rawInt lpos.col, .ref c']))) c' (CodeO c' (lamN lpos))) P=some (.tbl (ps++ #[rawInt lpos.line,rawInt lpos.col, .ref c'])):=by rw[kal nPc,kad]
  have ec2:(upd (upd H P (.tbl (ps++ #[rawInt lpos.line,rawInt lpos.col, .ref c']))) c' (CodeO c' (lamN lpos))) c'=some (CodeO c' (lamN lpos)):=kad
  have fresh2:∀b,s.heap.objs.size≤b→(h'.push ob).objs.size≤b→(upd (upd H P (.tbl (ps++ #[rawInt lpos.line,rawInt lpos.col, .ref c']))) c' (CodeO c' (lamN lpos))) b=none:=fun b h1 h2=>by
   rw[Heap.size_push] at h2
   rw[at2 (Mp (NV szP h1)) (Mp (NV hlt (Nat.le_of_succ_le h2)))]
   exact I.hok.fresh h1
  have ff:(upd (upd H P (.tbl (ps++ #[rawInt lpos.line,rawInt lpos.col, .ref c']))) c' (CodeO c' (lamN lpos))) h'.objs.size=none:=by
   have h1:s.heap.objs.size≤h'.objs.size:=Nx hge (NF hlt)
   rw[at2 (Mp (NV szP h1)) (Mp hlt)]
   exact I.hok.fresh h1
  generalize upd (upd H P (.tbl (ps++ #[rawInt lpos.line,rawInt lpos.col, .ref c']))) c' (CodeO c' (lamN lpos))=H2 at *
  have un:Un X.fs [] H H2 s.heap (h'.push ob):=by
   refine⟨fun b o e n _ _=>k2 b o (nN n) e,fun b o e n _ _=>⟨o.slots,k2 b o (nN n) e⟩,fun b o e n _=>?_,fun b o e _=>?_,fun b xs e=>?_,fun b o u e=>?_,fun b qs e=>?_⟩
   ·rw[at2 (nN n) (NY (NV (Heap.lt_size e) hge))]
    exact n
   ·by_cases hbp:b=P
    ·subst hbp
     exact⟨_,Heap.get?_push_of_some _ htb⟩
    ·exact⟨o,k2 b o hbp e⟩
   ·rw[at2 (ne_of e eP (by intro z;cases z)) (kaj e hc0)]
    exact e
   ·rw[at2 (ne_of e eP (by intro z;cases z)) (kaj e hc0)]
    exact e
   ·by_cases hbp:b=P
    ·subst hbp
     rw[eP] at e
     cases e
     exact⟨_,eP2⟩
    ·refine⟨#[],?_⟩
     rw[at2 hbp (kaj e hc0),e]
     simp
  have hok2:HOk X.prog X.w H2 (h'.push ob):=fun b u e=>by
   by_cases hbp:b=P
   ·subst hbp
    rw[eP2] at e
    cases e
    exact(show(h'.push ob).get? b=some _ from Heap.get?_push_of_some _ htb)
   ·by_cases hbc:b=c'
    ·subst hbc
     rw[ec2] at e
     cases e
     obtain⟨cc,oc,vs,t,e1,e2,e3,e4⟩:=hrec
     cases e1
     refine(show ObjOk X.prog X.w H2 (h'.push ob) b (CodeO b (lamN lpos)) from⟨⟨b,oc,vs,t,rfl,Heap.get?_push_of_some _ e2,e3,e4⟩,⟨oc,Heap.get?_push_of_some _ e2⟩,fun h1 h2 q k=>?_⟩)
     obtain⟨c3,o3,vs3,t3,z1,z2,z3,z4⟩:=q
     cases z1
     exact⟨b,o3,vs3,t3,rfl,k _ z2,z3,z4⟩
    ·rw[at2 hbp hbc] at e
     have nown:∀d y,H d=some (.own y)→d≠P∧d≠c':=fun d y r=>⟨ne_of r eP (by intro z;cases z),kaj r hc0⟩
     refine(I.hok b u e).stay (fun d v hd r=>k2 d v ?_ r) (fun d r=>by rw[at2 (nown d b r).1 (nown d b r).2];exact r) fun d xs r=>by rw[at2 (ne_of r eP (by intro z;cases z)) (kaj r hc0)];exact r
     rcases hd with rfl|hd
     ·exact hbp
     ·exact(nown d b hd).1
  subst hob
  refine h _ H2 h'.objs.size c' _ ctv (I.un (t':=tk) un hok2) ⟨fun b o hbp e=>by rw[at2 hbp (kaj e hc0)];exact e,_,eP2,?_,fun pos d ed=>?_⟩ (Heap.get?_push_size _ rfl) ff (Nx hge (NF hlt)) fresh2 ec2
  ·have:=TriplesOk_snoc lpos.line lpos.col (.ref c') ps.toList ht
   simpa using this
  ·have ed':codeAmong pos (ps.toList++[rawInt lpos.line,rawInt lpos.col, .ref c'])=some d:=by simpa using ed
   rcases kka ps.toList ht ed' with z|z
   ·obtain⟨d',rfl,ed2⟩:=hor pos d z
    exact⟨d',rfl,by rw[at2 (ne_of ed2 eP (by intro z;cases z)) (kaj ed2 hc0)];exact ed2⟩
   ·exact⟨c',z.1,by rw[kkz (p:=pos) (p':=lpos) (by have:=z.2;omega)];exact ec2⟩
 |some cv=>
  have hf:=hor'
  obtain⟨c',rfl,ec'⟩:=hor lpos cv hf
  refine PySem.W.kla_makeFunctionHit (mg:=X.mg) (kco S.S I) I.ok.glob hg hcode CH hP ht hf hb fun ctv h' tk hk hsz=>?_
  have k2:∀b o,s.heap.get? b=some o→(h'.push (EC "<lambda>" (lamN lpos) params body scope (closL X.env.cells scope.names []) ((X.mg "__name__").getD .none) c' ctv)).get? b=some o:=fun b o e=>Heap.get?_push_of_some _ (hk b o e)
  exact h _ H h'.objs.size c' _ ctv (I.kept (t':=tk) k2) ⟨fun b o _ e=>e,ps,eP,ht,hor⟩ (Heap.get?_push_size _ rfl) (I.hok.fresh hsz) hsz (fun b h1 _=>I.hok.fresh h1) ec'
end
end L2
namespace L2
open PySem PySem.Spec PyProof.Rows
theorem kh2:∀{ns:List Int}{us:List Value},Vals (ns.map V.int) us→IntsAre us ns
 |[],_, .nil=>.nil
 |n::ns,_, .cons h t=>by
  obtain⟨tk,rfl⟩:=h
  exact .cons n tk (kh2 t)
theorem kho:∀{us:List Value}{ns:List Int},IntsAre us ns→Vals (ns.map V.int) us
 |_,_, .nil=>.nil
 |_,_, .cons n t h=>.cons ⟨t,rfl⟩ (kho h)
theorem kkf{ns:List Int}{key:Int→Int}{keys:Array Value}{us:List Value}{out:Array Value}(hu:IntsAre us ns)(hk:IntsAre keys.toList (ns.map key))(hl:keys.size=us.length)(h:Stb.Rows keys us out):
  ∃ms:List Int,IntsAre out.toList ms∧ms.Perm ns∧ms.Pairwise fun a b=>key a<key b∨(key a=key b∧a<b):=by
 obtain⟨xs,hp,hup,rfl⟩:=h
 have pl:xs.toList.Perm (keys.toList.zip us):=by
  rw[←ksk_zip]
  exact Array.perm_iff_toList_perm.mp hp
 have mem:∀p∈keys.toList.zip us,p.2∈us∧numOf p.1=key (numOf p.2):=fun p hp=>by
  obtain⟨i,hi,rfl⟩:=List.mem_iff_getElem.mp hp
  have l1:i<keys.toList.length:=by
   rw[List.length_zip] at hi
   omega
  have l2:i<us.length:=by
   rw[List.length_zip] at hi
   omega
  rw[List.getElem_zip]
  refine⟨List.getElem_mem l2,?_⟩
  have e1:(keys.toList.map numOf)[i]?=(ns.map key)[i]?:=by rw[hk.nums]
  have e2:(us.map numOf)[i]?=ns[i]?:=by rw[hu.nums]
  rw[NC,MA l1,NC] at e1
  rw[NC,MA l2] at e2
  rw[←e2] at e1
  exact Option.some.inj e1
 have memx:∀p∈xs.toList,p.2∈us∧numOf p.1=key (numOf p.2):=fun p hp=>mem p (pl.mem_iff.mp hp)
 refine⟨xs.toList.map fun p=>numOf p.2,?_,?_,?_⟩
 ·have e:(xs.map (·.2)).toList=xs.toList.map (·.2):=by simp
  rw[e]
  have:=intsAre_map (xs.toList.map (·.2)) fun v hv=>by
   obtain⟨p,hp',rfl⟩:=NQ.mp hv
   exact hu.all _ (memx p hp').1
  rw[NU] at this
  exact this
 ·have h1:=pl.map (fun p:Keyed=>numOf p.2)
  have e2:(keys.toList.zip us).map (fun p:Keyed=>numOf p.2)=ns:=by
   have e3:(keys.toList.zip us).map (fun p:Keyed=>numOf p.2)=((keys.toList.zip us).map Prod.snd).map numOf:=by rw[NU];rfl
   rw[e3,List.map_snd_zip (by have e:=MY (xs:=keys);omega),hu.nums]
  rw[e2] at h1
  exact h1
 ·rw[MT]
  intro i j hi hj hij
  have hi':i<xs.size:=by simpa using hi
  have hj':j<xs.size:=by simpa using hj
  have q:=hup i j hij hj'
  have ki:=(memx xs[i] (by simp)).2
  have kj:=(memx xs[j] (by simp)).2
  unfold Stb.Lx Stb.T at q
  rw[K_eq hi',K_eq hj',E8 hi',E8 hj'] at q
  simp only[Ei,Array.getElem_toList]
  rw[←ki,←kj]
  exact q
section
variable {X:Cx} {scope:Scope} {x:Str} {N:List Str} {cap:List (Option Nat)} {pins:List (Addr×Obj)} {σ:St} {H:Hp} {s1:Shared} {f:Addr} {fo:Obj}
noncomputable def Held(X:Cx)(pins:List (Addr×Obj))(σ:St)(H:Hp)(n0:Nat)(f:Addr)(fo:Obj)(s:Shared):Prop:=Inv X pins σ H s∧n0≤s.heap.objs.size∧s.heap.get? f=some fo
theorem kl9(I:Inv X pins σ H s1)(hf:f<s1.heap.objs.size):Stb.SJ (Held X pins σ H s1.heap.objs.size f fo) s1.heap.objs.size where
 sz:=fun s h=>h.2.1
 push:=fun s c xs n h=>⟨h.1.kept (t':=s.toks) fun b o e=>Heap.get?_push_of_some _ e,Nx h.2.1 (by rw[Heap.size_push];exact Ed _),Heap.get?_push_of_some _ h.2.2⟩
 upd:=fun s b g h hb=>by
  obtain⟨q1,q2,q3,q4,q5,q6⟩:=I.fpOk hb (I.hok.fresh hb)
  have sb:=Heap.SameBut.update s.heap b (Obj.mapSeq g)
  exact⟨h.1.turned (t':=s.toks) (it:=b) (fun d o hd e=>(sb.2 d hd).trans e) q1 q2 q4 q5 q6,by rw[Heap.size_update];exact h.2.1,(sb.2 f (NY (NV hf hb))).trans h.2.2⟩
noncomputable def kkc(K:Nt)(P:Addr)(tl:TE)(cap:List (Option Nat))(te:TE):TE:=fun σ H Q=>tl σ H fun v H1=>∃(a:Addr)(ns:List Int)(key:Int→Int),v=.ref a∧SqL K H1 a (ns.map V.int)∧ns.length<64∧ns.Pairwise (· < ·)∧TbAt P H1∧a≠P∧
 (∀H2,Grew P H1 H2→∀n∈ns,te (some (.int n)::capσ cap σ) H2 fun v H3=>v=.int (key n)∧H3=H2)∧
 ∀(H2:Hp)(l:Addr)(ms:List Int),Grew P H1 H2→H1 l=none→H2 l=none→ms.Perm ns→(ms.Pairwise fun a b=>key a<key b∨(key a=key b∧a<b))→Q (.ref l) (upd H2 l (.lst (ms.map V.int)))
theorem kkS:bootBuiltins "sorted"=some (.builtin "sorted"):=by decide +kernel
theorem Grew.seq{K:Nt}{P:Addr}{H H':Hp}{a:Addr}{xs:List V}(g:Grew P H H')(ha:a≠P)(h:SqL K H a xs):SqL K H' a xs:=by
 rcases h with(h|⟨o,h⟩)|h
 ·exact .inl (.inl (g.kp _ _ ha h))
 ·exact .inl (.inr ⟨o,g.kp _ _ ha h⟩)
 ·exact .inr h
theorem kii{l:Expr}{tl te:TE}{c0 P:Addr}{params:Arguments}{body:Expr}{lpos p pos kpos:Pos}(hl:PE X l tl)(S:kdI X scope x N cap)(hc:X.calm=true)(hdp:X.A.depth<recursionLimit)(hcode:X.env.code=.ref c0)(CK:CodeK X.K c0 P)(hB:BltM X.mg X.base)
  (hg:Gl X "sorted") (hm:X.mg "sorted"=none) (hbind:∀(cl:List (Str×Addr))(pm:Value)(c:Addr)(ctv u:Value),bindArgs (PySem.W.kla_fn "<lambda>" (lamN lpos) params body scope cl pm (.ref c) ctv) ⟨[u],[]⟩=pure [(x,u)])
  (he:∀A f c s H,PE (cxL X A scope N (lamN lpos) f c s H) body te) (hq:X.env.qual++ "<lambda>"=(lamN lpos)) (hdef:defaultsOf params X.env=([],[]):=by rfl) (s1:starEach [l] X.env=[(false,eval l X.env)]:=by rfl):
  PE X (.Call (.Name "sorted" p) [l] [⟨some "key", .Lambda params body scope lpos,kpos⟩] pos) (kkc X.K P tl cap te):=by
 intro pins s σ H Q I h
 refine wpAny_Call_Name_kw (kdc I hg hm kkS ?_ (by decide) (by decide))
 refine callWith_kw ?_ (by rw[s1];rfl) (by rw[s1];rfl)
 rw[s1]
 refine Calls.spliced_cons (thn (hl pins s σ H _ I h) fun u s3 ⟨v,H1,I1,r1,a,ns,key,ev,hS,h64,hup,TB,haP,hte,q⟩=>Calls.spliced_nil ?_)
 subst ev
 cases r1
 show wpAny _ _ (evalAll ((do let v ←eval (.Lambda params body scope lpos) X.env;standAt pos;pure v):: [])) _ _ s3
 refine wpAny_evalAll_cons (wpAny_bind (kkx S I1 hcode CK hB TB hq hdef fun s4 H4 lf c pm ctv I4 G ef ff hsf hfr ec=>wpAny_bind (wpAny_standAt (wpAny_pure (wpAny_evalAll_nil ?_)))))
 show wpAny _ _ (call (.builtin "sorted") [.ref a] [(Str.ofString "key", .ref lf)]) _ _ s4
 obtain⟨its,rv,pl,hz⟩:=I4.list (G.seq haP hS)
 have hi:=kh2 rv
 have lu:=hi.length
 have lf4:lf<s4.heap.objs.size:=Heap.lt_size ef
 have rising:∀(i j:Nat)(y z:Value),i<j→its[i]?=some y→its[j]?=some z→numOf y<numOf z:=fun i j y z hij ey ez=>by
  have e1:ns[i]?=some (numOf y):=by rw[←hi.nums,NC,ey];rfl
  have e2:ns[j]?=some (numOf z):=by rw[←hi.nums,NC,ez];rfl
  obtain⟨l1,q1⟩:=NG.mp e1
  obtain⟨l2,q2⟩:=NG.mp e2
  have:=MT.mp hup i j l1 l2 hij
  rw[q1,q2] at this
  exact this
 refine Stb.sortedK (kz:=ns.map key) (J:=Held X pins σ H4 s4.heap.objs.size lf _) (kl9 I4 lf4) ⟨I4,Nv _,ef⟩ pl.isList (by rw[Nr,lu]) (by omega) rising (fun i v k ev ek s5 hJ=>?_) fun s5 D keys out cc hD hJ eD hk hkl hR=>?_
 ·have en:ns[i]?=some (numOf v):=by rw[←hi.nums,NC,ev];rfl
  have ek':k=key (numOf v):=by
   rw[NC,en] at ek
   exact(Option.some.inj ek).symm
  subst ek'
  obtain⟨n,t,rfl⟩:=hi.all v (NA ev)
  have hcr:s5.heap.CodeRec (.ref c) (lamN lpos):=(show ObjOk X.prog X.w H4 s5.heap c (CodeO c (lamN lpos)) from hJ.1.hok c _ ec).1
  refine wpAny_mono (kky (A:=X.A.in1.in1) (v:=.int n) (u:=.int n t) S hJ.1 I.ok.frames (I.ok.hd hc) hdp hJ.2.2 hcr (hbind _ _ _ _ _) ⟨t,rfl⟩ (he _ _ _ _ _) (hte H4 G n (NA en))) (fun w' s6 hw=>?_) fun _ _ z=>z
  obtain⟨v',H6,I6,rv',⟨e1,e2⟩,un,sz6⟩:=hw
  subst e1 e2
  have nst:∀b,s3.heap.objs.size≤b→b∉frs X.stack:=fun b hb z=>absurd (kiF I1 z) (Eh.mpr hb)
  have s34:s3.heap.objs.size≤s4.heap.objs.size:=NF (MD hsf lf4)
  have kp:∀b o,s3.heap.objs.size≤b→H6 b=none→s5.heap.get? b=some o→s6.heap.get? b=some o:=fun b o hb hn e=>un.keep b o e hn (nst b hb) (by simp)
  refine⟨rv',⟨I6,?_,kp lf _ hsf ff hJ.2.2⟩,fun b o hb e=>kp b o (Nx s34 hb) (I4.hok.fresh hb) e⟩
  exact Nx hJ.2.1 sz6
 ·obtain⟨ms,m1,m2,m3⟩:=kkf hi hk (by omega) hR
  have hn:H4 D=none:=I4.hok.fresh hD
  have fp:=I4.fpOk hD hn
  have h10:H1 D=none:=I1.hok.fresh (Nx (NF (MD hsf lf4)) hD)
  have vm:=kho m1
  have lz:(ms.map V.int).length≤sizeLine:=by
   rw[Nr,m2.length_eq,sizeLine_eq]
   omega
  refine⟨.ref D,_,hJ.1.adopt (a:=D) (o:=.lst (ms.map V.int)) fp ?_ ?_,rfl,q H4 D ms G h10 hn m2 m3⟩
  ·exact Nx I4.sz hD
  ·exact(show ObjOk X.prog X.w _ s5.heap D (.lst (ms.map V.int)) from⟨lz,out.toList,cc,vm,by simpa using eD⟩)
end
end L2
namespace L2
open PySem PySem.W PyProof.Rows
section
variable {X:Cx}
noncomputable def kmp:V→List V→Hp→VK→Prop:=fun x vs H Q=>∃(l:Addr)(ns:List Int)(k:Int),x=.ref l∧vs=[.int k]∧H l=some (.lst (ns.map V.int))∧Q (.int (ns.count k:Nat)) H
theorem keZ:∀{ns:List Int}{us:List Value}(k:Int),Vals (ns.map V.int) us→us.countP (isI k)=ns.count k
 |[],_,_, .nil=>rfl
 |m::ns,_::us,k, .cons r t=>by
  obtain⟨tk,rfl⟩:=r
  rw[List.countP_cons,Ej,keZ k t]
  rfl
theorem khW:MtM X "list.count" kmp:=by
 intro pins s σ H x vs v us Q I rx rv h
 obtain⟨l,ns,k,rfl,rfl,hH,q⟩:=h
 cases rx
 obtain⟨u,rfl,ru⟩:=rv.one
 obtain⟨t,rfl⟩:=ru
 obtain⟨z,its,n,r,hl,e⟩:=I.lstM hH
 refine call_meets F.slot_list_count ⟨_,e,rfl⟩ F.entry_list_count (F.args_list_count_2 _ _)
  (MeetsSeq.list_count l its.toArray n (.int k t) (isI k) (fun y hy=>?_)) ⟨e,?_⟩
 ·obtain⟨j,hj',rfl⟩:=Array.mem_iff_getElem.mp hy
  have hjl:j<its.length:=by simpa using hj'
  have hln:its.length=ns.length:=by rw[←hl,Nr]
  obtain⟨tk,et⟩:=kgC r j ns[j] (by simp)
  obtain⟨_,e'⟩:=NG.mp et
  have e2:its.toArray[j]=.int ns[j] tk:=by simpa using e'
  rw[e2]
  exact MeetsSeq.EqGives.int _ k tk t
 ·refine⟨.int (ns.count k:Nat),H,I.tok _,⟨s.toks,?_⟩,q⟩
  rw[List.toList_toArray,keZ k r]
end
end L2
namespace L2
open PySem PySem.W PyProof.Rows
section
variable {X:Cx} {pins:List (Addr×Obj)} {σ:St} {H:Hp} {s:Shared} {A:Around} {E:Value→Shared→Prop} {Q:Value→Shared→Prop}
theorem ps_no{st:Stmt}:PS X st (fun _ _ _=>False):=fun _ _ _ _ _ _ h=>h.elim
end
end L2
namespace L2
open PySem PySem.W PyProof.Rows
section
variable {X:Cx}
end
end L2
namespace L2
open PySem PySem.Spec PyProof.Rows
section
variable {prog:Program} {w:World} {A:Around} {E:Value→Shared→Prop} {s:Shared}
end
end L2
namespace L2
open PySem PySem.Spec PyProof.Rows
section
variable {prog:Program} {w:World} {A:Around} {E:Value→Shared→Prop} {s:Shared}
end
section
variable {X:Cx}
end
end L2
namespace L2
open PySem PySem.Spec PyProof.Rows
section
variable {X:Cx}
end
end L2
namespace L2
open PySem PySem.Spec PyProof.Rows
section
variable {κ:Type} [DecidableEq κ]
noncomputable def valV(kvs:List (κ×V))(k: κ):Option V:=(kvs.find? fun kv=>decide (kv.1=k)).map (·.2)
noncomputable def putK(kvs:List (κ×V))(k: κ)(v:V):List (κ×V):=
 if(kvs.any fun kv=>decide (kv.1=k))=true then kvs.map (fun kv=>if kv.1=k then(kv.1,v) else kv) else kvs++[(k,v)]
noncomputable def dropK(kvs:List (κ×V))(k: κ):List (κ×V):=kvs.filter fun kv=>decide (kv.1≠k)
theorem kfq{p: κ×V}{r:List (κ×V)}{k: κ}(e:p.1=k):valV (p::r) k=some p.2:=by simp[valV,Mz,e]
theorem kfr{p: κ×V}{r:List (κ×V)}{k: κ}(e:¬p.1=k):valV (p::r) k=valV r k:=by simp[valV,Mz,e]
theorem khp(k: κ):∀kvs:List (κ×V),(kvs.any fun kv=>decide (kv.1=k))=(valV kvs k).isSome
 |[]=>rfl
 |p::r=>by
  rw[MC]
  by_cases e:p.1=k
  ·simp only[kfq e,decide_eq_true e,Bool.true_or,Option.isSome_some]
  ·rw[kfr e,decide_eq_false e,Bool.false_or];exact khp k r
theorem RelO.isSome_eq{o:Option V}{u:Option Value}(r:RelO o u):o.isSome=u.isSome:=by
 cases o with
 |none=>cases u with
  |none=>rfl
  |some _=>exact(show False from r).elim
 |some _=>cases u with
  |none=>exact(show False from r).elim
  |some _=>rfl
theorem RelO.getD{o:Option V}{u:Option Value}{d:V}{d':Value}(r:RelO o u)(rd:RelV d d'):RelV (o.getD d) (u.getD d'):=by
 cases o with
 |none=>cases u with
  |none=>exact rd
  |some _=>exact(show False from r).elim
 |some _=>cases u with
  |none=>exact(show False from r).elim
  |some _=>exact r
theorem KV.val{kvs:List (κ×V)}{vs:List (κ×Value)}(r:KV kvs vs)(k: κ):RelO (valV kvs k) (valueAt vs k):=by
 unfold KV at r
 induction r with
 |nil=>exact True.intro
 | @cons p q ps qs h t ih=>
  obtain⟨h1,h2⟩:=h
  by_cases e:p.1=k
  ·have e':q.1=k:=h1.symm.trans e
   have b:valueAt (q::qs) k=some q.2:=by simp[valueAt,Mz,e']
   rw[kfq e,b];exact h2
  ·have e':¬q.1=k:=fun z=>e (h1.trans z)
   have b:valueAt (q::qs) k=valueAt qs k:=by simp[valueAt,Mz,e']
   rw[kfr e,b];exact ih
theorem KV.any{kvs:List (κ×V)}{vs:List (κ×Value)}(r:KV kvs vs)(k: κ):(kvs.any fun kv=>decide (kv.1=k))=vs.any fun kv=>decide (kv.1=k):=by
 unfold KV at r
 induction r with
 |nil=>rfl
 |cons h t ih=>rw[MC,MC,ih,h.1]
theorem KV.repl{kvs:List (κ×V)}{vs:List (κ×Value)}(r:KV kvs vs)(k: κ){y:V}{u:Value}(ry:RelV y u):
  KV (kvs.map fun kv=>if kv.1=k then(kv.1,y) else kv) (vs.map fun kv=>if kv.1=k then(kv.1,u) else kv):=by
 unfold KV at r⊢
 induction r with
 |nil=>exact .nil
 | @cons p q ps qs h t ih=>
  rw[NJ,NJ]
  refine .cons ?_ ih
  obtain⟨h1,h2⟩:=h
  by_cases e:p.1=k
  ·rw[if_pos e,if_pos (h1.symm.trans e)];exact⟨h1,ry⟩
  ·rw[if_neg e,if_neg (fun z=>e (h1.trans z))];exact⟨h1,h2⟩
theorem KV.put{kvs:List (κ×V)}{vs:List (κ×Value)}(r:KV kvs vs)(k: κ){y:V}{u:Value}(ry:RelV y u):KV (putK kvs k y) (stored vs k u):=by
 unfold putK stored
 rw[r.any k]
 by_cases e:(vs.any fun kv=>decide (kv.1=k))=true
 ·rw[if_pos e,if_pos e];exact r.repl k ry
 ·rw[if_neg e,if_neg e];exact Paired.snoc r ⟨rfl,ry⟩
theorem KV.drop{kvs:List (κ×V)}{vs:List (κ×Value)}(r:KV kvs vs)(k: κ):KV (dropK kvs k) (without vs k):=by
 unfold KV at r⊢
 unfold dropK without
 induction r with
 |nil=>exact .nil
 | @cons p q ps qs h t ih=>
  obtain⟨h1,h2⟩:=h
  rw[MU,MU]
  by_cases e:p.1=k
  ·have a:¬decide (p.1≠k)=true:=by simp[e]
   have b:¬decide (q.1≠k)=true:=by simp[h1.symm.trans e]
   rw[if_neg a,if_neg b];exact ih
  ·have e':¬q.1=k:=fun z=>e (h1.trans z)
   have a:decide (p.1≠k)=true:=by simp[e]
   have b:decide (q.1≠k)=true:=by simp[e']
   rw[if_pos a,if_pos b];exact .cons ⟨h1,h2⟩ ih
theorem KV.keys{kvs:List (κ×V)}{vs:List (κ×Value)}(r:KV kvs vs):kvs.map (·.1)=vs.map (·.1):=by
 unfold KV at r
 induction r with
 |nil=>rfl
 |cons h t ih=>rw[NJ,NJ,ih,h.1]
theorem KV.length{kvs:List (κ×V)}{vs:List (κ×Value)}(r:KV kvs vs):kvs.length=vs.length:=Paired.length r
end
noncomputable abbrev KT(H:Hp):List (List Key×V)→List (List Key×Addr×Value)→Prop:=Paired fun p q=>p.1=q.1∧H q.2.1=some (.tup (p.1.map kV))∧RelV p.2 q.2.2
theorem KT.val{H:Hp}{kvs:List (List Key×V)}{xs:List (List Key×Addr×Value)}(r:KT H kvs xs)(k:List Key):RelO (valV kvs k) ((atKey xs k).map (·.2)):=by
 induction r with
 |nil=>exact True.intro
 | @cons p q ps qs h t ih=>
  obtain⟨h1,_,h2⟩:=h
  by_cases e:p.1=k
  ·have e':q.1=k:=h1.symm.trans e
   have b:atKey (q::qs) k=some q.2:=by simp[atKey,Mz,e']
   rw[kfq e,b];exact h2
  ·have e':¬q.1=k:=fun z=>e (h1.trans z)
   have b:atKey (q::qs) k=atKey qs k:=by simp[atKey,Mz,e']
   rw[kfr e,b];exact ih
theorem KT.repl{H:Hp}{kvs:List (List Key×V)}{xs:List (List Key×Addr×Value)}(r:KT H kvs xs)(k:List Key){y:V}{u:Value}(ry:RelV y u):
  KT H (kvs.map fun kv=>if kv.1=k then(kv.1,y) else kv) (xs.map (putAt k u)):=by
 induction r with
 |nil=>exact .nil
 | @cons p q ps qs h t ih=>
  rw[NJ,NJ]
  refine .cons ?_ ih
  obtain⟨h1,h2,h3⟩:=h
  unfold putAt
  by_cases e:p.1=k
  ·rw[if_pos e,if_pos (h1.symm.trans e)];exact⟨h1,h2,ry⟩
  ·rw[if_neg e,if_neg (fun z=>e (h1.trans z))];exact⟨h1,h2,h3⟩
theorem KT.put{H:Hp}{kvs:List (List Key×V)}{xs:List (List Key×Addr×Value)}(r:KT H kvs xs)(k:List Key){b:Addr}{y:V}{u:Value}(hb:H b=some (.tup (k.map kV)))(ry:RelV y u):
  KT H (putK kvs k y) (storedH xs k b u):=by
 have e:(kvs.any fun kv=>decide (kv.1=k))=(atKey xs k).isSome:=by
  rw[khp,(r.val k).isSome_eq,Option.isSome_map]
 unfold putK storedH
 rw[e]
 by_cases q:(atKey xs k).isSome=true
 ·rw[if_pos q,if_pos q];exact r.repl k ry
 ·rw[if_neg q,if_neg q];exact Paired.snoc r ⟨rfl,hb,ry⟩
def KT.keeps{H H':Hp}{kvs:List (List Key×V)}{xs:List (List Key×Addr×Value)}(r:KT H kvs xs)(ht:∀b ys,H b=some (.tup ys)→H' b=some (.tup ys)):KT H' kvs xs:=
 Paired.mapP r fun _ _ z=>⟨z.1,ht _ _ z.2.1,z.2.2⟩
section
variable {P:Program} {w:World} {H:Hp} {h:Heap} {a:Addr}
end
noncomputable def DGet(H:Hp)(a:Addr)(y:V)(r:Option V):Prop:=
 (∃kvs k,Rd H a (.dK kvs)∧y=kV k∧r=valV kvs k)∨∃kvs k b,Rd H a (.dT kvs)∧y=.ref b∧H b=some (.tup (k.map kV))∧r=valV kvs k
noncomputable def DPut(H:Hp)(a:Addr)(y v:V)(H':Hp):Prop:=
 (∃kvs k,H a=some (.dK kvs)∧y=kV k∧kvs.length<sizeLine∧H'=upd H a (.dK (putK kvs k v)))∨
 ∃kvs k b,H a=some (.dT kvs)∧y=.ref b∧H b=some (.tup (k.map kV))∧kvs.length<sizeLine∧H'=upd H a (.dT (putK kvs k v))
theorem DGet.k{H:Hp}{a:Addr}{kvs:List (Key×V)}{k:Key}(e:H a=some (.dK kvs)):DGet H a (kV k) (valV kvs k):=.inl ⟨kvs,k, .inl e,rfl,rfl⟩
def DGet.t{H:Hp}{a b:Addr}{kvs:List (List Key×V)}{k:List Key}(e:H a=some (.dT kvs))(eb:H b=some (.tup (k.map kV))):DGet H a (.ref b) (valV kvs k):=.inr ⟨kvs,k,b, .inl e,rfl,eb,rfl⟩
theorem DPut.k{H:Hp}{a:Addr}{kvs:List (Key×V)}{k:Key}{v:V}(e:H a=some (.dK kvs))(hl:kvs.length<sizeLine):DPut H a (kV k) v (upd H a (.dK (putK kvs k v))):=.inl ⟨kvs,k,e,rfl,hl,rfl⟩
theorem DPut.t{H:Hp}{a b:Addr}{kvs:List (List Key×V)}{k:List Key}{v:V}(e:H a=some (.dT kvs))(eb:H b=some (.tup (k.map kV)))(hl:kvs.length<sizeLine):
  DPut H a (.ref b) v (upd H a (.dT (putK kvs k v))):=.inr ⟨kvs,k,b,e,rfl,eb,hl,rfl⟩
section
variable {X:Cx} {pins:List (Addr×Obj)} {σ:St} {H:Hp} {s:Shared} {a:Addr} {y v:V} {u r:Value} {o:Option V} {A:Around} {E:Value→Shared→Prop}
theorem Inv.big(I:Inv X pins σ H s):sysModules<s.heap.objs.size:=by
 have h:mainGlobals<s.heap.objs.size:=(I.mod.glob.keeps I.bk).lt
 exact Ez (by decide) h
end
section
variable {X:Cx} {pins:List (Addr×Obj)} {σ:St} {H:Hp} {s:Shared} {a:Addr} {kvs:List (Key×V)} {k:Key} {u:Value} {A:Around} {E:Value→Shared→Prop}
end
section
variable {X:Cx} {o i e value:Expr} {pos pos' tpos:Pos} {td ty tv:TE}
end
section
variable {X:Cx} {pos:Pos}
end
end L2
namespace PySem.SeqAt
open AutoSeq1 (wpAny_loadPart')
open MeetsSeq MeetsSeq2 MeetsSeq3
end PySem.SeqAt
namespace L2
open PySem PySem.Spec PyProof.Rows
section
variable {X:Cx}
end
end L2
namespace PySem.SeqAt
open AutoSeq1 (wpAny_loadPart')
open MeetsSeq MeetsSeq2 MeetsSeq3
end PySem.SeqAt
namespace PySem
noncomputable def Has(h0 h:Heap):Prop:=∀b o,h0.get? b=some o→h.get? b=some o
def Has.go{h0 h h':Heap}{wr:List Addr}(z:∀b∈wr,h0.get? b=none)(p:Has h0 h)(q:∀b o,b∉wr→h.get? b=some o→h'.get? b=some o):Has h0 h':=fun b o e=>q b o (fun m=>by rw[z b m] at e;cases e) (p b o e)
def Has.one{h0 h h':Heap}{S:Addr}(z:h0.get? S=none)(p:Has h0 h)(q:∀b o,b≠S→h.get? b=some o→h'.get? b=some o):Has h0 h':=fun b o e=>q b o (fun m=>by rw[m,z] at e;cases e) (p b o e)
section
variable {prog:Program} {w:World} {A:Around} {R:Result→Shared→Prop} {J:Addr} {fp wr:List Addr} {m:Nat} {P:Nat→Value→Prop} {St:Nat→Heap→Prop}
end
end PySem
namespace L2
open PySem PySem.Spec PyProof.Rows
section
variable {X:Cx}
end
end L2
namespace L2
open PySem PySem.Spec PyProof.Rows
noncomputable def nxo:HO→Bool
 | .ext _=>false
 |_=>true
noncomputable def NX(H:Hp)(p:Addr):Prop:=∀φ,H p≠some (.ext φ)
def nx{H:Hp}{p:Addr}{o:HO}(h:H p=some o)(n:nxo o=true:=by rfl):NX H p:=fun φ z=>by
 rw[h] at z
 cases z
 cases n
def nx0{H:Hp}{p:Addr}(h:H p=none):NX H p:=fun φ z=>by
 rw[h] at z
 cases z
def kda{H:Hp}{p q:Addr}{o:HO}(h:NX H p)(n:nxo o=true:=by rfl):NX (upd H q o) p:=fun φ z=>by
 by_cases e:p=q
 ·subst e
  rw[kad] at z
  cases z
  cases n
 ·rw[kal e] at z
  exact h φ z
noncomputable abbrev Ev(H H':Hp)(b:Addr)(o:HO):Prop:=match o with
 | .tbl _=>(∃ps,H' b=some (.tbl ps))∧(TbAt b H→TbAt b H')
 |o=>H' b=some o
def ev_eq{H H':Hp}{b:Addr}{o:HO}(e:H' b=some o)(t:TbAt b H→TbAt b H'):Ev H H' b o:=by
 cases o <;> first|exact e|exact⟨⟨_,e⟩,t⟩
def kf0{H H':Hp}{b:Addr}{o:HO}(e:Ev H H' b o):∃o',H' b=some o':=by
 cases o <;> first|exact⟨_,e⟩|exact⟨_,e.1.choose_spec⟩
theorem kbA{H H1 H2:Hp}{b:Addr}{o:HO}(e:Ev H H1 b o)(k:∀o,H1 b=some o→Ev H1 H2 b o):Ev H H2 b o:=by
 cases o with
 |tbl ps=>
  obtain⟨⟨ps1,e1⟩,t1⟩:=e
  obtain⟨e2,t2⟩:=(show Ev H1 H2 b (.tbl ps1) from k _ e1)
  exact⟨e2,fun h=>t2 (t1 h)⟩
 |_=>exact k _ e
def kdW{b p:Addr}{H:Hp}{o:HO}(h:TbAt b H)(n:b≠p)(hx:NX H p):TbAt b (upd H p o):=by
 obtain⟨ps,e,t,hor⟩:=h
 refine⟨ps,by rw[kal n];exact e,t,fun pos d ed=>?_⟩
 obtain⟨c,rfl,z2⟩:=hor pos d ed
 have hc:c≠p:=fun e=>by
  subst e
  exact hx _ z2
 exact⟨c,rfl,by rw[kal hc];exact z2⟩
noncomputable def Same(H H':Hp):Prop:=∀b o,H b=some o→Ev H H' b o
def Same.refl(H:Hp):Same H H:=fun _ _ h=>ev_eq h fun t=>t
def Same.trans{H H1 H2:Hp}(a:Same H H1)(b:Same H1 H2):Same H H2:=fun c o h=>kbA (a c o h) fun o' e=>b c o' e
theorem Same.free{H H':Hp}(e:Same H H'){l:Addr}(h:H' l=Option.none):H l=Option.none:=by
 cases q:H l with
 |none=>rfl
 |some o=>
  obtain⟨o',e'⟩:=kf0 (e l o q)
  rw[e'] at h
  cases h
def Same.seq{K:Nt}{H H':Hp}{a:Addr}{xs:List V}(e:Same H H')(h:SqL K H a xs):SqL K H' a xs:=by
 rcases h with(h|⟨o,h⟩)|h
 ·exact .inl (.inl (e _ _ h))
 ·exact .inl (.inr ⟨o,e _ _ h⟩)
 ·exact .inr h
def Same.tb{H H':Hp}(s:Same H H'){b:Addr}(h:TbAt b H):TbAt b H':=by
 obtain⟨ps,e,r⟩:=id h
 exact(show Ev H H' b (.tbl ps) from s b _ e).2 h
def Grew.same{P:Addr}{H H':Hp}(g:Grew P H H')(TB:TbAt P H):Same H H':=fun b o e=>by
 obtain⟨ps,eP,ht,hor⟩:=TB
 by_cases h:b=P
 ·subst h
  rw[eP] at e
  cases e
  obtain⟨qs,e1,_⟩:=id g.tb
  exact⟨⟨qs,e1⟩,fun _=>g.tb⟩
 ·refine ev_eq (g.kp b o h e) fun t=>?_
  obtain⟨qs,e1,t1,h1⟩:=t
  refine⟨qs,g.kp b _ h e1,t1,fun pos d ed=>?_⟩
  obtain⟨c,rfl,z⟩:=h1 pos d ed
  exact⟨c,rfl,g.kp c _ (ne_of z eP (by intro z;cases z)) z⟩
end L2
namespace L2
open PySem PySem.Spec PyProof.Rows
noncomputable def kgf(K:Nt)(tP:Addr):Sp:=fun vs H Q _=>∃(a:Addr)(ns:List Int),vs=[.ref a]∧SqL K H a (ns.map V.int)∧ns.length≤63∧TbAt tP H∧∀H',Q (.bl true) H'
theorem kjw{P:Program}{w:World}{K:Nt}{mg mb:Str→Option Value}{k:Nat}{fa a tP c0:Addr}{fd:FuncData}{x:Str}{s₁:Shared}{vs:List Value}{ns:List Int}
  (KX:K.In s₁.heap) (hns:s₁.heap.Ns mainGlobals mg) (hb:s₁.heap.Ns builtinsNs mb) (hbb:∀x:Str,x≠"__name__"→mb x=bootBuiltins x) (hlim:s₁.heap.NoLimit) (hg:s₁.gens= #[])
  (ha:s₁.heap.get? a=some {cls:=.type "list",data:=.seq vs.toArray}) (hi:IntsAre vs ns) (hl:ns.length≤63) (hr:Room k callerA) (hT:s₁.heap.get? tP=some (ED #[])) (CK:CodeK K c0 tP) (kT:K.lookup tP=none) (hBM:BltM mg s₁.heap)
  (F:∀base:Heap,K.In base→base.Ns mainGlobals mg→BltM mg base→FnOk P w K mg base CX0 k fa fd [x] (kgf K tP)) (hbind:∀(s:Shared)(u:Value),BindsTo s fd ⟨[u],[]⟩ [(x,u)]):
  codeAny (model P w) callerA (.call (.ref fa) ⟨[.ref a],[]⟩) (fun r s'=>r=.ok (.ret (.bool true))∧OldK s₁.heap s'.heap∧s'.os=s₁.os∧AllBare s'.gens) s₁:=by
 have rv:=kf9 hi
 have lenV:=hi.length
 have hlz:ns.length≤sizeLine:=Nx hl (by decide)
 have nTa:tP≠a:=fun e=>by
  rw[e,ha] at hT
  have:=Option.some.inj hT
  injection this with z
  cases z
 have core:∀H:Hp,SqL K H a (ns.map V.int)→HOk P w H s₁.heap→H tP=some (.tbl #[])→(∀b,b≠tP→H b=none∨(b=a∧∃o xs,H b=some (.frz o (.lst xs))))→(H a≠none→K.lookup a=none)→
   codeAny (model P w) callerA (.call (.ref fa) ⟨[.ref a],[]⟩) (fun r s'=>r=.ok (.ret (.bool true))∧OldK s₁.heap s'.heap∧s'.os=s₁.os∧AllBare s'.gens) s₁:=by
  intro H hS hok eT hO hK
  have base_of:∀{b:Addr}{o:Obj},s₁.heap.get? b=some o→H b=none→(hidT s₁.heap H).get? b=some o:=fun e n=>kkD e n
  have noT:∀{b:Addr}{o:Obj},s₁.heap.get? b=some o→o.cls≠.none→(∀us n,o.data≠.seq us n)→H b=none:=fun {b o} e hc hd=>by
   by_cases hbT:b=tP
   ·rw[hbT,hT] at e
    cases e
    exact absurd rfl hc
   ·rcases hO b hbT with z|⟨z,_⟩
    ·exact z
    ·rw[z,ha] at e
     cases e
     exact absurd rfl (hd _ _)
  have noA:∀{b:Addr}{o:Obj}{es:Array DictEntry}{ep:Nat},s₁.heap.get? b=some o→o.data=.dict es ep→H b=none:=fun {b o es ep} e d=>by
   by_cases hbT:b=tP
   ·rw[hbT,hT] at e
    cases e
    cases d
   ·rcases hO b hbT with z|⟨z,_⟩
    ·exact z
    ·rw[z,ha] at e
     cases e
     cases d
  have nsK:∀{b:Addr}{m:Str→Option Value},s₁.heap.Ns b m→(hidT s₁.heap H).Ns b m:=fun {b m} ⟨o,es,ep,e,d,r⟩=>⟨o,es,ep,base_of e (noA e d),d,r⟩
  have hKb:K.In (hidT s₁.heap H):=fun b o e=>base_of (KX b o e) (by
   by_cases hbT:b=tP
   ·rw[hbT,kT] at e
    cases e
   ·rcases hO b hbT with z|⟨z,o',xs,z2⟩
    ·exact z
    ·subst z
     rw[hK (by rw[z2];simp)] at e
     cases e)
  have hM:Mod K mg (hidT s₁.heap H):=⟨hKb,nsK hns,⟨mb,nsK hb,hbb⟩,let⟨mc,h1,h2⟩:=hlim;⟨mc,nsK h1,h2⟩⟩
  have hBb:BltM mg (hidT s₁.heap H):=by
   obtain⟨bm,ob,b1,b2,b3,b4,b5,b6⟩:=hBM
   exact⟨bm,ob,b1,b2,base_of b3 (noT b3 (by rw[b4];intro z;cases z) (fun us n z=>by rw[b6] at z;cases z)),b4,b5,b6⟩
  have e0:Env0 P w K mg (hidT s₁.heap H) callerA [] s₁ H:=⟨rfl,hM,fun b o e=>kl0 e,Er (kjG _ _),trivial,fun b hb=>absurd (show b∈([]:List Addr) from hb) (by simp),hok, .of_eq hg⟩
  have hsp:kgf K tP [.ref a] H (fun v _=>v=.bl true) fun _ _ _=>False:=⟨a,ns,rfl,hS,hl,⟨#[],eT,by trivial,fun pos c e=>by cases e⟩,fun _=>rfl⟩
  refine codeAny_mono ((F _ hKb (nsK hns) hBb).run callerA [] s₁ H ⟨[.ref a],[]⟩ [.ref a] [.ref a] _ _ hr e0 (hbind s₁ (.ref a)) (.cons rfl .nil) hsp) fun r s' h=>?_
  cases r with
  |error e=>exact(show False from h).elim
  | ok fl=>
   cases fl with
   |next=>exact False.elim h
   |brk=>exact False.elim h
   |cont=>exact False.elim h
   | ret u=>
    obtain⟨v,H',os,bare,un,hok',r',q⟩:=h
    have q':v=.bl true:=q
    subst q'
    obtain rfl:u=Value.bool true:=r'
    have kp:∀b o,b≠tP→s₁.heap.get? b=some o→s'.heap.get? b=some o:=fun b o hbT e=>by
     rcases hO b hbT with z|⟨z,o',xs,z2⟩
     ·exact un.keep b o e z (fun z=>absurd (show b∈([]:List Addr) from z) (by simp)) (by simp)
     ·have z3:=un.frzs b o' _ z2
      obtain⟨e1,_⟩:=hok b _ z2
      obtain⟨e2,_⟩:=hok' b _ z3
      rw[e] at e1
      cases e1
      exact e2
    obtain⟨more,eM⟩:=un.tbls tP #[] eT
    have tM:s'.heap.get? tP=some (ED (#[]++more)):=(show ObjOk P w H' s'.heap tP (.tbl (#[]++more)) from hok' tP _ eM)
    refine⟨rfl,⟨fun b o e=>?_,fun b o e=>?_⟩,os,bare⟩
    ·by_cases hbT:b=tP
     ·subst hbT
      rw[hT] at e
      cases e
      obtain⟨oc,us,_,_,_,_,_,_,_,c1,c2,c3,c4,_⟩:=CK
      exact .inr (.inl ⟨⟨c0,oc,us,KX _ _ c1,c2,c3,c4⟩,rfl,#[],more,rfl,tM⟩)
     ·exact .inl (kp b o hbT e)
    ·by_cases hbT:b=tP
     ·subst hbT
      exact⟨_,tM⟩
     ·exact⟨o,kp b o hbT e⟩
 cases hk:K.lookup a with
 | some o=>
  have e:=KX a o hk
  rw[ha] at e
  cases e
  refine core (fun b=>if b=tP then some (.tbl #[]) else none) (.inr ⟨_,vs.toArray,_,hk,rfl,rfl,rfl,by rw[NS,lenV];exact hlz,by simpa using rv⟩) (fun b u z=>?_) (if_pos rfl) (fun b hbT=>.inl (if_neg hbT)) fun z=>absurd (if_neg nTa.symm) z
  by_cases hbT:b=tP
  ·have z':=(if_pos hbT).symm.trans z
   cases z'
   subst hbT
   exact(show s₁.heap.get? b=some _ from hT)
  ·have z':=(if_neg hbT).symm.trans z
   cases z'
 | none=>
  refine core (fun b=>if b=tP then some (.tbl #[]) else if b=a then some (.frz {cls:=.type "list",data:=.seq vs.toArray} (.lst (ns.map V.int))) else none) (.inl (.inr ⟨{cls:=.type "list",data:=.seq vs.toArray},by show(if a=tP then _ else _)=_;rw[if_neg nTa.symm,if_pos rfl]⟩)) (fun b u z=>?_) (if_pos rfl) (fun b hbT=>?_) fun _=>hk
  ·by_cases hbT:b=tP
   ·have z':=(if_pos hbT).symm.trans z
    cases z'
    subst hbT
    exact(show s₁.heap.get? b=some _ from hT)
   ·have z1:=(if_neg hbT).symm.trans z
    by_cases hb2:b=a
    ·have z':=(if_pos hb2).symm.trans z1
     cases z'
     subst hb2
     exact⟨ha,by rw[Nr];exact hlz,vs,_,rv,ha⟩
    ·have z':=(if_neg hb2).symm.trans z1
     cases z'
  ·by_cases hb2:b=a
   ·exact .inr ⟨hb2,_,_,by show(if b=tP then _ else _)=_;rw[if_neg hbT,if_pos hb2]⟩
   ·exact .inl (by show(if b=tP then _ else _)=_;rw[if_neg hbT,if_neg hb2])
theorem walkT_of{l:PySem.W.OpenLaw}{k:Nat}{q:Program}{loose:List Str}{XP:(Str→Option Value)→Heap→Prop}{YP:World→Heap→Prop}{d:DefRec}{K:Params→Nt}{ts:List Addr}{x:Str}
  (hn:l.most=some 63) (hdf:d.params.defaults=[]) (hr:Room k callerA) (hY:∀(w:World)(h:Heap),YP w h→(K w.params).In h) (hTs:∀(w:World)(h:Heap),YP w h→∀P∈ts,h.get? P=some (ED #[]))
  (F:∀(w:World)(mg:Str→Option Value)(fa:Addr)(h:Heap),(K w.params).In h→h.Ns mainGlobals mg→mg d.name=some (.ref fa)→
   ∃(fd:FuncData)(tP c0:Addr),tP∈ts∧CodeK (K w.params) c0 tP∧(K w.params).lookup tP=none∧(∀(s:Shared)(u:Value),BindsTo s fd ⟨[u],[]⟩ [(x,u)])∧
    ∀base:Heap,(K w.params).In base→base.Ns mainGlobals mg→BltM mg base→FnOk l.prog w (K w.params) mg base CX0 k fa fd [x] (kgf (K w.params) tP)):
  PySem.W.WalkO q loose XP YP l.row.toRowW d [] (fun f vs=>PySem.call f vs):=by
 refine Att.attach_call hn hdf fun w s₀ s₁ mg mb fa o pm cd doc a vs ns G Y ho hd hcd hmg hobj hints hlen hg=>?_
 have KX:=hY w _ Y
 obtain⟨fd,tP,c0,hm,CK,kT,hb,hF⟩:=F w mg fa _ KX G.T.g hmg
 obtain⟨bm,ob,b1,b2,b3,b4,b5,b6⟩:=G.T.bmain
 exact kjw KX G.T.g G.T.b G.T.builtins G.T.nolimit hg hobj hints hlen hr (hTs w _ Y tP hm) CK kT ⟨bm,ob,b1,b2,b3,b4,b5,b6⟩ hF hb
end L2
namespace L2
open PySem PySem.Spec PyProof.Rows
def nd1(x:Str):([x]:List Str).Nodup:=by simp
noncomputable def But(x:Addr)(H H':Hp):Prop:=∀b o,b≠x→H b=some o→Ev H H' b o
def But.trans{x:Addr}{H H1 H2:Hp}(a:But x H H1)(b:But x H1 H2):But x H H2:=fun c o n h=>kbA (a c o n h) fun o' e=>b c o' n e
def But.same{x:Addr}{H H1 H2:Hp}(a:But x H H1)(b:Same H1 H2):But x H H2:=fun c o n h=>kbA (a c o n h) fun o' e=>b c o' e
def But.of_same{x:Addr}{H H1:Hp}(b:Same H H1):But x H H1:=fun c o _ h=>b c o h
def But.refl{x:Addr}{H:Hp}:But x H H:=fun b o _ h=>Same.refl H b o h
def kar{x:Addr}{H:Hp}{o:HO}(hx:NX H x:=by first|exact nx kad|exact nx (by assumption)|exact nx0 (by assumption)|exact kda (nx kad) rfl|exact kda (nx (by assumption)) rfl):But x H (upd H x o):=fun b u n e=>ev_eq (by rw[kal n];exact e) fun t=>kdW t n hx
def kak{H:Hp}{p:Addr}{o:HO}(hp:H p=none):Same H (upd H p o):=fun b u e=>ev_eq (by rw[kal (kaj e hp)];exact e) fun t=>kdW t (kaj e hp) (nx0 hp)
def kaq{H H':Hp}{p:Addr}{o:HO}(hp:H p=none)(s:Same H H')(hx:NX H' p:=by first|exact nx (by assumption)|exact nx kad|exact kda (nx (by assumption)) rfl|exact kda (nx kad) rfl|exact kda (nx0 (by assumption)) rfl|exact kda (kda (nx (by assumption)) rfl) rfl):Same H (upd H' p o):=fun b u e=>
 kbA (s b u e) fun u' e'=>ev_eq (by rw[kal (kaj e hp)];exact e') fun t=>kdW t (kaj e hp) hx
def kaX{H:Hp}{x dx C:Addr}(hx:H x=none)(nd:H dx=none):Same H (upd (upd H dx (.own x)) x (.ins C dx [])):=fun b u e=>by
 have n1:=kaj e hx
 have n2:=kaj e nd
 exact ev_eq (by rw[kal n1,kal n2];exact e) fun t=>kdW (kdW t n2 (nx0 nd)) n1 (kda (nx0 hx) rfl)
def kbg{H H':Hp}{x dx C:Addr}(hx:H x=none)(nd:H dx=none)(k:But x (upd (upd H dx (.own x)) x (.ins C dx [])) H'):Same H H':=fun b o e=>kbA (kaX (C:=C) hx nd b o e) fun o' e'=>k b o' (kaj e hx) e'
def kdA{H:Hp}{x dx C y:Addr}(h:(upd (upd H dx (.own x)) x (.ins C dx [])) y=none):H y=none:=by
 by_cases e1:y=x
 ·subst e1
  rw[kad] at h
  cases h
 ·rw[kal e1] at h
  by_cases e2:y=dx
  ·subst e2
   rw[kad] at h
   cases h
  ·rw[kal e2] at h
   exact h
def kgz{H:Hp}{x dx C y:Addr}{o:HO}(nx:H x=none)(nd:H dx=none)(h:H y=some o):(upd (upd H dx (.own x)) x (.ins C dx [])) y=some o:=by
 rw[kal (kaj h nx),kal (kaj h nd)]
 exact h
theorem kam{f:Str}{v:V}:∀{fs:List (Str×V)}{n:Nat},fs.length≤n→(putF f v fs).length≤n+1
 |[],n,_=>by
  show 1≤n+1
  omega
 | (g,x)::r,n,h=>by
  show(if g=f then(g,v)::r else(g,x)::putF f v r).length≤n+1
  have h':r.length+1≤n:=h
  split
  ·show r.length+1≤n+1
   omega
  ·show(putF f v r).length+1≤n+1
   have:=kam (f:=f) (v:=v) (fs:=r) (n:=n-1) (by omega)
   omega
def few{fs:List (Str×V)}(h:fs.length≤20):fs.length<1000:=by omega
theorem kbV{ns:List Addr}{i:Nat}{x:V}(h:(ns.map V.ref)[i]?=some x):∃z,ns[i]?=some z∧x=V.ref z:=by
 rw[NC] at h
 cases e:ns[i]? with
 |none=>rw[e] at h;cases h
 |some z=>rw[e] at h;exact⟨z,rfl,(Option.some.inj h).symm⟩
theorem kbM{α:Type}{g: α→V}{ns:List α}{i:Nat}{x:V}(h:(ns.map g)[i]?=some x):∃z,ns[i]?=some z∧x=g z:=by
 rw[NC] at h
 cases e:ns[i]? with
 |none=>rw[e] at h;cases h
 |some z=>rw[e] at h;exact⟨z,rfl,(Option.some.inj h).symm⟩
def at_lt{α:Type}{xs:List α}{i:Nat}{x: α}(h:xs[i]?=some x):i<xs.length:=(NG.mp h).1
def at_of{α:Type}{xs:List α}{i:Nat}(h:i<xs.length):∃x,xs[i]?=some x:=⟨xs[i],by simp[h]⟩
def kbl{α:Type}{rs:List α}{i:Nat}{r: α}(h:rs[i]?=some r):rs.take (i+1)=rs.take i++[r]:=by
 rw[MG,h]
 rfl
inductive P2 {α β:Type} (R: α→β→Prop):List α→List β→Prop
 |nil:P2 R [] []
 |cons {a: α} {b: β} {as:List α} {bs:List β} (h:R a b) (t:P2 R as bs):P2 R (a::as) (b::bs)
section
variable {α β:Type} {R R': α→β→Prop} {as as':List α} {bs bs':List β}
theorem P2.of(hl:as.length=bs.length)(h:∀(i:Nat)(a: α)(b: β),as[i]?=some a→bs[i]?=some b→R a b):P2 R as bs:=by
 induction as generalizing bs with
 |nil=>
  cases bs with
  |nil=>exact .nil
  |cons b bs=>cases hl
 |cons a as ih=>
  cases bs with
  |nil=>cases hl
  |cons b bs=>exact .cons (h 0 a b rfl rfl) (ih (by simpa using hl) fun i x y e1 e2=>h (i+1) x y (by simpa using e1) (by simpa using e2))
theorem P2.len(h:P2 R as bs):as.length=bs.length:=by
 induction h with
 |nil=>rfl
 |cons r t ih=>simp[ih]
theorem P2.get(h:P2 R as bs){i:Nat}{a: α}{b: β}(e1:as[i]?=some a)(e2:bs[i]?=some b):R a b:=by
 induction h generalizing i with
 |nil=>simp at e1
 | cons r t ih=>
  cases i with
  |zero=>
   simp at e1 e2
   subst e1 e2
   exact r
  |succ i=>exact ih (by simpa using e1) (by simpa using e2)
theorem P2.at(h:P2 R as bs){i:Nat}{a: α}(e1:as[i]?=some a):∃b,bs[i]?=some b∧R a b:=by
 obtain⟨b,e2⟩:=at_of (xs:=bs) (i:=i) (by rw[←h.len];exact at_lt e1)
 exact⟨b,e2,h.get e1 e2⟩
theorem P2.mono(h:P2 R as bs)(k:∀a b,R a b→R' a b):P2 R' as bs:=by
 induction h with
 |nil=>exact .nil
 |cons r t ih=>exact .cons (k _ _ r) ih
theorem P2.append(h:P2 R as bs)(h':P2 R as' bs'):P2 R (as++as') (bs++bs'):=by
 induction h with
 |nil=>exact h'
 |cons r t ih=>exact .cons r ih
theorem P2.snoc(h:P2 R as bs){a: α}{b: β}(r:R a b):P2 R (as++[a]) (bs++[b]):=h.append (.cons r .nil)
theorem P2.take(h:P2 R as bs)(k:Nat):P2 R (as.take k) (bs.take k):=by
 induction h generalizing k with
 |nil=>simpa using P2.nil
 |cons r t ih=>
  cases k with
  |zero=>exact .nil
  |succ k=>exact .cons r (ih k)
theorem P2.drop(h:P2 R as bs)(k:Nat):P2 R (as.drop k) (bs.drop k):=by
 induction h generalizing k with
 |nil=>simpa using P2.nil
 |cons r t ih=>
  cases k with
  |zero=>exact .cons r t
  |succ k=>exact ih k
theorem P2.reverse(h:P2 R as bs):P2 R as.reverse bs.reverse:=by
 induction h with
 |nil=>exact .nil
 |cons r t ih=>
  rw[Eu,Eu]
  exact ih.append (.cons r .nil)
end
theorem rep1(n:Nat)(v:V):(Nw n [v]).flatten=Nw n v:=by
 induction n with
 |zero=>rfl
 |succ n ih=>rw[My,NZ,ih,My];rfl
def ki2(n:Nat)(z:Int):Nw n (V.int z)=(Nw n z).map V.int:=by simp
def klh(k:Int):(!decide (V.int k=V.non))=true:=by simp
def klg:(!decide (V.non=V.non))=false:=by simp
noncomputable def oV:Option Int→V
 |none=>.non
 |some z=>.int z
structure TxtB (mg:Str→Option Value):Prop where
 range:mg "range"=none
 len:mg "len"=none
 min:mg "min"=none
 max:mg "max"=none
 isi:mg "isinstance"=none
 bool:mg "bool"=none
 int:mg "int"=none
 list:mg "list"=none
 sum:mg "sum"=none
 enum:mg "enumerate"=none
 any:mg "any"=none
 all:mg "all"=none
 rev:mg "reversed"=none
 zip:mg "zip"=none
 abs:mg "abs"=none
 sorted:mg "sorted"=none
 tuple:mg "tuple"=none
 str:mg "str"=none
structure FunD (K:Nt) (x qual:Str) (st:Stmt) (f:Addr) (fd:FuncData):Prop where
 ex:∃(oc:Value)(od:Option Addr)(dV kV doc pm:Value)(an:Option Addr)(cdv ct:Value)(osl:Array (Option Value)),
  fd=NM x qual (kaD st) (kaA st) (kag st) dV kV doc pm an cdv ct∧K.lookup f=some ⟨oc,od, .func fd,osl⟩∧Ma K cdv qual=true
 kp:NN K (.ref f)=true
theorem FunD.ok{P:Program}{w:World}{K:Nt}{mg:Str→Option Value}{base:Heap}{x qual:Str}{st:Stmt}{f:Addr}{fd:FuncData}{N ps:List Str}{k:Nat}{sp:Sp}(F:FunD K x qual st f fd)(S:kao N ps (kag st))(len:∀vs H Q E,sp vs H Q E→vs.length=ps.length)
  (hbody:∀(cdv:Value)(A:Around)(outer:List Env)(s:Shared)(H:Hp)(vs:List V)(Q:VK)(E:XK),Room k (A.deeper (PyProof.Rows.envOfC qual (kag st) s.heap.objs.size f cdv))→sp vs H Q E→
   ∃t,PSs (cxOf CX0 P w K mg base N qual (kag st) f cdv A outer s H E).nox (kaA st) t∧t {nx:=fun _ H'=>Q .non H',rt:=Q} (start N vs) H):FnOk P w K mg base CX0 (k+1) f fd ps sp:=by
 obtain⟨oc,od,dV,kV,doc,pm,an,cdv,ct,osl,rfl,lk,hcd⟩:=F.ex
 refine fn_of lk hcd S len fun A outer s H vs Q E hr hsp=>?_
 obtain⟨t,h,q⟩:=hbody cdv A outer s H vs Q E hr hsp
 exact⟨t,h.nox,q⟩
theorem FunD.okC{P:Program}{w:World}{K:Nt}{mg:Str→Option Value}{base:Heap}{x qual:Str}{st:Stmt}{f:Addr}{fd:FuncData}{N ps:List Str}{k:Nat}{sp:Sp}(F:FunD K x qual st f fd)(S:kao N ps (kag st))(len:∀vs H Q E,sp vs H Q E→vs.length=ps.length)
  (hbody:∀(A:Around)(outer:List Env)(s:Shared)(H:Hp)(vs:List V)(Q:VK)(E:XK),Room k (A.deeper (PyProof.Rows.envOfC qual (kag st) s.heap.objs.size f fd.code))→sp vs H Q E→
   ∃t,PSs (cxOf CX0 P w K mg base N qual (kag st) f fd.code A outer s H E).nox (kaA st) t∧t {nx:=fun _ H'=>Q .non H',rt:=Q} (start N vs) H):FnOk P w K mg base CX0 (k+1) f fd ps sp:=by
 obtain⟨oc,od,dV,kV,doc,pm,an,cdv,ct,osl,rfl,lk,hcd⟩:=F.ex
 refine fn_of lk hcd S len fun A outer s H vs Q E hr hsp=>?_
 obtain⟨t,h,q⟩:=hbody A outer s H vs Q E hr hsp
 exact⟨t,h.nox,q⟩
theorem kbt{K:Nt}{x qual:Str}{st:Stmt}{f:Addr}{oc:Value}{od an:Option Addr}{osl:Array (Option Value)}{dV kV doc pm cdv ct:Value}(l:K.lookup f=some ⟨oc,od, .func (NM x qual (kaD st) (kaA st) (kag st) dV kV doc pm an cdv ct),osl⟩)
  (c:Ma K cdv qual=true) (k:NN K (.ref f)=true):FunD K x qual st f (NM x qual (kaD st) (kaA st) (kag st) dV kV doc pm an cdv ct):=⟨⟨oc,od,dV,kV,doc,pm,an,cdv,ct,osl,rfl,l,c⟩,k⟩
structure Dn (K:Nt) (mg:Str→Option Value) (x:Str) (st:Stmt) (ps:List Str) (f:Addr) (fd:FuncData):Prop where
 F:FunD K x x st f fd
 b:Binds K fd ps []
 m:mg x=some (.ref f)
structure Isi (K:Nt) (C:Addr):Prop where
 ha:Nu K (.ref C) "__class__"=some (some (.builtin "object.__class__"))
 hn:Ea K (.builtin "object.__class__") "__get__"=some (some (.builtin "getset_descriptor.__get__"))
 ht:EW K (.builtin "object.__class__")=some true
 hm:Nz K C (.type "object")=some true
def kaN{K:Nt}{A B:Addr}{b:Bool}(mA:Nz K A (.ref B)=some b)(ob:Nz K B (.type "object")=some true)(ty:N9 K (.ref B)=some (.type "type"))(ne:A≠B):NL K (.ref A) (.ref B)=some b:=by
 have e:(Value.ref A==Value.ref B)=false:=beq_eq_false_iff_ne.mpr fun z=>ne (by injection z)
 obtain⟨cd,a,_⟩:=Option.bind_eq_some_iff.mp ob
 unfold NL PySem.W.kitCls PySem.W.subIn
 rw[e,if_neg ND]
 show(if((PySem.W.clsIn K B).isSome&&N9 K (.ref B)==some (.type "type"))=true then Nz K A (.ref B) else none)=some b
 rw[a,ty,mA,if_pos (by simp)]
def kbk{K:Nt}{A B:Addr}(h:Nz K A (.ref B)=some false)(hA:Nz K A (.ref A)=some true):A≠B:=fun e=>by
 rw[←e,hA] at h
 cases h
structure ClsT (K:Nt) (mg:Str→Option Value) (nm:Str) (C:Addr):Prop where
 cl:Cls K C
 m:mg nm=some (.ref C)
 isi:Isi K C
 self:Nz K C (.ref C)=some true
 ty:N9 K (.ref C)=some (.type "type")
 makes:Md K C=true
 kp:NN K (.ref C)=true
structure MthT (K:Nt) (C:Addr) (m qual:Str) (st:Stmt) (ps:List Str) (f:Addr) (fd:FuncData):Prop where
 at_:Nu K (.ref C) m=some (some (.ref f))
 fn:Mg K (.ref f)=true
 F:FunD K m qual st f fd
 b:Binds K fd ps []
def MthT.me{K:Nt}{C:Addr}{m qual:Str}{st:Stmt}{ps:List Str}{f:Addr}{fd:FuncData}(h:MthT K C m qual st ps f fd):Meth K C m f:=⟨h.at_,h.fn,h.F.kp⟩
def MthT.mk'{K:Nt}{mg:Str→Option Value}{C:Addr}{nm qual:Str}{st:Stmt}{ps:List Str}{f:Addr}{fd:FuncData}(h:MthT K C "__init__" qual st ps f fd)(c:ClsT K mg nm C):Mk K C f:=⟨c.makes,h.at_,h.fn,c.kp⟩
end L2
namespace L2
open PySem PySem.Spec PyProof.Rows
section
variable {X:Cx}
theorem pcl{k:Nat}{f:Addr}{fd:FuncData}{ps:List Str}{sp:Sp}{x:Str}{st:Stmt}{e:Expr}{es:List Expr}{t:TA}{p pos:Pos}(F:FnOk X.prog X.w X.K X.mg X.base CX0 k f fd ps sp)(hr:Room k X.A)(D:Dn X.K X.mg x st ps f fd)(ha:PA X (e::es) t)
  (hg:Gl X x:=by rfl) (hdb:(x==("__debug__" :Str))=false:=by decide) (he:starEach (e::es) X.env=(false,eval e X.env)::starEach es X.env:=by rfl) (hpl:(backTo pos (starEach es X.env)).any (·.1)=false:=by rfl):
  PE X (.Call (.Name x p) (e::es) [] pos) (tCall sp [] E0 t):=klU F hr hg D.m D.F.kp D.b .nil pass0 ha hdb he hpl
theorem psl{i:Nat}{x:Str}{e:Expr}{te:TE}{pos pos':Pos}(hN:X.N.Nodup)(he:PE X e te)(hi:X.N[i]?=some x:=by rfl)(hx:Loc X.env.scope x:=by first|exact Or.inl rfl|exact Or.inr rfl)(hs:swapsWith e (some (.Name x pos')) pos.line X.env=pure false:=by rfl)(hf:X.fn x=true∨X.env.scope.names.lookup x=some .local:=by first|exact .inl rfl|exact .inr rfl|assumption):
  PS X (.Assign [.Name x pos'] e pos) (tAsg te (gName i)):=kmr hN hi hx he hs hf
theorem pgn{i:Nat}{x:Str}{pos:Pos}(hN:X.N.Nodup)(hi:X.N[i]?=some x:=by rfl)(hx:Loc X.env.scope x:=by first|exact Or.inl rfl|exact Or.inr rfl)(hf:X.fn x=true∨X.env.scope.names.lookup x=some .local:=by first|exact .inl rfl|exact .inr rfl|assumption):PG X (.Name x pos) (gName i):=klT hN hi hx hf
end
end L2
namespace L2
open PySem PySem.Spec PyProof.Rows
section
variable {X:Cx}
end
end L2
namespace L2
open PySem PySem.Spec PyProof.Rows
structure ExStep (fr:List Addr) (ol:List Addr) (e:Addr) (oe:Obj) (T:Addr) (fl:Value) (h h':Heap):Prop where
 keep:∀b o,h.get? b=some o→b∉fr→b≠e→b∉ol→h'.get? b=some o
 slot:∀b o,h.get? b=some o→b∈fr→b∉ol→b≠e→∃sl,h'.get? b=some {o with slots:=sl}
 ex:h'.get? e=some (oe.mapFields (·.setIfInBounds 1 (.ref T)))
 new:h.get? T=none
 sz:h.objs.size≤T
 there:∀b o,h.get? b=some o→∃o',h'.get? b=some o'
 tb:∃oT ts,h'.get? T=some oT∧oT.data=.fields ts∧ts[3]?=some fl
section
variable {M:Model} {A:Around} {E:Value→Shared→Prop} {s:Shared}
theorem kh7{base:Heap}{env:Env}{outer:List Env}{L e:Addr}{oe:Obj}{vs:Array Value}{head:Value}{hadNext:Bool}{Q:Unit→Shared→Prop}
  (hfr:A.frames=some (env::outer)) (hl:s.heap.FunFrames base (env::outer)) (hf:env.frame=some L) (he:s.heap.get? e=some oe) (hd:oe.data=.fields vs) (hsz:1<vs.size)
  (h:∀h' T,ExStep (frs (env::outer)) [] e oe T (rawInt L) s.heap h'→Q () {s with heap:=h'}):
  wpAny M A (do let a ←frameOf env;let pl ←entryPlaceOf L hadNext;let b ←EntryCells.newEntry head a .none (rawInt L) .none pl;setField (.ref e) 1 b) Q E s:=by
 have hene:e∉frs (env::outer):=fun hm=>by
  obtain⟨_,o,ho,hnf⟩:=hl.mem hm
  rw[he] at ho
  cases ho
  exact hnf vs hd
 refine wpAny_bind (wpAny_frameOf_fun hfr hl hf fun h₁ hs₁=>?_)
 refine wpAny_bind (wpAny_entryPlaceOf fun pl hpl=>?_)
 unfold EntryCells.newEntry newFields
 refine wpAny_bind (wpAny_newObj_type ?_ (hpl.sizeOk5 _ _ _ _ _))
 have he₁:h₁.get? e=some oe:=(hs₁.2.1 e hene).trans he
 generalize hob:({cls:=.type "traceback",dict:=none,data:=.fields ([head, .ref L, .none,rawInt L, .none]++(if pl.isEmpty then Nw 6 Value.none else pl)).toArray}:Obj)=ob
 have he₂:=Heap.get?_push_of_some (h:=h₁) ob he₁
 refine wpAny_setField he₂ hd hsz (h _ h₁.objs.size ?_)
 have hTe:h₁.objs.size≠e:=Mp (Heap.lt_size he₁)
 have hd₃:=Obj.data_mapFields hd (·.setIfInBounds 1 (Value.ref h₁.objs.size))
 have kp:∀b o,b≠e→h₁.get? b=some o→((h₁.push ob).update e (Obj.mapFields (·.setIfInBounds 1 (Value.ref h₁.objs.size)))).get? b=some o:=fun b o hbe hb=>by
  rw[Heap.get?_update_other _ _ (Ne.symm hbe)]
  exact Heap.get?_push_of_some _ hb
 have ex:=Heap.get?_update_self (Obj.mapFields (·.setIfInBounds 1 (Value.ref h₁.objs.size))) he₂ (Obj.isFreed_of_fields hd₃)
 refine⟨fun b o hb hnf hbe _=>kp b o hbe ((hs₁.2.1 b hnf).trans hb),fun b o hb _ _ hbe=>?_,ex,Heap.get?_none_of_le (by rw[hs₁.1];exact Nv _),by rw[hs₁.1];exact Nv _,fun b o hb=>?_,?_⟩
 ·obtain⟨sl,e1⟩:=hs₁.2.2 b o hb
  exact⟨sl,kp b _ hbe e1⟩
 ·by_cases hbe:b=e
  ·rw[hbe]
   exact⟨_,ex⟩
  ·obtain⟨sl,e1⟩:=hs₁.2.2 b o hb
   exact⟨_,kp b _ hbe e1⟩
 ·subst hob
  refine⟨_,_,(Heap.get?_update_other _ _ (Ne.symm hTe)).trans (Heap.get?_push_size h₁ rfl),rfl,?_⟩
  rcases hpl with rfl|⟨_,_,_,_,_,_,_,rfl⟩ <;> simp
theorem ExStep.nT{fr ol:List Addr}{e T:Addr}{oe:Obj}{fl:Value}{h h':Heap}(x:ExStep fr ol e oe T fl h h'){b:Addr}{o:Obj}(hb:h.get? b=some o):T≠b:=fun z=>by
 have:=x.new
 rw[z,hb] at this
 cases this
theorem kgE{fr ol:List Addr}{e T:Addr}{oe:Obj}{vs:Array Value}{fl:Value}{h:Heap}{Q:Unit→Shared→Prop}(x:ExStep fr ol e oe T fl h s.heap)(hoe:h.get? e=some oe)(hd:oe.data=.fields vs)(hsz:1<vs.size)
  (k:∀h',ExStep fr ol e oe T .none h h'→Q () {s with heap:=h'}):wpAny M A (setFlight (.ref e) none) Q E s:=by
 obtain⟨oT,ts,hT,hdT,h3⟩:=x.tb
 have nTe:=x.nT hoe
 have hd₃:=Obj.data_mapFields hd (·.setIfInBounds 1 (Value.ref T))
 have hz:3<ts.size:=(MO.mp h3).1
 unfold setFlight
 refine wpAny_bind (wpAny_field x.ex hd₃ (x:=.ref T) (by simp[hsz]) ?_)
 rw[if_pos (show(Value.ref T !=Value.none)=true from by simp)]
 have hdT':=Obj.data_mapFields hdT (·.setIfInBounds 3 ((none:Option Addr).elim Value.none fun f=>rawInt f))
 refine wpAny_setField hT hdT hz (k _ ⟨fun b o hb h1 h2 h3=>?_,fun b o hb h1 h2 h3=>?_,?_,x.new,x.sz,fun b o hb=>?_,_,_,Heap.get?_update_self _ hT (Obj.isFreed_of_fields hdT'),hdT',?_⟩)
 ·rw[Heap.get?_update_other _ _ (x.nT hb)]
  exact x.keep b o hb h1 h2 h3
 ·rw[Heap.get?_update_other _ _ (x.nT hb)]
  exact x.slot b o hb h1 h2 h3
 ·rw[Heap.get?_update_other _ _ nTe]
  exact x.ex
 ·rw[Heap.get?_update_other _ _ (x.nT hb)]
  exact x.there b o hb
 ·simp[hz]
theorem kfZ{base:Heap}{env:Env}{outer:List Env}{L e:Addr}{oe:Obj}{vs:Array Value}{Q:Unit→Shared→Prop}
  (hfr:A.frames=some (env::outer)) (hl:s.heap.FunFrames base (env::outer)) (hf:env.frame=some L) (he:s.heap.get? e=some oe) (hd:oe.data=.fields vs) (h1:vs[1]?=some .none)
  (h:∀h' T,ExStep (frs (env::outer)) [] e oe T (rawInt L) s.heap h'→Q () {s with heap:=h'}):wpAny M A (noteFrame (.ref e) env) Q E s:=by
 unfold noteFrame
 simp only[hf]
 refine wpAny_bind (wpAny_field he hd h1 ?_)
 rw[if_neg (by decide)]
 exact kh7 hfr hl hf he hd (MO.mp h1).1 h
theorem kgD{base:Heap}{env:Env}{outer:List Env}{L e T0:Addr}{oe oT:Obj}{vs ts:Array Value}{Q:Unit→Shared→Prop}
  (hfr:A.frames=some (env::outer)) (hl:s.heap.FunFrames base (env::outer)) (hf:env.frame=some L) (he:s.heap.get? e=some oe) (hd:oe.data=.fields vs) (h1:vs[1]?=some (.ref T0)) (nT:T0≠e) (hT:s.heap.get? T0=some oT) (hdT:oT.data=.fields ts) (h3:ts[3]?=some .none)
  (h:∀h' T,ExStep (frs (env::outer)) [T0] e oe T (rawInt L) s.heap h'→Q () {s with heap:=h'}):wpAny M A (noteFrame (.ref e) env) Q E s:=by
 unfold noteFrame
 simp only[hf]
 refine wpAny_bind (wpAny_field he hd h1 ?_)
 rw[if_pos (show(Value.ref T0 !=Value.none)=true from by simp)]
 refine wpAny_bind (wpAny_field hT hdT h3 ?_)
 rw[if_neg (show ¬((Value.none==rawInt L)=true) from by simp[rawInt])]
 refine wpAny_bind (wpAny_setField hT hdT (MO.mp h3).1 ?_)
 have other:∀b,b≠T0→(s.heap.update T0 (Obj.mapFields (·.setIfInBounds 3 Value.none))).get? b=s.heap.get? b:=fun b hb=>Heap.get?_update_other _ _ (Ne.symm hb)
 have hdT':=Obj.data_mapFields hdT (·.setIfInBounds 3 Value.none)
 have self0:=Heap.get?_update_self (Obj.mapFields (·.setIfInBounds 3 Value.none)) hT (Obj.isFreed_of_fields hdT')
 have nrec:∀b o,s.heap.get? b=some o→(∀vs,o.data≠.fields vs)→b≠T0:=fun b o hb hnf q=>by
  rw[q,hT] at hb
  cases hb
  exact hnf ts hdT
 refine kh7 (s:={s with heap:=s.heap.update T0 (Obj.mapFields (·.setIfInBounds 3 Value.none))}) hfr (hl.of_keeps fun b o hb hnf=>⟨o,(other b (nrec b o hb hnf)).trans hb,rfl⟩) hf ((other e (Ne.symm nT)).trans he) hd (MO.mp h1).1 fun h' T x=>h h' T ?_
 have ol:∀b o,s.heap.get? b=some o→∃o',(s.heap.update T0 (Obj.mapFields (·.setIfInBounds 3 Value.none))).get? b=some o':=fun b o hb=>by
  by_cases z:b=T0
  ·rw[z]
   exact⟨_,self0⟩
  ·exact⟨o,(other b z).trans hb⟩
 have nn:∀{b:Addr},b∉[T0]→b≠T0:=fun {b} h z=>h (by rw[z];simp)
 refine⟨fun b o hb h1 h2 h3=>x.keep b o ((other b (nn h3)).trans hb) h1 h2 (by simp),fun b o hb h1 h2 h3=>x.slot b o ((other b (nn h2)).trans hb) h1 (by simp) h3,x.ex,?_,?_,fun b o hb=>?_,x.tb⟩
 ·have z:=x.sz
  exact Heap.get?_none_of_le (by rw[Heap.size_update] at z;exact z)
 ·have z:=x.sz
  rw[Heap.size_update] at z
  exact z
 ·obtain⟨o',e'⟩:=ol b o hb
  exact x.there b o' e'
theorem ke9{base:Heap}{env:Env}{outer:List Env}{L e:Addr}{oe:Obj}{vs:Array Value}{Q:Unit→Shared→Prop}
  (hfr:A.frames=some (env::outer)) (hl:s.heap.FunFrames base (env::outer)) (hf:env.frame=some L) (he:s.heap.get? e=some oe) (hd:oe.data=.fields vs) (h1:vs[1]?=some .none)
  (h:∀h' T,ExStep (frs (env::outer)) [] e oe T .none s.heap h'→Q () {s with heap:=h'}):wpAny M A (leaving env (.ref e)) Q E s:=by
 unfold leaving
 refine wpAny_bind (kfZ hfr hl hf he hd h1 fun h' T x=>?_)
 exact kgE x he hd (MO.mp h1).1 fun h'' y=>h h'' T y
end
theorem ObjOk.get{P:Program}{w:World}{H:Hp}{h:Heap}{a:Addr}{o:HO}(x:ObjOk P w H h a o):∃q,h.get? a=some q:=by
 cases o with
 |lst xs=>obtain⟨_,_,_,_,e⟩:=x;exact⟨_,e⟩
 |tup xs=>obtain⟨_,_,_,q,e,_⟩:=x;exact⟨_,e⟩
 |dK kvs=>obtain⟨_,_,_,_,o,_,_,e,_⟩:=x;exact⟨_,e⟩
 |dT kvs=>obtain⟨_,_,_,_,o,_,_,e,_⟩:=x;exact⟨_,e⟩
 |set S n=>obtain⟨o,_,_,_,e,_⟩:=x;exact⟨_,e⟩
 |ins C dx fs=>obtain⟨_,_,_,e,_⟩:=x;exact⟨_,e⟩
 |own y=>obtain⟨_,e⟩:=x;exact⟨_,e⟩
 |xd fs=>obtain⟨_,⟨_,_,_,e,_⟩,_⟩:=x;exact⟨_,e⟩
 |rng lo hi=>obtain⟨_,_,_,e⟩:=x;exact⟨_,e⟩
 |frz ob u=>obtain⟨e,_⟩:=x;exact⟨_,e⟩
 |tbl ps=>exact⟨_,(show h.get? a=some _ from x)⟩
 |met f y=>exact⟨_,(show h.get? a=some _ from x)⟩
 |ext φ=>obtain⟨_,⟨_,e⟩,_⟩:=x;exact⟨_,e⟩
theorem HOk.no{P:Program}{w:World}{H:Hp}{h:Heap}{a:Addr}(x:HOk P w H h)(e:h.get? a=none):H a=none:=by
 cases q:H a with
 |none=>rfl
 |some o=>
  obtain⟨_,e'⟩:=(x a o q).get
  rw[e] at e'
  cases e'
structure ExT (h:Heap) (a T:Addr) (cls:Value) (dx:Option Addr):Prop where
 ob:∃oe vs,h.get? a=some oe∧oe.cls=cls∧oe.dict=dx∧oe.data=.fields vs∧vs[1]?=some (.ref T)
 ne:T≠a
 tb:∃oT ts,h.get? T=some oT∧oT.data=.fields ts∧ts[3]?=some .none
noncomputable def CX1(P:Program)(w:World):CXT:=fun outer H s E e s'=>∃(a T:Addr)(cls:Value)(dx:Option Addr)(H':Hp),e=.ref a∧s'.os=s.os∧AllBare s'.gens∧Un (frs outer) [] H H' s.heap s'.heap∧HOk P w H' s'.heap∧s.heap.get? a=none∧H' a=none∧s.heap.get? T=none∧H' T=none∧ExT s'.heap a T cls dx∧E cls dx H'
def ExStep.ext{fr ol:List Addr}{e T:Addr}{oe:Obj}{vs:Array Value}{h h':Heap}(x:ExStep fr ol e oe T .none h h')(he:h.get? e=some oe)(hd:oe.data=.fields vs)(hz:1<vs.size):ExT h' e T oe.cls oe.dict:=by
 refine⟨⟨_,_,x.ex,Obj.cls_mapFields _ _,?_,Obj.data_mapFields hd _,by simp[hz]⟩,x.nT he,x.tb⟩
 obtain⟨c,d,dt,sl⟩:=oe
 cases dt <;> rfl
theorem Un.ex{fs ol ex:List Addr}{env:Env}{outer:List Env}{L e T:Addr}{oe:Obj}{fl:Value}{H0 H:Hp}{h0 h h1 h':Heap}(u:Un (frs outer) ex H0 H h0 h)(hf:env.frame=some L)(hL:h0.objs.size≤L)(kp:∀b o,h.get? b=some o→h1.get? b=some o)(x:ExStep (frs (env::outer)) ol e oe T fl h1 h')(h0e:h0.get? e=none)(hol:∀b∈ol,h0.get? b=none):Un (frs outer) ex H0 H h0 h':=by
 have nL:∀b o,h0.get? b=some o→b≠L:=fun b o e z=>absurd (Heap.lt_size e) (by rw[z];exact Eh.mpr hL)
 have ne:∀b o,h0.get? b=some o→b≠e:=fun b o q z=>by
  rw[z,h0e] at q
  cases q
 have nol:∀b o,h0.get? b=some o→b∉ol:=fun b o q z=>by
  rw[hol b z] at q
  cases q
 have nfr:∀b o,h0.get? b=some o→b∉frs outer→b∉frs (env::outer):=fun b o q hb z=>by
  unfold frs at z hb
  rw[MS,hf] at z
  rcases NO.mp z with z|z
  ·exact nL b o q z
  ·exact hb z
 have ifr:∀b,b∈frs outer→b∈frs (env::outer):=fun b hb=>by
  unfold frs at hb⊢
  rw[MS,hf]
  exact NP _ hb
 refine⟨fun b o q n hb hx=>x.keep b o (kp b o (u.keep b o q n hb hx)) (nfr b o q hb) (ne b o q) (nol b o q),fun b o q n hb hx=>?_,u.free,fun b o q hx=>?_,u.tups,u.frzs,u.tbls⟩
 ·obtain⟨sl,e1⟩:=u.slot b o q n hb hx
  obtain⟨sl2,e2⟩:=x.slot b _ (kp b _ e1) (ifr b hb) (nol b o q) (ne b o q)
  exact⟨sl2,e2⟩
 ·obtain⟨o',e1⟩:=u.there b o q hx
  exact x.there b o' (kp b o' e1)
noncomputable def Rz(X:Cx)(EX:XK):Prop:=∀(pins:List (Addr×Obj))(σ:St)(H:Hp)(s:Shared)(e:Addr)(h1:Heap)(oe:Obj)(vs:Array Value)(t:Nat),Inv X pins σ H s→(∀b o,s.heap.get? b=some o→h1.get? b=some o)→s.heap.get? e=none→h1.get? e=some oe→oe.data=.fields vs→vs[1]?=some .none→EX oe.cls oe.dict H→X.xe (.ref e) {s with heap:=h1,toks:=t}
section
variable {P:Program} {w:World} {K:Nt} {mg:Str→Option Value} {base:Heap} {N:List Str} {qual:Str} {scope:Scope} {f:Addr} {cd:Value} {A:Around} {outer:List Env} {s₀:Shared} {H₀:Hp} {E:XK}
theorem rz_cx:Rz (cxOf (CX1 P w) P w K mg base N qual scope f cd A outer s₀ H₀ E) E:=by
 intro pins σ H s e h1 oe vs t I kp hn he hd h1n hE
 have hsz:1<vs.size:=(MO.mp h1n).1
 have he0:s₀.heap.get? e=none:=by
  cases q:s₀.heap.get? e with
  |none=>rfl
  |some o=>
   obtain⟨o',z⟩:=I.base.there e o q (by intro z;cases z)
   rw[hn] at z
   cases z
 have hHe:=I.hok.no hn
 refine ke9 (s:={s with heap:=h1,toks:=t}) I.ok.frames (base:=base) (I.stack.of_keeps fun b o hb _=>⟨o,kp b o hb,rfl⟩) rfl he hd h1n fun h' T x=>?_
 have hT1:s.heap.get? T=none:=by
  cases q:s.heap.get? T with
  |none=>rfl
  |some o=>
   have:=kp _ _ q
   rw[x.new] at this
   cases this
 have hT0:s₀.heap.get? T=none:=by
  cases q:s₀.heap.get? T with
  |none=>rfl
  |some o=>
   obtain⟨o',z⟩:=I.base.there T o q (by intro z;cases z)
   rw[hT1] at z
   cases z
 refine⟨e,T,oe.cls,oe.dict,H,rfl,I.os,I.bare,I.base.ex (fs:=[]) (L:=s₀.heap.objs.size) (env:=PyProof.Rows.envOfC qual scope s₀.heap.objs.size f cd) rfl (Nv _) kp x he0 (fun b hb=>by cases hb),fun b u q=>?_,he0,hHe,hT0,I.hok.no hT1,x.ext he hd hsz,hE⟩
 have nst:∀{b:Addr}{u:HO},H b=some u→b∉frs (PyProof.Rows.envOfC qual scope s₀.heap.objs.size f cd::outer):=fun {b u} q z=>by
  have:=I.stkFree b z
  rw[q] at this
  cases this
 refine(I.hok b u q).stay (fun c v hc r=>?_) (fun _ r=>r) fun _ _ r=>r
 have tr:∃o,H c=some o:=by
  rcases hc with rfl|hc
  ·exact⟨u,q⟩
  ·exact⟨_,hc⟩
 obtain⟨o,eo⟩:=tr
 exact x.keep c v (kp c v r) (nst eo) (kaj eo hHe) (by simp)
end
def FnOk.calm{P:Program}{w:World}{K:Nt}{mg:Str→Option Value}{base:Heap}{k:Nat}{f:Addr}{fd:FuncData}{ps:List Str}{sp:Sp}(F:FnOk P w K mg base (CX1 P w) k f fd ps sp):FnOk P w K mg base CX0 k f fd ps fun vs H Q _=>sp vs H Q E0:=
 ⟨fun vs H Q E h=>F.len vs H Q E0 h,fun A outer s H args us vs Q E hr he hb hv hs=>codeAny_mono (F.run A outer s H args us vs Q E0 hr he hb hv hs) fun r s' h=>by
  cases r with
  |ok fl=>cases fl <;> exact h
  |error e=>
   obtain⟨_,_,_,_,_,_,_,_,_,_,_,_,_,_,_,z⟩:=h
   exact z.elim⟩
theorem FunD.okX{P:Program}{w:World}{K:Nt}{mg:Str→Option Value}{base:Heap}{x qual:Str}{st:Stmt}{f:Addr}{fd:FuncData}{N ps:List Str}{k:Nat}{sp:Sp}(F:FunD K x qual st f fd)(S:kao N ps (kag st))(len:∀vs H Q E,sp vs H Q E→vs.length=ps.length)
  (hbody:∀(cdv:Value)(A:Around)(outer:List Env)(s:Shared)(H:Hp)(vs:List V)(Q:VK)(E:XK),Room k (A.deeper (PyProof.Rows.envOfC qual (kag st) s.heap.objs.size f cdv))→sp vs H Q E→
   ∃t,PSs (cxOf (CX1 P w) P w K mg base N qual (kag st) f cdv A outer s H E) (kaA st) t∧t {nx:=fun _ H'=>Q .non H',rt:=Q} (start N vs) H):FnOk P w K mg base (CX1 P w) (k+1) f fd ps sp:=by
 obtain⟨oc,od,dV,kV,doc,pm,an,cdv,ct,osl,rfl,lk,hcd⟩:=F.ex
 exact fn_of lk hcd S len fun A outer s H vs Q E hr hsp=>hbody cdv A outer s H vs Q E hr hsp
noncomputable def klD(EX:XK)(C:Addr):TS:=fun _ _ H=>EX (.ref C) none H
def ki8{X:Cx}{EX:XK}{x:Str}{C:Addr}{B newId initId:String}{bm:List Value}{np cpos pos:Pos}(O:OwnCls x C bm newId X.mg X.base)(FB:ExcBaseFacts B newId initId bm)(hx:Rz X EX)(hc:X.calm=true)(hg:Gl X x:=by rfl)(hdb:(x==("__debug__" :Str))=false:=by decide):
  PS X (.Raise (some (.Call (.Name x np) [] [] cpos)) none pos) (klD EX C):=by
 intro pins s σ H D I h
 obtain⟨tl,N,nm,q,bs,hdct,sn,sub,ab,col,dd,k0,k1,k2,k3,k5,mN,hC,hN,hni,T⟩:=O.obj
 refine wpAny_Raise_call_subT (C:=C) (nm:=nm) (q:=q) (N:=N) (bs:=bs) (bm:=tl) (hdct:=hdct) (sn:=sn) (sub:=sub) (ab:=ab) (col:=col) (dd:=dd) (k0:=k0) (k1:=k1) (k2:=k2) (k3:=k3) (k5:=k5)
  FB (mN:=mN) (T.hasType FB.hasBase) (I.ok.hd hc) rfl hni (kdU I hg O.bound ⟨rfl,?_⟩ hdb)
 refine evalArgs_empty ⟨rfl,Mb _,I.bk _ _ hC,hN.keeps I.bk,T.keeps I.bk,fun h' e hm=>?_⟩
 obtain⟨t,ht,_,_⟩:=hm.there
 exact hx pins σ H s e h' _ _ s.toks I hm.keeps hm.new ht rfl rfl h
structure Top1 (X:Cx):Prop where
 st:X.stack=X.env::X.outer
 fr:X.env.frame=some X.env.locals
 fn:∀y,X.fn y=true
 ex0:X.ex=[]
structure Fre (X:Cx) (pins:List (Addr×Obj)) (H:Hp) (b:Addr):Prop where
 no:H b=none
 s0:X.s₀.heap.get? b=none
 pin:∀p∈X.pn++pins,p.1≠b
theorem Inv.exs{X:Cx}{pins:List (Addr×Obj)}{σ:St}{H:Hp}{s:Shared}{e T:Addr}{ol:List Addr}{oe:Obj}{vs:Array Value}{fl:Value}{h':Heap}{tk:Nat}(I:Inv X pins σ H s)(TX:Top1 X)(x:ExStep (frs X.stack) ol e oe T fl s.heap h')(he:s.heap.get? e=some oe)(hd:oe.data=.fields vs)(fe:Fre X pins H e)
  (fo:∀b∈ol,Fre X pins H b∧∃ob ts,s.heap.get? b=some ob∧ob.data=.fields ts):Inv X pins σ H {s with heap:=h',toks:=tk}:=by
 have nfld:∀{b:Addr}{o:Obj},s.heap.get? b=some o→(∀vs,o.data≠.fields vs)→b≠e∧b∉ol:=fun {b o} hb hn=>⟨fun z=>by
  rw[z,he] at hb
  cases hb
  exact hn vs hd,fun z=>by
  obtain⟨_,ob,ts,h1,h2⟩:=fo b z
  rw[hb] at h1
  cases h1
  exact hn ts h2⟩
 have mem:X.env.locals∈frs X.stack:=by
  rw[TX.st]
  unfold frs
  rw[MS,TX.fr]
  exact NW ..
 have nfr:∀{b:Addr},b≠X.env.locals→b∉X.fs→b∉frs X.stack:=fun {b} h1 h2 z=>by
  rw[TX.st] at z
  unfold frs at z
  rw[MS,TX.fr] at z
  rcases NO.mp z with z|z
  ·exact h1 z
  ·exact h2 z
 have cl:∀{y:Str}{c:Addr}{v:Option Value},X.env.cells.lookup y=some c→s.heap.IsCell c v→h'.IsCell c v:=fun {y c v} hc ⟨o,ho,hdc⟩=>by
  obtain⟨n1,n2⟩:=nfld ho (fun vs q=>by rw[hdc] at q;cases q)
  refine⟨o,x.keep c o ho (nfr (fun z=>?_) fun z=>?_) n1 n2,hdc⟩
  ·obtain⟨m,⟨o',es,ep,ho',hd',_⟩,_⟩:=I.loc
   rw[←z,ho] at ho'
   cases ho'
   rw[hdc] at hd'
   cases hd'
  ·obtain⟨_,o',ho',_⟩:=I.ok.funs.mem z
   exact absurd (Heap.lt_size ho') (Eh.mpr (I.ok.cab y c (TX.fn y) hc))
 refine⟨I.ok,I.os,I.bare,?_,?_,fun y c hc=>?_,I.free,I.freeC,fun p hp=>?_,fun b u q=>?_,I.len⟩
 ·rw[TX.st] at x
  exact I.base.ex (fs:=[]) (L:=X.env.locals) (env:=X.env) TX.fr I.ok.above (fun _ _ q=>q) x fe.s0 fun b hb=>(fo b hb).1.s0
 ·obtain⟨m,⟨o,es,ep,ho,hdo,r⟩,hl⟩:=I.loc
  obtain⟨n1,n2⟩:=nfld ho (fun vs q=>by rw[hdo] at q;cases q)
  obtain⟨sl,hs⟩:=x.slot _ o ho mem n2 n1
  refine⟨m,⟨_,es,ep,hs,hdo,r⟩,fun i y v h1 h2 h3=>?_⟩
  obtain⟨u,ru,lk⟩:=hl i y v h1 h2 h3
  refine⟨u,ru,?_⟩
  rcases lk with lk|⟨k,c,hc,z⟩
  ·exact .inl lk
  ·exact .inr ⟨k,c,hc,cl hc z⟩
 ·obtain⟨v,z⟩:=I.cell y c hc
  exact⟨v,cl hc z⟩
 ·obtain⟨h1,h2,h3,h4,h5⟩:=I.pin p hp
  exact⟨x.keep p.1 p.2 h1 (nfr h3 h4) (fe.pin p hp) (fun z=>(fo p.1 z).1.pin p hp rfl),h2,h3,h4,h5⟩
 ·refine(I.hok b u q).stay (fun c v hc r=>?_) (fun _ r=>r) fun _ _ r=>r
  obtain⟨o,eo⟩:∃o,H c=some o:=by
   rcases hc with rfl|hc
   ·exact⟨u,q⟩
   ·exact⟨_,hc⟩
  refine x.keep c v r (fun z=>?_) (kaj eo fe.no) fun z=>?_
  ·have:=I.stkFree c z
   rw[eo] at this
   cases this
  ·have:=(fo c z).1.no
   rw[eo] at this
   cases this
theorem kel{X:Cx}{pins:List (Addr×Obj)}{σ:St}{H:Hp}{s:Shared}{n:Str}{i:Nat}{pos:Pos}{M:Model}{A:Around}{E:Value→Shared→Prop}{Q:Unit→Shared→Prop}(I:Inv X pins σ H s)(hN:X.N.Nodup)(hi:X.N[i]?=some n)(hl:X.env.kindOf n=some .local)
  (h:∀s',Inv X pins (σ.set i none) H s'→Q () s'):wpAny M A (do bindName X.env n .none;unbindBehindTheSuite X.env n pos) Q E s:=by
 obtain⟨m,hn,hlk⟩:=id I.loc
 have hcls:(X.env.scope.kind== .class||(X.env.scope.kind== .module&&X.env.locals !=X.env.globals))=false:=by rw[I.ok.kind];rfl
 have hiN:=(NG.mp hi).1
 refine wpAny_nameGoes_keeps hl hn hcls fun h' v hn' hs=>h _ ?_
 have szL:=I.ok.above
 have kp:∀{b:Addr}{o:Obj},b≠X.env.locals→s.heap.get? b=some o→h'.get? b=some o:=fun {b o} nb e=>(hs.2 b nb).trans e
 have nL:∀{b:Addr}{o:Obj},X.s₀.heap.get? b=some o→b≠X.env.locals:=fun {b o} e z=>absurd (Heap.lt_size e) (by rw[z];exact Eh.mpr szL)
 have cl:∀{y:Str}{c:Addr}{v:Option Value},s.heap.IsCell c v→h'.IsCell c v:=fun {y c v} ⟨o,ho,hdc⟩=>⟨o,kp (fun z=>by
  obtain⟨o',es,ep,ho',hd',_⟩:=hn
  rw[←z,ho] at ho'
  cases ho'
  rw[hdc] at hd'
  cases hd') ho,hdc⟩
 refine⟨I.ok,I.os,I.bare,⟨fun b o q z hb hx=>kp (nL q) (I.base.keep b o q z hb hx),fun b o q z hb hx=>?_,I.base.free,fun b o q hx=>?_,I.base.tups,I.base.frzs,I.base.tbls⟩,⟨_,hn',fun j y w h1 h2 h3=>?_⟩,fun y c hc=>?_,I.free,I.freeC,fun p hp=>?_,fun b u q=>?_,by rw[M0];exact I.len⟩
 ·obtain⟨sl,e1⟩:=I.base.slot b o q z hb hx
  exact⟨sl,kp (nL q) e1⟩
 ·obtain⟨o',e1⟩:=I.base.there b o q hx
  exact⟨o',kp (nL q) e1⟩
 ·have hji:j≠i:=fun z=>by
   rw[z,MW (by rw[I.len];exact hiN)] at h2
   cases h2
  rw[MX (Ne.symm hji)] at h2
  obtain⟨u,ru,lk⟩:=hlk j y w h1 h2 h3
  have hyn:y≠n:=fun z=>by
   subst z
   exact hji ((List.getElem?_inj hiN hN).mp (hi.trans h1.symm)).symm
  refine⟨u,ru,?_⟩
  rcases lk with⟨k1,k2⟩|⟨k,c,hc,z⟩
  ·exact .inl ⟨k1,by show(if y=n then v else m y)=_;rw[if_neg hyn];exact k2⟩
  ·exact .inr ⟨k,c,hc,cl (y:=y) z⟩
 ·obtain⟨v,z⟩:=I.cell y c hc
  exact⟨v,cl (y:=y) z⟩
 ·obtain⟨h1,h2,h3,h4,h5⟩:=I.pin p hp
  exact⟨kp h3 h1,h2,h3,h4,h5⟩
 ·refine(I.hok b u q).stay (fun c v hc r=>kp (fun z=>?_) r) (fun _ r=>r) fun _ _ r=>r
  rw[z] at hc
  rcases hc with hc|hc
  ·rw[←hc,I.free] at q
   cases q
  ·rw[I.free] at hc
   cases hc
noncomputable def Cx.inEx(X:Cx)(a:Addr):Cx:={X with A:=X.A.mark (some (.ref a)),calm:=false}
def Inv.inEx{X:Cx}{pins:List (Addr×Obj)}{σ:St}{H:Hp}{s:Shared}(I:Inv X pins σ H s)(a:Addr):Inv (X.inEx a) pins σ H s:=
 ⟨⟨I.ok.mod,I.ok.kind,I.ok.glob,I.ok.blt,I.ok.above,I.ok.inj,I.ok.has,I.ok.cab,(fun z=>absurd z ND),I.ok.frames,I.ok.stk,I.ok.exf,I.ok.bs,I.ok.bsz,I.ok.noex,I.ok.exfs,I.ok.funs,I.ok.frf⟩,I.os,I.bare,I.base,I.loc,I.cell,I.free,I.freeC,I.pin,I.hok,I.len⟩
def Inv.outEx{X:Cx}{pins:List (Addr×Obj)}{σ:St}{H:Hp}{s:Shared}{a:Addr}(ok:X.Ok)(I:Inv (X.inEx a) pins σ H s):Inv X pins σ H s:=⟨ok,I.os,I.bare,I.base,I.loc,I.cell,I.free,I.freeC,I.pin,I.hok,I.len⟩
noncomputable def ExcO(a:Addr)(cls:Value)(dx:Option Addr):HO:=.ext fun h=>∃oe vs,h.get? a=some oe∧oe.cls=cls∧oe.dict=dx∧oe.data=.fields vs
def Inv.adoptX{X:Cx}{pins:List (Addr×Obj)}{σ:St}{H:Hp}{s:Shared}{a:Addr}{o:HO}{oe:Obj}{vs:Array Value}(I:Inv X pins σ H s)(f:Fre X pins H a)(he:s.heap.get? a=some oe)(hd:oe.data=.fields vs)(new:ObjOk X.prog X.w (upd H a o) s.heap a o):Inv X pins σ (upd H a o) s:=by
 have hn:=f.no
 have nt:∀b u,H b=some u→b≠a:=fun b u e=>kaj e hn
 have hL:a≠X.env.locals:=fun z=>by
  obtain⟨m,⟨o',es,ep,ho',hd',_⟩,_⟩:=I.loc
  rw[←z,he] at ho'
  cases ho'
  rw[hd] at hd'
  cases hd'
 have hC:∀x c,X.env.cells.lookup x=some c→c≠a:=fun x c e z=>by
  obtain⟨v,o',ho',hd'⟩:=I.cell x c e
  rw[z,he] at ho'
  cases ho'
  rw[hd] at hd'
  cases hd'
 refine⟨I.ok,I.os,I.bare,⟨I.base.keep,I.base.slot,fun b ob e n hx=>?_,I.base.there,fun b xs e=>?_,fun b ob u e=>?_,fun b ps e=>?_⟩,I.loc,I.cell,?_,fun x c e=>?_,fun p hp'=>?_,fun b u e=>?_,I.len⟩
 ·rw[kal (show b≠a from fun z=>by rw[z,f.s0] at e;cases e)]
  exact I.base.free b ob e n hx
 ·have q:=I.base.tups b xs e
  rw[kal (nt _ _ q)]
  exact q
 ·have q:=I.base.frzs b ob u e
  rw[kal (nt _ _ q)]
  exact q
 ·obtain⟨m,q⟩:=I.base.tbls b ps e
  exact⟨m,by rw[kal (nt _ _ q)];exact q⟩
 ·rw[kal (Ne.symm hL)]
  exact I.free
 ·rw[kal (hC x c e)]
  exact I.freeC x c e
 ·obtain⟨e,n,r⟩:=I.pin p hp'
  exact⟨e,by rw[kal (f.pin p hp')];exact n,r⟩
 ·by_cases hb:b=a
  ·subst hb
   rw[kad] at e
   cases e
   exact new
  ·rw[kal hb] at e
   refine(I.hok b u e).stay (fun _ _ _ q=>q) (fun d r=>?_) fun d xs r=>?_
   ·rw[kal (nt _ _ r)]
    exact r
   ·rw[kal (nt _ _ r)]
    exact r
noncomputable def XL(X:Cx)(pins:List (Addr×Obj))(σ:St)(EX:XK)(e:Value)(s:Shared):Prop:=∃(a T:Addr)(cls:Value)(dx:Option Addr)(H:Hp),e=.ref a∧Inv X pins σ H s∧Fre X pins H a∧Fre X pins H T∧ExT s.heap a T cls dx∧EX cls dx H
noncomputable def Ends.goes(D:Ends)(i:Nat):Ends:={nx:=fun σ H=>D.nx (σ.set i none) H,rt:=D.rt,bk:=fun σ H=>D.bk (σ.set i none) H,ct:=fun σ H=>D.ct (σ.set i none) H}
noncomputable def tTry(K:Nt)(CT:Addr)(i:Nat)(tb:XK→TS)(ts:TS):TS:=fun D σ H=>tb (fun cls dx H1=>Da K cls (.ref CT)=some true∧∀a,H1 a=none→ts (D.goes i) (σ.set i (some (.ref a))) (upd H1 a (ExcO a cls dx))) D σ H
theorem kmq{X:Cx}{body suite:List Stmt}{b₀:Stmt}{n tn:Str}{i:Nat}{CT:Addr}{tp hpos pos:Pos}{tb:XK→TS}{ts:TS}(TX:Top1 X)(hN:X.N.Nodup)(hi:X.N[i]?=some n)(hl:X.env.kindOf n=some .local)(hg:Gl X tn)(hm:X.mg tn=some (.ref CT))
  (hb:∀(pins:List (Addr×Obj))(s:Shared)(σ:St)(H:Hp)(D:Ends)(EX:XK),Inv X pins σ H s→tb EX D σ H→wpAny (model X.prog X.w) X.A (execs body X.env) (SP X pins D) (XL X pins σ EX) s)
  (hs:∀a,PSs (X.inEx a).nox (b₀::suite) ts) (hdb:(tn==("__debug__" :Str))=false:=by decide):
  PS X (.Try body [.ExceptHandler (some (.Name tn tp)) (some n) (b₀::suite) hpos] [] [] pos) (tTry X.K CT i tb ts):=by
 intro pins s σ H D I h
 refine wpAny_Try_except (wpAny_mono (hb pins s σ H D _ I h) (fun f s1 h1=>?_) fun e s1 h1=>?_)
 ·cases f with
  |next=>exact wpAny_execs_nil h1
  |brk=>exact h1
  |cont=>exact h1
  |ret v=>exact h1
 obtain⟨a,T0,cls,dx,H1,rfl,I1,fa,fT,ext,hxm,hts⟩:=h1
 obtain⟨⟨oe,vs,hoe,hcl,hdx,hd,hv1⟩,nT,oT,tsv,hT,hdT,h3⟩:=ext
 have hsz:1<vs.size:=(MO.mp hv1).1
 have hfr:X.A.frames=some (X.env::X.outer):=by rw[←TX.st];exact I1.ok.frames
 have hst:s1.heap.FunFrames X.base (X.env::X.outer):=by rw[←TX.st];exact I1.stack
 refine kgD hfr hst TX.fr hoe hd hv1 nT hT hdT h3 fun h2 T x2=>?_
 refine kgE (s:={s1 with heap:=h2}) x2 hoe hd hsz fun h3' x3=>?_
 have I3:Inv X pins σ H1 {s1 with heap:=h3',toks:=s1.toks}:=I1.exs TX (by rw[TX.st];exact x3) hoe hd fa fun b hb=>by
  rw[Mt.mp hb]
  exact⟨fT,oT,tsv,hT,hdT⟩
 have ext3:=x3.ext hoe hd hsz
 rw[hcl,hdx] at ext3
 have hT1:H1 T=none:=I1.hok.no x3.new
 have sT:s1.heap.objs.size≤T:=x3.sz
 have fpT:=I1.fpOk (H':=H1) sT hT1
 clear x2 x3
 obtain⟨⟨oe3,vs3,hoe3,hcl3,hdx3,hd3,hv3⟩,nT3,oT3,ts3,hT3,hdT3,h33⟩:=id ext3
 refine wpAny_handleBy_cons (codeAny_handlers_test ?_) (by intro q;cases q)
 refine kdU (X:=X.inEx a) (I3.inEx a) hg hm ?_ hdb
 have lt:EU (model X.prog X.w) h3' (typeOf (.ref a)) cls:=by
  have z:=(EU.ld (M:=model X.prog X.w) (part:=none) hoe3).andThen (f:=fun o=>pure o.cls) .now
  rw[hcl3] at z
  exact z
 refine(PySem.W.exm_one (M:=model X.prog X.w) I3.kIn lt hxm).here ?_
 rw[if_pos rfl]
 refine codeAny_handlers_suite_as ?_
 have hz3:3<ts3.size:=(MO.mp h33).1
 refine wpAny_setFlight_none hoe3 hd3 hv3 hT3 hdT3 hz3 ?_
 have sb:=Heap.SameBut.update h3' T (Obj.mapFields (·.setIfInBounds 3 Value.none))
 obtain⟨q1,q2,q3,q4,q5,q6⟩:=fpT
 have I4:=I3.turned (t':=s1.toks) (it:=T) (h':=h3'.update T (Obj.mapFields (·.setIfInBounds 3 Value.none))) (fun b o nb e=>(sb.2 b nb).trans e) q1 q2 q4 q5 q6
 have hoe4:(h3'.update T (Obj.mapFields (·.setIfInBounds 3 Value.none))).get? a=some oe3:=(sb.2 a (Ne.symm nT3)).trans hoe3
 have I5:Inv X pins σ (upd H1 a (ExcO a cls dx)) {s1 with heap:=h3'.update T (Obj.mapFields (·.setIfInBounds 3 Value.none)),toks:=s1.toks}:=I4.adoptX fa hoe4 hd3 (show ObjOk X.prog X.w _ _ a (ExcO a cls dx) from⟨⟨oe3,vs3,hoe4,hcl3,hdx3,hd3⟩,⟨oe3,hoe4⟩,fun g1 g2 ⟨o,v,z1,z2⟩ k=>⟨o,v,k o z1,z2⟩⟩)
 refine kei (X:=X) (v:=.ref a) I5 hN hi (.inl hl) rfl (fun s6 I6=>?_) (.inl (TX.fn n))
 have key:=hs a pins s6 _ _ (D.goes i) ((I6.inEx a).wish _) (hts a fa.no)
 refine wpAny_mono key (fun f s7 h7=>?_) fun _ _ z=>z.elim
 show wpAny (model X.prog X.w) X.A (do bindName X.env n .none;unbindBehindTheSuite X.env n hpos) (fun _ s₃=>SP X pins D f s₃) X.xe s7
 cases f with
 |next=>
  obtain⟨σ',H',J,q⟩:=h7
  exact kel (J.unwish.outEx I.ok) hN hi hl fun s' I'=>⟨_,H',I',q⟩
 |brk=>
  obtain⟨σ',H',J,q⟩:=h7
  exact kel (J.unwish.outEx I.ok) hN hi hl fun s' I'=>⟨_,H',I',q⟩
 |cont=>
  obtain⟨σ',H',J,q⟩:=h7
  exact kel (J.unwish.outEx I.ok) hN hi hl fun s' I'=>⟨_,H',I',q⟩
 |ret u=>
  obtain⟨v,σ',H',J,r,q⟩:=h7
  exact kel (J.unwish.outEx I.ok) hN hi hl fun s' I'=>⟨v,_,H',I',r,q⟩
section
variable {X:Cx} {k:Nat} {f C:Addr} {fd:FuncData} {ps:List Str} {sp:Sp} {dvs:List V} {ds:List Value} {x m:Str} {p pos apos:Pos} {e o:Expr} {es:List Expr} {ta:TE} {t:TA}
theorem xl_of{pins:List (Addr×Obj)}{σ:St}{H:Hp}{s s':Shared}{EX:XK}{e:Value}(TX:Top1 X)(I:Inv X pins σ H s)(hq:CX1 X.prog X.w X.stack H s EX e s'):XL X pins σ EX e s':=by
 obtain⟨a,T,cls,dx,H',rfl,os,bare,un,hok,ha,hHa,hT,hHT,ext,hE⟩:=hq
 have I':Inv X pins σ H' s':=I.call' (ch:=[]) os un hok bare (fun b hb=>by simp at hb)
 have z0:∀{b:Addr},s.heap.get? b=none→b∉X.ex→X.s₀.heap.get? b=none:=fun {b} hn hx=>by
  cases q:X.s₀.heap.get? b with
  |none=>rfl
  |some o=>
   obtain⟨o',z⟩:=I.base.there b o q hx
   rw[hn] at z
   cases z
 have zp:∀{b:Addr},s.heap.get? b=none→∀p∈X.pn++pins,p.1≠b:=fun {b} hn p hp z=>by
  have:=(I.pin p hp).1
  rw[z,hn] at this
  cases this
 have nx:∀b:Addr,b∉X.ex:=fun b z=>by
  rw[TX.ex0] at z
  cases z
 exact⟨a,T,cls,dx,H',rfl,I',⟨hHa,z0 ha (nx a),zp ha⟩,⟨hHT,z0 hT (nx T),zp hT⟩,ext,hE⟩
theorem klN{pins:List (Addr×Obj)}{σ:St}{H:Hp}{s:Shared}{Q:VK}{EX:XK}{us:List Value}{vs:List V}(F:FnOk X.prog X.w X.K X.mg X.base (CX1 X.prog X.w) k f fd ps sp)(hr:Room k X.A)(hb:Binds X.K fd ps ds)(hd:Vals dvs ds)(TX:Top1 X)
  (I:Inv X pins σ H s) (r:Vals vs us) (h:sp (vs++dvs) H Q EX):wpAny (model X.prog X.w) X.A (call (.ref f) us) (EP X pins σ Q) (XL X pins σ EX) s:=by
 have r2:Vals (vs++dvs) (us++ds):=r.append hd
 have hl:(us++ds).length=ps.length:=by rw[←r2.length];exact F.len _ _ _ _ h
 refine wpAny_call (codeAny_mono (F.run X.A X.stack s H ⟨us,[]⟩ (us++ds) (vs++dvs) Q EX hr I.env0 (hb s us I.kIn hl) r2 h) fun r s' hq=>?_)
 cases r with
 |error e=>exact xl_of TX I hq
 |ok fl=>
  cases fl with
  |ret u=>exact I.after hq
  |next=>exact False.elim hq
  |brk=>exact False.elim hq
  |cont=>exact False.elim hq
noncomputable def PEX(X:Cx)(e:Expr)(te:XK→TE):Prop:=∀(pins:List (Addr×Obj))(s:Shared)(σ:St)(H:Hp)(Q:VK)(EX:XK),Inv X pins σ H s→te EX σ H Q→wpAny (model X.prog X.w) X.A (eval e X.env) (EP X pins σ Q) (XL X pins σ EX) s
theorem klx{pl:Sem Bool}(TX:Top1 X)(hnx:∀e s',X.xe e s'→False)(he:PE X o ta)(c:Cls X.K C)(hm:Meth X.K C m f)(F:FnOk X.prog X.w X.K X.mg X.base (CX1 X.prog X.w) k f fd ps sp)(hr:Room k X.A)(hb:Binds X.K fd ps ds)(hd:Vals dvs ds)(ha:PA X (e::es) t)
  (hst:starEach (e::es) X.env=(false,eval e X.env)::starEach es X.env:=by rfl) (hpl:(backTo pos (starEach es X.env)).any (·.1)=false:=by rfl)
  (ht:eval (.Call (.Attribute o m apos) (e::es) [] pos) X.env=(do
   let ov ←eval o X.env
   standAt apos.atName
   let(f,first) ←holding [ov] (getMethod ov m pl)
   callWith pos f first (backTo pos (starEach (e::es) X.env)) (backToKw pos (keywordEach [] X.env))):=by rfl):
  PEX X (.Call (.Attribute o m apos) (e::es) [] pos) (fun EX=>tMeth C m sp dvs EX ta t):=by
 intro pins s σ H Q EX I h
 refine Es (pl:=pl) (wpAny_mono (he pins s σ H _ I h) (fun u s1 ⟨x,H1,I1,rx,a,dx,fs,ex,ea,l,q⟩=>?_) fun e s' z=>(hnx e s' z).elim) ht
 subst ex
 obtain rfl:u=Value.ref a:=rx
 refine kdV I1 ea c hm l ?_
 exact Ec (first:=[.ref a]) (h₀:=X.base) I.ok.mod.kin hm.kp (wpAny_mono (ha pos pins s1 σ H1 _ I1 q) (fun us s2 ⟨vs,H2,I2,r,q2⟩=>⟨I2.kIn,klN (us:=.ref a::us) (vs:=.ref a::vs) F hr hb hd TX I2 (.cons rfl r) q2⟩) fun e s' z=>(hnx e s' z).elim) hst hpl
noncomputable def PBX(X:Cx)(body:List Stmt)(tb:XK→TS):Prop:=∀(pins:List (Addr×Obj))(s:Shared)(σ:St)(H:Hp)(D:Ends)(EX:XK),Inv X pins σ H s→tb EX D σ H→wpAny (model X.prog X.w) X.A (execs body X.env) (SP X pins D) (XL X pins σ EX) s
theorem kly{te:XK→TE}(he:PEX X e te)(hs:swapsWith e none pos.line X.env=pure false:=by rfl):PBX X [.Expr e pos] (fun EX=>tDrop (te EX)):=by
 intro pins s σ H D EX I h
 refine wpAny_execs_cons (wpAny_Expr_any (thn (he pins s σ H _ EX I h) fun v s1 ⟨x,H1,I1,r1,q1⟩=>?_) I.quiet hs)
 exact wpAny_execs_nil ⟨σ,H1,I1,q1⟩
theorem kiB{CX:CXT}{P:Program}{w:World}{K:Nt}{mg:Str→Option Value}{base:Heap}{N:List Str}{qual:Str}{scope:Scope}{f:Addr}{cd:Value}{A:Around}{outer:List Env}{s:Shared}{H:Hp}{E:XK}:Top1 (cxOf CX P w K mg base N qual scope f cd A outer s H E).nox:=⟨rfl,rfl,fun _=>rfl,rfl⟩
end
end L2
namespace L2
open PySem PySem.W PySem.Calls PyProof.Rows Builtin Builtin.ObjectAttr
section
variable {prog:Program} {w:World} {K:Frag} {A:Around} {E:Value→Shared→Prop} {h:Heap} {g:Array GenState} {d:Drawn} {t:Nat} {os:OsState} {a C:Addr} {o:Obj} {od:Option Obj}
structure ExcK (K:Frag) (C:Addr):Prop where
 ga:findIn K (.ref C) "__getattribute__"=some (some (.builtin "BaseException.__getattribute__"))
 no:findIn K (.ref C) "__getattr__"=some none
 cl:findIn K (.ref C) "__class__"=some (some (.builtin "object.__class__"))
 sub:subIn K (.ref C) (.type "BaseException")=some true
 obj:mroIn K C (.type "object")=some true
 isc:(clsIn K C).isSome=true
theorem kjU{M:Model}{nameV:Value}{Q:Unit→Shared→Prop}(X:K.In h)(Z:ExcK K C)(hx:h.get? a=some o)(hc:o.cls=.ref C)(hq:Q () ⟨h,g,d,t,os⟩):wpAny M A (checkBuiltinCall "BaseException.__getattribute__" ⟨[.ref a,nameV],[]⟩) Q E ⟨h,g,d,t,os⟩:=by
 have hk:builtinKind "BaseException.__getattribute__"=some .slot:=by decide +kernel
 have hsplit:splitId "BaseException.__getattribute__"=some ("BaseException","__getattribute__"):=by decide +kernel
 have ha:=PySem.F.args_bexc_ga (.ref a) nameV
 have sb:∀{A:Around}{E:Value→Shared→Prop}{Q:Bool→Shared→Prop}{t:Nat},Q true ⟨h,g,d,t,os⟩→wpAny M A (isSubtype (.ref C) (.type "BaseException")) Q E ⟨h,g,d,t,os⟩:=fun q=>(looks_subIn X Z.sub).at q
 simp only[checkBuiltinCall,hk,hsplit]
 refine wpAny_bind ?_
 ·unfold isInstance
  repeat (first|(with_reducible refine wpAny_loadPart_at hx ?_;rw[hc])|(with_reducible refine sb ?_)|wp_step)
  exact hq
theorem kjT{tk:Tok}{Q:Fin→Shared→Prop}(X:K.In h)(Z:ExcK K C)(I:InstAt h a o C od)(hq:Q (.done (.ret (.ref C))) ⟨h,g,d,t,os⟩):wpAny (model prog w) A (Builtin.«object.__getattribute__» ⟨[.ref a, .str "__class__" tk],[]⟩) Q E ⟨h,g,d,t,os⟩:=by
 have hx:=I.at_
 have hc:=I.cls
 have f5:=PySem.F.typeOf_object_class
 have f6:=PySem.F.slot_gs_get.lookup
 have f7:=PySem.F.slot_gs_set.lookup
 have lk:∀{A:Around}{E:Value→Shared→Prop}{Q:Option Value→Shared→Prop}{t:Nat},Q (some (.builtin "object.__class__")) ⟨h,g,d,t,os⟩→wpAny (model prog w) A (typeLookup (.ref C) "__class__") Q E ⟨h,g,d,t,os⟩:=fun q=>(looks_findIn X Z.cl).at q
 repeat (any_goals (first|assumption|(with_reducible refine wpAny_loadPart_at hx ?_;rw[hc])|with_reducible refine lk ?_|wp_step))
 refine class_get (s:=⟨h,g,d,t,os⟩) X I Z.obj ?_
 repeat (any_goals (first|assumption|wp_step))
theorem kkL{tk:Tok}{R:Result→Shared→Prop}(X:K.In h)(Z:ExcK K C)(I:InstAt h a o C od)(hq:R (.ok (.ret (.ref C))) ⟨h,g,d,t,os⟩):codeAny (model prog w) A (.call (.builtin "BaseException.__getattribute__") ⟨[.ref a, .str "__class__" tk],[]⟩) R ⟨h,g,d,t,os⟩:=
 codeAny_call_builtin Dy.ga.plain PySem.F.entry_bexc_ga (kjU X Z I.at_ I.cls (kjT X Z I hq))
theorem kmQ{tk:Tok}{fill expr:Bool}{Q:Value→Shared→Prop}(X:K.In h)(Z:ExcK K C)(I:InstAt h a o C od)(hq:Q (.ref C) ⟨h,g,d,t,os⟩):wpAny (model prog w) A (getAttrBy (.ref a) (.str "__class__" tk) fill expr) Q E ⟨h,g,d,t,os⟩:=by
 have hx:=I.at_
 have hc:=I.cls
 have f3:=Dy.ga.bind (.ref a)
 have hx0:(expr&&onTheHeap (Value.builtin "BaseException.__getattribute__"))=false:=by cases expr <;> rfl
 have hx2:(Value.builtin "BaseException.__getattribute__" ==Value.builtin "object.__getattribute__")=false:=by decide +kernel
 have hx1:(onTheHeap (Value.ref C)&&Value.builtin "BaseException.__getattribute__" ==Value.builtin "object.__getattribute__")=false:=by rw[hx2];rfl
 have lk1:∀{A:Around}{E:Value→Shared→Prop}{Q:Option Value→Shared→Prop}{t:Nat},Q (some (.builtin "BaseException.__getattribute__")) ⟨h,g,d,t,os⟩→wpAny (model prog w) A (typeLookup (.ref C) "__getattribute__") Q E ⟨h,g,d,t,os⟩:=fun q=>(looks_findIn X Z.ga).at q
 have lk2:∀{A:Around}{E:Value→Shared→Prop}{Q:Option Value→Shared→Prop}{t:Nat},Q none ⟨h,g,d,t,os⟩→wpAny (model prog w) A (typeLookup (.ref C) "__getattr__") Q E ⟨h,g,d,t,os⟩:=fun q=>(looks_findIn X Z.no).at q
 repeat (any_goals (first|assumption|(with_reducible refine wpAny_loadPart_at hx ?_;rw[hc])|with_reducible refine lk1 ?_|with_reducible refine lk2 ?_|wp_step))
 refine kkL X Z I ?_
 repeat (any_goals (first|assumption|wp_step))
theorem kmP{Q:Option Value→Shared→Prop}(X:K.In h)(Z:ExcK K C)(I:InstAt h a o C od)(hq:Q (some (.ref C)) ⟨h,g,d,t+1,os⟩):wpAny (model prog w) A (getAttr? (.ref a) "__class__") Q E ⟨h,g,d,t,os⟩:=by
 unfold getAttr? getAttrBy?
 repeat (any_goals (first|assumption|with_reducible apply kmQ X Z I|wp_step))
theorem kh1(Z:ExcK K C):KitX K (.ref a) (.ref C) (fun h=>InstAt h a o C od) where
 ty:=fun _ _ _ I=>I.type
 it:=fun _ _ X _=>by
  obtain⟨cdD,hcD⟩:=EY.mp Z.isc
  unfold clsIn at hcD
  split at hcD
  ·rename_i c' d' cd' sl' ho
   intro A' Q' E' s' k q
   unfold isType loadHead
   exact wpAny_bind (wpAny_loadPart (k _ _ (X _ _ ho)) (wpAny_pure q))
  ·cases hcD
 ne:=fun h tp dd its n sl X htp=>by
  obtain⟨cdD,hcD⟩:=EY.mp Z.isc
  refine Bool.eq_false_iff.mpr fun q=>?_
  have e:C=tp:=Value.ref.inj (beq_iff_eq.mp q)
  subst e
  unfold clsIn at hcD
  split at hcD
  ·rename_i c' d' cd' sl' ho
   have z:=(X _ _ ho).symm.trans htp
   cases z
  ·cases hcD
 ca:=fun {prog w A E Q s} X I k=>by
  obtain⟨hh,g,d,t,os⟩:=s
  exact kmP X Z I k
end
end L2
namespace L2
open PySem PySem.Spec PyProof.Rows
section
variable {X:Cx}
theorem kh6{pins:List (Addr×Obj)}{σ:St}{H:Hp}{s:Shared}{a C:Addr}{dx:Option Addr}(I:Inv X pins σ H s)(e:H a=some (ExcO a (.ref C) dx))(hd:∀d,dx=some d→∃u,H d=some u):∃oe od,PySem.W.InstAt s.heap a oe C od:=by
 obtain⟨⟨oe,vs,h1,h2,h3,h4⟩,_⟩:=(show ObjOk X.prog X.w H s.heap a (ExcO a (.ref C) dx) from I.hok a _ e)
 have no:PySem.W.notCls oe=true:=by
  unfold PySem.W.notCls
  rw[h4]
 cases dx with
 |none=>exact⟨oe,none,h1,h2,no,by rw[h3];trivial⟩
 |some d=>
  obtain⟨fs,ed⟩:=hd d rfl
  obtain⟨q,hq⟩:=(I.hok d _ ed).get
  exact⟨oe,some q,h1,h2,no,by rw[h3];exact hq⟩
noncomputable def rIsiX(K:Nt):List V→Hp→VK→Prop:=fun xs H Q=>∃(a C:Addr)(dx:Option Addr)(c:V)(b:Bool),xs=[.ref a,c]∧((∃n,c=.ty n)∨∃p,c=.ref p)∧H a=some (ExcO a (.ref C) dx)∧(∀d,dx=some d→∃u,H d=some u)∧ExcK K C∧NL K (.ref C) (cV c)=some b∧Q (.bl b) H
theorem kgI:CallR X (.builtin "isinstance") (rIsiX X.K):=by
 intro pins s σ H xs us Q I r h
 obtain⟨a,C,dx,c,b,rfl,hc,ha,hd,Z,e,q⟩:=h
 obtain⟨u,w',rfl,r1,r2⟩:=vals2 r
 cases(show u=Value.ref a from r1)
 have ew:w'=cV c:=by
  rcases hc with⟨n,rfl⟩|⟨p,rfl⟩
  ·exact r2
  ·exact r2
 subst ew
 obtain⟨oe,od,J⟩:=kh6 I ha hd
 exact Mr (kh1 Z) I.kIn J e (fun z=>nomatch z) fun tk=>⟨.bl b,H,I.tok tk,rfl,q⟩
noncomputable def kla(K:Nt):List V→Hp→VK→Prop:=fun xs H Q=>∃(a C tp:Addr)(dx:Option Addr)(cs:List Addr)(b:Bool),xs=[.ref a, .ref tp]∧SqT K H tp (cs.map V.ref)∧H a=some (ExcO a (.ref C) dx)∧(∀d,dx=some d→∃u,H d=some u)∧ExcK K C∧Ek K (.ref C) (cs.map Value.ref)=some b∧Q (.bl b) H
theorem kf8:∀{cs:List Addr}{us:List Value},Vals (cs.map V.ref) us→us=cs.map Value.ref
 |[],_, .nil=>rfl
 |c::cs,_, .cons h t=>by
  rw[NJ,←kf8 t]
  exact congrArg (· ::_) h
theorem kiu:CallR X (.builtin "isinstance") (kla X.K):=by
 intro pins s σ H xs us Q I r h
 obtain⟨a,C,tp,dx,cs,b,rfl,ht,ha,hd,Z,e,q⟩:=h
 obtain⟨u,w',rfl,r1,r2⟩:=vals2 r
 cases(show u=Value.ref a from r1)
 cases(show w'=Value.ref tp from r2)
 obtain⟨its,rv,pl,hz⟩:=I.tuple ht
 have ei:=kf8 rv
 subst ei
 obtain⟨o,ho,hcl,n,hdt⟩:=pl
 obtain⟨oc,odd,dt,sl⟩:=o
 cases(show oc=.type "tuple" from hcl)
 cases(show dt=.seq _ n from hdt)
 obtain⟨oe,od,J⟩:=kh6 I ha hd
 exact PySem.W.kia_tup (kh1 Z) I.kIn J ho e (fun z=>nomatch z) fun tk=>⟨.bl b,H,I.tok tk,rfl,q⟩
end
end L2
namespace L2
open PySem PySem.Spec PyProof.Rows
def kmz{K:Nt}{h:Heap}{mg:Str→Option Value}{x:Str}{C:Addr}{bm:List Value}{newId:String}(X:K.In h)(hb:mg x=some (.ref C))(q:EE K C bm newId=true):OwnCls x C bm newId mg h:=by
 refine⟨hb,?_⟩
 unfold EE at q
 split at q
 next dd cd sl ho=>
  split at q
  next C' tl k0 k1 k2 k3 n k5 hm hs=>
   rw[Ms,Ms,Ms,Ms,Ms] at q
   obtain⟨⟨⟨⟨⟨e1,e2⟩,e3⟩,ht⟩,hok⟩,hni⟩:=q
   have z1:=beq_iff_eq.mp e1
   have z2:=beq_iff_eq.mp e2
   subst z1 z2
   obtain⟨nm,bs,mro,ns,qn,hdc,sn,sub,ab,col,del⟩:=cd
   have z3:del=false:=by simpa using e3
   have z4:mro=.ref C'::tl:=hm
   have z5:sl= #[k0,k1,k2,k3,some (.builtin n),k5]:=by
    obtain⟨l⟩:=sl
    exact congrArg Array.mk hs
   subst z3 z4 z5
   exact⟨tl,ns,nm,qn,bs,hdc,sn,sub,ab,col,dd,k0,k1,k2,k3,k5,_,X _ _ ho, .of_isNs (PySem.W.isNs_of_in X hok),PySem.W.nsMap_none_of_in X hok (beq_iff_eq.mp hni),PySem.W.tail_of_in X ht⟩
  all_goals cases q
 all_goals cases q
end L2
namespace L2
open PySem
def kgO:bootBuiltins "ValueError"=some (.type "ValueError"):=by decide +kernel
end L2
namespace War
structure Row where
 kd:Int
 pr:Int
 mn:Int
 ex:Option Int
structure Row.Ok (r:Row):Prop where
 pr0:0≤r.pr
 pr1:r.pr≤1000000000000
 mn0:0≤r.mn
 mn1:r.mn≤60
 ex0:∀z,r.ex=some z→0≤z∧z≤1000000000000
noncomputable def prc(m:Bool)(r:Row):Int:=if m=true then r.ex.getD r.pr else r.pr
noncomputable def own(rs:List Row):List Int:=(rs.zipIdx.map fun p=>Nw p.1.mn.toNat (p.2:Int)).flatten
noncomputable def prs(m:Bool)(rs:List Row):List Int:=(rs.map fun r=>Nw r.mn.toNat (prc m r)).flatten
def kkn(rs:List Row)(r:Row):own (rs++[r])=own rs++Nw r.mn.toNat (rs.length:Int):=by
 unfold own
 rw[List.zipIdx_append,Ny,EF]
 simp
def kkj(m:Bool)(rs:List Row)(r:Row):prs m (rs++[r])=prs m rs++Nw r.mn.toNat (prc m r):=by
 unfold prs
 rw[Ny,EF]
 simp
theorem khR:∀(rs:List Row)(k:Nat),(∀r∈rs,r.Ok)→((rs.zipIdx k).map fun p=>Nw p.1.mn.toNat (p.2:Int)).flatten.length≤60*rs.length
 |[],_,_=>by simp
 |r::rs,k,h=>by
  have h1:=khR rs (k+1) fun x hx=>h x (NP _ hx)
  have h2:=(h r NW).mn1
  rw[EG,NJ,NZ,NI,Mx,N8]
  show r.mn.toNat+_≤_
  omega
def kjj(rs:List Row)(h:∀r∈rs,r.Ok):(own rs).length≤60*rs.length:=khR rs 0 h
theorem kja(m:Bool):∀(rs:List Row),(∀r∈rs,r.Ok)→(prs m rs).length≤60*rs.length
 |[],_=>by simp[prs]
 |r::rs,h=>by
  have h1:=kja m rs fun x hx=>h x (NP _ hx)
  have h2:=(h r NW).mn1
  unfold prs at h1⊢
  rw[NJ,NZ,NI,Mx,N8]
  omega
def klc{m:Bool}{r:Row}(h:r.Ok):0≤prc m r∧prc m r≤1000000000000:=by
 unfold prc
 split
 ·cases e:r.ex with
  |none=>exact⟨h.pr0,h.pr1⟩
  |some z=>exact h.ex0 z e
 ·exact⟨h.pr0,h.pr1⟩
def take_snoc{α:Type}{rs:List α}{i:Nat}{r: α}(h:rs[i]?=some r):rs.take (i+1)=rs.take i++[r]:=by
 rw[MG,h]
 rfl
end War
namespace Kin
noncomputable def Good(ps:List (Option Nat)):Prop:=∀(i k:Nat),ps[i]?=some (some k)→k<i
noncomputable def anc(ps:List (Option Nat)):Nat→Nat→List Nat
 |0,_=>[]
 |f+1,i=>i::(match ps[i]? with|some (some k)=>anc ps f k|_=>[])
noncomputable def up(ps:List (Option Nat))(i:Nat):List Nat:=anc ps (i+1) i
theorem kkU{ps:List (Option Nat)}(g:Good ps):∀(f f' i:Nat),i<f→i<f'→anc ps f i=anc ps f' i:=by
 intro f
 induction f with
 |zero=>intro f' i h;omega
 | succ f ih=>
  intro f' i h h'
  cases f' with
  |zero=>omega
  | succ f'=>
   show i::_=i::_
   congr 1
   cases e:ps[i]? with
   |none=>rfl
   | some o=>
    cases o with
    |none=>rfl
    |some k=>
     have hk:=g i k e
     exact ih f' k (by omega) (by omega)
def klA{ps:List (Option Nat)}(g:Good ps){i k:Nat}(e:ps[i]?=some (some k)):up ps i=i::up ps k:=by
 have hk:=g i k e
 show i::_=_
 rw[e]
 show i::anc ps i k=i::up ps k
 rw[kkU g i (k+1) k hk (by omega)]
 rfl
def klB{ps:List (Option Nat)}{i:Nat}(e:ps[i]?=some none):up ps i=[i]:=by
 show i::_=_
 rw[e]
noncomputable def rest(ps:List (Option Nat)):Option Nat→List Nat
 |none=>[]
 |some k=>up ps k
noncomputable def left:Option Nat→Nat
 |none=>0
 |some k=>k+1
theorem up_eq{ps:List (Option Nat)}(g:Good ps){i:Nat}{o:Option Nat}(e:ps[i]?=some o):up ps i=i::rest ps o:=by
 cases o with
 |none=>exact klB e
 |some k=>exact klA g e
def kkG:Good []:=fun i k e=>by simp at e
def kjN{ps:List (Option Nat)}(g:Good ps){o:Option Nat}(h:∀k,o=some k→k<ps.length):Good (ps++[o]):=by
 intro i k e
 rcases Nat.lt_trichotomy i ps.length with hi|hi|hi
 ·rw[Ee hi] at e
  exact g i k e
 ·subst hi
  rw[MZ (Nv _)] at e
  simp at e
  exact h k e
 ·rw[MZ (by omega)] at e
  have:(i-ps.length)≠0:=by omega
  cases q:i-ps.length with
  |zero=>omega
  |succ n=>rw[q] at e;simp at e
end Kin
namespace Kin
end Kin
namespace Deal
noncomputable def pre(ws:List Int)(k:Nat):Int:=(ws.take k).sum
noncomputable def part(c:Int)(ws:List Int)(j:Nat):Int:=c*pre ws (j+1)/ws.sum-c*pre ws j/ws.sum
noncomputable def dl(c:Int)(ws:List Int):List Int:=if ws.sum=0 then ws.map (fun _=>0) else(NB ws.length).map (part c ws)
def kkk(ws:List Int):pre ws 0=0:=by simp[pre]
def kjb(ws:List Int):pre ws ws.length=ws.sum:=by simp[pre]
def kej{ws:List Int}{i:Nat}{w:Int}(h:ws[i]?=some w):pre ws (i+1)=pre ws i+w:=by
 unfold pre
 rw[MG,h]
 simp
def kfk(c:Int)(ws:List Int):(dl c ws).length=ws.length:=by
 unfold dl
 split <;> simp
def dl_at{c:Int}{ws:List Int}(h:¬ws.sum=0){j:Nat}(hj:j<ws.length):(dl c ws)[j]?=some (part c ws j):=by
 unfold dl
 rw[if_neg h]
 simp[hj]
def kjW{c:Int}{ws:List Int}(h:ws.sum=0){j:Nat}(hj:j<ws.length):(dl c ws)[j]?=some 0:=by
 unfold dl
 rw[if_pos h]
 simp[hj]
noncomputable def Nn(ws:List Int):Prop:=∀w∈ws,0≤w
theorem kb5:∀{ws:List Int},Nn ws→0≤ws.sum
 |[],_=>by simp
 |w::ws,h=>by
  have:=kb5 (ws:=ws) fun x hx=>h x (NP _ hx)
  have h1:=h w NW
  simp
  omega
theorem kjh{c s A w:Int}(hs:0<s)(hc:0≤c)(hcs:c≤s)(hw:0≤w):0≤c*(A+w)/s-c*A/s∧c*(A+w)/s-c*A/s≤w∧
  (c*(A+w)/s-c*A/s)*s-c*w<s∧-s<(c*(A+w)/s-c*A/s)*s-c*w:=by
 have e:c*(A+w)=c*A+c*w:=Int.mul_add ..
 rw[e]
 generalize hx:c*A=x
 have h1:0≤c*w:=Int.mul_nonneg hc hw
 have h2:c*w≤w*s:=by
  rw[Int.mul_comm w s]
  exact Int.mul_le_mul_of_nonneg_right hcs hw
 generalize hy:c*w=y at h1 h2
 have m1:x/s≤(x+y)/s:=Int.ediv_le_ediv hs (by omega)
 have m2:(x+y)/s≤(x+w*s)/s:=Int.ediv_le_ediv hs (by omega)
 rw[Int.add_mul_ediv_right _ _ (by omega)] at m2
 have d1:=Int.emod_add_mul_ediv x s
 have d2:=Int.emod_add_mul_ediv (x+y) s
 have r1:=Int.emod_nonneg x (show s≠0 by omega)
 have r2:=Int.emod_lt_of_pos x hs
 have r3:=Int.emod_nonneg (x+y) (show s≠0 by omega)
 have r4:=Int.emod_lt_of_pos (x+y) hs
 have e3:((x+y)/s-x/s)*s=s*((x+y)/s)-s*(x/s):=by
  rw[Int.sub_mul,Int.mul_comm,Int.mul_comm (x/s)]
 rw[e3]
 refine⟨by omega,by omega,by omega,by omega⟩
end Deal
namespace Vs
open Kin Deal
structure Mks where
 kind:Option Nat
 needs:Int
 most:Option Int
 member:Bool
 once:Bool
 lone:Bool
inductive Srt
 |off (a:Int)
 |share (s:Int) (b:Bool)
 |cheap (n:Int)
 |bund (n p:Int)
 |carr
structure Vch where
 so:Srt
 ms:Mks
structure Stnd where
 ow:List Nat
 pr:List Int
 cg:Int
 mkd:List Bool
noncomputable def kHit(ps:List (Option Nat))(kind:Option Nat)(kd:Nat):Bool:=match kind with
 |none=>true
 |some k=>decide (k∈up ps kd)
noncomputable def hits(ps:List (Option Nat))(kds:List Nat)(kind:Option Nat)(lone:Bool)(mkd:List Bool)(l:Nat):Bool:=
 kHit ps kind (kds.getD l 0)&&(!lone|| !(mkd.getD l false))
noncomputable def abt(ps:List (Option Nat))(kds:List Nat)(kind:Option Nat)(lone:Bool)(S:Stnd):List Nat:=
 (NB S.ow.length).filter fun i=>hits ps kds kind lone S.mkd (S.ow.getD i 0)
def kid{ps:List (Option Nat)}{kds:List Nat}{kind:Option Nat}{lone:Bool}{S:Stnd}{i:Nat}(h:i∈abt ps kds kind lone S):i<S.ow.length:=by
 have:=(Mo.mp h).1
 simpa using this
def kgQ(ps:List (Option Nat))(kds:List Nat)(kind:Option Nat)(lone:Bool)(S:Stnd):(abt ps kds kind lone S).Nodup:=M1.filter _ EH
def ke3(ps:List (Option Nat))(kds:List Nat)(kind:Option Nat)(lone:Bool)(S:Stnd):(abt ps kds kind lone S).length≤S.ow.length:=by
 have:=M4 (fun i=>hits ps kds kind lone S.mkd (S.ow.getD i 0)) (NB S.ow.length)
 simpa[abt] using this
noncomputable def qs(pr:List Int)(is:List Nat):List Int:=is.map fun i=>pr.getD i 0
def kb6(pr:List Int)(is:List Nat):(qs pr is).length=is.length:=by simp[qs]
noncomputable def spr(n:Nat)(is:List Nat)(vs:List Int):List Int:=(NB n).map fun i=>((is.zip vs).lookup i).getD 0
def kde(n:Nat)(is:List Nat)(vs:List Int):(spr n is vs).length=n:=by simp[spr]
def klH(n:Nat)(vs:List Int):spr n [] vs=Nw n 0:=by
 unfold spr
 apply MP
 ·simp
 ·intro i h1 h2
  simp
theorem kha{l:List (Nat×Int)}{i j:Nat}{v:Int}(h:∀p∈l,p.1≠i):(l++[(i,v)]).lookup j=if j=i then some v else l.lookup j:=by
 induction l with
 | nil=>
  simp only[Eg,Me,List.lookup_nil]
  by_cases e:j=i
  ·subst e;simp
  ·have:(j==i)=false:=beq_eq_false_iff_ne.mpr e
   simp[this,e]
 | cons p l ih=>
  obtain⟨k,w⟩:=p
  have ih':=ih fun q hq=>h q (NP _ hq)
  have hk:k≠i:=h (k,w) NW
  simp only[E9,Me]
  by_cases e:j=k
  ·subst e
   simp[hk]
  ·have:(j==k)=false:=beq_eq_false_iff_ne.mpr e
   simp only[this]
   exact ih'
theorem klG{n:Nat}{is:List Nat}{vs:List Int}(hn:is.Nodup){k i:Nat}{v:Int}(h1:is[k]?=some i)(h2:vs[k]?=some v)(hi:i<n):
  (spr n (is.take k) (vs.take k)).set i v=spr n (is.take (k+1)) (vs.take (k+1)):=by
 have e1:is.take (k+1)=is.take k++[i]:=by rw[MG,h1];rfl
 have e2:vs.take (k+1)=vs.take k++[v]:=by rw[MG,h2];rfl
 have hk1:k<is.length:=(NG.mp h1).1
 have hk2:k<vs.length:=(NG.mp h2).1
 have ez:(is.take (k+1)).zip (vs.take (k+1))=(is.take k).zip (vs.take k)++[(i,v)]:=by
  rw[e1,e2,List.zip_append (by simp;omega)]
  rfl
 have hne:∀p∈(is.take k).zip (vs.take k),p.1≠i:=fun p hp e=>by
  have hm:p.1∈is.take k:=(MK hp).1
  rw[e] at hm
  obtain⟨j,hj,ej⟩:=List.getElem_of_mem hm
  rw[NH] at hj
  rw[List.getElem_take] at ej
  have e3:is[k]=i:=by
   obtain⟨_,q⟩:=NG.mp h1
   exact q
  exact MT.mp hn j k (by omega) hk1 (by omega) (by rw[ej,e3])
 apply MP
 ·simp[spr]
 ·intro j h3 h4
  have hj:j<n:=by simpa[spr] using h4
  rw[List.getElem_set]
  simp only[spr,Ei,EI]
  rw[ez,kha hne]
  by_cases e:i=j
  ·subst e;simp
  ·have:¬j=i:=fun z=>e z.symm
   simp[e,this]
noncomputable def bef(q:List Int)(a b:Nat):Prop:=q.getD b 0<q.getD a 0∨(q.getD a 0=q.getD b 0∧a<b)
noncomputable def Fall(q:List Int)(r:List Nat):Prop:=r.Perm (NB q.length)∧r.Pairwise (bef q)
def kkR{q:List Int}{a b:Nat}(h:bef q a b)(h':bef q b a):False:=by
 unfold bef at h h'
 omega
theorem kex{R:Nat→Nat→Prop}(asym:∀a b,R a b→R b a→False):∀{l l':List Nat},l.Perm l'→l.Pairwise R→l'.Pairwise R→l=l'
 |[],l',p,_,_=>(List.nil_perm.mp p).symm
 | a ::l,l',p,h,h'=>by
  cases l' with
  |nil=>exact absurd p.length_eq (by simp)
  | cons b l'=>
   have hab:a=b:=by
    rcases Classical.em (a=b) with e|e
    ·exact e
    ·have ha:a∈b::l':=p.mem_iff.mp NW
     have hb:b∈a::l:=p.mem_iff.mpr NW
     rcases NO.mp ha with e1|ha
     ·exact absurd e1 e
     ·rcases NO.mp hb with e2|hb
      ·exact absurd e2.symm e
      ·exact(asym a b ((EJ.mp h).1 b hb) ((EJ.mp h').1 a ha)).elim
   subst hab
   congr 1
   exact kex asym (Mm.cons_inv p) (EJ.mp h).2 (EJ.mp h').2
def khg{q:List Int}{r r':List Nat}(h:Fall q r)(h':Fall q r'):r=r':=
 kex (fun _ _ a b=>kkR a b) (h.1.trans h'.1.symm) h.2 h'.2
noncomputable def grp(n:Nat)(r:List Nat):List (List Nat):=(NB (r.length/n)).map fun g=>(r.drop (g*n)).take n
end Vs
namespace Vs
open Kin Deal
noncomputable def Le2(xs ys:List Int):Prop:=xs.length=ys.length∧∀(j:Nat)(v w:Int),xs[j]?=some v→ys[j]?=some w→0≤v∧v≤w
def Le2.nil:Le2 [] []:=⟨rfl,fun j v w e=>by simp at e⟩
def Le2.self{xs:List Int}(h:Nn xs):Le2 xs xs:=⟨rfl,fun j v w e1 e2=>by
 rw[e1] at e2
 cases e2
 exact⟨h v (NA e1),Int.le_refl _⟩⟩
def Le2.nn{xs ys:List Int}(h:Le2 xs ys):Nn xs:=fun v hv=>by
 obtain⟨j,hj,e⟩:=List.getElem_of_mem hv
 exact(h.2 j v (ys[j]'(by rw[←h.1];exact hj)) (by simp[hj,e]) (by simp[show j<ys.length by rw[←h.1];exact hj])).1
def Le2.trans{xs ys zs:List Int}(h:Le2 xs ys)(h':Le2 ys zs):Le2 xs zs:=⟨h.1.trans h'.1,fun j v w e1 e2=>by
 have hj:j<xs.length:=(NG.mp e1).1
 have e3:ys[j]?=some (ys[j]'(by rw[←h.1];exact hj)):=by simp[show j<ys.length by rw[←h.1];exact hj]
 have a:=h.2 j v _ e1 e3
 have b:=h'.2 j _ w e3 e2
 omega⟩
def Le2.append{xs ys xs' ys':List Int}(h:Le2 xs ys)(h':Le2 xs' ys'):Le2 (xs++xs') (ys++ys'):=by
 refine⟨by simp[h.1,h'.1],fun j v w e1 e2=>?_⟩
 have hl:=h.1
 rcases Nat.lt_or_ge j xs.length with hj|hj
 ·rw[Ee hj] at e1
  rw[Ee (by omega)] at e2
  exact h.2 j v w e1 e2
 ·rw[MZ hj] at e1
  rw[MZ (by omega),←hl] at e2
  exact h'.2 _ v w e1 e2
theorem Le2.sum:∀{xs ys:List Int},Le2 xs ys→0≤xs.sum∧xs.sum≤ys.sum
 |[],[],_=>by simp
 |[],_::_,h=>by have:=h.1;simp at this
 |_::_,[],h=>by have:=h.1;simp at this
 |x::xs,y::ys,h=>by
  have h0:=h.2 0 x y rfl rfl
  have h1:Le2 xs ys:=⟨by simpa using h.1,fun j v w e1 e2=>h.2 (j+1) v w (by simpa using e1) (by simpa using e2)⟩
  have h2:=Le2.sum h1
  simp
  omega
def dl_le{c:Int}{ws:List Int}(hn:Nn ws)(h0:0≤c)(h1:c≤ws.sum):Le2 (dl c ws) ws:=by
 refine⟨kfk c ws,fun j v w e1 e2=>?_⟩
 have hj:j<ws.length:=(NG.mp e2).1
 have hw:=hn w (NA e2)
 by_cases hs:ws.sum=0
 ·rw[kjW hs hj] at e1
  cases e1
  exact⟨Int.le_refl _,hw⟩
 ·rw[dl_at hs hj] at e1
  cases e1
  have hp:0<ws.sum:=by
   have:=kb5 hn
   omega
  have q:=kjh (A:=pre ws j) hp h0 h1 hw
  unfold part
  rw[kej e2]
  exact⟨q.1,q.2.1⟩
theorem kdT{is:List Nat}{vs:List Int}{i:Nat}{v:Int}(h:(is.zip vs).lookup i=some v):∃k:Nat,is[k]?=some i∧vs[k]?=some v:=by
 induction is generalizing vs with
 |nil=>simp at h
 | cons a is ih=>
  cases vs with
  |nil=>simp at h
  | cons b vs=>
   simp only[List.zip_cons_cons,Me] at h
   by_cases e:i=a
   ·subst e
    simp at h
    exact⟨0,rfl,by simp[h]⟩
   ·have:(i==a)=false:=beq_eq_false_iff_ne.mpr e
    rw[this] at h
    obtain⟨k,h1,h2⟩:=ih h
    exact⟨k+1,by simpa using h1,by simpa using h2⟩
theorem kgb{pr:List Int}{is:List Nat}{vs:List Int}(hn:Nn pr)(hv:Le2 vs (qs pr is)):Le2 (spr pr.length is vs) pr:=by
 refine⟨kde _ _ _,fun j v w e1 e2=>?_⟩
 have hj:j<pr.length:=(NG.mp e2).1
 have hw:=hn w (NA e2)
 have e3:v=((is.zip vs).lookup j).getD 0:=by
  simp[spr,hj] at e1
  exact e1.symm
 cases e4:(is.zip vs).lookup j with
 |none=>
  rw[e4] at e3
  subst e3
  exact⟨Int.le_refl _,hw⟩
 |some u=>
  rw[e4] at e3
  have e3':v=u:=e3
  subst e3'
  obtain⟨k,h1,h2⟩:=kdT e4
  refine hv.2 k v w h2 ?_
  simp only[qs,NC,h1,Ey]
  rw[NR,e2]
  rfl
theorem qs_nn{pr:List Int}(hn:Nn pr)(is:List Nat):Nn (qs pr is):=fun v hv=>by
 obtain⟨i,_,rfl⟩:=NQ.mp hv
 rw[NR]
 cases e:pr[i]? with
 |none=>exact Int.le_refl _
 |some w=>exact hn w (NA e)
noncomputable def leQ(q:List Int)(a b:Nat):Bool:=decide (q.getD b 0<q.getD a 0∨(q.getD a 0=q.getD b 0∧a≤b))
noncomputable def ordQ(q:List Int):List Nat:=(NB q.length).mergeSort (leQ q)
def kdx(q:List Int):(ordQ q).Perm (NB q.length):=List.mergeSort_perm _ _
def keF(q:List Int):Fall q (ordQ q):=by
 refine⟨kdx q,?_⟩
 have h1:(ordQ q).Pairwise (fun a b=>leQ q a b=true):=List.pairwise_mergeSort (le:=leQ q) (fun a b c h h'=>by simp only[leQ,decide_eq_true_eq] at *;omega) (fun a b=>by simp only[leQ,E6,decide_eq_true_eq];omega) _
 have h2:(ordQ q).Nodup:=(kdx q).nodup_iff.mpr EH
 refine(h1.and h2).imp fun {a b} h=>?_
 have h3:=h.1
 have h4:a≠b:=h.2
 simp only[leQ,decide_eq_true_eq] at h3
 unfold bef
 omega
noncomputable def gdl(cut:Int→Int)(gs:List (List Nat))(q:List Int):List Int:=spr q.length gs.flatten ((gs.map fun g=>dl (cut (qs q g).sum) (qs q g)).flatten)
def ki6(q:List Int)(a b:List Nat):qs q (a++b)=qs q a++qs q b:=by simp[qs]
theorem kln{cut:Int→Int}{gs:List (List Nat)}{q:List Int}(hn:Nn q)(hc:∀s,0≤s→0≤cut s∧cut s≤s):Le2 (gdl cut gs q) q:=by
 refine kgb hn ?_
 induction gs with
 |nil=>exact Le2.nil
 |cons g gs ih=>
  rw[NJ,NZ,NZ,ki6]
  have h:=hc _ (kb5 (qs_nn hn g))
  exact(dl_le (qs_nn hn g) h.1 h.2).append ih
noncomputable def ke1(n:Nat)(lines:List Nat):List (List Nat):=(NB n).map fun l=>(NB lines.length).filter fun k=>lines.getD k 0==l
noncomputable def lasts(gs:List (List Nat)):List Nat:=gs.map fun g=>g.getLastD 0
noncomputable def want(so:Srt)(n:Nat)(lines:List Nat)(q:List Int):List Int:=match so with
 | .off a=>dl (min a q.sum) q
 | .share s false=>dl (q.sum*s/1000) q
 | .share s true=>gdl (fun z=>z*s/1000) (ke1 n lines) q
 | .cheap m=>spr q.length (lasts (grp m.toNat (ordQ q))) (qs q (lasts (grp m.toNat (ordQ q))))
 | .bund m p=>gdl (fun z=>max 0 (z-p)) (grp m.toNat (ordQ q)) q
 | .carr=>Nw q.length 0
noncomputable def fee(so:Srt)(cg:Int):Int:=match so with
 | .carr=>cg
 |_=>0
noncomputable def SrtOk:Srt→Prop
 | .off a=>0≤a∧a≤1000000000000
 | .share s _=>1≤s∧s≤1000
 | .cheap n=>2≤n∧n≤20
 | .bund n p=>2≤n∧n≤20∧0≤p∧p≤1000000000000
 | .carr=>True
def kfz{z s:Int}(hz:0≤z)(h1:1≤s)(h2:s≤1000):0≤z*s/1000∧z*s/1000≤z:=by
 have a:0≤z*s:=Int.mul_nonneg hz (by omega)
 have b:z*s≤z*1000:=Int.mul_le_mul_of_nonneg_left h2 hz
 omega
def kmo{q:List Int}(hn:Nn q):Le2 (Nw q.length 0) q:=by
 refine⟨by simp,fun j v w e1 e2=>?_⟩
 have:v=0:=by
  rw[EZ] at e1
  split at e1
  ·exact(Option.some.inj e1).symm
  ·cases e1
 subst this
 exact⟨Int.le_refl _,hn w (NA e2)⟩
def kgR{a:Int}{n:Nat}{lines:List Nat}{q:List Int}(hn:Nn q)(h0:0≤a):Le2 (want (.off a) n lines q) q:=by
 have hs:=kb5 hn
 show Le2 (dl (min a q.sum) q) q
 exact dl_le hn (by omega) (by omega)
theorem kfo{s:Int}{e:Bool}{n:Nat}{lines:List Nat}{q:List Int}(hn:Nn q)(h1:1≤s)(h2:s≤1000):Le2 (want (.share s e) n lines q) q:=by
 have hs:=kb5 hn
 cases e with
 |false=>
  show Le2 (dl (q.sum*s/1000) q) q
  have h:=kfz hs h1 h2
  exact dl_le hn h.1 h.2
 |true=>
  show Le2 (gdl (fun z=>z*s/1000) (ke1 n lines) q) q
  exact kln hn fun z hz=>kfz hz h1 h2
def kf7{m p:Int}{n:Nat}{lines:List Nat}{q:List Int}(hn:Nn q)(h0:0≤p):Le2 (want (.bund m p) n lines q) q:=by
 show Le2 (gdl (fun z=>max 0 (z-p)) (grp m.toNat (ordQ q)) q) q
 exact kln hn fun z hz=>⟨by show 0≤max 0 (z-p);omega,by show max 0 (z-p)≤z;omega⟩
def kfp{m:Int}{n:Nat}{lines:List Nat}{q:List Int}(hn:Nn q):Le2 (want (.cheap m) n lines q) q:=by
 show Le2 (spr q.length _ (qs q _)) q
 exact kgb hn (Le2.self (qs_nn hn _))
def kf6{n:Nat}{lines:List Nat}{q:List Int}(hn:Nn q):Le2 (want .carr n lines q) q:=kmo hn
theorem kiw{so:Srt}{n:Nat}{lines:List Nat}{q:List Int}(hn:Nn q)(ho:SrtOk so):Le2 (want so n lines q) q:=by
 cases so with
 |off a=>exact kgR hn ho.1
 |share s e=>exact kfo hn ho.1 ho.2
 |cheap m=>exact kfp hn
 |bund m p=>exact kf7 hn ho.2.2.1
 |carr=>exact kf6 hn
noncomputable def cap(most:Option Int)(w:List Int)(f:Int):List Int×Int:=match most with
 |none=>(w,f)
 |some m=>if m<w.sum+f then(dl (min m w.sum) w,min f m) else(w,f)
theorem kmT{most:Option Int}{w q:List Int}{f cg:Int}(h:Le2 w q)(hf:0≤f∧f≤cg)(hm:∀m,most=some m→0≤m):Le2 (cap most w f).1 q∧0≤(cap most w f).2∧(cap most w f).2≤cg:=by
 unfold cap
 cases most with
 |none=>exact⟨h,hf⟩
 |some m=>
  have h0:=hm m rfl
  have hs:=kb5 h.nn
  simp only
  split
  ·exact⟨(dl_le h.nn (by omega) (by omega)).trans h,by simp only;omega,by simp only;omega⟩
  ·exact⟨h,hf⟩
noncomputable def cutM(V:Vch)(ps:List (Option Nat))(kk:List Nat)(S:Stnd):List Int×Int:=
 let is:=abt ps kk V.ms.kind V.ms.lone S
 let c:=cap V.ms.most (want V.so S.mkd.length (is.map fun i=>S.ow.getD i 0) (qs S.pr is)) (fee V.so S.cg)
 (spr S.pr.length is c.1,c.2)
def klq{V:Vch}{ps:List (Option Nat)}{kk:List Nat}{S:Stnd}(hn:Nn S.pr)(hc:0≤S.cg)(ho:SrtOk V.so)(hm:∀m,V.ms.most=some m→0≤m):Le2 (cutM V ps kk S).1 S.pr∧0≤(cutM V ps kk S).2∧(cutM V ps kk S).2≤S.cg:=by
 have hf:0≤fee V.so S.cg∧fee V.so S.cg≤S.cg:=by
  unfold fee
  split <;> omega
 have h:=kmT (most:=V.ms.most) (kiw (n:=S.mkd.length) (lines:=(abt ps kk V.ms.kind V.ms.lone S).map fun i=>S.ow.getD i 0) (qs_nn hn (abt ps kk V.ms.kind V.ms.lone S)) ho) hf hm
 exact⟨kgb hn h.1,h.2⟩
noncomputable def kdD(ow:List Nat)(c:List Int)(l:Nat):Bool:=(NB ow.length).any fun i=>ow.getD i 0==l&&decide (0<c.getD i 0)
noncomputable def aftM(V:Vch)(ps:List (Option Nat))(kk:List Nat)(S:Stnd):Stnd:=
 ⟨S.ow,N2 (· - ·) S.pr (cutM V ps kk S).1,S.cg-(cutM V ps kk S).2,(NB S.mkd.length).map fun l=>S.mkd.getD l false||(V.ms.lone&&kdD S.ow (cutM V ps kk S).1 l)⟩
def kmV{V:Vch}{ps:List (Option Nat)}{kk:List Nat}{S:Stnd}(hn:Nn S.pr)(hc:0≤S.cg)(ho:SrtOk V.so)(hm:∀m,V.ms.most=some m→0≤m):Le2 (aftM V ps kk S).pr S.pr∧0≤(aftM V ps kk S).cg∧(aftM V ps kk S).cg≤S.cg:=by
 have h:=klq (ps:=ps) (kk:=kk) hn hc ho hm
 refine⟨⟨?_,fun j v w e1 e2=>?_⟩,?_,?_⟩
 ·show(N2 _ _ _).length=_
  rw[M5,h.1.1]
  omega
 ·have hj:j<S.pr.length:=(NG.mp e2).1
  have hj2:j<(cutM V ps kk S).1.length:=by rw[h.1.1];exact hj
  have e3:(cutM V ps kk S).1[j]?=some ((cutM V ps kk S).1[j]):=by simp[hj2]
  have b:=h.1.2 j _ w e3 e2
  have e4:(N2 (· - ·) S.pr (cutM V ps kk S).1)[j]?=some (w-(cutM V ps kk S).1[j]):=by
   rw[M6,e2,e3]
  have e1':(N2 (· - ·) S.pr (cutM V ps kk S).1)[j]?=some v:=e1
  rw[e4] at e1'
  cases e1'
  omega
 ·show 0≤S.cg-_
  have:=h.2
  omega
 ·show S.cg-_≤S.cg
  have:=h.2
  omega
end Vs
namespace Vs
open Kin Deal
structure Sel (q:List Int) (row left:List Nat):Prop where
 pm:(row++left).Perm (NB q.length)
 inc:left.Pairwise (· < ·)
 pw:row.Pairwise (bef q)
 cr:∀r∈row,∀l∈left,bef q r l
def Sel.start(q:List Int):Sel q [] (NB q.length):=⟨Mm.refl _,Dc, .nil,fun r hr=>by simp at hr⟩
def Sel.lt{q:List Int}{row left:List Nat}(h:Sel q row left){i:Nat}(hi:i∈left):i<q.length:=by
 have:=h.pm.mem_iff.mp (N6 row hi)
 simpa using this
def Sel.len{q:List Int}{row left:List Nat}(h:Sel q row left):row.length+left.length=q.length:=by
 have:=h.pm.length_eq
 simpa using this
def Sel.fin{q:List Int}{row:List Nat}(h:Sel q row []):row=ordQ q:=by
 refine khg ⟨?_,h.pw⟩ (keF q)
 have:=h.pm
 rwa [Eb] at this
noncomputable def TopI(q:List Int)(left:List Nat)(i top:Nat):Prop:=(∃k,left[k]?=some top∧(k<i∨k=0))∧∀y∈left.take i,y=top∨bef q top y
def TopI.start{q:List Int}{left:List Nat}{t:Nat}(h:left[0]?=some t):TopI q left 0 t:=⟨⟨0,h, .inr rfl⟩,fun y hy=>by simp at hy⟩
def TopI.more{q:List Int}{left:List Nat}{i top x:Nat}(inc:left.Pairwise (· < ·))(h:TopI q left i top)(hx:left[i]?=some x):TopI q left (i+1) (if q.getD top 0<q.getD x 0 then x else top):=by
 obtain⟨⟨k,ek,hk⟩,hy⟩:=h
 have et:left.take (i+1)=left.take i++[x]:=by rw[MG,hx];rfl
 split
 ·rename_i hlt
  refine⟨⟨i,hx, .inl (by omega)⟩,fun y hm=>?_⟩
  rw[et] at hm
  rcases N1.mp hm with h1|h1
  ·refine .inr (.inl ?_)
   rcases hy y h1 with rfl|h2
   ·exact hlt
   ·unfold bef at h2
    omega
  ·exact .inl (by simpa using h1)
 ·rename_i hge
  refine⟨⟨k,ek,by omega⟩,fun y hm=>?_⟩
  rw[et] at hm
  rcases N1.mp hm with h1|h1
  ·exact hy y h1
  ·have e:y=x:=by simpa using h1
   subst e
   by_cases hki:k=i
   ·subst hki
    rw[ek] at hx
    exact .inl (Option.some.inj hx).symm
   ·have hlt:top<y:=by
     obtain⟨l1,q1⟩:=NG.mp ek
     obtain⟨l2,q2⟩:=NG.mp hx
     have:=MT.mp inc k i l1 l2 (by omega)
     rwa [q1,q2] at this
    refine .inr ?_
    unfold bef
    omega
def Sel.step{q:List Int}{row left:List Nat}{top:Nat}(h:Sel q row left)(ht:TopI q left left.length top):Sel q (row++[top]) (left.erase top)∧top∈left:=by
 obtain⟨⟨k,ek,_⟩,hy⟩:=ht
 have hm:=NA ek
 rw[N3] at hy
 have nd:left.Nodup:=h.inc.imp fun hlt=>NY hlt
 refine⟨⟨?_,h.inc.sublist (List.erase_sublist),?_,?_⟩,hm⟩
 ·refine Mm.trans ?_ h.pm
  rw[Mj]
  exact Mm.append_left row (List.perm_cons_erase hm).symm
 ·exact List.pairwise_append.mpr ⟨h.pw,List.pairwise_singleton _ _,fun r hr t ht=>by
   have e:t=top:=by simpa using ht
   subst e
   exact h.cr r hr t hm⟩
 ·intro r hr l hl
  have hl':=(nd.mem_erase_iff).mp hl
  rcases N1.mp hr with h1|h1
  ·exact h.cr r h1 l hl'.2
  ·have e:r=top:=by simpa using h1
   subst e
   rcases hy l hl'.2 with h2|h2
   ·exact absurd h2 hl'.1
   ·exact h2
end Vs
namespace Vs
open Kin Deal
def kh4{m:Nat}{r:List Nat}{i:Nat}{g:List Nat}(h:(grp m r)[i]?=some g):i*m+m≤r.length∧g.length=m∧∀j,j<m→g[j]?=r[i*m+j]?:=by
 unfold grp at h
 rw[NC] at h
 have hi:i<r.length/m:=by
  rcases Nat.lt_or_ge i (r.length/m) with q|q
  ·exact q
  ·rw[Dd (by simpa using q)] at h
   cases h
 rw[EK hi] at h
 cases h
 have hle:i*m+m≤r.length:=by
  have h1:(i+1)*m≤r.length/m*m:=Nat.mul_le_mul_right m hi
  have h2:=Nat.div_mul_le_self r.length m
  rw[Nat.add_mul,Nat.one_mul] at h1
  omega
 refine⟨hle,by rw[NH,Ef];omega,fun j hj=>?_⟩
 rw[Dr hj,List.getElem?_drop]
theorem khd{m:Nat}{r:List Nat}{i:Nat}{g:List Nat}(hm:0<m)(h:(grp m r)[i]?=some g):r[i*m+(m-1)]?=some (g.getLastD 0):=by
 obtain⟨hle,hl,hg⟩:=kh4 h
 rw[←hg (m-1) (by omega)]
 cases g with
 |nil=>simp at hl;omega
 |cons x xs=>
  have e:(x::xs).getLastD 0=(x::xs).getLast (by simp):=by simp[List.getLastD]
  rw[e,List.getLast_eq_getElem,NG]
  refine⟨by omega,?_⟩
  congr 1
  omega
def khZ{gs:List (List Nat)}{i:Nat}{g:List Nat}(h:gs[i]?=some g):(lasts gs)[i]?=some (g.getLastD 0):=by
 unfold lasts
 rw[NC,h]
 rfl
def kdB(gs:List (List Nat)):(lasts gs).length=gs.length:=by simp[lasts]
def khc{m:Nat}{r:List Nat}(hm:0<m)(hr:r.Nodup):(lasts (grp m r)).Nodup:=by
 refine MT.mpr fun i j hi hj hij e=>?_
 rw[kdB] at hi hj
 have e1:(grp m r)[i]?=some (grp m r)[i]:=by simp[hi]
 have e2:(grp m r)[j]?=some (grp m r)[j]:=by simp[hj]
 have a1:=khd hm e1
 have a2:=khd hm e2
 have b1:=khZ e1
 have b2:=khZ e2
 obtain⟨_,c1⟩:=NG.mp b1
 obtain⟨_,c2⟩:=NG.mp b2
 rw[c1,c2] at e
 rw[e] at a1
 obtain⟨l1,d1⟩:=NG.mp a1
 obtain⟨l2,d2⟩:=NG.mp a2
 have hlt:i*m+(m-1)<j*m+(m-1):=by
  have:=Nat.mul_lt_mul_of_pos_right hij hm
  omega
 exact MT.mp hr _ _ l1 l2 hlt (by rw[d1,d2])
def klX{q:List Int}{i:Nat}(h:i∈ordQ q):i<q.length:=by
 have:=(kdx q).mem_iff.mp h
 simpa using this
end Vs
namespace Vs
open Kin Deal
def kke{n:Nat}{is:List Nat}{vs:List Int}{i:Nat}{v:Int}(hl:is.length=vs.length)(hn:(is++[i]).Nodup)(hi:i<n):(spr n is vs).set i v=spr n (is++[i]) (vs++[v]):=by
 have h:=klG (n:=n) (is:=is++[i]) (vs:=vs++[v]) hn (k:=is.length) (i:=i) (v:=v) (by simp) (by rw[hl];simp) hi
 rw[List.take_left' rfl,List.take_left' hl.symm,Ml (by simp),Ml (by simp[hl])] at h
 exact h
def keq{gs:List (List Nat)}(h:gs.flatten.Nodup){i k a:Nat}{g:List Nat}(hg:gs[i]?=some g)(hk:g[k]?=some a):((gs.take i).flatten++g.take k++[a]).Nodup:=by
 have e:gs=gs.take i++g::gs.drop (i+1):=by
  obtain⟨hi,eg⟩:=NG.mp hg
  rw[←eg,Dz hi,EL]
 have e2:g=(g.take k++[a])++g.drop (k+1):=by
  obtain⟨hk',ek⟩:=NG.mp hk
  rw[Mj,List.singleton_append,←ek,Dz hk',EL]
 rw[e,EF,NZ] at h
 rw[Mj]
 refine h.sublist (List.Sublist.append_left ?_ _)
 refine List.Sublist.trans ?_ (DA g _)
 conv=>rhs;rw[e2]
 exact DA _ _
theorem kkF{m:Nat}(r:List Nat):(grp m r).flatten=r.take (r.length/m*m):=by
 unfold grp
 have hle:r.length/m*m≤r.length:=Nat.div_mul_le_self _ _
 generalize r.length/m=c at *
 induction c with
 |zero=>simp
 |succ c ih=>
  have h1:c*m+m≤r.length:=by rw[←Nat.succ_mul];exact hle
  rw[MH,Ny,EF,ih (by omega)]
  simp only[NJ,E1,NZ,List.flatten_nil,Eb]
  rw[show(c+1)*m=c*m+m by rw[Nat.add_mul,Nat.one_mul],List.take_add]
def kjJ{m:Nat}{r:List Nat}(h:r.Nodup):(grp m r).flatten.Nodup:=by
 rw[kkF]
 exact h.sublist (List.take_sublist _ _)
end Vs
namespace Vs
open Kin Deal
theorem kdb{is:List Nat}(hn:is.Nodup){k i:Nat}(hk:is[k]?=some i):∀(l:List (Nat×Int)),(∀p∈l,p.1<is.length)→(l.map fun p=>(is.getD p.1 0,p.2)).lookup i=l.lookup k
 |[],_=>rfl
 | (j,v)::l,h=>by
  have ih:=kdb hn hk l fun p hp=>h p (NP _ hp)
  have hj:j<is.length:=h (j,v) NW
  obtain⟨hk',ek⟩:=NG.mp hk
  have e:is.getD j 0=is[j]:=by rw[NR];simp[hj]
  simp only[NJ,Me,e]
  by_cases q:k=j
  ·subst q
   simp[ek]
  ·have h1:(k==j)=false:=by simp[q]
   have h2:(i==is[j])=false:=by
    refine beq_eq_false_iff_ne.mpr fun z=>q ?_
    exact(List.getElem_inj hn).mp (by rw[ek,z])
   rw[h1,h2]
   exact ih
theorem lookup_none{is:List Nat}{i:Nat}(hi:∀k:Nat,is[k]?≠some i):∀(l:List (Nat×Int)),(∀p∈l,p.1<is.length)→(l.map fun p=>(is.getD p.1 0,p.2)).lookup i=none
 |[],_=>rfl
 |(j,v)::l,h=>by
  have ih:=lookup_none hi l fun p hp=>h p (NP _ hp)
  have hj:j<is.length:=h (j,v) NW
  have e:is.getD j 0=is[j]:=by rw[NR];simp[hj]
  have h2:(i==is[j])=false:=beq_eq_false_iff_ne.mpr fun z=>hi j (by rw[z];simp[hj])
  simp only[NJ,Me,e,h2]
  exact ih
theorem keR{is:List Nat}(hn:is.Nodup){k i:Nat}(hk:is[k]?=some i):∀{vs:List Int},is.length=vs.length→(is.zip vs).lookup i=vs[k]?:=by
 induction is generalizing k with
 |nil=>simp at hk
 | cons a is ih=>
  intro vs hl
  cases vs with
  |nil=>simp at hl
  | cons v vs=>
   rw[List.zip_cons_cons,Me]
   cases k with
   |zero=>
    have:a=i:=by simpa using hk
    subst this
    simp
   |succ k=>
    have hk':is[k]?=some i:=by simpa using hk
    have hh:=Mw.mp hn
    have hne:(i==a)=false:=beq_eq_false_iff_ne.mpr fun z=>hh.1 (z▸NA hk')
    rw[hne]
    simpa using ih hh.2 hk' (by simpa using hl)
def kgS{n:Nat}{is js:List Nat}{vs:List Int}(hn:is.Nodup)(hj:∀j∈js,j<is.length):spr n is (spr is.length js vs)=spr n (js.map fun j=>is.getD j 0) vs:=by
 apply MP
 ·simp[spr]
 intro i h1 h2
 have ez:(js.map fun j=>is.getD j 0).zip vs=(js.zip vs).map fun p=>(is.getD p.1 0,p.2):=by rw[List.zip_map_left];rfl
 have hp:∀p∈js.zip vs,p.1<is.length:=fun p hp=>hj _ (MK hp).1
 simp only[spr,Ei,EI]
 rw[ez]
 by_cases hk:∃k:Nat,is[k]?=some i
 ·obtain⟨k,hk⟩:=hk
  have hkl:=(NG.mp hk).1
  rw[kdb hn hk _ hp,keR hn hk (by simp)]
  simp[hkl]
 ·rw[lookup_none (fun k e=>hk ⟨k,e⟩) _ hp]
  have:((is.zip ((NB is.length).map fun i=>((js.zip vs).lookup i).getD 0)).lookup i)=none:=by
   rw[List.lookup_eq_none_iff]
   intro p hp'
   have:=(MK hp').1
   obtain⟨k,ek⟩:=MB.mp this
   have hne:i≠p.1:=fun z=>hk ⟨k,by rw[ek,←z]⟩
   simpa using hne
  rw[this]
noncomputable def owns(n:Nat)(ow:List Nat)(is:List Nat):List (List Nat):=(NB n).map fun l=>is.filter fun i=>ow.getD i 0==l
def ke0(n:Nat)(ow is:List Nat):(ke1 n (is.map fun i=>ow.getD i 0)).map (fun g=>g.map fun j=>is.getD j 0)=owns n ow is:=by
 unfold ke1 owns
 rw[NU]
 refine Mn fun l _=>?_
 show(((NB _).filter _).map fun j=>is.getD j 0)=_
 have e:is=(NB is.length).map fun j=>is.getD j 0:=by
  apply MP
  ·simp
  ·intro j h1 h2
   simp[NR,h1]
 conv=>rhs;rw[e]
 rw[List.filter_map,Nr]
 congr 1
 refine List.filter_congr fun k hk=>?_
 have hk':k<is.length:=by simpa using hk
 simp[NR,hk']
def qs_qs{pr:List Int}{ab g:List Nat}(h:∀j∈g,j<ab.length):qs (qs pr ab) g=qs pr (g.map fun j=>ab.getD j 0):=by
 unfold qs
 rw[NU]
 refine Mn fun j hj=>?_
 have:=h j hj
 simp[NR,this]
def kgJ{n:Nat}{lines:List Nat}{g:List Nat}(hg:g∈ke1 n lines){j:Nat}(hj:j∈g):j<lines.length:=by
 obtain⟨l,_,rfl⟩:=NQ.mp hg
 have:=(Mo.mp hj).1
 simpa using this
def khk{n N:Nat}{ow ab:List Nat}{pr:List Int}(cut:Int→Int)(hn:ab.Nodup):spr n ab (gdl cut (ke1 N (ab.map fun i=>ow.getD i 0)) (qs pr ab))=spr n (owns N ow ab).flatten ((owns N ow ab).map fun o=>dl (cut (qs pr o).sum) (qs pr o)).flatten:=by
 unfold gdl
 rw[kb6,kgS hn fun j hj=>?_,List.map_flatten,ke0]
 ·congr 2
  rw[←ke0,NU]
  refine Mn fun g hg=>?_
  have e:=qs_qs (pr:=pr) (ab:=ab) (g:=g) fun j hj=>by simpa using kgJ hg hj
  show dl (cut (qs (qs pr ab) g).sum) (qs (qs pr ab) g)=dl (cut (qs pr (g.map fun j=>ab.getD j 0)).sum) (qs pr (g.map fun j=>ab.getD j 0))
  rw[e]
 ·obtain⟨g,hg,hj'⟩:=MI.mp hj
  simpa using kgJ hg hj'
end Vs
namespace Vs
open Kin Deal
section
variable {p:Nat→Bool} {n:Nat} {w:List Int}
noncomputable def cnt(p:Nat→Bool)(j:Nat):Nat:=((NB j).filter p).length
theorem kj2{j:Nat}(h:p j=true):cnt p (j+1)=cnt p j+1:=by
 unfold cnt
 rw[MH,M7,NI]
 simp[h]
theorem kls{j:Nat}(h:p j=false):cnt p (j+1)=cnt p j:=by
 unfold cnt
 rw[MH,M7,NI]
 simp[h]
theorem kcZ:∀{n j:Nat},j<n→p j=true→((NB n).filter p)[cnt p j]?=some j
 |0,j,h,_=>by omega
 | n+1,j,h,hp=>by
  rw[MH,M7]
  by_cases hj:j<n
  ·have ih:=kcZ hj hp
   rw[Ee (NG.mp ih).1]
   exact ih
  ·have e:j=n:=by omega
   subst e
   unfold cnt
   rw[MZ (Nv _)]
   simp[hp]
theorem kkZ(hl:w.length=cnt p n){j:Nat}(hj:j<n):(spr n ((NB n).filter p) w)[j]?=some (if p j=true then w.getD (cnt p j) 0 else 0):=by
 unfold spr
 rw[NC,EK hj]
 show some _=some _
 congr 1
 show(Mq j (((NB n).filter p).zip w)).getD 0=_
 cases hp:p j with
 |true=>
  rw[keR (M1.filter _ EH) (kcZ hj hp) hl.symm,if_pos rfl,NR]
 | false=>
  rw[if_neg ND]
  cases e:(((NB n).filter p).zip w).lookup j with
  |none=>rw[E2]
  |some v=>
   obtain⟨k,hk,_⟩:=kdT e
   have:=(Mo.mp (NA hk)).2
   rw[hp] at this
   cases this
theorem kfG(hl:w.length=cnt p n):∀j,j≤n→pre (spr n ((NB n).filter p) w) j=pre w (cnt p j)
 |0,_=>by simp[pre,cnt]
 | j+1,h=>by
  have ih:=kfG hl j (by omega)
  rw[kej (kkZ hl (show j<n by omega)),ih]
  cases hp:p j with
  |true=>
   have hk:=(NG.mp (kcZ (show j<n by omega) hp)).1
   have hk':cnt p j<w.length:=by rw[hl];exact hk
   rw[if_pos rfl,kj2 hp,kej (w:=w.getD (cnt p j) 0) (by rw[NR,MA hk'];rfl)]
  |false=>rw[if_neg ND,kls hp,Int.add_zero]
theorem kiD(hl:w.length=cnt p n):(spr n ((NB n).filter p) w).sum=w.sum:=by
 have h:=kfG hl n (Nv _)
 rw[←hl,kjb] at h
 have e:pre (spr n ((NB n).filter p) w) n=(spr n ((NB n).filter p) w).sum:=by
  have:=kjb (spr n ((NB n).filter p) w)
  rw[kde] at this
  exact this
 rw[←e,h]
theorem kmR(m:Int)(hl:w.length=cnt p n):dl m (spr n ((NB n).filter p) w)=spr n ((NB n).filter p) (dl m w):=by
 have hl2:(dl m w).length=cnt p n:=by rw[kfk,hl]
 have hs:=kiD hl
 apply List.ext_getElem?
 intro j
 by_cases hj:j<n
 ·rw[kkZ hl2 hj]
  have hjF:j<(spr n ((NB n).filter p) w).length:=by rw[kde];exact hj
  by_cases h0:w.sum=0
  ·rw[kjW (hs.trans h0) hjF]
   cases hp:p j with
   |false=>rw[if_neg ND]
   |true=>
    have hk:=(NG.mp (kcZ hj hp)).1
    rw[if_pos rfl,NR,kjW h0 (by rw[hl];exact hk)]
    rfl
  ·rw[dl_at (by rw[hs];exact h0) hjF]
   unfold part
   rw[hs,kfG hl j (by omega),kfG hl (j+1) (by omega)]
   cases hp:p j with
   |false=>rw[if_neg ND,kls hp,Int.sub_self]
   |true=>
    have hk:=(NG.mp (kcZ hj hp)).1
    rw[if_pos rfl,NR,dl_at h0 (by rw[hl];exact hk),kj2 hp]
    rfl
 ·rw[Dd (by rw[kfk,kde];omega),Dd (by rw[kde];omega)]
end
def kme{c:Int}{n:Nat}:dl c (Nw n 0)=Nw n 0:=by
 have e:(Nw n (0:Int)).sum=0:=by simp
 unfold dl
 rw[if_pos e]
 simp
theorem kkO{V:Vch}{ps:List (Option Nat)}{kk:List Nat}{S:Stnd}(e:V.ms.most=none):
  (cutM V ps kk S).1=spr S.pr.length (abt ps kk V.ms.kind V.ms.lone S) (want V.so S.mkd.length ((abt ps kk V.ms.kind V.ms.lone S).map fun i=>S.ow.getD i 0) (qs S.pr (abt ps kk V.ms.kind V.ms.lone S))):=by
 unfold cutM cap
 rw[e]
theorem kkN{V:Vch}{ps:List (Option Nat)}{kk:List Nat}{S:Stnd}(hl:S.pr.length=S.ow.length)
  (hw:Le2 (want V.so S.mkd.length ((abt ps kk V.ms.kind V.ms.lone S).map fun i=>S.ow.getD i 0) (qs S.pr (abt ps kk V.ms.kind V.ms.lone S))) (qs S.pr (abt ps kk V.ms.kind V.ms.lone S))) {m:Int} (e:V.ms.most=some m) (h0:0≤m):
  (cutM V ps kk S).1=if(spr S.pr.length (abt ps kk V.ms.kind V.ms.lone S) (want V.so S.mkd.length ((abt ps kk V.ms.kind V.ms.lone S).map fun i=>S.ow.getD i 0) (qs S.pr (abt ps kk V.ms.kind V.ms.lone S)))).sum > m
   then dl m (spr S.pr.length (abt ps kk V.ms.kind V.ms.lone S) (want V.so S.mkd.length ((abt ps kk V.ms.kind V.ms.lone S).map fun i=>S.ow.getD i 0) (qs S.pr (abt ps kk V.ms.kind V.ms.lone S))))
   else spr S.pr.length (abt ps kk V.ms.kind V.ms.lone S) (want V.so S.mkd.length ((abt ps kk V.ms.kind V.ms.lone S).map fun i=>S.ow.getD i 0) (qs S.pr (abt ps kk V.ms.kind V.ms.lone S))):=by
 have hwl:=hw.1
 rw[kb6] at hwl
 have ea:abt ps kk V.ms.kind V.ms.lone S=(NB S.pr.length).filter fun i=>hits ps kk V.ms.kind V.ms.lone S.mkd (S.ow.getD i 0):=by rw[hl];rfl
 have ez:V.so=.carr→(want V.so S.mkd.length ((abt ps kk V.ms.kind V.ms.lone S).map fun i=>S.ow.getD i 0) (qs S.pr (abt ps kk V.ms.kind V.ms.lone S)))=Nw (qs S.pr (abt ps kk V.ms.kind V.ms.lone S)).length 0:=fun z=>by rw[z];rfl
 unfold cutM cap
 rw[e]
 simp only
 generalize want V.so S.mkd.length ((abt ps kk V.ms.kind V.ms.lone S).map fun i=>S.ow.getD i 0) (qs S.pr (abt ps kk V.ms.kind V.ms.lone S))=w at *
 rw[ea] at hwl⊢
 rw[kiD hwl,kmR m hwl]
 by_cases hc:V.so=.carr
 ·have hz:=ez hc
  have hs:w.sum=0:=by rw[hz];simp
  rw[if_neg (by omega:¬w.sum > m)]
  split
  ·simp only
   rw[hz,kme]
  ·rfl
 ·have hf:fee V.so S.cg=0:=by
   unfold fee
   split
   ·rename_i z
    exact absurd z hc
   ·rfl
  rw[hf,Int.add_zero]
  by_cases hm:m<w.sum
  ·rw[if_pos hm,if_pos hm]
   simp only
   rw[Int.min_eq_left (by omega)]
  ·rw[if_neg hm,if_neg hm]
end Vs
namespace Vs
open Kin Deal
noncomputable def ins:List (Nat×List Nat)→Nat→Nat→List (Nat×List Nat)
 |[],o,a=>[(o,[a])]
 |(l,g)::G,o,a=>if l=o then(l,g++[a])::G else(l,g)::ins G o a
noncomputable def parted(f:Nat→Nat)(is:List Nat):List (Nat×List Nat):=is.foldl (fun G a=>ins G (f a) a) []
def keE(f:Nat→Nat)(is:List Nat)(a:Nat):parted f (is++[a])=ins (parted f is) (f a) a:=by
 unfold parted
 rw[List.foldl_append]
 rfl
theorem kem:∀(G:List (Nat×List Nat))(o a:Nat),(ins G o a).map Prod.fst=if o∈G.map Prod.fst then G.map Prod.fst else G.map Prod.fst++[o]
 |[],o,a=>by simp[ins]
 | (l,g)::G,o,a=>by
  unfold ins
  by_cases h:l=o
  ·subst h
   simp
  ·rw[if_neg h,NJ,kem G o a]
   show _=if o∈l::G.map Prod.fst then l::G.map Prod.fst else(l::G.map Prod.fst)++[o]
   have h':¬o=l:=fun z=>h z.symm
   by_cases hm:o∈G.map Prod.fst
   ·rw[if_pos hm,if_pos (NP _ hm)]
   ·rw[if_neg hm,if_neg (by rw[NO,not_or];exact⟨h',hm⟩)]
    rfl
theorem kjF:∀{G:List (Nat×List Nat)}{o a l:Nat}{g:List Nat},(G.map Prod.fst).Nodup→(l,g)∈ins G o a→(l≠o∧(l,g)∈G)∨(l=o∧((∃g',(o,g')∈G∧g=g'++[a])∨(o∉G.map Prod.fst∧g=[a])))
 |[],o,a,l,g,_,h=>by
  unfold ins at h
  rw[Mt] at h
  cases h
  exact .inr ⟨rfl, .inr ⟨by simp,rfl⟩⟩
 | (k,g0)::G,o,a,l,g,hn,h=>by
  unfold ins at h
  rw[NJ,Mw] at hn
  by_cases e:k=o
  ·rw[if_pos e] at h
   subst e
   rcases NO.mp h with z|z
   ·cases z
    exact .inr ⟨rfl, .inl ⟨g0,NW,rfl⟩⟩
   ·refine .inl ⟨fun w=>?_,NP _ z⟩
    subst w
    exact hn.1 (NQ.mpr ⟨(l,g),z,rfl⟩)
  ·rw[if_neg e] at h
   rcases NO.mp h with z|z
   ·cases z
    exact .inl ⟨e,NW⟩
   ·rcases kjF hn.2 z with⟨w1,w2⟩|⟨w1,⟨g',w2,w3⟩|⟨w2,w3⟩⟩
    ·exact .inl ⟨w1,NP _ w2⟩
    ·exact .inr ⟨w1, .inl ⟨g',NP _ w2,w3⟩⟩
    ·refine .inr ⟨w1, .inr ⟨?_,w3⟩⟩
     rw[NJ,NO,not_or]
     exact⟨fun z=>e z.symm,w2⟩
structure PtOk (f:Nat→Nat) (is:List Nat) (G:List (Nat×List Nat)):Prop where
 nd:(G.map Prod.fst).Nodup
 gs:∀l g,(l,g)∈G→g=is.filter fun i=>f i==l
 all:∀i∈is,f i∈G.map Prod.fst
theorem kfe(f:Nat→Nat):∀(n:Nat)(is:List Nat),is.length=n→PtOk f is (parted f is)
 |0,is,h=>by
  have e:is=[]:=List.eq_nil_of_length_eq_zero h
  subst e
  exact⟨by simp[parted],fun l g hg=>by simp[parted] at hg,fun i hi=>by simp at hi⟩
 | n +1,is,h=>by
  have hne:is≠[]:=by
   intro z
   subst z
   cases h
  obtain⟨is',a,rfl⟩:∃is' a,is=is'++[a]:=⟨is.dropLast,is.getLast hne,(List.dropLast_concat_getLast hne).symm⟩
  have ih:=kfe f n is' (by simpa using h)
  rw[keE]
  refine⟨?_,fun l g hg=>?_,fun i hi=>?_⟩
  ·rw[kem]
   split
   ·exact ih.nd
   ·rename_i hm
    exact De.mpr ⟨ih.nd,by simp,fun x hx y hy=>by
     rw[Mt] at hy
     subst hy
     exact fun z=>hm (by rw[←z];exact hx)⟩
  ·rw[M7]
   rcases kjF ih.nd hg with⟨w1,w2⟩|⟨w1,⟨g',w2,w3⟩|⟨w2,w3⟩⟩
   ·rw[ih.gs l g w2]
    have:(f a==l)=false:=by simpa using fun z=>w1 z.symm
    simp[this]
   ·subst w1 w3
    rw[ih.gs _ g' w2]
    simp
   ·subst w1 w3
    have e:is'.filter (fun i=>f i==f a)=[]:=by
     rw[List.filter_eq_nil_iff]
     intro i hi z
     have z':f i=f a:=by simpa using z
     exact w2 (by rw[←z'];exact ih.all i hi)
    rw[e]
    simp
  ·rw[kem]
   rcases N1.mp hi with hi|hi
   ·have:=ih.all i hi
    split
    ·exact this
    ·exact En _ this
   ·rw[Mt] at hi
    subst hi
    split
    ·assumption
    ·exact N6 _ (by simp)
def kcR(f:Nat→Nat)(is:List Nat):PtOk f is (parted f is):=kfe f is.length is rfl
def PtOk.snds{f:Nat→Nat}{is:List Nat}{G:List (Nat×List Nat)}(h:PtOk f is G):G.map Prod.snd=(G.map Prod.fst).map fun l=>is.filter fun i=>f i==l:=by
 rw[NU]
 refine Mn fun p hp=>?_
 exact h.gs p.1 p.2 hp
theorem kiq{l l':List (Nat×Int)}{i:Nat}:(l++l').lookup i=(l.lookup i).or (l'.lookup i):=by
 induction l with
 |nil=>simp
 |cons p l ih=>
  obtain⟨a,b⟩:=p
  rw[E9,Me,Me,ih]
  split <;> rfl
theorem kfh{l:List (Nat×Int)}{i:Nat}(h:∀p∈l,p.1≠i):l.lookup i=none:=by
 induction l with
 |nil=>rfl
 | cons p l ih=>
  obtain⟨a,b⟩:=p
  have h1:(i==a)=false:=by
   have:=h (a,b) NW
   simpa using fun z=>this z.symm
  rw[Me,h1]
  exact ih fun q hq=>h q (NP _ hq)
section
variable {f:Nat→Nat} {is:List Nat} {D:List Nat→List Int}
theorem klw{l i:Nat}{vs:List Int}(h:f i≠l):((is.filter fun i=>f i==l).zip vs).lookup i=none:=
 kfh fun p hp=>by
  have h1:=(MK (show(p.1,p.2)∈_ from hp)).1
  have h2:f p.1=l:=by simpa using(Mo.mp h1).2
  intro z
  rw[z] at h2
  exact h h2
theorem kd5(hD:∀g,(D g).length=g.length)(i:Nat):∀(ks:List Nat),ks.Nodup→
  (((ks.map fun l=>is.filter fun i=>f i==l).flatten).zip ((ks.map fun l=>D (is.filter fun i=>f i==l)).flatten)).lookup i=if f i∈ks then((is.filter fun j=>f j==f i).zip (D (is.filter fun j=>f j==f i))).lookup i else none
 |[],_=>by simp
 | l::ks,hn=>by
  rw[Mw] at hn
  have ih:=kd5 hD i ks hn.2
  rw[NJ,NJ,NZ,NZ,List.zip_append (hD _).symm,kiq,ih]
  by_cases h:f i=l
  ·subst h
   rw[if_neg hn.1,if_pos NW,Option.or_none]
  ·rw[klw h,Option.none_or]
   by_cases hm:f i∈ks
   ·rw[if_pos hm,if_pos (NP _ hm)]
   ·rw[if_neg hm,if_neg (by rw[NO,not_or];exact⟨h,hm⟩)]
theorem kij(hD:∀g,(D g).length=g.length){n:Nat}{ks ks':List Nat}(hn:ks.Nodup)(hn':ks'.Nodup)(h:∀i∈is,f i∈ks)(h':∀i∈is,f i∈ks'):
  spr n (ks.map fun l=>is.filter fun i=>f i==l).flatten (ks.map fun l=>D (is.filter fun i=>f i==l)).flatten=spr n (ks'.map fun l=>is.filter fun i=>f i==l).flatten (ks'.map fun l=>D (is.filter fun i=>f i==l)).flatten:=by
 unfold spr
 refine Mn fun i _=>?_
 have key:∀ks:List Nat,ks.Nodup→(∀i∈is,f i∈ks)→(((ks.map fun l=>is.filter fun i=>f i==l).flatten).zip ((ks.map fun l=>D (is.filter fun i=>f i==l)).flatten)).lookup i=((is.filter fun j=>f j==f i).zip (D (is.filter fun j=>f j==f i))).lookup i:=fun ks hn hk=>by
  rw[kd5 hD i ks hn]
  by_cases hm:f i∈ks
  ·rw[if_pos hm]
  ·rw[if_neg hm,kfh fun p hp=>?_]
   have h1:=(MK (show(p.1,p.2)∈_ from hp)).1
   obtain⟨h2,h3⟩:=Mo.mp h1
   exact fun _=>hm (by rw[←(show f p.1=f i by simpa using h3)];exact hk _ h2)
 rw[key ks hn h,key ks' hn' h']
theorem keD(hi:is.Nodup):∀{ks:List Nat},ks.Nodup→(ks.map fun l=>is.filter fun i=>f i==l).flatten.Nodup
 |[],_=>by simp
 |l::ks,hn=>by
  rw[Mw] at hn
  rw[NJ,NZ]
  refine De.mpr ⟨hi.filter _,keD hi hn.2,fun x hx y hy z=>?_⟩
  subst z
  have h1:f x=l:=by simpa using(Mo.mp hx).2
  obtain⟨g,hg,hy⟩:=MI.mp hy
  obtain⟨l',hl',rfl⟩:=NQ.mp hg
  have h2:f x=l':=by simpa using(Mo.mp hy).2
  exact hn.1 (by rw[←h1,h2];exact hl')
end
theorem kik{n N:Nat}{ow ab:List Nat}{pr:List Int}(cut:Int→Int)(hn:ab.Nodup)(hN:∀i∈ab,ow.getD i 0<N):
  spr n ((parted (fun i=>ow.getD i 0) ab).map Prod.snd).flatten (((parted (fun i=>ow.getD i 0) ab).map Prod.snd).map fun g=>dl (cut (qs pr g).sum) (qs pr g)).flatten=spr n ab (gdl cut (ke1 N (ab.map fun i=>ow.getD i 0)) (qs pr ab)):=by
 have ok:=kcR (fun i=>ow.getD i 0) ab
 rw[khk cut hn,ok.snds]
 generalize hks:(parted (fun i=>ow.getD i 0) ab).map Prod.fst=ks at *
 have nd:ks.Nodup:=by rw[←hks];exact ok.nd
 have al:∀i∈ab,ow.getD i 0∈ks:=by rw[←hks];exact ok.all
 unfold owns
 rw[NU,NU]
 exact kij (f:=fun i=>ow.getD i 0) (is:=ab) (D:=fun g=>dl (cut (qs pr g).sum) (qs pr g)) (fun g=>by rw[kfk,kb6]) nd EH al fun i hi=>by simpa using hN i hi
def kff(f:Nat→Nat):∀(is:List Nat),(parted f is).length≤is.length:=by
 intro is
 have key:∀(is:List Nat)(G:List (Nat×List Nat)),(is.foldl (fun G a=>ins G (f a) a) G).length≤G.length+is.length:=by
  intro is
  induction is with
  |nil=>intro G;simp
  | cons a is ih=>
   intro G
   have h1:=ih (ins G (f a) a)
   have h2:(ins G (f a) a).length≤G.length+1:=by
    have:=congrArg Et (kem G (f a) a)
    rw[Nr] at this
    rw[this]
    split <;> simp
   rw[List.foldl_cons,N8]
   omega
 simpa[parted] using key is []
end Vs
namespace Vs
open Kin Deal
noncomputable def fallP(pr:List Int)(is:List Nat):List Nat:=(ordQ (qs pr is)).map fun j=>is.getD j 0
def range_getD(is:List Nat):(NB is.length).map (fun j=>is.getD j 0)=is:=by
 apply MP
 ·simp
 ·intro j h1 h2
  simp[NR,h2]
def kbz(pr:List Int)(is:List Nat):(fallP pr is).Perm is:=by
 have h:=(kdx (qs pr is)).map fun j=>is.getD j 0
 rw[kb6,range_getD] at h
 exact h
noncomputable def befP(pr:List Int)(a b:Nat):Prop:=pr.getD b 0<pr.getD a 0∨(pr.getD a 0=pr.getD b 0∧a<b)
def kkK{pr:List Int}{is:List Nat}(hs:is.Pairwise (· < ·)):(fallP pr is).Pairwise (befP pr):=by
 have h:=(keF (qs pr is)).2
 have hm:=(keF (qs pr is)).1
 unfold fallP
 rw[Df]
 refine h.imp_of_mem fun {a b} ha hb hab=>?_
 have la:a<is.length:=by simpa[kb6] using hm.mem_iff.mp ha
 have lb:b<is.length:=by simpa[kb6] using hm.mem_iff.mp hb
 have ea:(qs pr is).getD a 0=pr.getD (is.getD a 0) 0:=by simp[qs,NR,la]
 have eb:(qs pr is).getD b 0=pr.getD (is.getD b 0) 0:=by simp[qs,NR,lb]
 unfold bef at hab
 unfold befP
 rw[ea,eb] at hab
 rcases hab with z|⟨z1,z2⟩
 ·exact .inl z
 ·refine .inr ⟨z1,?_⟩
  have:=MT.mp hs a b la lb z2
  simpa[NR,la,lb] using this
def kir{pr:List Int}{is ks:List Nat}(hs:is.Pairwise (· < ·))(hp:ks.Perm is)(hk:ks.Pairwise (befP pr)):ks=fallP pr is:=
 kex (R:=befP pr) (fun a b h h'=>by unfold befP at h h';omega) (hp.trans (kbz pr is).symm) hk (kkK hs)
def kjL(m:Nat)(f:Nat→Nat)(r:List Nat):grp m (r.map f)=(grp m r).map fun g=>g.map f:=by
 unfold grp
 rw[Nr,NU]
 refine Mn fun g _=>?_
 show((r.map f).drop _).take _=((r.drop _).take _).map f
 rw[MQ,El]
def kjK{m:Nat}{r g:List Nat}(h:g∈grp m r):∀j∈g,j∈r:=fun j hj=>by
 obtain⟨i,_,rfl⟩:=NQ.mp h
 exact List.mem_of_mem_drop (Em hj)
theorem kjM{n:Nat}{ab:List Nat}{pr:List Int}(cut:Int→Int)(hn:ab.Nodup)(gs:List (List Nat))(hg:∀g∈gs,∀j∈g,j<ab.length):
  spr n ab (gdl cut gs (qs pr ab))=spr n (gs.map fun g=>g.map fun j=>ab.getD j 0).flatten ((gs.map fun g=>g.map fun j=>ab.getD j 0).map fun o=>dl (cut (qs pr o).sum) (qs pr o)).flatten:=by
 unfold gdl
 rw[kb6,kgS hn fun j hj=>?_,List.map_flatten,NU]
 ·congr 2
  refine Mn fun g hg'=>?_
  have e:=qs_qs (pr:=pr) (ab:=ab) (g:=g) (hg g hg')
  show dl (cut (qs (qs pr ab) g).sum) (qs (qs pr ab) g)=dl (cut (qs pr (g.map fun j=>ab.getD j 0)).sum) (qs pr (g.map fun j=>ab.getD j 0))
  rw[e]
 ·obtain⟨g,hg',hj'⟩:=MI.mp hj
  exact hg g hg' j hj'
def klf{pr:List Int}{is:List Nat}{m:Nat}{g:List Nat}(h:g∈grp m (ordQ (qs pr is))):∀j∈g,j<is.length:=fun j hj=>by
 have:=klX (kjK h j hj)
 rwa [kb6] at this
theorem kkQ{n m:Nat}{is:List Nat}{pr:List Int}(cut:Int→Int)(hn:is.Nodup):
  spr n is (gdl cut (grp m (ordQ (qs pr is))) (qs pr is))=spr n (grp m (fallP pr is)).flatten ((grp m (fallP pr is)).map fun o=>dl (cut (qs pr o).sum) (qs pr o)).flatten:=by
 rw[kjM cut hn _ fun g hg=>klf hg]
 unfold fallP
 rw[kjL]
def kjx{f:Nat→Nat}{gs:List (List Nat)}(h:∀g∈gs,g≠[]):lasts (gs.map fun g=>g.map f)=(lasts gs).map f:=by
 unfold lasts
 rw[NU,NU]
 refine Mn fun g hg=>?_
 show(g.map f).getLastD 0=f (g.getLastD 0)
 have hne:=h g hg
 rw[Dg,Dg,List.getLast?_map,DB hne]
 rfl
def kmS(c:Int):dl c [c]=[c]:=by
 unfold dl
 by_cases h:[c].sum=0
 ·rw[if_pos h]
  have:c=0:=by simpa using h
  simp[this]
 ·rw[if_neg h]
  have hc:c≠0:=by simpa using h
  have e:part c [c] 0=c:=by
   unfold part pre
   simp[Int.mul_ediv_cancel _ hc]
  simp[MH,e]
theorem kiX(f:Nat→Int):∀(l:List Nat),(l.map fun i=>[i]).flatten=l∧(l.map fun i=>[f i]).flatten=l.map f
 |[]=>⟨rfl,rfl⟩
 |a::l=>by
  obtain⟨h1,h2⟩:=kiX f l
  simp[h1,h2]
theorem kj3{n m:Nat}{is:List Nat}{pr:List Int}(hm:0<m)(hn:is.Nodup):
  spr n is (spr (qs pr is).length (lasts (grp m (ordQ (qs pr is)))) (qs (qs pr is) (lasts (grp m (ordQ (qs pr is))))))=spr n (lasts (grp m (fallP pr is))) ((lasts (grp m (fallP pr is))).map fun i=>pr.getD i 0):=by
 have ne:∀g∈grp m (ordQ (qs pr is)),g≠[]:=fun g hg z=>by
  obtain⟨i,hi⟩:=MB.mp hg
  have:=(kh4 hi).2.1
  rw[z] at this
  simp at this
  omega
 have hl:∀j∈lasts (grp m (ordQ (qs pr is))),j<is.length:=fun j hj=>by
  obtain⟨g,hg,rfl⟩:=NQ.mp hj
  refine klf hg _ ?_
  rw[Dg,DB (ne g hg)]
  exact List.getLast_mem _
 rw[kb6,kgS hn hl,qs_qs hl]
 have e:lasts (grp m (fallP pr is))=(lasts (grp m (ordQ (qs pr is)))).map fun j=>is.getD j 0:=by
  unfold fallP
  rw[kjL,kjx ne]
 rw[e]
 rfl
def spr_zero{n k:Nat}{is:List Nat}:spr n is (Nw k 0)=Nw n 0:=by
 unfold spr
 apply MP
 ·simp
 ·intro j h1 h2
  simp only[Ei,EI,List.getElem_replicate]
  cases e:(is.zip (Nw k (0:Int))).lookup j with
  |none=>rfl
  |some v=>
   obtain⟨i,_,hv⟩:=kdT e
   have:=List.eq_of_mem_replicate (NA hv)
   rw[this]
   rfl
def keY{pr:List Int}{is:List Nat}(hn:is.Nodup):(fallP pr is).Nodup:=(kbz pr is).nodup_iff.mpr hn
def khf(m:Nat)(r:List Nat):(grp m r).length≤r.length:=by
 unfold grp
 rw[Nr,List.length_range]
 exact Nat.div_le_self _ _
end Vs
namespace Vs
open Kin Deal
structure Later (S S':Stnd):Prop where
 ow:S'.ow=S.ow
 pr:Le2 S'.pr S.pr
 cg:0≤S'.cg∧S'.cg≤S.cg
 mg:∀l,S.mkd.getD l false=true→S'.mkd.getD l false=true
def Later.refl{S:Stnd}(hn:Nn S.pr)(hc:0≤S.cg):Later S S:=⟨rfl,Le2.self hn,⟨hc,Int.le_refl _⟩,fun _ h=>h⟩
def Later.trans{S S' S'':Stnd}(h:Later S S')(h':Later S' S''):Later S S'':=⟨h'.ow.trans h.ow,h'.pr.trans h.pr,⟨h'.cg.1,Int.le_trans h'.cg.2 h.cg.2⟩,fun l e=>h'.mg l (h.mg l e)⟩
end Vs
namespace Vs
open PySem L2
noncomputable def top(i:Nat):Stmt:=PySem.Challenge.pw_voucherstack_k36_pieces_that_are_not_the.main.body.getD i (.Pass ⟨0,0,0,0⟩)
noncomputable abbrev kg2:Stmt:=top 2
noncomputable abbrev kg0:Stmt:=top 4
noncomputable abbrev kbF:Stmt:=top 16
noncomputable abbrev kev:Stmt:=top 19
noncomputable abbrev ki0:Stmt:=top 20
noncomputable abbrev kdh:Stmt:=top 21
noncomputable abbrev ki1:Stmt:=top 22
noncomputable abbrev kg3:Stmt:=top 23
noncomputable abbrev kbH:Stmt:=top 24
noncomputable abbrev kbw:Stmt:=top 25
noncomputable abbrev kbb:Stmt:=top 26
noncomputable abbrev kbG:Stmt:=top 27
noncomputable abbrev kaE:Stmt:=top 28
noncomputable abbrev kbS:Stmt:=top 29
noncomputable abbrev kcq:Stmt:=top 30
noncomputable abbrev kbR:Stmt:=top 31
noncomputable abbrev keu:Stmt:=top 32
noncomputable abbrev kg1:Stmt:=top 40
noncomputable abbrev kfD:Stmt:=top 41
noncomputable abbrev kbQ:Stmt:=top 42
noncomputable abbrev kcb:Stmt:=top 43
noncomputable abbrev kcc:Stmt:=top 44
noncomputable abbrev kbv:Stmt:=top 45
noncomputable abbrev kfE:Stmt:=top 48
noncomputable abbrev kcg:Stmt:=top 54
noncomputable abbrev kdj:Stmt:=top 55
noncomputable abbrev kcK:Stmt:=top 56
noncomputable abbrev kcf:Stmt:=top 57
noncomputable abbrev kcu:Stmt:=top 58
noncomputable abbrev kcv:Stmt:=top 59
noncomputable abbrev kcM:Stmt:=top 60
noncomputable abbrev kcd:Stmt:=top 61
noncomputable abbrev kcJ:Stmt:=top 62
noncomputable abbrev kcI:Stmt:=top 63
noncomputable abbrev kcr:Stmt:=top 64
noncomputable abbrev kct:Stmt:=top 65
noncomputable abbrev kcN:Stmt:=top 66
noncomputable abbrev kcL:Stmt:=top 67
noncomputable abbrev kcs:Stmt:=top 68
noncomputable abbrev kcO:Stmt:=top 69
noncomputable abbrev kdi:Stmt:=top 70
noncomputable abbrev kce:Stmt:=top 71
noncomputable abbrev kbm:Stmt:=top 72
noncomputable abbrev s_law:Stmt:=top 73
noncomputable abbrev kaZ:Stmt:=inClass (top 6) 0
noncomputable abbrev kaP:Stmt:=inClass (top 7) 0
noncomputable abbrev kbj:Stmt:=inClass (top 8) 0
noncomputable abbrev kaY:Stmt:=inClass (top 9) 0
noncomputable abbrev kaL:Stmt:=inClass (top 10) 0
noncomputable abbrev kaV:Stmt:=inClass (top 11) 0
noncomputable abbrev kaM:Stmt:=inClass (top 12) 0
noncomputable abbrev ka8:Stmt:=inClass (top 14) 0
noncomputable abbrev kaW:Stmt:=inClass (top 15) 0
noncomputable abbrev kbU:Stmt:=inClass (top 17) 0
noncomputable abbrev kbI:Stmt:=inClass (top 17) 1
noncomputable abbrev kdN:Stmt:=inClass (top 39) 0
noncomputable abbrev kch:Stmt:=inClass (top 39) 1
noncomputable abbrev kcP:Stmt:=inClass (top 39) 2
noncomputable abbrev kbT:Stmt:=inClass (top 39) 4
noncomputable abbrev kdk:Stmt:=inClass (top 47) 0
noncomputable abbrev ka7:Stmt:=inClass (top 50) 0
noncomputable abbrev kci:Stmt:=inClass (top 52) 0
noncomputable abbrev kbh:Stmt:=inClass (top 52) 1
noncomputable abbrev kbo:Stmt:=inClass (top 52) 2
noncomputable abbrev kbn:Stmt:=inClass (top 52) 3
noncomputable abbrev ka9:Stmt:=inClass (top 52) 4
noncomputable abbrev kbc:Stmt:=inClass (top 52) 5
noncomputable abbrev ka2:Stmt:=inClass (top 52) 6
noncomputable abbrev kbd:Stmt:=inClass (top 52) 7
set_option genInjectivity false
set_option genSizeOf false
structure D where
 XU:Addr
 XW:FuncData
 XX:Addr
 XY:FuncData
 XZ:Addr
 X0:FuncData
 X1:Addr
 X2:FuncData
 X3:Addr
 X4:FuncData
 X5:Addr
 X6:FuncData
 X7:Addr
 X8:FuncData
 X9:Addr
 Ya:FuncData
 Yb:Addr
 Yc:FuncData
 Yd:Addr
 Ye:FuncData
 Yf:Addr
 Yg:FuncData
 Yh:Addr
 Yi:FuncData
 Yj:Addr
 QX:FuncData
 Yk:Addr
 Yl:FuncData
 Ym:Addr
 Yn:FuncData
 Yo:Addr
 Yp:FuncData
 Yq:Addr
 Yr:FuncData
 Ys:Addr
 Yt:FuncData
 Yu:Addr
 Yv:FuncData
 Yw:Addr
 Yx:FuncData
 Yy:Addr
 Yz:FuncData
 YA:Addr
 YB:FuncData
 YC:Addr
 YD:FuncData
 YE:Addr
 YF:FuncData
 YG:Addr
 YH:FuncData
 YI:Addr
 YJ:FuncData
 YK:Addr
 YL:FuncData
 YM:Addr
 YN:FuncData
 YO:Addr
 YQ:FuncData
 YR:Addr
 YS:FuncData
 YT:Addr
 YU:FuncData
 YV:Addr
 YW:FuncData
 YX:Addr
 YY:FuncData
 YZ:Addr
 Y0:FuncData
 Y1:Addr
 Y2:FuncData
 Y3:Addr
 Y5:FuncData
 Y7:Addr
 Y9:FuncData
 Za:Addr
 Zb:FuncData
 Zc:Addr
 Zd:FuncData
 Ze:Addr
 Zf:FuncData
 Zg:Addr
 Zh:FuncData
 Zi:Addr
 Zj:FuncData
 Zk:Addr
 Zl:FuncData
 f_law:Addr
 Zm:FuncData
 qi:Addr
 Zn:Addr
 qD:FuncData
 tok1_Marks_init:Nat
 qy:Addr
 QY:Addr
 QZ:FuncData
 c_Off:Addr
 Zo:Addr
 Q0:FuncData
 ql:Addr
 Zp:Addr
 QC:FuncData
 qo:Addr
 Zq:Addr
 Q1:FuncData
 qm:Addr
 Zr:Addr
 Q2:FuncData
 qp:Addr
 Zs:Addr
 Q3:FuncData
 qe:Addr
 Zt:Addr
 Q4:FuncData
 qg:Addr
 Zu:Addr
 QD:FuncData
 tok0_Basket_init:Nat
 qd:Addr
 Zv:Addr
 Zw:FuncData
 Zx:Addr
 Zy:FuncData
 c_Way:Addr
 Zz:Addr
 ZA:FuncData
 ZC:Addr
 ZD:FuncData
 ZE:Addr
 ZF:FuncData
 ZG:Addr
 ZH:FuncData
 qk:Addr
 ZI:Addr
 ZJ:FuncData
 qf:Addr
 ZK:Addr
 Q5:FuncData
 tok0_Till_init:Nat
 qc:Addr
 ZL:Addr
 ZM:FuncData
 ZN:Addr
 ZO:FuncData
 ZP:Addr
 ZQ:FuncData
 ZR:Addr
 ZS:FuncData
 ZT:Addr
 ZU:FuncData
 ZV:Addr
 ZW:FuncData
 qY:Addr
 qZ:FuncData
 ZX:Addr
 ZY:FuncData
 cc_falling_groups:Addr
 tP_falling_groups:Addr
 q9:Addr
 ZZ:Addr
 Qa:Addr
 qq:Addr
structure Wld (K:Nt) (mg:Str→Option Value) (d:D):Prop where
 B:TxtB mg
 Q6:Dn K mg "dealt" kg2 ["cut","weights"] d.XU d.XW
 Z9:Dn K mg "under" kg0 ["parents","one","other"] d.XX d.XY
 Va:Dn K mg "price_of_piece" kbF ["line","member"] d.XZ d.X0
 Q7:Dn K mg "about" kev ["voucher","parents","basket","standing"] d.X1 d.X2
 Vb:Dn K mg "fits" ki0 ["marks","parents","kind","marked"] d.X3 d.X4
 Vd:Dn K mg "hindrance" kdh ["voucher","parents","basket","standing"] d.X5 d.X6
 Ve:Dn K mg "cuts" ki1 ["voucher","parents","basket","standing"] d.X7 d.X8
 Vf:Dn K mg "after" kg3 ["voucher","parents","basket","standing"] d.X9 d.Ya
 Q8:Dn K mg "cuts_of_pieces" kbH ["voucher","parents","basket","standing"] d.Yb d.Yc
 Q9:Dn K mg "cut_of_carriage" kbw ["voucher","standing"] d.Yd d.Ye
 Vg:Dn K mg "wanted_cuts" kbb ["voucher","standing","pieces"] d.Yf d.Yg
 Vh:Dn K mg "parted_by_line" kbG ["standing","pieces"] d.Yh d.Yi
 Xa:Dn K mg "falling_groups" kaE ["standing","pieces","many"] d.Yj d.QX
 Vi:Dn K mg "marked_behind" kbS ["voucher","standing","piece_cuts"] d.Yk d.Yl
 Xb:Dn K mg "prices_of" kcq ["standing","pieces"] d.Ym d.Yn
 Qb:Dn K mg "sum_of_prices" kbR ["standing","pieces"] d.Yo d.Yp
 Vj:Dn K mg "at_most" keu ["most","number"] d.Yq d.Yr
 QE:Dn K mg "fault" kg1 ["till","basket","hand","order"] d.Ys d.Yt
 Vk:Dn K mg "way_by" kfD ["till","basket","hand","order"] d.Yu d.Yv
 Vl:Dn K mg "word_of_order" kbQ ["till","hand","used","number"] d.Yw d.Yx
 Vm:Dn K mg "breaks_never" kcb ["rules","used","number"] d.Yy d.Yz
 Vn:Dn K mg "breaks_ahead" kcc ["rules","used","number"] d.YA d.YB
 Xc:Dn K mg "without_company" kbv ["rules","order"] d.YC d.YD
 Vo:Dn K mg "priced" kfE ["till","basket","hand","order"] d.YE d.YF
 Vp:Dn K mg "_law_cell_at" kcg ["_law_script","_law_k"] d.YG d.YH
 qj:Dn K mg "_law_some" kdj ["_law_script","_law_k","_law_salt","_law_many"] d.YI d.YJ
 QF:Dn K mg "_law_price" kcK ["_law_script","_law_k","_law_salt"] d.YK d.YL
 Vq:Dn K mg "_law_parents" kcf ["_law_script"] d.YM d.YN
 Vr:Dn K mg "_law_basket" kcu ["_law_script","_law_kinds"] d.YO d.YQ
 Qc:Dn K mg "_law_amount" kcv ["_law_script","_law_k","_law_salt","_law_worth_here"] d.YR d.YS
 Vt:Dn K mg "_law_marks" kcM ["_law_script","_law_k","_law_kinds","_law_worth_here"] d.YT d.YU
 Vu:Dn K mg "_law_voucher" kcd ["_law_script","_law_k","_law_kinds","_law_worth_here"] d.YV d.YW
 Vv:Dn K mg "_law_rules" kcJ ["_law_script","_law_many"] d.YX d.YY
 Vw:Dn K mg "_law_worth" kcI ["_law_basket_here"] d.YZ d.Y0
 Vx:Dn K mg "_law_till" kcr ["_law_script","_law_parents_here","_law_basket_here","_law_back"] d.Y1 d.Y2
 Vy:Dn K mg "_law_hand" kct ["_law_script","_law_many"] d.Y3 d.Y5
 Vz:Dn K mg "_law_going" kcN ["_law_till_here","_law_basket_here","_law_hand_here","_law_order_here"] d.Y7 d.Y9
 VA:Dn K mg "_law_order" kcL ["_law_script","_law_k","_law_till_here","_law_basket_here","_law_hand_here"] d.Za d.Zb
 VB:Dn K mg "_law_take" kcs ["_law_script","_law_k","_law_many"] d.Zc d.Zd
 VC:Dn K mg "_law_drawn" kcO ["_law_script","_law_back"] d.Ze d.Zf
 Qd:Dn K mg "_law_told" kdi ["_law_account"] d.Zg d.Zh
 VD:Dn K mg "_law_refused" kce ["_law_account","_law_line","_law_many"] d.Zi d.Zj
 Xd:Dn K mg "_law_all_refused" kbm ["_law_script","_law_k","_law_account","_law_many"] d.Zk d.Zl
 d_law:Dn K mg "law" s_law ["_law_script"] d.f_law d.Zm
 qi:ClsT K mg "Marks" d.qi
 QG:NoAttr K d.qi "kind"
 VE:NoAttr K d.qi "needs"
 Xe:NoAttr K d.qi "most"
 VF:NoAttr K d.qi "member"
 VG:NoAttr K d.qi "once"
 Xf:NoAttr K d.qi "lone"
 QH:MthT K d.qi "__init__" "Marks.__init__" kaZ ["self","kind","needs","most","member","once","lone"] d.Zn d.qD
 b1_Marks_init:Binds K d.qD ["self","kind","needs","most","member","once","lone"] [.bool false]
 b2_Marks_init:Binds K d.qD ["self","kind","needs","most","member","once","lone"] [.bool false, .bool false]
 b3_Marks_init:Binds K d.qD ["self","kind","needs","most","member","once","lone"] [.bool false, .bool false, .bool false]
 b4_Marks_init:Binds K d.qD ["self","kind","needs","most","member","once","lone"] [.none, .bool false, .bool false, .bool false]
 b5_Marks_init:Binds K d.qD ["self","kind","needs","most","member","once","lone"] [.int 0 d.tok1_Marks_init, .none, .bool false, .bool false, .bool false]
 b6_Marks_init:Binds K d.qD ["self","kind","needs","most","member","once","lone"] [.none, .int 0 d.tok1_Marks_init, .none, .bool false, .bool false, .bool false]
 qy:ClsT K mg "Voucher" d.qy
 qu:MthT K d.qy "__init__" "Voucher.__init__" kaP ["self","marks"] d.QY d.QZ
 b1_Voucher_init:Binds K d.QZ ["self","marks"] [.none]
 g_Off:mg "Off"=some (.ref d.c_Off)
 c_Off:ClsT K mg "Off" d.c_Off
 VH:NoAttr K d.c_Off "amount"
 VI:NoAttr K d.c_Off "marks"
 Xg:MthT K d.c_Off "__init__" "Off.__init__" kbj ["self","amount","marks"] d.Zo d.Q0
 b1_Off_init:Binds K d.Q0 ["self","amount","marks"] [.none]
 Ud:mg "Share"=some (.ref d.ql)
 ql:ClsT K mg "Share" d.ql
 VJ:NoAttr K d.ql "share"
 VL:NoAttr K d.ql "by_line"
 VM:NoAttr K d.ql "marks"
 Xh:MthT K d.ql "__init__" "Share.__init__" kaY ["self","share","by_line","marks"] d.Zp d.QC
 b1_Share_init:Binds K d.QC ["self","share","by_line","marks"] [.none]
 b2_Share_init:Binds K d.QC ["self","share","by_line","marks"] [.bool false, .none]
 Ue:mg "Cheapest"=some (.ref d.qo)
 qo:ClsT K mg "Cheapest" d.qo
 VN:NoAttr K d.qo "many"
 VO:NoAttr K d.qo "marks"
 Xi:MthT K d.qo "__init__" "Cheapest.__init__" kaL ["self","many","marks"] d.Zq d.Q1
 b1_Cheapest_init:Binds K d.Q1 ["self","many","marks"] [.none]
 Ug:mg "Bundle"=some (.ref d.qm)
 qm:ClsT K mg "Bundle" d.qm
 VP:NoAttr K d.qm "many"
 VQ:NoAttr K d.qm "price"
 VR:NoAttr K d.qm "marks"
 Xj:MthT K d.qm "__init__" "Bundle.__init__" kaV ["self","many","price","marks"] d.Zr d.Q2
 b1_Bundle_init:Binds K d.Q2 ["self","many","price","marks"] [.none]
 Uh:mg "Carriage"=some (.ref d.qp)
 qp:ClsT K mg "Carriage" d.qp
 VS:NoAttr K d.qp "marks"
 Xk:MthT K d.qp "__init__" "Carriage.__init__" kaM ["self","marks"] d.Zs d.Q3
 b1_Carriage_init:Binds K d.Q3 ["self","marks"] [.none]
 qe:ClsT K mg "Line" d.qe
 Xl:NoAttr K d.qe "kind"
 Qe:NoAttr K d.qe "price"
 qE:NoAttr K d.qe "many"
 QI:NoAttr K d.qe "special"
 Qf:MthT K d.qe "__init__" "Line.__init__" ka8 ["self","kind","price","many","special"] d.Zt d.Q4
 b1_Line_init:Binds K d.Q4 ["self","kind","price","many","special"] [.none]
 qg:ClsT K mg "Basket" d.qg
 qz:NoAttr K d.qg "lines"
 QJ:NoAttr K d.qg "carriage"
 Qg:NoAttr K d.qg "member"
 qM:MthT K d.qg "__init__" "Basket.__init__" kaW ["self","lines","carriage","member"] d.Zu d.QD
 b1_Basket_init:Binds K d.QD ["self","lines","carriage","member"] [.bool false]
 b2_Basket_init:Binds K d.QD ["self","lines","carriage","member"] [.int 0 d.tok0_Basket_init, .bool false]
 qd:ClsT K mg "Standing" d.qd
 qN:NoAttr K d.qd "owners"
 qw:NoAttr K d.qd "prices"
 qV:NoAttr K d.qd "carriage"
 Qh:NoAttr K d.qd "marked"
 Qi:MthT K d.qd "__init__" "Standing.__init__" kbU ["self","basket"] d.Zv d.Zw
 Qj:MthT K d.qd "whole" "Standing.whole" kbI ["self"] d.Zx d.Zy
 c_Way:ClsT K mg "Way" d.c_Way
 qF:NoAttr K d.c_Way "till"
 QK:NoAttr K d.c_Way "basket"
 Xm:NoAttr K d.c_Way "hand"
 qO:NoAttr K d.c_Way "used"
 qP:NoAttr K d.c_Way "standing"
 qA:MthT K d.c_Way "__init__" "Way.__init__" kdN ["self","till","basket","hand"] d.Zz d.ZA
 qQ:MthT K d.c_Way "word_for" "Way.word_for" kch ["self","number"] d.ZC d.ZD
 qR:MthT K d.c_Way "behind" "Way.behind" kcP ["self","number"] d.ZE d.ZF
 Xn:MthT K d.c_Way "is_let_by" "Way.is_let_by" kbT ["self"] d.ZG d.ZH
 qk:ClsT K mg "Bill" d.qk
 Ui:NoAttr K d.qk "order"
 Uj:NoAttr K d.qk "steps"
 VT:NoAttr K d.qk "prices"
 Uk:NoAttr K d.qk "carriage"
 VU:NoAttr K d.qk "total"
 Xo:MthT K d.qk "__init__" "Bill.__init__" kdk ["self","order","steps","standing"] d.ZI d.ZJ
 qf:ClsT K mg "Till" d.qf
 Qk:NoAttr K d.qf "parents"
 qG:NoAttr K d.qf "vouchers"
 qH:NoAttr K d.qf "rules"
 Xp:NoAttr K d.qf "back"
 Ql:MthT K d.qf "__init__" "Till.__init__" ka7 ["self","parents","vouchers","rules","back"] d.ZK d.Q5
 b1_Till_init:Binds K d.Q5 ["self","parents","vouchers","rules","back"] [.str "again" d.tok0_Till_init]
 qc:ClsT K mg "Account" d.qc
 QL:NoAttr K d.qc "till"
 Qm:NoAttr K d.qc "basket"
 VV:NoAttr K d.qc "hand"
 VW:NoAttr K d.qc "first_prices"
 qI:NoAttr K d.qc "order"
 qW:NoAttr K d.qc "fallen"
 qr:NoAttr K d.qc "many"
 Qn:NoAttr K d.qc "paid"
 Xq:NoAttr K d.qc "owed"
 Qo:MthT K d.qc "__init__" "Account.__init__" kci ["self","till","basket","hand","order"] d.ZL d.ZM
 qS:MthT K d.qc "take_back" "Account.take_back" kbh ["self","line","many"] d.ZN d.ZO
 Xr:MthT K d.qc "has_left" "Account.has_left" kbo ["self","line","many"] d.ZP d.ZQ
 Qp:MthT K d.qc "pay_back" "Account.pay_back" kbn ["self","back"] d.ZR d.ZS
 Xs:MthT K d.qc "paid_behind" "Account.paid_behind" ka9 ["self","line","left","many"] d.ZT d.ZU
 Xt:MthT K d.qc "what_stays" "Account.what_stays" kbc ["self"] d.ZV d.ZW
 Qq:MthT K d.qc "due_again" "Account.due_again" ka2 ["self","stays"] d.qY d.qZ
 Xu:MthT K d.qc "go_through" "Account.go_through" kbd ["self","stays"] d.ZX d.ZY
 Qr:BaseT K d.qy "__init__" d.QY
 Ul:NL K (.ref d.c_Off) (.ref d.qp)=some false
 Um:NL K (.ref d.ql) (.ref d.qp)=some false
 Uo:NL K (.ref d.qo) (.ref d.qp)=some false
 Uq:NL K (.ref d.qm) (.ref d.qp)=some false
 Ur:NL K (.ref d.ql) (.ref d.c_Off)=some false
 Us:NL K (.ref d.qo) (.ref d.c_Off)=some false
 Ut:NL K (.ref d.qm) (.ref d.c_Off)=some false
 Uu:NL K (.ref d.qp) (.ref d.c_Off)=some false
 Uv:NL K (.ref d.c_Off) (.ref d.ql)=some false
 Uw:NL K (.ref d.qo) (.ref d.ql)=some false
 Ux:NL K (.ref d.qm) (.ref d.ql)=some false
 Uy:NL K (.ref d.qp) (.ref d.ql)=some false
 Uz:NL K (.ref d.c_Off) (.ref d.qo)=some false
 UA:NL K (.ref d.ql) (.ref d.qo)=some false
 UB:NL K (.ref d.qm) (.ref d.qo)=some false
 UC:NL K (.ref d.qp) (.ref d.qo)=some false
 UD:NL K (.ref d.c_Off) (.ref d.qm)=some false
 UE:NL K (.ref d.ql) (.ref d.qm)=some false
 UF:NL K (.ref d.qo) (.ref d.qm)=some false
 UG:NL K (.ref d.qp) (.ref d.qm)=some false
 code_falling_groups:d.QX.code=.ref d.cc_falling_groups
 ck_falling_groups:CodeK K d.cc_falling_groups d.tP_falling_groups
 UH:mg "NotLet"=some (.ref d.q9)
 UI:mg "TillError"=some (.ref d.ZZ)
 UJ:mg "LineError"=some (.ref d.Qa)
 VX:mg "NoPieces"=some (.ref d.qq)
 UK:EE K d.qq [.type "ValueError", .type "Exception", .type "BaseException", .type "object"] "ValueError.__new__"=true
 x_NoPieces:ExcK K d.qq
 xm_NoPieces_TillError:Da K (.ref d.qq) (.ref d.ZZ)=some true
 ki_NoPieces_NotLet:NL K (.ref d.qq) (.ref d.q9)=some false
 ki_NoPieces_LineError:NL K (.ref d.qq) (.ref d.Qa)=some false
 ki_NoPieces_ValueError:NL K (.ref d.qq) (.type "ValueError")=some true
 zVE:mg "ValueError"=none
structure WB (K:Nt) (mg:Str→Option Value) (d:D) (base:Heap):Prop extends Wld K mg d where
 blt:BltM mg base
 kin:K.In base
end Vs
namespace Vs
open PySem L2 War Kin Deal
noncomputable def LineAt(C:Addr)(H:Hp)(x:Addr)(r:Row):Prop:=∃(dx:Addr)(fs:List (Str×V)),H x=some (.ins C dx fs)∧fs.lookup ("kind" :Str)=some (.int r.kd)∧fs.lookup ("price" :Str)=some (.int r.pr)∧fs.lookup ("many" :Str)=some (.int r.mn)∧fs.lookup ("special" :Str)=some (oV r.ex)
noncomputable abbrev Lines(C:Addr)(H:Hp)(ls:List Addr)(rs:List Row):Prop:=P2 (LineAt C H) ls rs
noncomputable def BaskAt(C:Addr)(H:Hp)(b l:Addr)(cg:Int)(m:Bool):Prop:=∃(dx:Addr)(fs:List (Str×V)),H b=some (.ins C dx fs)∧fs.lookup ("lines" :Str)=some (.ref l)∧fs.lookup ("carriage" :Str)=some (.int cg)∧fs.lookup ("member" :Str)=some (.bl m)
noncomputable def StandAt(C:Addr)(H:Hp)(x o p mk:Addr)(cg:Int):Prop:=∃(dx:Addr)(fs:List (Str×V)),H x=some (.ins C dx fs)∧fs.lookup ("owners" :Str)=some (.ref o)∧fs.lookup ("prices" :Str)=some (.ref p)∧fs.lookup ("carriage" :Str)=some (.int cg)∧fs.lookup ("marked" :Str)=some (.ref mk)∧fs.lookup ("whole" :Str)=none
section
variable {C:Addr} {H H':Hp}
theorem LineAt.same{x:Addr}{r:Row}(s:Same H H'):LineAt C H x r→LineAt C H' x r:=fun⟨dx,fs,h,q⟩=>⟨dx,fs,s _ _ h,q⟩
theorem Lines.same{ls:List Addr}{rs:List Row}(s:Same H H')(h:Lines C H ls rs):Lines C H' ls rs:=h.mono fun _ _ q=>q.same s
theorem BaskAt.same{b l:Addr}{cg:Int}{m:Bool}(s:Same H H'):BaskAt C H b l cg m→BaskAt C H' b l cg m:=fun⟨dx,fs,h,q⟩=>⟨dx,fs,s _ _ h,q⟩
theorem StandAt.same{x o p mk:Addr}{cg:Int}(s:Same H H'):StandAt C H x o p mk cg→StandAt C H' x o p mk cg:=fun⟨dx,fs,h,q⟩=>⟨dx,fs,s _ _ h,q⟩
end
section
variable {H:Hp} {hd:Addr} {xs:List V} {o:HO}
theorem BaskAt.set{C b l:Addr}{cg:Int}{m:Bool}(h:H hd=some (.lst xs)):BaskAt C H b l cg m→BaskAt C (upd H hd o) b l cg m:=fun⟨dx,fs,e,q⟩=>⟨dx,fs,by rw[kal (ne_of e h (by intro z;cases z))];exact e,q⟩
theorem StandAt.set{C x a b c:Addr}{cg:Int}(h:H hd=some (.lst xs)):StandAt C H x a b c cg→StandAt C (upd H hd o) x a b c cg:=fun⟨dx,fs,e,q⟩=>⟨dx,fs,by rw[kal (ne_of e h (by intro z;cases z))];exact e,q⟩
theorem LineAt.set{C x:Addr}{r:Row}(h:H hd=some (.lst xs)):LineAt C H x r→LineAt C (upd H hd o) x r:=fun⟨dx,fs,e,q⟩=>⟨dx,fs,by rw[kal (ne_of e h (by intro z;cases z))];exact e,q⟩
theorem Lines.set{C:Addr}{ls:List Addr}{rs:List Row}(h:H hd=some (.lst xs))(L:Lines C H ls rs):Lines C (upd H hd o) ls rs:=L.mono fun _ _ q=>q.set h
end
structure Bask where
 rs:List Row
 cg:Int
 m:Bool
inductive BaskIs (CL CB:Addr) (H:Hp) (b:Addr) (B:Bask):Prop
 |ct (l:Addr)(ls:List Addr)(_:BaskAt CB H b l B.cg B.m)(_:H l=some (.lst (ls.map V.ref)))(_:Lines CL H ls B.rs):BaskIs CL CB H b B
def BaskIs.same{CL CB:Addr}{H H':Hp}{b:Addr}{B:Bask}(s:Same H H'):BaskIs CL CB H b B→BaskIs CL CB H' b B:=fun⟨l,ls,h1,h2,h3⟩=>⟨l,ls,h1.same s,s _ _ h2,h3.same s⟩
noncomputable def iV(k:Nat):V:=.int (k:Int)
inductive StndIs (CS:Addr) (H:Hp) (x:Addr) (S:Stnd):Prop
 |ct (o p mk:Addr)(_:StandAt CS H x o p mk S.cg)(_:H o=some (.lst (S.ow.map iV)))(_:H p=some (.lst (S.pr.map V.int)))(_:H mk=some (.lst (S.mkd.map V.bl))):StndIs CS H x S
def StndIs.same{CS:Addr}{H H':Hp}{x:Addr}{S:Stnd}(s:Same H H'):StndIs CS H x S→StndIs CS H' x S:=fun⟨o,p,mk,h1,h2,h3,h4⟩=>⟨o,p,mk,h1.same s,s _ _ h2,s _ _ h3,s _ _ h4⟩
def kcY(ns:List Nat):(ns.map iV).all flatV=true:=by
 rw[Ew]
 intro x hx
 obtain⟨n,_,rfl⟩:=NQ.mp hx
 rfl
noncomputable def ownN(rs:List Row):List Nat:=(rs.zipIdx.map fun p=>Nw p.1.mn.toNat p.2).flatten
theorem kfI(rs:List Row):(own rs).map V.int=(ownN rs).map iV:=by
 unfold own ownN
 generalize rs.zipIdx=l
 induction l with
 |nil=>rfl
 |cons p l ih=>
  rw[NJ,NZ,Ny,ih,NJ,NZ,Ny]
  congr 1
  simp[iV]
def klW(rs:List Row){l:Nat}(h:l∈ownN rs):l<rs.length:=by
 unfold ownN at h
 obtain⟨xs,h1,h2⟩:=MI.mp h
 obtain⟨p,h3,rfl⟩:=NQ.mp h1
 have e:l=p.2:=(List.mem_replicate.mp h2).2
 have q:=List.mem_zipIdx h3
 omega
def kko(rs:List Row)(h:∀r∈rs,r.Ok):(ownN rs).length≤60*rs.length:=by
 have e:(ownN rs).length=(own rs).length:=by
  have:=congrArg Et (kfI rs)
  simpa using this.symm
 rw[e]
 exact kjj rs h
noncomputable def pV:Option Nat→V
 |none=>.non
 |some k=>.int (k:Int)
def eq_int(a b:Nat):decide (V.int (a:Int)=V.int (b:Int))=decide (a=b):=by
 by_cases h:a=b
 ·subst h;simp
 ·have:¬(V.int (a:Int)=V.int (b:Int)):=by
   intro e
   injection e with e
   omega
  simp[h,this]
theorem kkv{c:Int}{ws:List Int}(h:ws.sum=0):(dl c ws).map V.int=Nw ws.length (V.int 0):=by
 unfold dl
 rw[if_pos h]
 clear h
 induction ws with
 |nil=>rfl
 |cons w ws ih=>simpa[My] using ih
def kjr{c:Int}{ws:List Int}(h:¬ws.sum=0):dl c ws=(NB ws.length).map (part c ws):=by
 unfold dl
 rw[if_neg h]
inductive kiT (K:Nt) (vs:List V) (H:Hp) (Q:VK) (E_:XK):Prop
 |ct (c:Int)(a:Addr)(ws:List Int)(_:vs=[.int c, .ref a])(_:SqL K H a (ws.map V.int))(_:Nn ws)(_:ws.sum<2 ^ 100)(_:0≤c)(_:c<2 ^ 64)(_:ws.length≤1000)(_:∀p,H p=none→Q (.ref p) (upd H p (.lst ((dl c ws).map V.int)))):kiT K vs H Q E_
inductive kiK (K:Nt) (vs:List V) (H:Hp) (Q:VK) (E_:XK):Prop
 |ct (a:Addr)(ps:List (Option Nat))(one other:Nat)(_:vs=[.ref a, .int one, .int other])(_:SqL K H a (ps.map pV))(_:Good ps)(_:one<ps.length)(_:Q (.bl (decide (other∈up ps one))) H):kiK K vs H Q E_
inductive kgU (C:Addr) (vs:List V) (H:Hp) (Q:VK) (E_:XK):Prop
 |ct (x dx:Addr)(r:Row)(_:vs=[.ref x, .int r.kd, .int r.pr, .int r.mn,oV r.ex])(_:H x=some (.ins C dx []))(_:∀H',But x H H'→LineAt C H' x r→Q .non H'):kgU C vs H Q E_
inductive kgW (K:Nt) (C:Addr) (vs:List V) (H:Hp) (Q:VK) (E_:XK):Prop
 |ct (x dx l:Addr)(cg:Int)(m:Bool)(xs:List V)(_:vs=[.ref x, .ref l, .int cg, .bl m])(_:H x=some (.ins C dx []))(_:SqL K H l xs)(_:∀(H':Hp)(l':Addr),But x H H'→H l'=none→H' l'=some (.lst xs)→BaskAt C H' x l' cg m→Q .non H'):kgW K C vs H Q E_
inductive kiN (CL:Addr) (vs:List V) (H:Hp) (Q:VK) (E_:XK):Prop
 |ct (x:Addr)(m:Bool)(r:Row)(_:vs=[.ref x, .bl m])(_:LineAt CL H x r)(_:Q (.int (prc m r)) H):kiN CL vs H Q E_
inductive kdr (CL CB CS:Addr) (vs:List V) (H:Hp) (Q:VK) (E_:XK):Prop
 |ct (x dx b l:Addr)(cg:Int)(m:Bool)(ls:List Addr)(rs:List Row)(_:vs=[.ref x, .ref b])(_:H x=some (.ins CS dx []))(_:BaskAt CB H b l cg m)(_:H l=some (.lst (ls.map V.ref)))(_:Lines CL H ls rs)(_:rs.length≤12)(_:(∀r∈rs,r.Ok))(_:∀(H':Hp)(o p mk:Addr),But x H H'→H o=none→H p=none→H mk=none→StandAt CS H' x o p mk cg→H' o=some (.lst ((own rs).map V.int))→H' p=some (.lst ((prs m rs).map V.int))→H' mk=some (.lst (Nw rs.length (.bl false)))→(∃dx fs,H' x=some (.ins CS dx fs)∧fs.length≤10)→Q .non H'):kdr CL CB CS vs H Q E_
inductive kiH (CS:Addr) (vs:List V) (H:Hp) (Q:VK) (E_:XK):Prop
 |ct (x o p mk:Addr)(cg:Int)(ns:List Int)(_:vs=[.ref x])(_:StandAt CS H x o p mk cg)(_:H p=some (.lst (ns.map V.int)))(_:Q (.int (ns.sum+cg)) H):kiH CS vs H Q E_
structure S3 (H0:Hp) (x C dx:Addr) (fs:List (Str×V)) (o p mk:Addr) (a b c:List V) (H:Hp):Prop where
 bt:But x H0 H
 ob:H x=some (.ins C dx fs)
 ho:H o=some (.lst a)
 hp:H p=some (.lst b)
 hm:H mk=some (.lst c)
structure Ds (H0:Hp) (x o p mk:Addr):Prop where
 fo:H0 o=none
 fp:H0 p=none
 fm:H0 mk=none
 ox:o≠x
 px:p≠x
 mx:mk≠x
 op:o≠p
 om:o≠mk
 pm:p≠mk
section
variable {H0 H H':Hp} {x C dx o p mk:Addr} {fs:List (Str×V)} {a b c d:List V}
theorem S3.same(h:S3 H0 x C dx fs o p mk a b c H)(s:Same H H'):S3 H0 x C dx fs o p mk a b c H':=⟨h.bt.same s,s _ _ h.ob,s _ _ h.ho,s _ _ h.hp,s _ _ h.hm⟩
theorem S3.setO(h:S3 H0 x C dx fs o p mk a b c H)(D:Ds H0 x o p mk):S3 H0 x C dx fs o p mk d b c (upd H o (.lst d)):=
 ⟨fun y u n e=>kbA (h.bt y u n e) fun u' e'=>ev_eq (by rw[kal (kaj e D.fo)];exact e') fun t=>kdW t (kaj e D.fo) (nx h.ho),by rw[kal D.ox.symm];exact h.ob,kad,by rw[kal D.op.symm];exact h.hp,by rw[kal D.om.symm];exact h.hm⟩
theorem S3.setP(h:S3 H0 x C dx fs o p mk a b c H)(D:Ds H0 x o p mk):S3 H0 x C dx fs o p mk a d c (upd H p (.lst d)):=
 ⟨fun y u n e=>kbA (h.bt y u n e) fun u' e'=>ev_eq (by rw[kal (kaj e D.fp)];exact e') fun t=>kdW t (kaj e D.fp) (nx h.hp),by rw[kal D.px.symm];exact h.ob,by rw[kal D.op];exact h.ho,kad,by rw[kal D.pm.symm];exact h.hm⟩
theorem S3.setM(h:S3 H0 x C dx fs o p mk a b c H)(D:Ds H0 x o p mk):S3 H0 x C dx fs o p mk a b d (upd H mk (.lst d)):=
 ⟨fun y u n e=>kbA (h.bt y u n e) fun u' e'=>ev_eq (by rw[kal (kaj e D.fm)];exact e') fun t=>kdW t (kaj e D.fm) (nx h.hm),by rw[kal D.mx.symm];exact h.ob,by rw[kal D.om];exact h.ho,by rw[kal D.pm];exact h.hp,kad⟩
end
end Vs
namespace Vs
open PySem L2 War Kin Deal
noncomputable def MksIs(C:Addr)(H:Hp)(x:Addr)(M:Mks):Prop:=∃(dx:Addr)(fs:List (Str×V)),H x=some (.ins C dx fs)∧fs.lookup ("kind" :Str)=some (pV M.kind)∧fs.lookup ("needs" :Str)=some (.int M.needs)∧fs.lookup ("most" :Str)=some (oV M.most)∧fs.lookup ("member" :Str)=some (.bl M.member)∧fs.lookup ("once" :Str)=some (.bl M.once)∧fs.lookup ("lone" :Str)=some (.bl M.lone)
def MksIs.same{C:Addr}{H H':Hp}{x:Addr}{M:Mks}(s:Same H H'):MksIs C H x M→MksIs C H' x M:=fun⟨dx,fs,h,q⟩=>⟨dx,fs,s _ _ h,q⟩
noncomputable def SrtIs(fs:List (Str×V)):Srt→Prop
 | .off a=>fs.lookup ("amount" :Str)=some (.int a)
 | .share s b=>fs.lookup ("share" :Str)=some (.int s)∧fs.lookup ("by_line" :Str)=some (.bl b)
 | .cheap n=>fs.lookup ("many" :Str)=some (.int n)
 | .bund n p=>fs.lookup ("many" :Str)=some (.int n)∧fs.lookup ("price" :Str)=some (.int p)
 | .carr=>True
noncomputable def clsOf(d:D):Srt→Addr
 | .off _=>d.c_Off
 | .share _ _=>d.ql
 | .cheap _=>d.qo
 | .bund _ _=>d.qm
 | .carr=>d.qp
noncomputable def here:Srt→Bool
 | .off _=>true
 | .share _ _=>true
 | .cheap _=>true
 | .bund _ _=>true
 | .carr=>true
noncomputable def kmj:Srt→Bool
 | .off _=>true
 | .share _ _=>false
 | .cheap _=>false
 | .bund _ _=>false
 | .carr=>false
noncomputable def kj8:Srt→Bool
 | .off _=>false
 | .share _ _=>true
 | .cheap _=>false
 | .bund _ _=>false
 | .carr=>false
noncomputable def kgP:Srt→Bool
 | .off _=>false
 | .share _ _=>false
 | .cheap _=>true
 | .bund _ _=>false
 | .carr=>false
noncomputable def kiv:Srt→Bool
 | .off _=>false
 | .share _ _=>false
 | .cheap _=>false
 | .bund _ _=>true
 | .carr=>false
noncomputable def kbE:Srt→Bool
 | .off _=>false
 | .share _ _=>false
 | .cheap _=>false
 | .bund _ _=>false
 | .carr=>true
noncomputable def Tbs(d:D)(H:Hp):Prop:=TbAt d.tP_falling_groups H
def Tbs.same{d:D}{H H':Hp}(s:Same H H')(h:Tbs d H):Tbs d H':=s.tb h
inductive VchIs (d:D) (H:Hp) (v:Addr) (V:Vch):Prop
 |ct (mA dx:Addr)(fs:List (Str×L2.V))(_:H v=some (.ins (clsOf d V.so) dx fs))(_:fs.lookup ("marks" :Str)=some (.ref mA))(_:SrtIs fs V.so)(_:MksIs d.qi H mA V.ms)(_:here V.so=true)(_:Tbs d H):VchIs d H v V
def VchIs.same{d:D}{H H':Hp}{v:Addr}{V:Vch}(s:Same H H'):VchIs d H v V→VchIs d H' v V:=fun⟨mA,dx,fs,h1,h2,h3,h4,h5,h6⟩=>⟨mA,dx,fs,s _ _ h1,h2,h3,h4.same s,h5,h6.same s⟩
noncomputable def kds(B:Bask):List Nat:=B.rs.map fun r=>r.kd.toNat
structure Wf (ps:List (Option Nat)) (B:Bask) (S:Stnd):Prop where
 good:Good ps
 pl:ps.length≤20
 kd:∀r∈B.rs,0≤r.kd∧r.kd<(ps.length:Int)
 ok:∀r∈B.rs,r.Ok
 nl:B.rs.length≤12
 bc:0≤B.cg∧B.cg≤1000000000000
 ow:S.ow=ownN B.rs
 lp:S.pr.length=S.ow.length
 lm:S.mkd.length=B.rs.length
 pr:∀z∈S.pr,0≤z∧z≤1000000000000
 cg:0≤S.cg∧S.cg≤1000000000000
 n64:S.ow.length<64
def Wf.np{ps:List (Option Nat)}{B:Bask}{S:Stnd}(W:Wf ps B S):S.ow.length≤720:=by
 have:=kko B.rs W.ok
 have:=W.nl
 rw[W.ow]
 omega
def Wf.line{ps:List (Option Nat)}{B:Bask}{S:Stnd}(W:Wf ps B S){i l:Nat}(h:S.ow[i]?=some l):l<B.rs.length:=by
 have hm:=NA h
 rw[W.ow] at hm
 exact klW _ hm
structure MksOk (ps:List (Option Nat)) (M:Mks):Prop where
 kind:∀k,M.kind=some k→k<ps.length
 needs:0≤M.needs∧M.needs≤1000000000000
 most:∀m,M.most=some m→0≤m∧m≤1000000000000
noncomputable def mks0:Mks:=⟨none,0,none,false,false,false⟩
noncomputable def kfv:Srt→List V
 | .off a=>[.int a]
 | .share s b=>[.int s, .bl b]
 | .cheap n=>[.int n]
 | .bund n p=>[.int n, .int p]
 | .carr=>[]
noncomputable def Mrk(CM:Addr)(H:Hp)(mv:V)(H':Hp)(mA:Addr):Prop:=mv=.ref mA∨(mv=.non∧H mA=none∧MksIs CM H' mA mks0)
def MksIs.but{C x mA:Addr}{H H':Hp}{M:Mks}(n:mA≠x)(b:But x H H'):MksIs C H mA M→MksIs C H' mA M:=fun⟨dx,fs,h,q⟩=>⟨dx,fs,b _ _ n h,q⟩
theorem Mrk.but{CM x mA:Addr}{H H1 H2:Hp}{mv:V}{o:HO}(hx:H x=some o)(b:But x H1 H2):Mrk CM H mv H1 mA→Mrk CM H mv H2 mA
 | .inl e=>.inl e
 | .inr ⟨e,f,h⟩=>.inr ⟨e,f,h.but (kaj hx f).symm b⟩
inductive kfx (C:Addr) (vs:List V) (H:Hp) (Q:VK) (E_:XK):Prop
 |ct (x dx:Addr)(M:Mks)(_:vs=[.ref x,pV M.kind, .int M.needs,oV M.most, .bl M.member, .bl M.once, .bl M.lone])(_:H x=some (.ins C dx []))(_:∀H',But x H H'→MksIs C H' x M→Q .non H'):kfx C vs H Q E_
inductive kfa (K:Nt) (CM:Addr) (vs:List V) (H:Hp) (Q:VK) (E_:XK):Prop
 |ct (x C dx:Addr)(fs:List (Str×V))(mv:V)(_:vs=[.ref x,mv])(_:H x=some (.ins C dx fs))(_:Cls K C)(_:NoAttr K C "marks")(_:fs.length≤5)(_:(mv=.non∨∃mA,mv=.ref mA))(_:∀(H':Hp)(mA:Addr),But x H H'→Mrk CM H mv H' mA→H' x=some (.ins C dx (putF "marks" (.ref mA) fs))→Q .non H'):kfa K CM vs H Q E_
inductive kdt (C CM:Addr) (is:Srt→Prop) (vs:List V) (H:Hp) (Q:VK) (E_:XK):Prop
 |ct (x dx:Addr)(so:Srt)(mv:V)(_:is so)(_:vs=.ref x::(kfv so++[mv]))(_:H x=some (.ins C dx []))(_:(mv=.non∨∃mA,mv=.ref mA))(_:∀(H':Hp)(mA:Addr)(fs:List (Str×V)),But x H H'→Mrk CM H mv H' mA→H' x=some (.ins C dx fs)→fs.lookup ("marks" :Str)=some (.ref mA)→SrtIs fs so→Q .non H'):kdt C CM is vs H Q E_
theorem khY{C:Addr}{H:Hp}{M:Mks}{R:Addr→Hp→Prop}{E:XK}(k:∀(H':Hp)(x:Addr),Same H H'→H x=none→MksIs C H' x M→R x H'):
  ∀x dx,H x=none→H dx=none→dx≠x→kfx C [.ref x,pV M.kind, .int M.needs,oV M.most, .bl M.member, .bl M.once, .bl M.lone] (upd (upd H dx (.own x)) x (.ins C dx [])) (fun v H2=>v=.non∧R x H2) E:=
 fun x dx nx nd _=>⟨x,dx,M,rfl,kad,fun H' b l=>⟨rfl,k H' x (kbg nx nd b) nx l⟩⟩
def kmG{d:D}{H:Hp}{so:Srt}{mA:Addr}{M:Mks}{is:Srt→Prop}{R:Addr→Hp→Prop}{E:XK}(hi:is so)(hh:here so=true)(hM:MksIs d.qi H mA M)(k:∀(H':Hp)(x:Addr),Same H H'→H x=none→VchIs d H' x ⟨so,M⟩→R x H')(htb:Tbs d H:=by assumption):
  ∀x dx,H x=none→H dx=none→dx≠x→kdt (clsOf d so) d.qi is (.ref x::(kfv so++[.ref mA])) (upd (upd H dx (.own x)) x (.ins (clsOf d so) dx [])) (fun v H2=>v=.non∧R x H2) E:=
 fun x dx nx nd _=>⟨x,dx,so, .ref mA,hi,rfl,kad, .inr ⟨mA,rfl⟩,fun H' mA' fs b hm h1 h2 h3=>by
  have e:mA'=mA:=by
   rcases hm with e|⟨e,_⟩
   ·injection e with e
    exact e.symm
   ·cases e
  subst e
  exact⟨rfl,k H' x (kbg nx nd b) nx ⟨mA',dx,fs,h1,h2,h3,hM.same (kbg nx nd b),hh,htb.same (kbg nx nd b)⟩⟩⟩
end Vs
namespace Vs
open PySem L2 War Kin Deal
def sN{t u:TS}{D:Ends}{σ:St}{H:Hp}(h:∀N:St→Hp→Prop,(∀σ' H',u D σ' H'→N σ' H')→t {D with nx:=N} σ H):tSeq t u D σ H:=h (u D) fun _ _ q=>q
theorem kjq{CL:Addr}{H:Hp}{r:Row}{R:Addr→Hp→Prop}{E:XK}(k:∀(H':Hp)(x:Addr),Same H H'→H x=none→LineAt CL H' x r→R x H'):
  ∀x dx,H x=none→H dx=none→dx≠x→kgU CL [.ref x, .int r.kd, .int r.pr, .int r.mn,oV r.ex] (upd (upd H dx (.own x)) x (.ins CL dx [])) (fun v H2=>v=.non∧R x H2) E:=
 fun x dx nx nd _=>⟨x,dx,r,rfl,kad,fun H' b l=>⟨rfl,k H' x (kbg nx nd b) nx l⟩⟩
theorem kg8{K:Nt}{CB:Addr}{H:Hp}{l:Addr}{cg:Int}{m:Bool}{xs:List V}{R:Addr→Hp→Prop}{E:XK}(hl:SqL K H l xs)(k:∀(H':Hp)(x l':Addr),Same H H'→H x=none→H l'=none→H' l'=some (.lst xs)→BaskAt CB H' x l' cg m→R x H'):
  ∀x dx,H x=none→H dx=none→dx≠x→kgW K CB [.ref x, .ref l, .int cg, .bl m] (upd (upd H dx (.own x)) x (.ins CB dx [])) (fun v H2=>v=.non∧R x H2) E:=
 fun x dx nx nd _=>⟨x,dx,l,cg,m,xs,rfl,kad,(kaX nx nd).seq hl,fun H' l' b n h1 h2=>⟨rfl,k H' x l' (kbg nx nd b) nx (kdA n) h1 h2⟩⟩
theorem kku{CL CB CS:Addr}{H:Hp}{b l:Addr}{cg:Int}{m:Bool}{ls:List Addr}{rs:List Row}{R:Addr→Hp→Prop}{E:XK}(hb:BaskAt CB H b l cg m)(hl:H l=some (.lst (ls.map V.ref)))(hL:Lines CL H ls rs)(hn:rs.length≤12)(hok:∀r∈rs,r.Ok)
  (k:∀(H':Hp)(x o p mk:Addr),Same H H'→H x=none→H o=none→H p=none→H mk=none→StandAt CS H' x o p mk cg→H' o=some (.lst ((own rs).map V.int))→H' p=some (.lst ((prs m rs).map V.int))→H' mk=some (.lst (Nw rs.length (.bl false)))→R x H'):
  ∀x dx,H x=none→H dx=none→dx≠x→kdr CL CB CS [.ref x, .ref b] (upd (upd H dx (.own x)) x (.ins CS dx [])) (fun v H2=>v=.non∧R x H2) E:=
 fun x dx nx nd _=>⟨x,dx,b,l,cg,m,ls,rs,rfl,kad,hb.same (kaX nx nd),kgz nx nd hl,hL.same (kaX nx nd),hn,hok,fun H' o p mk bt n1 n2 n3 S h1 h2 h3 _=>⟨rfl,k H' x o p mk (kbg nx nd bt) nx (kdA n1) (kdA n2) (kdA n3) S h1 h2 h3⟩⟩
structure VchOk (ps:List (Option Nat)) (V:Vch):Prop where
 so:SrtOk V.so
 ms:MksOk ps V.ms
noncomputable def stnd0(B:Bask):Stnd:=⟨ownN B.rs,prs B.m B.rs,B.cg,Nw B.rs.length false⟩
theorem kl3{CL CB CS:Addr}{H:Hp}{b:Addr}{B:Bask}{R:Addr→Hp→Prop}{E:XK}(hb:BaskIs CL CB H b B)(hn:B.rs.length≤12)(hok:∀r∈B.rs,r.Ok)(k:∀(H':Hp)(x:Addr),Same H H'→H x=none→StndIs CS H' x (stnd0 B)→R x H'):
  ∀x dx,H x=none→H dx=none→dx≠x→kdr CL CB CS [.ref x, .ref b] (upd (upd H dx (.own x)) x (.ins CS dx [])) (fun v H2=>v=.non∧R x H2) E:=by
 obtain⟨l,ls,h1,h2,h3⟩:=hb
 refine kku h1 h2 h3 hn hok fun H' x o p mk s f1 _ _ _ hS ho hp hm=>k H' x s f1 ⟨o,p,mk,hS,?_,hp,?_⟩
 ·rw[ho,kfI]
  rfl
 ·rw[hm]
  show _=some (HO.lst ((Nw B.rs.length false).map V.bl))
  rw[List.map_replicate]
def klc{m:Bool}{r:Row}(h:r.Ok):0≤prc m r∧prc m r≤1000000000000:=by
 unfold prc
 split
 ·cases e:r.ex with
  |none=>exact⟨h.pr0,h.pr1⟩
  |some z=>exact h.ex0 z e
 ·exact⟨h.pr0,h.pr1⟩
theorem khL(m:Bool):∀(rs:List Row)(k:Nat),(rs.map fun r=>Nw r.mn.toNat (prc m r)).flatten.length=((rs.zipIdx k).map fun p=>Nw p.1.mn.toNat (p.2:Int)).flatten.length
 |[],_=>by simp
 |r::rs,k=>by
  rw[EG,NJ,NZ,NI,Mx,NJ,NZ,NI,Mx,khL m rs (k+1)]
def klR(m:Bool)(rs:List Row):(prs m rs).length=(ownN rs).length:=by
 have e:(ownN rs).length=(own rs).length:=by
  have:=congrArg Et (kfI rs)
  simpa using this.symm
 rw[e]
 exact khL m rs 0
def Wf.start{ps:List (Option Nat)}{B:Bask}(g:Good ps)(pl:ps.length≤20)(kd:∀r∈B.rs,0≤r.kd∧r.kd<(ps.length:Int))(ok:∀r∈B.rs,r.Ok)(nl:B.rs.length≤12)(bc:0≤B.cg∧B.cg≤1000000000000)(n64:(ownN B.rs).length<64):Wf ps B (stnd0 B):=by
 refine⟨g,pl,kd,ok,nl,bc,rfl,klR _ _,by simp[stnd0],fun z hz=>?_,bc,n64⟩
 obtain⟨xs,h1,h2⟩:=MI.mp hz
 obtain⟨r,hr,rfl⟩:=NQ.mp h1
 rw[(List.mem_replicate.mp h2).2]
 exact klc (ok r hr)
def Wf.nn{ps:List (Option Nat)}{B:Bask}{S:Stnd}(W:Wf ps B S):Nn S.pr:=fun z hz=>(W.pr z hz).1
def Wf.after{ps:List (Option Nat)}{B:Bask}{S:Stnd}{V:Vch}(W:Wf ps B S)(O:VchOk ps V):Wf ps B (aftM V ps (kds B) S):=by
 have h:=kmV (V:=V) (ps:=ps) (kk:=kds B) W.nn W.cg.1 O.so fun m e=>(O.ms.most m e).1
 refine⟨W.good,W.pl,W.kd,W.ok,W.nl,W.bc,W.ow,h.1.1.trans W.lp,by rw[←W.lm];simp[aftM],fun z hz=>?_,⟨h.2.1,Int.le_trans h.2.2 W.cg.2⟩,W.n64⟩
 obtain⟨j,e1⟩:=MB.mp hz
 have hj:j<S.pr.length:=by
  rw[←h.1.1]
  exact(NG.mp e1).1
 have e2:S.pr[j]?=some S.pr[j]:=by simp[hj]
 have b:=h.1.2 j z _ e1 e2
 have c:=W.pr _ (NA e2)
 exact⟨b.1,Int.le_trans b.2 c.2⟩
inductive kiW (K:Nt) (d:D) (vs:List V) (H:Hp) (Q:VK) (E_:XK):Prop
 |ct (v a b x:Addr)(V:Vch)(ps:List (Option Nat))(B:Bask)(S:Stnd)(_:vs=[.ref v, .ref a, .ref b, .ref x])(_:VchIs d H v V)(_:SqL K H a (ps.map pV))(_:BaskIs d.qe d.qg H b B)(_:StndIs d.qd H x S)(_:Wf ps B S)(_:VchOk ps V)(_:∀(H':Hp)(p:Addr),Same H H'→H p=none→H' p=some (.lst ((abt ps (kds B) V.ms.kind V.ms.lone S).map iV))→Q (.ref p) H'):kiW K d vs H Q E_
inductive kk8 (K:Nt) (d:D) (vs:List V) (H:Hp) (Q:VK) (E_:XK):Prop
 |ct (v a b x:Addr)(V:Vch)(ps:List (Option Nat))(B:Bask)(S:Stnd)(_:vs=[.ref v, .ref a, .ref b, .ref x])(_:VchIs d H v V)(_:SqL K H a (ps.map pV))(_:BaskIs d.qe d.qg H b B)(_:StndIs d.qd H x S)(_:Wf ps B S)(_:VchOk ps V)(_:∀(H':Hp)(t p:Addr),Same H H'→H t=none→H p=none→H' t=some (.tup [.ref p, .int (cutM V ps (kds B) S).2])→H' p=some (.lst ((cutM V ps (kds B) S).1.map L2.V.int))→Q (.ref t) H'):kk8 K d vs H Q E_
theorem cl_of{K:Nt}{mg:Str→Option Value}{d:D}{base:Heap}(W:WB K mg d base):∀{so:Srt},here so=true→Cls K (clsOf d so)
 | .off _,h=>W.c_Off.cl
 | .share _ _,h=>W.ql.cl
 | .cheap _,h=>W.qo.cl
 | .bund _ _,h=>W.qm.cl
 | .carr,h=>W.qp.cl
theorem na_of{K:Nt}{mg:Str→Option Value}{d:D}{base:Heap}(W:WB K mg d base):∀{so:Srt},here so=true→NoAttr K (clsOf d so) "marks"
 | .off _,h=>W.VI
 | .share _ _,h=>W.VM
 | .cheap _,h=>W.VO
 | .bund _ _,h=>W.VR
 | .carr,h=>W.VS
theorem kll{K:Nt}{mg:Str→Option Value}{d:D}{base:Heap}(W:WB K mg d base):∀{so:Srt},here so=true→Isi K (clsOf d so)
 | .off _,h=>W.c_Off.isi
 | .share _ _,h=>W.ql.isi
 | .cheap _,h=>W.qo.isi
 | .bund _ _,h=>W.qm.isi
 | .carr,h=>W.qp.isi
theorem kgB{K:Nt}{mg:Str→Option Value}{d:D}{base:Heap}(W:WB K mg d base):∀{so:Srt},here so=true→NL K (.ref (clsOf d so)) (.ref d.qp)=some (kbE so)
 | .off _,h=>W.Ul
 | .share _ _,h=>W.Um
 | .cheap _,h=>W.Uo
 | .bund _ _,h=>W.Uq
 | .carr,h=>kc4 _ _
theorem kl5{K:Nt}{mg:Str→Option Value}{d:D}{base:Heap}(W:WB K mg d base):∀{so:Srt},here so=true→NL K (.ref (clsOf d so)) (.ref d.c_Off)=some (kmj so)
 | .off _,h=>kc4 _ _
 | .share _ _,h=>W.Ur
 | .cheap _,h=>W.Us
 | .bund _ _,h=>W.Ut
 | .carr,h=>W.Uu
theorem kdC{K:Nt}{mg:Str→Option Value}{d:D}{base:Heap}(W:WB K mg d base):∀{so:Srt},here so=true→NL K (.ref (clsOf d so)) (.ref d.ql)=some (kj8 so)
 | .off _,h=>W.Uv
 | .share _ _,h=>kc4 _ _
 | .cheap _,h=>W.Uw
 | .bund _ _,h=>W.Ux
 | .carr,h=>W.Uy
theorem kcW{K:Nt}{mg:Str→Option Value}{d:D}{base:Heap}(W:WB K mg d base):∀{so:Srt},here so=true→NL K (.ref (clsOf d so)) (.ref d.qo)=some (kgP so)
 | .off _,h=>W.Uz
 | .share _ _,h=>W.UA
 | .cheap _,h=>kc4 _ _
 | .bund _ _,h=>W.UB
 | .carr,h=>W.UC
theorem kfi{K:Nt}{mg:Str→Option Value}{d:D}{base:Heap}(W:WB K mg d base):∀{so:Srt},here so=true→NL K (.ref (clsOf d so)) (.ref d.qm)=some (kiv so)
 | .off _,h=>W.UD
 | .share _ _,h=>W.UE
 | .cheap _,h=>W.UF
 | .bund _ _,h=>kc4 _ _
 | .carr,h=>W.UG
def pickI{zs:List Int}{m:Int}(h0:0≤m)(h1:m<(zs.length:Int)):∃z,atI (zs.map V.int) m=some (.int z)∧z∈zs:=by
 obtain⟨j,rfl⟩:=Int.eq_ofNat_of_zero_le h0
 obtain⟨z,ez⟩:=at_of (xs:=zs) (i:=j) (by omega)
 exact⟨z,kaU (by rw[NC,ez];rfl),NA ez⟩
theorem kdJ{b:Int}:∀{q:List Int},(∀z∈q,z≤b)→q.sum≤b*q.length
 |[],_=>by simp
 |z::q,h=>by
  have h1:=h z NW
  have h2:=kdJ (q:=q) fun x hx=>h x (NP _ hx)
  rw[MR,N8]
  have e:b*((q.length+1:Nat):Int)=b*q.length+b:=by rw[Int.natCast_add,Int.mul_add];simp
  omega
def ki5{ps:List (Option Nat)}{B:Bask}{S:Stnd}(wf:Wf ps B S){ab:List Nat}(hl:ab.length≤720)(hb:∀i∈ab,i<S.pr.length):(qs S.pr ab).sum≤720000000000000:=by
 have h:=kdJ (b:=1000000000000) (q:=qs S.pr ab) fun z hz=>by
  obtain⟨i,hi,rfl⟩:=NQ.mp hz
  obtain⟨w,ew⟩:=at_of (hb i hi)
  rw[NR,ew]
  exact(wf.pr w (NA ew)).2
 rw[kb6] at h
 omega
def kmf(xs:List V)(i k:Nat):cutV xs (some (i:Int)) (some ((i+k:Nat):Int))=(xs.drop i).take k:=by
 unfold cutV
 rw[HT.sIx_nat,HT.sIx_nat]
 by_cases h:i≤xs.length
 ·rw[MM h,Du,Ef]
  omega
 ·rw[Ex (by omega),Ex (by omega)]
  simp
def kl1{d:D}{H:Hp}{so:Srt}{is:Srt→Prop}{R:Addr→Hp→Prop}{E:XK}(hi:is so)(hh:here so=true)(k:∀(H':Hp)(x:Addr),Same H H'→H x=none→VchIs d H' x ⟨so,mks0⟩→R x H')(htb:Tbs d H:=by assumption):
  ∀x dx,H x=none→H dx=none→dx≠x→kdt (clsOf d so) d.qi is (.ref x::(kfv so++[.non])) (upd (upd H dx (.own x)) x (.ins (clsOf d so) dx [])) (fun v H2=>v=.non∧R x H2) E:=
 fun x dx nx nd _=>⟨x,dx,so, .non,hi,rfl,kad, .inl rfl,fun H' mA' fs b hm h1 h2 h3=>by
  rcases hm with e|⟨_,_,hM⟩
  ·cases e
  ·exact⟨rfl,k H' x (kbg nx nd b) nx ⟨mA',dx,fs,h1,h2,h3,hM,hh,htb.same (kbg nx nd b)⟩⟩⟩
def kj6{α:Type}{xs:List α}{v: α}(h:xs[xs.length-1]?=some v)(h0:0<xs.length):atI xs (-1)=some v:=by
 unfold atI ixN
 rw[if_neg (by omega),if_pos (by omega)]
 show xs[(-1+(xs.length:Int)).toNat]?=some v
 rw[show(-1+(xs.length:Int)).toNat=xs.length-1 by omega]
 exact h
def khE{H0 H1 H2:Hp}{x:Addr}(f:H0 x=none)(s:Same H0 H1)(b:But x H1 H2):Same H0 H2:=fun y u e=>kbA (s y u e) fun u' e'=>b y u' (kaj e f) e'
noncomputable def hindM(V:Vch)(ps:List (Option Nat))(B:Bask)(S:Stnd):L2.V:=
 if(V.ms.member&& !B.m)=true then .str "member" else if(abt ps (kds B) V.ms.kind V.ms.lone S).length=0 then .str "nothing" else if(qs S.pr (abt ps (kds B) V.ms.kind V.ms.lone S)).sum<V.ms.needs then .str "needs" else .non
inductive kk5 (K:Nt) (d:D) (vs:List V) (H:Hp) (Q:VK) (E_:XK):Prop
 |ct (v a b x:Addr)(V:Vch)(ps:List (Option Nat))(B:Bask)(S:Stnd)(_:vs=[.ref v, .ref a, .ref b, .ref x])(_:VchIs d H v V)(_:SqL K H a (ps.map pV))(_:BaskIs d.qe d.qg H b B)(_:StndIs d.qd H x S)(_:Wf ps B S)(_:VchOk ps V)(_:∀(H':Hp),Same H H'→Q (hindM V ps B S) H'):kk5 K d vs H Q E_
noncomputable def atM(m:Option Int)(n:Int):Int:=match m with
 |none=>n
 |some m=>min m n
def none_of{H H':Hp}(s:Same H H'){p:Addr}(h:H' p=none):H p=none:=s.free h
def kj4{x:Addr}{H H':Hp}(b:But x H H')(n:H x=none):Same H H':=fun y u e=>b y u (kaj e n) e
theorem kjp{CL CB CS:Addr}{H:Hp}{b l:Addr}{cg:Int}{m:Bool}{ls:List Addr}{rs:List Row}{R:Addr→Hp→Prop}{E:XK}(hb:BaskAt CB H b l cg m)(hl:H l=some (.lst (ls.map V.ref)))(hL:Lines CL H ls rs)(hn:rs.length≤12)(hok:∀r∈rs,r.Ok)
  (k:∀(H':Hp)(x:Addr),Same H H'→H x=none→∀(dx:Addr)(fs:List (Str×V)),H' x=some (.ins CS dx fs)→fs.length≤10→fs.lookup ("whole" :Str)=none→R x H'):
  ∀x dx,H x=none→H dx=none→dx≠x→kdr CL CB CS [.ref x, .ref b] (upd (upd H dx (.own x)) x (.ins CS dx [])) (fun v H2=>v=.non∧R x H2) E:=
 fun x dx nx nd _=>⟨x,dx,b,l,cg,m,ls,rs,rfl,kad,hb.same (kaX nx nd),kgz nx nd hl,hL.same (kaX nx nd),hn,hok,fun H' o p mk bt n1 n2 n3 S h1 h2 h3 fw=>by
  obtain⟨dx',fs,e,hf⟩:=fw
  obtain⟨dx2,fs2,e2,_,_,_,_,hw⟩:=S
  rw[e] at e2
  injection e2 with e2
  injection e2 with _ e3 e4
  subst e4
  exact⟨rfl,k H' x (kbg nx nd bt) nx dx' fs e hf hw⟩⟩
theorem kjQ{V:Vch}{ps:List (Option Nat)}{kk:List Nat}{S:Stnd}(vo:VchOk ps V):(cutM V ps kk S).2=if kbE V.so=true then atM V.ms.most S.cg else 0:=by
 have hm:=vo.ms.most
 unfold cutM
 simp only
 cases e:V.ms.most with
 |none=>
  unfold cap atM
  simp only
  unfold fee kbE
  cases V.so <;> rfl
 | some m=>
  have h0:=(hm m e).1
  unfold cap atM
  simp only
  cases eso:V.so with
  | carr=>
   have hz:(want .carr S.mkd.length ((abt ps kk V.ms.kind V.ms.lone S).map fun i=>S.ow.getD i 0) (qs S.pr (abt ps kk V.ms.kind V.ms.lone S))).sum=0:=by
    unfold want
    simp
   show(if m<_+S.cg then _ else _:List Int×Int).2=min m S.cg
   rw[hz,Int.zero_add]
   split
   ·show min S.cg m=_
    omega
   ·show S.cg=_
    omega
  | _=>
   show(if m<_+0 then(_,min 0 m) else(_,0):List Int×Int).2=0
   split
   ·show min 0 m=0
    omega
   ·rfl
def kmL{B:Bask}{l:Nat}{r:Row}(h:B.rs[l]?=some r):(kds B).getD l 0=r.kd.toNat:=by
 unfold kds
 rw[NR,NC,h]
 rfl
theorem kkV{ps:List (Option Nat)}{kk:List Nat}{kind:Option Nat}{lone:Bool}{S:Stnd}{i:Nat}:
  (NB (i+1)).filter (fun i=>hits ps kk kind lone S.mkd (S.ow.getD i 0))=(NB i).filter (fun i=>hits ps kk kind lone S.mkd (S.ow.getD i 0))++(if hits ps kk kind lone S.mkd (S.ow.getD i 0)=true then [i] else []):=by
 rw[MH,M7]
 congr 1
 simp only[MU,List.filter_nil]
noncomputable def GrpAt(H H':Hp)(pa:Addr)(t:Addr)(q:Int×List Nat):Prop:=∃ga,H' t=some (.tup [.int q.1, .ref ga])∧H' ga=some (.lst (q.2.map iV))∧(ga=pa∨H ga=none)
inductive khr (d:D) (vs:List V) (H:Hp) (Q:VK) (E_:XK):Prop
 |ct (v x pa:Addr) (V:Vch) (ps:List (Option Nat)) (B:Bask) (S:Stnd) (_:vs=[.ref v, .ref x, .ref pa]) (_:VchIs d H v V) (_:StndIs d.qd H x S) (_:H pa=some (.lst ((abt ps (kds B) V.ms.kind V.ms.lone S).map iV))) (_:Wf ps B S) (_:VchOk ps V) (_:∀(H':Hp) (p:Addr) (tl:List Addr) (gl:List (Int×List Nat)),Same H H'→H p=none→H' p=some (.lst (tl.map L2.V.ref))→P2 (GrpAt H H' pa) tl gl→(∀c g,(c,g)∈gl→0≤c∧c≤(qs S.pr g).sum∧g.length≤720)→(gl.map Prod.snd).flatten.Nodup→(∀i∈(gl.map Prod.snd).flatten,i<S.pr.length)→gl.length≤720→
  spr S.pr.length (gl.map Prod.snd).flatten (gl.map fun p=>dl p.1 (qs S.pr p.2)).flatten=spr S.pr.length (abt ps (kds B) V.ms.kind V.ms.lone S) (want V.so S.mkd.length ((abt ps (kds B) V.ms.kind V.ms.lone S).map fun i=>S.ow.getD i 0) (qs S.pr (abt ps (kds B) V.ms.kind V.ms.lone S)))→Q (.ref p) H'):khr d vs H Q E_
def kaF{H H':Hp}{p:Addr}{o:HO}(h:upd H p o=H')(f:H p=none):Same H H'∧H' p=some o:=by
 subst h
 exact⟨kak f,kad⟩
theorem But.free{x l:Addr}{H H':Hp}{o:HO}(b:But x H H')(hx:H' x=some o)(h:H' l=none):H l=none:=by
 cases q:H l with
 |none=>rfl
 |some u=>
  obtain⟨o',e'⟩:=kf0 (b l u (kaj hx h).symm q)
  rw[e'] at h
  cases h
structure Rul where
 w:Str
 a:Nat
 b:Nat
structure TillD where
 ps:List (Option Nat)
 vs:List Vch
 rs:List Rul
 bk:Str
noncomputable def RulIs(H:Hp)(a:Addr)(r:Rul):Prop:=H a=some (.tup [.str r.w,iV r.a,iV r.b])
inductive TillIs (d:D) (H:Hp) (t:Addr) (T:TillD):Prop
 |ct (dx:Addr)(fs:List (Str×V))(p vl rl:Addr)(va ra:List Addr)(_:H t=some (.ins d.qf dx fs))(_:fs.lookup ("parents" :Str)=some (.ref p))(_:fs.lookup ("vouchers" :Str)=some (.ref vl))(_:fs.lookup ("rules" :Str)=some (.ref rl))(_:fs.lookup ("back" :Str)=some (.str T.bk))(_:H p=some (.lst (T.ps.map pV)))(_:H vl=some (.lst (va.map V.ref)))(_:P2 (fun a V=>VchIs d H a V) va T.vs)(_:H rl=some (.lst (ra.map V.ref)))(_:P2 (fun a r=>RulIs H a r) ra T.rs):TillIs d H t T
def TillIs.same{d:D}{H H':Hp}{t:Addr}{T:TillD}(s:Same H H'):TillIs d H t T→TillIs d H' t T:=fun⟨dx,fs,p,vl,rl,va,ra,h1,h2,h3,h4,h5,h6,h7,h8,h9,h10⟩=>
 ⟨dx,fs,p,vl,rl,va,ra,s _ _ h1,h2,h3,h4,h5,s _ _ h6,s _ _ h7,h8.mono fun a V h=>h.same s,s _ _ h9,h10.mono fun a r h=>s _ _ h⟩
structure kcp (T:TillD):Prop where
 vs:∀V∈T.vs,VchOk T.ps V
 nv:T.vs.length≤8
inductive WayAt (d:D) (m:Nat) (H:Hp) (w t b x:Addr) (hand:List Int) (used:List Nat):Prop
 |ct (dx:Addr)(fs:List (Str×V))(h u:Addr)(_:H w=some (.ins d.c_Way dx fs))(_:fs.lookup ("till" :Str)=some (.ref t))(_:fs.lookup ("basket" :Str)=some (.ref b))(_:fs.lookup ("hand" :Str)=some (.ref h))(_:fs.lookup ("used" :Str)=some (.ref u))(_:fs.lookup ("standing" :Str)=some (.ref x))(_:fs.lookup ("word_for" :Str)=none)(_:fs.lookup ("behind" :Str)=none)(_:fs.lookup ("is_let_by" :Str)=none)(_:fs.lookup ("followers" :Str)=none)(_:fs.length≤m)(_:H h=some (.lst (hand.map V.int)))(_:H u=some (.lst (used.map iV))):WayAt d m H w t b x hand used
noncomputable abbrev WayIs(d:D)(H:Hp)(w t b x:Addr)(hand:List Int)(used:List Nat):Prop:=WayAt d 7 H w t b x hand used
def WayAt.most{d:D}{m m':Nat}{H:Hp}{w t b x:Addr}{hand:List Int}{used:List Nat}(hm:m≤m'):WayAt d m H w t b x hand used→WayAt d m' H w t b x hand used:=fun⟨dx,fs,h,u,h1,h2,h3,h4,h5,h6,h7,h8,h9,h10,h11,h12,h13⟩=>
 ⟨dx,fs,h,u,h1,h2,h3,h4,h5,h6,h7,h8,h9,h10,Nx h11 hm,h12,h13⟩
def WayAt.same{d:D}{m:Nat}{H H':Hp}{w t b x:Addr}{hand:List Int}{used:List Nat}(s:Same H H'):WayAt d m H w t b x hand used→WayAt d m H' w t b x hand used:=fun⟨dx,fs,h,u,h1,h2,h3,h4,h5,h6,h7,h8,h9,h10,h11,h12,h13⟩=>
 ⟨dx,fs,h,u,s _ _ h1,h2,h3,h4,h5,h6,h7,h8,h9,h10,h11,s _ _ h12,s _ _ h13⟩
noncomputable def nevR(used:List Nat)(n:Nat)(r:Rul):Bool:=decide (r.w=("never" :Str))&&((decide (r.a=n)&&used.contains r.b)||(decide (r.b=n)&&used.contains r.a))
noncomputable def kfg(rs:List Rul)(used:List Nat)(n:Nat):Bool:=rs.any (nevR used n)
noncomputable def ahdR(used:List Nat)(n:Nat)(r:Rul):Bool:=decide (r.w=("ahead" :Str))&&(decide (r.a=n)&&used.contains r.b)
noncomputable def kfn(rs:List Rul)(used:List Nat)(n:Nat):Bool:=rs.any (ahdR used n)
noncomputable def loneM(order:List Nat)(r:Rul):Bool:=decide (r.w=("only" :Str))&&(order.contains r.a&& !order.contains r.b)
noncomputable def onlyM(rs:List Rul)(order:List Nat):Option Nat:=(rs.find? (loneM order)).map Rul.a
noncomputable def sV:Option Str→V
 |none=>.non
 |some z=>.str z
noncomputable def wordM(V:Vch)(rs:List Rul)(hand:List Int)(used:List Nat)(n:Nat):Option Str:=
 if hand.getD n 0<(used.count n:Int)+1 then some "held" else if(V.ms.once&&used.contains n)=true then some "once" else if kfg rs used n=true then some "never" else if kfn rs used n=true then some "ahead" else none
noncomputable def dueM(V:Vch)(T:TillD)(B:Bask)(hand:List Int)(used:List Nat)(S:Stnd)(n:Nat):L2.V:=match wordM V T.rs hand used n with
 |some z=>.str z
 |none=>hindM V T.ps B S
theorem kcX{n:Nat}:∀(l:List Nat),inV (iV n) (l.map iV)=l.contains n
 |[]=>rfl
 | m::l=>by
  have ih:=kcX (n:=n) l
  unfold inV at ih⊢
  rw[NJ,MC,ih,List.contains_cons]
  congr 1
  show eqV (V.int (m:Int)) (V.int (n:Int))=(n==m)
  by_cases h:n=m
  ·subst h
   simp[eqV]
  ·have h1:¬((m:Int)=(n:Int)):=by omega
   have e2:(n==m)=false:=beq_eq_false_iff_ne.mpr h
   rw[e2]
   simp[eqV,h1]
theorem kf4(l:List Nat)(n:Nat):(l.map fun(i:Nat)=>(i:Int)).count (n:Int)=l.count n:=by
 induction l with
 |nil=>rfl
 | cons m l ih=>
  rw[NJ,Ej,Ej,ih]
  congr 1
  by_cases h:m=n
  ·subst h;simp
  ·have h1:¬((m:Int)=(n:Int)):=by omega
   have e1:((m:Int)==(n:Int))=false:=beq_eq_false_iff_ne.mpr h1
   have e2:(m==n)=false:=beq_eq_false_iff_ne.mpr h
   rw[e1,e2]
def kgF(a b:Nat):decide (iV a=iV b)=decide (a=b):=by
 by_cases h:a=b
 ·subst h;simp
 ·have n:¬(iV a=iV b):=fun e=>h (by have:=V.int.inj e;omega)
  rw[decide_eq_false h,decide_eq_false n]
def eq_str(a b:Str):decide (V.str a=V.str b)=decide (a=b):=by
 by_cases h:a=b
 ·subst h;simp
 ·have n:¬(V.str a=V.str b):=fun e=>h (V.str.inj e)
  rw[decide_eq_false h,decide_eq_false n]
section
variable {P:Program} {w:World} {K:Nt} {mg:Str→Option Value} {base:Heap} {d:D}
abbrev FO{K:Nt}{mg:Str→Option Value}{d:D}{base:Heap}(P:Program)(w:World)(_:WB K mg d base):=FnOk P w K mg base CX0
theorem Xv:kao ["parents","one","other","kind"] ["parents","one","other"] (kag kg0):=by ac_rfl
theorem kkq(W:WB K mg d base):FO P w W 1 d.XX d.XY ["parents","one","other"] (kiK K):=by
 exists W.Z9.F,Xv
 ·obtain⟨a,ps,one,other,rfl,hS,hg,ho,k⟩:=h
  refine⟨_,kac (psl (i:=3) Xv.nd (pv 1))
   (kac (khJ PassesOwn.never (kas kdm (pv 3) ka1 (kav _))
   (kac (ps_if (kas op_eq (pv 3) (pv 2) (kav _)) (kah (kap pe_bl)) (kat))
   (kah (psl (i:=3) Xv.nd (pe_ix (r:=rIxL K) kaC (pv 0) (pv 3) (fun _ _=>rfl))))))
   (kah (kap pe_bl))),?_⟩
  refine⟨_,rfl,?_⟩
  refine khn (fun σ H'=>∃o:Option Nat,σ=[some (.ref a),some (.int one),some (.int other),some (pV o)]∧H'=H∧(∀i,o=some i→i<ps.length)∧decide (other∈up ps one)=decide (other∈rest ps o))
   (fun σ _=>match σ with|[_,_,_,some (.int i)]=>i.toNat+1|_=>0) ⟨some one,rfl,rfl,fun i e=>by cases e;exact ho,rfl⟩ ?_ ?_
  ·rintro σ H' ⟨o,rfl,rfl,hb,he⟩
   refine⟨_,rfl,rfl,_,rfl,?_⟩
   cases o with
   |none=>
    show if(!decide (V.non=V.non))=true then _ else _
    rw[klg]
    refine iteF ?_
    show Q (.bl false) _
    have e:decide (other∈up ps one)=false:=by rw[he];simp[Kin.rest]
    rw[e] at k
    exact k
   | some i=>
    show if(!decide (V.int i=V.non))=true then _ else _
    rw[klh]
    refine iteT ?_
    have hi:=hb i rfl
    refine⟨_,rfl,_,rfl,rfl,_,rfl,?_⟩
    show if decide (V.int i=V.int other)=true then _ else _
    rw[eq_int]
    obtain⟨o,eo⟩:∃o,ps[i]?=some o:=⟨ps[i],by simp[hi]⟩
    refine ite2 (fun h=>?_) (fun h=>?_)
    ·have h':i=other:=of_decide_eq_true h
     subst h'
     have e:decide (i∈up ps one)=true:=by
      rw[he]
      show decide (i∈up ps i)=true
      rw[up_eq hg eo]
      simp
     rw[e] at k
     exact k
    ·have h':¬i=other:=fun z=>h (decide_eq_true z)
     refine⟨_,rfl,_,rfl,a,_,_,pV o,rfl,rfl,hS,kaU (by simp[eo]),?_⟩
     refine⟨⟨o,rfl,rfl,fun j e=>?_,?_⟩,?_⟩
     ·subst e
      have:=hg i j eo
      omega
     ·rw[he]
      show decide (other∈up ps i)=_
      rw[up_eq hg eo]
      have:¬other=i:=fun z=>h' z.symm
      simp[this]
     ·cases o with
      |none=>exact Nat.succ_pos _
      |some j=>
       have:=hg i j eo
       show((j:Int)).toNat+1<((i:Int)).toNat+1
       omega
  ·rintro σ H' Q' Q'' hq ⟨v,h1,h2,h3⟩
   exact⟨v,h1,h2,by obtain⟨b,e,q⟩:=h3;exact⟨b,e,hq _ _ q⟩⟩
theorem qB:kao ["cut","weights","total","parts","reached","given","weight","share"] ["cut","weights"] (kag kg2):=by ac_rfl
theorem kkr(W:WB K mg d base):FO P w W 1 d.XU d.XW ["cut","weights"] (kiT K):=by
 exists W.Q6.F,qB
 ·obtain⟨c,a,ws,rfl,hS,hn,hs,hc0,hc1,hl,k⟩:=h
  refine⟨_,kac (psl (i:=2) qB.nd (kau (r:=rSum K) (kbO rfl) (by rfl) W.B.sum b_sum (kaa (pv 1) kae)))
   (kac (ps_if (kas op_eq (pv 2) kaf (kav _)) (kah (kap (kbf (N:=["weight"]) (CompScope.plain rfl (by decide +kernel) (by decide +kernel) (by decide +kernel) (nd1 _)) rfl (kaG (K:=K) (pv 1)) (fun _ _ _ _=>pgn (i:=0) (nd1 _)) (fun _ _ _ _=>kaf)))) (kat))
   (kac (psl (i:=3) qB.nd (kaK kae))
   (kac (psl (i:=4) qB.nd kaf)
   (kac (psl (i:=5) qB.nd kaf)
   (kac (kbp PassesOwn.never rfl (kaG (K:=K) (pv 1)) (pgn (i:=6) qB.nd)
   (kac (kms (i:=4) qB.nd rfl (Or.inl rfl) (pv 6) kmM)
   (kac (psl (i:=7) qB.nd (pe_op kkp (pe_op kb7 (pv 0) (pv 4)) (pv 2)))
   (kac (kaS (pe_bm N4 Mu Mv ka5 (pv 3) (kaa (pe_op kcB (pv 7) (pv 5)) kae)))
   (kah (psl (i:=5) qB.nd (pv 7)))))))
   (kah (kap (pv 3)))))))),?_⟩
  refine⟨_,rfl,a,ws,rfl,hS,_,rfl,rfl,_,rfl,?_⟩
  refine ite2 (fun h=>?_) (fun h=>?_)
  ·have h0:ws.sum=0:=by
    have e:V.int ws.sum=V.int 0:=of_decide_eq_true h
    injection e
   refine⟨_,rfl,a,rfl,⟨_,hS⟩,kaO (xs:=ws.map V.int) (fun i σ ys H'=>H'=H∧ys=Nw i (V.int 0)∧∃v,σ=[v]) ⟨rfl,rfl,none,rfl⟩ ?_ ?_ ?_ ?_⟩
   ·rw[Nr]
    exact NF (kan hl)
   ·rintro i σ ys H' hi ⟨rfl,rfl,v,rfl⟩
    exact⟨hS,by simp⟩
   ·rintro i x σ ys H' hx ⟨rfl,rfl,v,rfl⟩
    exact⟨rfl,by rw[Dh],_,rfl⟩
   ·rintro σ ys H' ⟨rfl,rfl,v,rfl⟩ D hD
    have:=k D hD
    rw[kkv h0] at this
    rw[Nr]
    exact this
  ·have h0:¬ws.sum=0:=fun e=>h (by rw[e];simp)
   have hpos:0<ws.sum:=by
    have:=kb5 hn
    omega
   refine⟨by decide,fun p hp=>?_⟩
   have s1:∀o,Same H (upd H p o):=fun o=>kak hp
   refine⟨_,rfl,a,rfl,⟨_,(s1 _).seq hS⟩,kbN (K:=K) (a:=a) (xs:=ws.map V.int) (fun i σ H'=>H'=upd H p (.lst (((NB i).map (part c ws)).map V.int))∧
    ∃(v6 v7:Option V),σ=[some (.int c),some (.ref a),some (.int ws.sum),some (.ref p),some (.int (pre ws i)),some (.int (c*pre ws i/ws.sum)),v6,v7])
    ⟨rfl,none,none,by simp[kkk];rfl⟩ (fun i σ H' _ ⟨e,_⟩=>by rw[e];exact(s1 _).seq hS) ?_ ?_⟩
   ·rintro i x σ H' hi ⟨rfl,v6,v7,rfl⟩
    have hil:i<(ws.map V.int).length:=(NG.mp hi).1
    rw[Nr] at hil
    obtain⟨z,ez,rfl⟩:∃z,ws[i]?=some z∧x=V.int z:=by
     rw[NC] at hi
     cases e:ws[i]? with
     |none=>rw[e] at hi;cases hi
     |some z=>rw[e] at hi;exact⟨z,rfl,(Option.some.inj hi).symm⟩
    have ep:=kej ez
    refine⟨_,rfl,_,rfl,_,_,rfl,rfl,?_⟩
    refine⟨_,rfl,_,rfl,_,_,rfl,rfl, .inl ⟨by omega,by omega⟩,_,rfl,_,_,rfl,rfl,⟨hpos,by omega⟩,?_⟩
    refine⟨_,rfl, .inl ⟨rfl,_,SqL.of kad⟩,_,rfl,_,rfl,_,_,rfl,rfl,p,_,_,rfl,rfl,kad,kan (by simp;omega),?_⟩
    refine⟨_,rfl,?_,some (.int z),some (.int (c*(pre ws i+z)/ws.sum)),?_⟩
    ·rw[klz,MH,Ny,Ny]
     show upd H p (.lst (_++[V.int (c*(pre ws i+z)/ws.sum-c*pre ws i/ws.sum)]))=upd H p (.lst (_++[V.int (part c ws i)]))
     unfold part
     rw[ep]
    ·rw[ep]
     rfl
   ·rintro σ H' ⟨rfl,v6,v7,rfl⟩
    refine⟨_,rfl,?_⟩
    have:=k p hp
    rw[kjr h0] at this
    rw[Nr]
    exact this
theorem kfC:kao ["self","kind","needs","most","member","once","lone"] ["self","kind","needs","most","member","once","lone"] (kag kaZ):=by ac_rfl
theorem kdy(W:WB K mg d base):FO P w W 1 d.Zn d.qD ["self","kind","needs","most","member","once","lone"] (kfx d.qi):=by
 exists W.QH.F,kfC
 ·obtain⟨x,dx,M,rfl,hx,k⟩:=h
  refine⟨_,kac (kaw (pv 0) (pv 1) rfl)
   (kac (kaw (pv 0) (pv 2) rfl)
   (kac (kaw (pv 0) (pv 3) rfl)
   (kac (kaw (pv 0) (pv 4) rfl)
   (kac (kaw (pv 0) (pv 5) rfl)
   (kah (kaw (pv 0) (pv 6) rfl)))))),?_⟩
  refine⟨_,rfl,_,rfl,x,d.qi,dx,[],rfl,hx,W.qi.cl,W.QG,by decide,?_⟩
  refine⟨_,rfl,_,rfl,x,d.qi,dx,_,rfl,kad,W.qi.cl,W.VE,few (Nx (kam (n:=0) (Nv _)) (by decide)),?_⟩
  refine⟨_,rfl,_,rfl,x,d.qi,dx,_,rfl,kad,W.qi.cl,W.Xe,few (Nx (kam (kam (n:=0) (Nv _))) (by decide)),?_⟩
  refine⟨_,rfl,_,rfl,x,d.qi,dx,_,rfl,kad,W.qi.cl,W.VF,few (Nx (kam (kam (kam (n:=0) (Nv _)))) (by decide)),?_⟩
  refine⟨_,rfl,_,rfl,x,d.qi,dx,_,rfl,kad,W.qi.cl,W.VG,few (Nx (kam (kam (kam (kam (n:=0) (Nv _))))) (by decide)),?_⟩
  refine⟨_,rfl,_,rfl,x,d.qi,dx,_,rfl,kad,W.qi.cl,W.Xf,few (Nx (kam (kam (kam (kam (kam (n:=0) (Nv _)))))) (by decide)),?_⟩
  refine k _ (But.trans (But.trans (But.trans (But.trans (But.trans kar kar) kar) kar) kar) kar) ⟨dx,_,kad,?_,?_,?_,?_,?_,?_⟩ <;> ac_nf
theorem ket:kao ["self","marks"] ["self","marks"] (kag kaP):=by ac_rfl
theorem kba(W:WB K mg d base):FO P w W 3 d.QY d.QZ ["self","marks"] (kfa K d.qi):=by
 exists W.qu.F,ket
 ·obtain⟨x,C,dx,fs,mv,rfl,hx,hC,hN,hl,hm,k⟩:=h
  exists Xw,kdy,W
  refine⟨_,kah (kaw (pv 0) (khN (kas kdY (pv 1) ka1 (kav _)) (kkl (W.QH.mk' W.qi) Xw hr rfl W.qi.m W.b6_Marks_init (show Vals [.non, .int 0, .non, .bl false, .bl false, .bl false] [.none, .int 0 d.tok1_Marks_init, .none, .bool false, .bool false, .bool false] from(.cons rfl (.cons ⟨_,rfl⟩ (.cons rfl (.cons rfl (.cons rfl (.cons rfl .nil))))))) pass0) (pv 1)) rfl),?_⟩
  rcases hm with rfl|⟨mA,rfl⟩
  ·refine⟨_,rfl,rfl,_,rfl,iteT ?_⟩
   refine khY (M:=mks0) fun H1 mA s1 f1 hM=>?_
   refine⟨_,rfl,x,C,dx,fs,rfl,s1 _ _ hx,hC,hN,by omega,?_⟩
   have hne:mA≠x:=(kaj hx f1).symm
   refine k _ mA ((But.of_same s1).trans (kar (nx (s1 _ _ hx)))) (.inr ⟨rfl,f1,?_⟩) kad
   exact hM.but hne (kar (nx (s1 _ _ hx)))
  ·refine⟨_,rfl,rfl,_,rfl,iteF ?_⟩
   refine⟨_,rfl,_,rfl,x,C,dx,fs,rfl,hx,hC,hN,by omega,?_⟩
   exact k _ mA kar (.inl rfl) kad
theorem kgZ:kao ["self","amount","marks"] ["self","amount","marks"] (kag kbj):=by ac_rfl
theorem kg7(W:WB K mg d base):FO P w W 4 d.Zo d.Q0 ["self","amount","marks"] (kdt d.c_Off d.qi (fun so=>∃(a:Int),so=.off a)):=by
 refine FunD.ok W.Xg.F kgZ (fun vs H Q E h=>?_) (fun cdv A outer s H vs Q E hr h=>?_)
 ·obtain⟨x,dx,so,mv,⟨a,rfl⟩,rfl,_⟩:=h
  rfl
 ·obtain⟨x,dx,so,mv,⟨a,rfl⟩,rfl,hx,hm,k⟩:=h
  exists qC,kba,W
  refine⟨_,kac (kaS (keC W.Qr qC hr rfl W.qy.m W.qu.F.kp W.qu.b .nil pass0 (kaa (pv 0) (kaa (pv 2) kae))))
   (kah (kaw (pv 0) (pv 1) rfl)),?_⟩
  refine⟨_,rfl,_,rfl,x,d.c_Off,dx,[],mv,rfl,hx,W.c_Off.cl,W.VI,by decide,hm,fun H1 mA b1 hM h1=>?_⟩
  refine⟨_,rfl,_,rfl,x,d.c_Off,dx,_,rfl,h1,W.c_Off.cl,W.VH,few (Nx (kam (n:=0) (Nv _)) (by decide)),?_⟩
  refine k _ mA _ (b1.trans kar) ?_ kad ?_ ?_
  ·exact hM.but hx kar
  ·ac_nf
  ·show Mq _ _=_
   ac_nf
theorem kfB:kao ["self","share","by_line","marks"] ["self","share","by_line","marks"] (kag kaY):=by ac_rfl
theorem kfS(W:WB K mg d base):FO P w W 4 d.Zp d.QC ["self","share","by_line","marks"] (kdt d.ql d.qi (fun so=>∃(sh:Int)(bb:Bool),so=.share sh bb)):=by
 refine FunD.ok W.Xh.F kfB (fun vs H Q E h=>?_) (fun cdv A outer s H vs Q E hr h=>?_)
 ·obtain⟨x,dx,so,mv,⟨sh,bb,rfl⟩,rfl,_⟩:=h
  rfl
 ·obtain⟨x,dx,so,mv,⟨sh,bb,rfl⟩,rfl,hx,hm,k⟩:=h
  exists qC,kba,W
  refine⟨_,kac (kaS (keC W.Qr qC hr rfl W.qy.m W.qu.F.kp W.qu.b .nil pass0 (kaa (pv 0) (kaa (pv 3) kae))))
   (kac (kaw (pv 0) (pv 1) rfl)
   (kah (kaw (pv 0) (pv 2) rfl))),?_⟩
  refine⟨_,rfl,_,rfl,x,d.ql,dx,[],mv,rfl,hx,W.ql.cl,W.VM,by decide,hm,fun H1 mA b1 hM h1=>?_⟩
  refine⟨_,rfl,_,rfl,x,d.ql,dx,_,rfl,h1,W.ql.cl,W.VJ,few (Nx (kam (n:=0) (Nv _)) (by decide)),?_⟩
  refine⟨_,rfl,_,rfl,x,d.ql,dx,_,rfl,kad,W.ql.cl,W.VL,few (Nx (kam (kam (n:=0) (Nv _))) (by decide)),?_⟩
  refine k _ mA _ ((b1.trans kar).trans kar) ?_ kad ?_ ?_
  ·exact hM.but hx (But.trans kar kar)
  ·ac_nf
  ·exact⟨by ac_nf,by ac_nf⟩
theorem keb:kao ["self","many","marks"] ["self","many","marks"] (kag kaL):=by ac_rfl
theorem keg(W:WB K mg d base):FO P w W 4 d.Zq d.Q1 ["self","many","marks"] (kdt d.qo d.qi (fun so=>∃(n:Int),so=.cheap n)):=by
 refine FunD.ok W.Xi.F keb (fun vs H Q E h=>?_) (fun cdv A outer s H vs Q E hr h=>?_)
 ·obtain⟨x,dx,so,mv,⟨n,rfl⟩,rfl,_⟩:=h
  rfl
 ·obtain⟨x,dx,so,mv,⟨n,rfl⟩,rfl,hx,hm,k⟩:=h
  exists qC,kba,W
  refine⟨_,kac (kaS (keC W.Qr qC hr rfl W.qy.m W.qu.F.kp W.qu.b .nil pass0 (kaa (pv 0) (kaa (pv 2) kae))))
   (kah (kaw (pv 0) (pv 1) rfl)),?_⟩
  refine⟨_,rfl,_,rfl,x,d.qo,dx,[],mv,rfl,hx,W.qo.cl,W.VO,by decide,hm,fun H1 mA b1 hM h1=>?_⟩
  refine⟨_,rfl,_,rfl,x,d.qo,dx,_,rfl,h1,W.qo.cl,W.VN,few (Nx (kam (n:=0) (Nv _)) (by decide)),?_⟩
  refine k _ mA _ (b1.trans kar) ?_ kad ?_ ?_
  ·exact hM.but hx kar
  ·ac_nf
  ·show Mq _ _=_
   ac_nf
theorem ke4:kao ["self","many","price","marks"] ["self","many","price","marks"] (kag kaV):=by ac_rfl
theorem ke8(W:WB K mg d base):FO P w W 4 d.Zr d.Q2 ["self","many","price","marks"] (kdt d.qm d.qi (fun so=>∃(n:Int)(pp:Int),so=.bund n pp)):=by
 refine FunD.ok W.Xj.F ke4 (fun vs H Q E h=>?_) (fun cdv A outer s H vs Q E hr h=>?_)
 ·obtain⟨x,dx,so,mv,⟨n,pp,rfl⟩,rfl,_⟩:=h
  rfl
 ·obtain⟨x,dx,so,mv,⟨n,pp,rfl⟩,rfl,hx,hm,k⟩:=h
  exists qC,kba,W
  refine⟨_,kac (kaS (keC W.Qr qC hr rfl W.qy.m W.qu.F.kp W.qu.b .nil pass0 (kaa (pv 0) (kaa (pv 3) kae))))
   (kac (kaw (pv 0) (pv 1) rfl)
   (kah (kaw (pv 0) (pv 2) rfl))),?_⟩
  refine⟨_,rfl,_,rfl,x,d.qm,dx,[],mv,rfl,hx,W.qm.cl,W.VR,by decide,hm,fun H1 mA b1 hM h1=>?_⟩
  refine⟨_,rfl,_,rfl,x,d.qm,dx,_,rfl,h1,W.qm.cl,W.VP,few (Nx (kam (n:=0) (Nv _)) (by decide)),?_⟩
  refine⟨_,rfl,_,rfl,x,d.qm,dx,_,rfl,kad,W.qm.cl,W.VQ,few (Nx (kam (kam (n:=0) (Nv _))) (by decide)),?_⟩
  refine k _ mA _ ((b1.trans kar).trans kar) ?_ kad ?_ ?_
  ·exact hM.but hx (But.trans kar kar)
  ·ac_nf
  ·exact⟨by ac_nf,by ac_nf⟩
theorem kec:kao ["self","marks"] ["self","marks"] (kag kaM):=by ac_rfl
theorem keh(W:WB K mg d base):FO P w W 4 d.Zs d.Q3 ["self","marks"] (kdt d.qp d.qi (fun so=>so=.carr)):=by
 exists W.Xk.F,kec
 ·obtain⟨x,dx,so,mv,rfl,rfl,hx,hm,k⟩:=h
  exists qC,kba,W
  refine⟨_,kah (kaS (keC W.Qr qC hr rfl W.qy.m W.qu.F.kp W.qu.b .nil pass0 (kaa (pv 0) (kaa (pv 1) kae)))),?_⟩
  refine⟨_,rfl,_,rfl,x,d.qp,dx,[],mv,rfl,hx,W.qp.cl,W.VS,by decide,hm,fun H1 mA b1 hM h1=>?_⟩
  refine k _ mA _ b1 hM h1 ?_ trivial
  ac_nf
theorem kgq:kao ["self","kind","price","many","special"] ["self","kind","price","many","special"] (kag ka8):=by ac_rfl
theorem kd4(W:WB K mg d base):FO P w W 1 d.Zt d.Q4 ["self","kind","price","many","special"] (kgU d.qe):=by
 exists W.Qf.F,kgq
 ·obtain⟨x,dx,r,rfl,hx,k⟩:=h
  refine⟨_,kac (kaw (pv 0) (pv 1) rfl)
   (kac (kaw (pv 0) (pv 2) rfl)
   (kac (kaw (pv 0) (pv 3) rfl)
   (kah (kaw (pv 0) (pv 4) rfl)))),?_⟩
  refine⟨_,rfl,_,rfl,x,d.qe,dx,[],rfl,hx,W.qe.cl,W.Xl,by decide,?_⟩
  refine⟨_,rfl,_,rfl,x,d.qe,dx,_,rfl,kad,W.qe.cl,W.Qe,few (Nx (kam (n:=0) (Nv _)) (by decide)),?_⟩
  refine⟨_,rfl,_,rfl,x,d.qe,dx,_,rfl,kad,W.qe.cl,W.qE,few (Nx (kam (kam (n:=0) (Nv _))) (by decide)),?_⟩
  refine⟨_,rfl,_,rfl,x,d.qe,dx,_,rfl,kad,W.qe.cl,W.QI,few (Nx (kam (kam (kam (n:=0) (Nv _)))) (by decide)),?_⟩
  refine k _ (But.trans (But.trans (But.trans kar kar) kar) kar) ⟨dx,_,kad,?_,?_,?_,?_⟩
  ·rw[kab,if_neg (by decide +kernel),kab,if_neg (by decide +kernel),kab,if_neg (by decide +kernel),kab,if_pos rfl]
  ·rw[kab,if_neg (by decide +kernel),kab,if_neg (by decide +kernel),kab,if_pos rfl]
  ·rw[kab,if_neg (by decide +kernel),kab,if_pos rfl]
  ·rw[kab,if_pos rfl]
theorem ke5:kao ["self","lines","carriage","member"] ["self","lines","carriage","member"] (kag kaW):=by ac_rfl
theorem kck(W:WB K mg d base):FO P w W 1 d.Zu d.QD ["self","lines","carriage","member"] (kgW K d.qg):=by
 exists W.qM.F,ke5
 ·obtain⟨x,dx,l,cg,m,xs,rfl,hx,hl,k⟩:=h
  refine⟨_,kac (kaw (pv 0) (kaH (r:=kbe K) kaB (by rfl) W.B.list kbD (kaa (pv 1) kae)) rfl)
   (kac (kaw (pv 0) (pv 2) rfl)
   (kah (kaw (pv 0) (pv 3) rfl))),?_⟩
  refine⟨_,rfl,l,_,rfl, .inl hl,fun l' hl'=>?_⟩
  have s1:=kak (o:=.lst xs) hl'
  have nlx:l'≠x:=fun e=>by
   rw[e,hx] at hl'
   cases hl'
  refine⟨_,rfl,x,d.qg,dx,[],rfl,s1 _ _ hx,W.qg.cl,W.qz,by decide,?_⟩
  refine⟨_,rfl,_,rfl,x,d.qg,dx,_,rfl,kad,W.qg.cl,W.QJ,few (Nx (kam (n:=0) (Nv _)) (by decide)),?_⟩
  refine⟨_,rfl,_,rfl,x,d.qg,dx,_,rfl,kad,W.qg.cl,W.Qg,few (Nx (kam (kam (n:=0) (Nv _))) (by decide)),?_⟩
  refine k _ l' ((((But.of_same s1).trans kar).trans kar).trans kar) hl' ?_ ⟨dx,_,kad,?_,?_,?_⟩
  ·rw[kal nlx,kal nlx,kal nlx,kad]
  ·rw[kab,if_neg (by decide +kernel),kab,if_neg (by decide +kernel),kab,if_pos rfl]
  ·rw[kab,if_neg (by decide +kernel),kab,if_pos rfl]
  ·rw[kab,if_pos rfl]
theorem kdL:kao ["line","member"] ["line","member"] (kag kbF):=by ac_rfl
theorem kdQ(W:WB K mg d base):FO P w W 1 d.XZ d.X0 ["line","member"] (kiN d.qe):=by
 exists W.Va.F,kdL
 ·obtain⟨x,m,r,rfl,⟨dx,fs,hx,lk,lp,lm,ls⟩,k⟩:=h
  refine⟨_,kac (ps_if (PW.pt (kbL (ka4 (pv 1)) (kbx (kas kdm (kai (K:=K) (pv 0) rfl) ka1 (kav _))))) (kah (kap (kai (K:=K) (pv 0) rfl))) (kat))
   (kah (kap (kai (K:=K) (pv 0) rfl))),?_⟩
  refine⟨_,rfl,m,rfl,?_⟩
  cases m with
  |false=>
   refine iteF (iteF ⟨_,rfl,x,d.qe,dx,fs,_,rfl,hx,W.qe.cl,W.Qe,lp,?_⟩)
   exact k
  | true=>
   refine iteT ⟨_,rfl,x,d.qe,dx,fs,_,rfl,hx,W.qe.cl,W.QI,ls,rfl,_,rfl,?_⟩
   cases e:r.ex with
   | none=>
    rw[e] at ls
    show if(!decide (V.non=V.non))=true then _ else _
    rw[show(!decide (V.non=V.non))=false by simp]
    refine iteF ⟨_,rfl,x,d.qe,dx,fs,_,rfl,hx,W.qe.cl,W.Qe,lp,?_⟩
    have ep:prc true r=r.pr:=by
     unfold prc
     rw[if_pos rfl,e]
     rfl
    rw[ep] at k
    exact k
   | some z=>
    rw[e] at ls
    show if(!decide (V.int z=V.non))=true then _ else _
    rw[show(!decide (V.int z=V.non))=true by simp]
    refine iteT ⟨_,rfl,x,d.qe,dx,fs,_,rfl,hx,W.qe.cl,W.QI,ls,?_⟩
    have ep:prc true r=z:=by
     unfold prc
     rw[if_pos rfl,e]
     rfl
    rw[ep] at k
    exact k
theorem QM:kao ["self","basket","number","line","price"] ["self","basket"] (kag kbU):=by ac_rfl
theorem kcD(W:WB K mg d base):FO P w W 2 d.Zv d.Zw ["self","basket"] (kdr d.qe d.qg d.qd):=by
 exists W.Qi.F,QM
 ·obtain⟨x,dx,b,l,cg,m,ls,rs,rfl,hx,⟨dxb,fsb,hb,lbl,lbc,lbm⟩,hl,hL,hn,hok,k⟩:=h
  exists UL,kdQ,W
  refine⟨_,kac (kaw (pv 0) (kaK kae) rfl)
   (kac (kaw (pv 0) (kaK kae) rfl)
   (kac (kaw (pv 0) (kai (K:=K) (pv 1) rfl) rfl)
   (kac (kaw (pv 0) (kaK kae) rfl)
   (kah (kbp PassesOwn.never rfl (kjf rfl W.B.enum (kaa (kai (K:=K) (pv 1) rfl) kae)) (kbs (K:=K) (n:=2) rfl (kay (pgn (i:=2) QM.nd) (kay (pgn (i:=3) QM.nd) kbr)))
   (kac (psl (i:=4) QM.nd (pcl UL hr W.Va (kaa (pv 3) (kaa (kai (K:=K) (pv 1) rfl) kae))))
   (kac (kaS (pe_bm N4 Dj Dk keP (kai (K:=K) (pv 0) rfl) (kaa (pe_op kjk (kaK (kaa (pv 2) kae)) (kai (K:=K) (pv 3) rfl)) kae)))
   (kac (kaS (pe_bm N4 Dj Dk keP (kai (K:=K) (pv 0) rfl) (kaa (pe_op kjk (kaK (kaa (pv 4) kae)) (kai (K:=K) (pv 3) rfl)) kae)))
   (kah (kaS (pe_bm N4 Mu Mv ka5 (kai (K:=K) (pv 0) rfl) (kaa pe_bl kae)))))))))))),?_⟩
  have nbx:b≠x:=ne_of hb hx (by
   intro z
   injection z with _ _ z
   rw[z] at lbl
   cases lbl)
  have nlx:l≠x:=ne_of hl hx (by intro z;cases z)
  exists Y4
  refine⟨by decide,fun o ho=>?_⟩
  have nox:o≠x:=(kaj hx ho).symm
  symm
  exists Y4
  refine⟨_,rfl,x,d.qd,dx,[],rfl,kak ho _ _ hx,W.qd.cl,W.qN,by decide,?_⟩
  have b1:But x H (upd (upd H o (.lst [])) x (.ins d.qd dx (putF "owners" (.ref o) []))):=(But.of_same (kak ho)).trans kar
  symm
  exists Y4
  refine⟨by decide,fun p hp=>?_⟩
  have npx:p≠x:=fun e=>by
   rw[e,kad] at hp
   cases hp
  have nop:o≠p:=fun e=>by
   rw[←e,kal nox,kad] at hp
   cases hp
  have hp0:H p=none:=by
   cases e:H p with
   |none=>rfl
   |some u=>
    obtain⟨u',e'⟩:=kf0 (b1 p u npx e)
    rw[e'] at hp
    cases hp
  symm
  exists Y4
  refine⟨_,rfl,x,d.qd,dx,_,rfl,kak hp _ _ kad,W.qd.cl,W.qw,few (Nx (kam (n:=0) (Nv _)) (by decide)),?_⟩
  have b2:=(b1.same (kak (o:=.lst []) hp)).trans (kar (o:=.ins d.qd dx (putF "prices" (.ref p) (putF "owners" (.ref o) []))))
  symm
  exists Y4
  refine⟨_,rfl,b,d.qg,dxb,fsb,_,rfl,b2 b _ nbx hb,W.qg.cl,W.QJ,lbc,_,rfl,x,d.qd,dx,_,rfl,kad,W.qd.cl,W.qV,few (Nx (kam (kam (n:=0) (Nv _))) (by decide)),?_⟩
  have b3:=b2.trans (kar (o:=.ins d.qd dx (putF "carriage" (.int cg) (putF "prices" (.ref p) (putF "owners" (.ref o) [])))))
  symm
  exists Y4
  refine⟨by decide,fun mk hm=>?_⟩
  have nmx:mk≠x:=fun e=>by
   rw[e,kad] at hm
   cases hm
  have hm0:H mk=none:=by
   cases e:H mk with
   |none=>rfl
   |some u=>
    obtain⟨u',e'⟩:=kf0 (b3 mk u nmx e)
    rw[e'] at hm
    cases hm
  have nom:o≠mk:=fun e=>by
   rw[←e,kal nox,kal nox,kal nop,kal nox,kad] at hm
   cases hm
  have npm:p≠mk:=fun e=>by
   rw[←e,kal npx,kal npx,kad] at hm
   cases hm
  symm
  exists Y4
  refine⟨_,rfl,x,d.qd,dx,_,rfl,kak hm _ _ kad,W.qd.cl,W.Qh,few (Nx (kam (kam (kam (n:=0) (Nv _)))) (by decide)),?_⟩
  have b4:=(b3.same (kak (o:=.lst []) hm)).trans (kar (o:=.ins d.qd dx (putF "marked" (.ref mk) (putF "carriage" (.int cg) (putF "prices" (.ref p) (putF "owners" (.ref o) []))))))
  have Di:Ds H x o p mk:=⟨ho,hp0,hm0,nox,npx,nmx,nop,nom,npm⟩
  have Z0:S3 H x d.qd dx (putF "marked" (.ref mk) (putF "carriage" (.int cg) (putF "prices" (.ref p) (putF "owners" (.ref o) [])))) o p mk [] [] [] (upd (upd (upd (upd (upd (upd (upd H o (.lst [])) x (.ins d.qd dx (putF "owners" (.ref o) []))) p (.lst [])) x (.ins d.qd dx (putF "prices" (.ref p) (putF "owners" (.ref o) []))))
    x (.ins d.qd dx (putF "carriage" (.int cg) (putF "prices" (.ref p) (putF "owners" (.ref o) []))))) mk (.lst [])) x (.ins d.qd dx (putF "marked" (.ref mk) (putF "carriage" (.int cg) (putF "prices" (.ref p) (putF "owners" (.ref o) [])))))):=by
   symm
   exists Y6
   refine⟨b4,kad,?_,?_,?_⟩
   ·rw[kal nox,kal nom,kal nox,kal nox,kal nop,kal nox,kad]
   ·rw[kal npx,kal npm,kal npx,kal npx,kad]
   ·rw[kal nmx,kad]
  have l1:(putF "marked" (.ref mk) (putF "carriage" (.int cg) (putF "prices" (.ref p) (putF "owners" (.ref o) [])))).lookup ("owners" :Str)=some (.ref o):=by
   rw[kab,if_neg (by decide +kernel),kab,if_neg (by decide +kernel),kab,if_neg (by decide +kernel),kab,if_pos rfl]
  have l2:(putF "marked" (.ref mk) (putF "carriage" (.int cg) (putF "prices" (.ref p) (putF "owners" (.ref o) [])))).lookup ("prices" :Str)=some (.ref p):=by
   rw[kab,if_neg (by decide +kernel),kab,if_neg (by decide +kernel),kab,if_pos rfl]
  have l3:(putF "marked" (.ref mk) (putF "carriage" (.int cg) (putF "prices" (.ref p) (putF "owners" (.ref o) [])))).lookup ("carriage" :Str)=some (.int cg):=by
   rw[kab,if_neg (by decide +kernel),kab,if_pos rfl]
  have l4:(putF "marked" (.ref mk) (putF "carriage" (.int cg) (putF "prices" (.ref p) (putF "owners" (.ref o) [])))).lookup ("marked" :Str)=some (.ref mk):=by
   rw[kab,if_pos rfl]
  have l5:(putF "marked" (.ref mk) (putF "carriage" (.int cg) (putF "prices" (.ref p) (putF "owners" (.ref o) [])))).lookup ("whole" :Str)=none:=by
   rw[kab,if_neg (by decide +kernel),kab,if_neg (by decide +kernel),kab,if_neg (by decide +kernel),kab,if_neg (by decide +kernel)]
   rfl
  have lfs:(putF "marked" (.ref mk) (putF "carriage" (.int cg) (putF "prices" (.ref p) (putF "owners" (.ref o) [])))).length≤10:=Nx (kam (kam (kam (kam (n:=0) (Nv _))))) (by decide)
  generalize putF "marked" (.ref mk) (putF "carriage" (.int cg) (putF "prices" (.ref p) (putF "owners" (.ref o) [])))=fs at *
  generalize (upd (upd (upd (upd (upd (upd (upd H o (.lst [])) x (.ins d.qd dx (putF "owners" (.ref o) []))) p (.lst [])) x (.ins d.qd dx (putF "prices" (.ref p) (putF "owners" (.ref o) []))))
    x (.ins d.qd dx (putF "carriage" (.int cg) (putF "prices" (.ref p) (putF "owners" (.ref o) []))))) mk (.lst [])) x (.ins d.qd dx fs))=Hs at *
  symm
  exists Y4
  refine⟨_,rfl,b,d.qg,dxb,fsb,_,rfl,Z0.bt b _ nbx hb,W.qg.cl,W.qz,lbl,l,_,rfl,Z0.bt l _ nlx hl,kkI (xs:=ls.map V.ref) (fun i σ H'=>(∃v2 v3 v4:Option V,σ=[some (.ref x),some (.ref b),v2,v3,v4])∧
   S3 H x d.qd dx fs o p mk ((own (rs.take i)).map V.int) ((prs m (rs.take i)).map V.int) (Nw i (.bl false)) H') ⟨⟨none,none,none,rfl⟩,Z0⟩ (fun i σ H' _ ⟨_,Z⟩=>Z.bt l _ nlx hl) ?_ ?_⟩
  ·rintro i y t σ H1 hy ⟨⟨v2,v3,v4,rfl⟩,Z⟩ ht
   have hll:=hL.len
   have hil:i<(ls.map V.ref).length:=(NG.mp hy).1
   rw[Nr] at hil
   obtain⟨lx,el,rfl⟩:∃lx,ls[i]?=some lx∧y=V.ref lx:=by
    rw[NC] at hy
    cases e:ls[i]? with
    |none=>rw[e] at hy;cases hy
    |some z=>rw[e] at hy;exact⟨z,rfl,(Option.some.inj hy).symm⟩
   obtain⟨r,er⟩:∃r,rs[i]?=some r:=⟨rs[i]'(by omega),by simp[show i<rs.length by omega]⟩
   have hr':r.Ok:=hok r (NA er)
   obtain⟨dxl,fsl,hlx,lk1,lk2,lk3,lk4⟩:=hL.get el er
   have nlxx:lx≠x:=ne_of hlx hx (by
    intro z
    injection z with _ _ z
    rw[z] at lk1
    cases lk1)
   have hmn0:=hr'.mn0
   have hmn1:=hr'.mn1
   have Z1:=Z.same (kak (o:=.tup [.int (i:Nat),V.ref lx]) ht)
   have lo1:((own (rs.take i)).map V.int).length≤720:=by
    rw[Nr]
    have:=kjj (rs.take i) fun r hr=>hok r (Em hr)
    rw[NH] at this
    omega
   have lp1:((prs m (rs.take i)).map V.int).length≤720:=by
    rw[Nr]
    have:=kja m (rs.take i) fun r hr=>hok r (Em hr)
    rw[NH] at this
    omega
   symm
   exists Y6
   refine⟨t,_,rfl,SqT.of kad,rfl,_,_,rfl,_,_,rfl,rfl,?_⟩
   nofun
   exists Y6
   refine⟨_,rfl,_,rfl,b,d.qg,dxb,fsb,_,rfl,Z1.bt b _ nbx hb,W.qg.cl,W.Qg,lbm,lx,m,r,rfl,⟨dxl,fsl,Z1.bt lx _ nlxx hlx,lk1,lk2,lk3,lk4⟩,?_⟩
   nofun
   exists Y6
   refine⟨_,rfl,x,d.qd,dx,fs,_,rfl,Z1.ob,W.qd.cl,W.qN,l1, .inl ⟨rfl,_,SqL.of Z1.ho⟩,_,rfl,(by show 1≤sizeLine;decide),fun t1 ht1=>?_⟩
   have Z2:=Z1.same (kak (o:=.lst [V.int (i:Nat)]) ht1)
   nofun
   exists Y6
   refine⟨_,rfl,lx,d.qe,dxl,fsl,_,rfl,Z2.bt lx _ nlxx hlx,W.qe.cl,W.qE,lk3,t1,_,_,rfl,rfl,kad,by omega,by omega,NF (kan (by simp;omega)),fun t2 ht2=>?_⟩
   have Z3:=Z2.same (kak (o:=.lst (Nw r.mn.toNat [V.int (i:Nat)]).flatten) ht2)
   nofun
   exists Y6
   refine⟨o,t2,_,_,rfl,rfl,Z3.ho,kad,NF (kan (by rw[rep1,Mx];omega)),?_⟩
   have Z4:=Z3.setO (d:=(own (rs.take i)).map V.int++(Nw r.mn.toNat [V.int (i:Nat)]).flatten) Di
   nofun
   exists Y6
   refine⟨_,rfl,x,d.qd,dx,fs,_,rfl,Z4.ob,W.qd.cl,W.qw,l2, .inl ⟨rfl,_,SqL.of Z4.hp⟩,_,rfl,(by show 1≤sizeLine;decide),fun t3 ht3=>?_⟩
   have Z5:=Z4.same (kak (o:=.lst [V.int (prc m r)]) ht3)
   nofun
   exists Y6
   refine⟨_,rfl,lx,d.qe,dxl,fsl,_,rfl,Z5.bt lx _ nlxx hlx,W.qe.cl,W.qE,lk3,t3,_,_,rfl,rfl,kad,by omega,by omega,NF (kan (by simp;omega)),fun t4 ht4=>?_⟩
   have Z6:=Z5.same (kak (o:=.lst (Nw r.mn.toNat [V.int (prc m r)]).flatten) ht4)
   nofun
   exists Y6
   refine⟨p,t4,_,_,rfl,rfl,Z6.hp,kad,NF (kan (by rw[rep1,Mx];omega)),?_⟩
   have Z7:=Z6.setP (d:=(prs m (rs.take i)).map V.int++(Nw r.mn.toNat [V.int (prc m r)]).flatten) Di
   nofun
   exists Y6
   refine⟨_,rfl,x,d.qd,dx,fs,_,rfl,Z7.ob,W.qd.cl,W.Qh,l4, .inl ⟨rfl,_,SqL.of Z7.hm⟩,mk,_,_,rfl,rfl,Z7.hm,kan (by simp;omega),?_⟩
   have Z8:=Z7.setM (d:=Nw i (V.bl false)++[V.bl false]) Di
   nofun
   exists Y6
   refine⟨⟨_,_,_,rfl⟩,?_⟩
   have e1:(own (rs.take i)).map V.int++(Nw r.mn.toNat [V.int (i:Nat)]).flatten=(own (rs.take (i+1))).map V.int:=by
    rw[take_snoc er,kkn,Ny,rep1,ki2,NH,MM (by omega)]
   have e2:(prs m (rs.take i)).map V.int++(Nw r.mn.toNat [V.int (prc m r)]).flatten=(prs m (rs.take (i+1))).map V.int:=by
    rw[take_snoc er,kkj,Ny,rep1,ki2]
   have e3:Nw i (V.bl false)++[V.bl false]=Nw (i+1) (V.bl false):=by rw[Dh]
   rw[←e1,←e2,←e3]
   nofun
   exact Z8
  ·rintro σ H' ⟨⟨v2,v3,v4,rfl⟩,Z⟩
   have hll:=hL.len
   have e:(ls.map V.ref).length=rs.length:=by rw[Nr,hll]
   rw[e,N3] at Z
   nofun
   exact k H' o p mk Z.bt ho hp0 hm0 ⟨dx,fs,Z.ob,l1,l2,l3,l4,l5⟩ Z.ho Z.hp Z.hm ⟨dx,fs,Z.ob,lfs⟩
theorem kdM:kao ["self"] ["self"] (kag kbI):=by ac_rfl
theorem kcm(W:WB K mg d base):FO P w W 1 d.Zx d.Zy ["self"] (kiH d.qd):=by
 exists W.Qj.F,kdM
 ·obtain⟨x,o,p,mk,cg,ns,rfl,⟨dx,fs,hx,l1,l2,l3,l4,l5⟩,hp,k⟩:=h
  refine⟨_,kah (kap (pe_op kaz (kau (r:=rSum K) (kbO rfl) (by rfl) W.B.sum b_sum (kaa (kai (K:=K) (pv 0) rfl) kae)) (kai (K:=K) (pv 0) rfl))),?_⟩
  exact⟨_,rfl,x,d.qd,dx,fs,_,rfl,hx,W.qd.cl,W.qw,l2,p,ns,rfl,SqL.of hp,_,rfl,x,d.qd,dx,fs,_,rfl,hx,W.qd.cl,W.qV,l3,_,_,rfl,rfl,k⟩
inductive kk6 (K:Nt) (CM:Addr) (vs:List V) (H:Hp) (Q:VK) (E_:XK):Prop
 |ct (mA a:Addr)(M:Mks)(ps:List (Option Nat))(kn:Nat)(mk:Bool)(_:vs=[.ref mA, .ref a, .int kn, .bl mk])(_:MksIs CM H mA M)(_:SqL K H a (ps.map pV))(_:Good ps)(_:kn<ps.length)(_:Q (.bl (kHit ps M.kind kn&&(!M.lone|| !mk))) H):kk6 K CM vs H Q E_
theorem klK:kao ["marks","parents","kind","marked"] ["marks","parents","kind","marked"] (kag ki0):=by ac_rfl
theorem klY(W:WB K mg d base):FO P w W 2 d.X3 d.X4 ["marks","parents","kind","marked"] (kk6 K d.qi):=by
 exists W.Vb.F,klK
 ·obtain⟨mA,a,M,ps,kn,mk,rfl,⟨dx,fs,hm,l1,l2,l3,l4,l5,l6⟩,hS,hg,hk,k⟩:=h
  exists UM,kkq,W
  refine⟨_,kac (kc8 (ps_if (PW.pt (kbL (ka4 (kai (K:=K) (pv 0) rfl)) (kbx (ka4 (pv 3))))) (kah (kap pe_bl)) (kat)))
   (kah (kap (pe_or (kby kdY (kai (K:=K) (pv 0) rfl) ka1 (kav _)) (kjg (pcl UM hr W.Z9 (kaa (pv 1) (kaa (pv 2) (kaa (kai (K:=K) (pv 0) rfl) kae)))))))),?_⟩
  refine⟨fun σ' H'=>σ'=[some (.ref mA),some (.ref a),some (.int kn),some (.bl mk)]∧H'=H∧(!M.lone|| !mk)=true,⟨_,rfl,mA,d.qi,dx,fs,_,rfl,hm,W.qi.cl,W.Xf,l6,M.lone,rfl,?_⟩,?_⟩
  ·cases e:M.lone with
   |false=>exact iteF (iteF ⟨rfl,rfl,rfl⟩)
   | true=>
    refine iteT ⟨_,rfl,mk,rfl,?_⟩
    cases mk with
    |false=>exact iteF ⟨rfl,rfl,rfl⟩
    |true=>
     refine iteT ?_
     rw[e,show(kHit ps M.kind kn&&(!true|| !true))=false by simp] at k
     exact k
  ·rintro σ' H' ⟨rfl,rfl,hh⟩
   rw[hh,Bool.and_true] at k
   cases ek:M.kind with
   |none=>
    rw[ek] at l1 k
    refine⟨_,rfl,mA,d.qi,dx,fs,_,rfl,hm,W.qi.cl,W.QG,l1,rfl,_,rfl,?_⟩
    show if decide (V.non=V.non)=true then _ else _
    rw[show decide (V.non=V.non)=true by simp]
    exact iteT k
   |some kk=>
    rw[ek] at l1 k
    refine⟨_,rfl,mA,d.qi,dx,fs,_,rfl,hm,W.qi.cl,W.QG,l1,rfl,_,rfl,?_⟩
    show if decide (V.int (kk:Nat)=V.non)=true then _ else _
    rw[show decide (V.int (kk:Nat)=V.non)=false by simp]
    exact iteF ⟨_,rfl,_,rfl,_,rfl,mA,d.qi,dx,fs,_,rfl,hm,W.qi.cl,W.QG,l1,a,ps,kn,kk,rfl,hS,hg,hk,k⟩
theorem VY:kao ["voucher","parents","basket","standing","fitting"] ["voucher","parents","basket","standing"] (kag kev):=by ac_rfl
theorem khT(W:WB K mg d base):FO P w W 3 d.X1 d.X2 ["voucher","parents","basket","standing"] (kiW K d):=by
 exists W.Q7.F,VY
 ·obtain⟨v,a,b,x,Vc,ps,B,S,rfl,hV,hA,hB,hS,wf,vo,k⟩:=h
  obtain⟨mA,dxv,fsv,hv,lvm,_,hM,hh,htb⟩:=id hV
  obtain⟨l,ls,⟨dxb,fsb,hb,lb1,lb2,lb3⟩,hl,hL⟩:=id hB
  obtain⟨o,p,mk,⟨dxs,fss,hx,l1,l2,l3,l4,l5⟩,ho,hp,hmk⟩:=id hS
  exists UN,klY,W
  refine⟨_,kac (psl (i:=4) VY.nd (kbf (N:=["line","marked","voucher","parents"]) (CompScope.of (N:=["line","marked","voucher","parents"]) (cap:=[none,none,some 0,some 1]) (kag kev).names ["voucher","parents","basket","standing","fitting"] rfl rfl (by decide +kernel)) rfl (keB rfl W.B.zip (kaa (kai (K:=K) (pv 2) rfl) (kaa (kai (K:=K) (pv 3) rfl) kae))) (fun _ _ _ _=>kbs (K:=K) (n:=2) rfl (kay (pgn (i:=0) (show(["line","marked","voucher","parents"]:List Str).Nodup by decide +kernel)) (kay (pgn (i:=1) (show(["line","marked","voucher","parents"]:List Str).Nodup by decide +kernel)) kbr))) (fun _ _ _ _=>(pcl UN hr W.Vb (kaa (kai (K:=K) (pv 2) rfl) (kaa (pv 3) (kaa (kai (K:=K) (pv 0) rfl) (kaa (pv 1) kae))))))))
   (kah (kap (khO (N:=["piece","owner","fitting"]) (CompScope.of (N:=["piece","owner","fitting"]) (cap:=[none,none,some 4]) (kag kev).names ["voucher","parents","basket","standing","fitting"] rfl rfl (by decide +kernel)) rfl (kjf rfl W.B.enum (kaa (kai (K:=K) (pv 3) rfl) kae)) (fun _ _ _ _=>kbs (K:=K) (n:=2) rfl (kay (pgn (i:=0) (show(["piece","owner","fitting"]:List Str).Nodup by decide +kernel)) (kay (pgn (i:=1) (show(["piece","owner","fitting"]:List Str).Nodup by decide +kernel)) kbr))) (fun _ _ _ _=>kg5 (ka4 (pe_ix (r:=rIxL K) kaC (pv 2) (pv 1) (fun _ _=>rfl)))) (fun _ _ _ _=>(pv 0))))),?_⟩
  have np:=wf.np
  have nl:=wf.nl
  have lenL:=hL.len
  have lenM:=wf.lm
  have emin:min (ls.map V.ref).length (S.mkd.map V.bl).length=B.rs.length:=by rw[Nr,Nr,lenL,lenM,MN]
  refine⟨_,rfl,b,d.qg,dxb,fsb,_,rfl,hb,W.qg.cl,W.qz,lb1,_,rfl,x,d.qd,dxs,fss,_,rfl,hx,W.qd.cl,W.Qh,l4,l,mk,_,_,rfl,hl,hmk,
   kf2 (xs:=ls.map V.ref) (ys:=S.mkd.map V.bl) (fun i σ zs H'=>Same H H'∧zs=((NB i).map fun l=>hits ps (kds B) Vc.ms.kind Vc.ms.lone S.mkd l).map V.bl∧∃v0 v1:Option V,σ=[v0,v1,some (.ref v),some (.ref a)])
    ⟨Same.refl _,rfl,none,none,rfl⟩ (by rw[emin];exact NF (kan (by omega))) (fun i σ zs H' _ h=>⟨h.1 _ _ hl,h.1 _ _ hmk,by rw[h.2.1];simp⟩) ?_ ?_⟩
  ·rintro i y m t σ zs H1 hy hm ⟨s1,rfl,v0,v1,rfl⟩ ht
   obtain⟨lx,elx,rfl⟩:=kbV hy
   obtain⟨mv,emv,rfl⟩:=kbM hm
   obtain⟨r,er,hr⟩:=hL.at elx
   have s2:=s1.trans (kak (o:=.tup [V.ref lx,V.bl mv]) ht)
   obtain⟨dxl,fsl,hlx,lk1,_⟩:=hr.same s2
   have hkd:=wf.kd r (NA er)
   obtain⟨kn,ekn⟩:=Int.eq_ofNat_of_zero_le hkd.1
   have hkn:kn<ps.length:=by omega
   refine⟨t,_,rfl,SqT.of kad,rfl,_,_,rfl,_,_,rfl,rfl,?_⟩
   refine⟨_,rfl,v,clsOf d Vc.so,dxv,fsv,_,rfl,s2 _ _ hv,cl_of W hh,na_of W hh,lvm,_,rfl,_,rfl,lx,d.qe,dxl,fsl,_,rfl,hlx,W.qe.cl,W.Xl,lk1,_,rfl,mA,a,Vc.ms,ps,kn,mv,by rw[ekn];rfl,hM.same s2,s2.seq hA,wf.good,hkn,s2,?_,_,_,rfl⟩
   have e1:hits ps (kds B) Vc.ms.kind Vc.ms.lone S.mkd i=(kHit ps Vc.ms.kind kn&&(!Vc.ms.lone|| !mv)):=by
    unfold hits
    have e2:S.mkd.getD i false=mv:=by rw[NR,emv];rfl
    rw[e2,kmL er,ekn,Int.toNat_natCast]
   rw[MH,Ny,Ny,←e1]
   rfl
  rintro σ zs H1 ⟨s1,rfl,v0,v1,rfl⟩ D hD
  rw[emin]
  have s2:=s1.trans (kak (o:=.lst (((NB B.rs.length).map fun l=>hits ps (kds B) Vc.ms.kind Vc.ms.lone S.mkd l).map V.bl)) hD)
  have eD:(upd H1 D (.lst (((NB B.rs.length).map fun l=>hits ps (kds B) Vc.ms.kind Vc.ms.lone S.mkd l).map V.bl))) D=some (.lst (((NB B.rs.length).map fun l=>hits ps (kds B) Vc.ms.kind Vc.ms.lone S.mkd l).map V.bl)):=kad
  generalize upd H1 D (.lst (((NB B.rs.length).map fun l=>hits ps (kds B) Vc.ms.kind Vc.ms.lone S.mkd l).map V.bl))=H2 at *
  refine⟨_,rfl,x,d.qd,dxs,fss,_,rfl,s2 _ _ hx,W.qd.cl,W.qN,l1,o,_,rfl,s2 _ _ ho,
   kit (xs:=S.ow.map iV) (fun i σ ys H'=>Same H2 H'∧ys=((NB i).filter fun i=>hits ps (kds B) Vc.ms.kind Vc.ms.lone S.mkd (S.ow.getD i 0)).map iV∧∃v0 v1:Option V,σ=[v0,v1,some (.ref D)])
    ⟨Same.refl _,rfl,none,none,rfl⟩ (by rw[Nr];exact NF (kan (by omega))) (fun i σ zs H' _ h=>⟨h.1 _ _ (s2 _ _ ho),by rw[h.2.1,Nr];have:=M4 (fun i=>hits ps (kds B) Vc.ms.kind Vc.ms.lone S.mkd (S.ow.getD i 0)) (NB i);simpa using this⟩) ?_ ?_⟩
  ·rintro i y t σ zs H3 hy ⟨s3,rfl,v0,v1,rfl⟩ ht
   obtain⟨ln,eln,rfl⟩:=kbM hy
   have hln:=wf.line eln
   have s4:=s3.trans (kak (o:=.tup [V.int (i:Nat),iV ln]) ht)
   refine⟨t,_,rfl,SqT.of kad,rfl,_,_,rfl,_,_,rfl,rfl,?_⟩
   refine⟨_,rfl,_,rfl,D,_,_,_,rfl,rfl,SqL.of (s4 _ _ eD),kaU (v:=.bl (hits ps (kds B) Vc.ms.kind Vc.ms.lone S.mkd ln)) (by rw[NC,NC,EK hln];rfl),_,rfl,?_⟩
   have e1:S.ow.getD i 0=ln:=by rw[NR,eln];rfl
   have st:=kkV (ps:=ps) (kk:=kds B) (kind:=Vc.ms.kind) (lone:=Vc.ms.lone) (S:=S) (i:=i)
   rw[e1] at st
   cases hh2:hits ps (kds B) Vc.ms.kind Vc.ms.lone S.mkd ln with
   |false=>exact iteF ⟨s4,by rw[st,hh2];simp,_,_,rfl⟩
   |true=>exact iteT ⟨_,rfl,s4,by rw[st,hh2,if_pos rfl,Ny];rfl,_,_,rfl⟩
  ·rintro σ zs H3 ⟨s3,rfl,v0,v1,rfl⟩ D2 hD2
   rw[Nr]
   have s4:=(s2.trans s3).trans (kak (o:=.lst ((abt ps (kds B) Vc.ms.kind Vc.ms.lone S).map iV)) hD2)
   exact k _ D2 s4 (none_of (s2.trans s3) hD2) kad
inductive kfb (CS:Addr) (vs:List V) (H:Hp) (Q:VK) (E_:XK):Prop
 |ct (x g:Addr)(S:Stnd)(is:List Nat)(_:vs=[.ref x, .ref g])(_:StndIs CS H x S)(_:H g=some (.lst (is.map iV)))(_:(∀i∈is,i<S.pr.length))(_:is.length≤720)(_:∀p,H p=none→Q (.ref p) (upd H p (.lst ((qs S.pr is).map V.int)))):kfb CS vs H Q E_
theorem kgm:kao ["standing","pieces"] ["standing","pieces"] (kag kcq):=by ac_rfl
theorem kdZ(W:WB K mg d base):FO P w W 1 d.Ym d.Yn ["standing","pieces"] (kfb d.qd):=by
 exists W.Xb.F,kgm
 ·obtain⟨x,g,S,is,rfl,⟨o,p,mk,⟨dxs,fss,hx,l1,l2,l3,l4,l5⟩,ho,hp,hmk⟩,hg,hi,hl,k⟩:=h
  refine⟨_,kah (kap (kbf (N:=["piece","standing"]) (CompScope.of (N:=["piece","standing"]) (cap:=[none,some 0]) (kag kcq).names ["standing","pieces"] rfl rfl (by decide +kernel)) rfl (kaG (K:=K) (pv 1)) (fun _ _ _ _=>pgn (i:=0) (show(["piece","standing"]:List Str).Nodup by decide +kernel)) (fun _ _ _ _=>(pe_ix (r:=rIxL K) kaC (kai (K:=K) (pv 1) rfl) (pv 0) (fun _ _=>rfl))))),?_⟩
  refine⟨_,rfl,g,rfl,⟨_,SqL.of hg⟩,kaO (xs:=is.map iV) (fun j σ ys H'=>H'=H∧ys=(qs S.pr (is.take j)).map V.int∧∃v,σ=[v,some (.ref x)]) ⟨rfl,rfl,none,rfl⟩ ?_ ?_ ?_ ?_⟩
  ·rw[Nr]
   exact NF (kan (by omega))
  ·rintro j σ ys H' hj ⟨rfl,rfl,_⟩
   exact⟨SqL.of hg,by rw[Nr,kb6,NH];rw[Nr] at hj;omega⟩
  ·rintro j y σ ys H' hy ⟨rfl,rfl,v,rfl⟩
   obtain⟨n,en,rfl⟩:∃n,is[j]?=some n∧y=iV n:=kbM hy
   obtain⟨z,ez⟩:=at_of (hi n (NA en))
   refine⟨_,rfl,x,d.qd,dxs,fss,_,rfl,hx,W.qd.cl,W.qw,l2,_,rfl,p,_,_,_,rfl,rfl,SqL.of hp,kaU (by rw[NC,ez];rfl),rfl,?_,_,rfl⟩
   rw[MG,en]
   simp[qs,ez]
  ·rintro σ ys H' ⟨rfl,rfl,v,rfl⟩ D hD
   rw[Nr,N3]
   exact k D hD
inductive kiM (CS:Addr) (vs:List V) (H:Hp) (Q:VK) (E_:XK):Prop
 |ct (x g:Addr)(S:Stnd)(is:List Nat)(_:vs=[.ref x, .ref g])(_:StndIs CS H x S)(_:H g=some (.lst (is.map iV)))(_:(∀i∈is,i<S.pr.length))(_:is.length≤720)(_:∀H',Same H H'→Q (.int (qs S.pr is).sum) H'):kiM CS vs H Q E_
theorem kd9:kao ["standing","pieces"] ["standing","pieces"] (kag kbR):=by ac_rfl
theorem kcC(W:WB K mg d base):FO P w W 2 d.Yo d.Yp ["standing","pieces"] (kiM d.qd):=by
 exists W.Qb.F,kd9
 ·obtain⟨x,g,S,is,rfl,hS,hg,hi,hl,k⟩:=h
  exists Xx,kdZ,W
  refine⟨_,kah (kap (kau (r:=rSum K) (kbO rfl) (by rfl) W.B.sum b_sum (kaa (pcl Xx hr W.Xb (kaa (pv 0) (kaa (pv 1) kae))) kae))),?_⟩
  exact⟨_,rfl,_,rfl,x,g,S,is,rfl,hS,hg,hi,hl,fun p hp=>⟨p,_,rfl,SqL.of kad,k _ (kak hp)⟩⟩
theorem Xy:kao ["voucher","parents","basket","standing","marks","pieces"] ["voucher","parents","basket","standing"] (kag kdh):=by ac_rfl
theorem kgu(W:WB K mg d base):FO P w W 4 d.X5 d.X6 ["voucher","parents","basket","standing"] (kk5 K d):=by
 exists W.Vd.F,Xy
 ·obtain⟨v,a,b,x,Vc,ps,B,S,rfl,hV,hA,hB,hS,wf,vo,k⟩:=h
  obtain⟨mA,dxv,fsv,hv,lvm,_,hM,hh,htb⟩:=id hV
  obtain⟨dxm,fsm,hm,m1,m2,m3,m4,m5,m6⟩:=id hM
  obtain⟨l,ls,⟨dxb,fsb,hb,lb1,lb2,lb3⟩,hl,hL⟩:=id hB
  exists Xz,khT,W
  exists Qs,kcC,W
  exists hr2,2,hr,0
  refine⟨_,kac (psl (i:=4) Xy.nd (kai (K:=K) (pv 0) rfl))
   (kac (kc8 (ps_if (PW.pt (kbL (ka4 (kai (K:=K) (pv 4) rfl)) (kbx (kez (ka4 (kai (K:=K) (pv 2) rfl)))))) (kah (kap kbu)) (kat)))
   (kac (psl (i:=5) Xy.nd (pcl Xz hr W.Q7 (kaa (pv 0) (kaa (pv 1) (kaa (pv 2) (kaa (pv 3) kae))))))
   (kac (ps_if (kas op_eq (kau (r:=ka6 K) kax (by rfl) W.B.len b_len (kaa (pv 5) kae)) kaf (kav _)) (kah (kap kbu)) (kat))
   (kac (ps_if (kas op_lt (pcl Qs hr2 W.Qb (kaa (pv 3) (kaa (pv 5) kae))) (kai (K:=K) (pv 4) rfl) (kav _)) (kah (kap kbu)) (kat))
   (kah (kap ka1)))))),?_⟩
  have np:=wf.np
  have habl:∀i∈abt ps (kds B) Vc.ms.kind Vc.ms.lone S,i<S.pr.length:=fun i hi=>by rw[wf.lp];exact kid hi
  have lab:(abt ps (kds B) Vc.ms.kind Vc.ms.lone S).length≤720:=Nx (ke3 _ _ _ _ _) np
  refine⟨_,rfl,v,clsOf d Vc.so,dxv,fsv,_,rfl,hv,cl_of W hh,na_of W hh,lvm,?_⟩
  refine⟨fun σ' H'=>σ'=[some (.ref v),some (.ref a),some (.ref b),some (.ref x),some (.ref mA),none]∧H'=H∧(Vc.ms.member&& !B.m)=false,⟨_,rfl,mA,d.qi,dxm,fsm,_,rfl,hm,W.qi.cl,W.VF,m4,Vc.ms.member,rfl,?_⟩,?_⟩
  ·cases e:Vc.ms.member with
   |false=>exact iteF (iteF ⟨rfl,rfl,rfl⟩)
   | true=>
    refine iteT ⟨_,rfl,b,d.qg,dxb,fsb,_,rfl,hb,W.qg.cl,W.Qg,lb3,B.m,rfl,?_⟩
    cases e2:B.m with
    |true=>exact iteF ⟨rfl,rfl,rfl⟩
    |false=>
     refine iteT ?_
     have z:=k H (Same.refl _)
     unfold hindM at z
     rw[e,e2,if_pos (by decide)] at z
     exact z
  ·rintro σ' H' ⟨rfl,rfl,hh2⟩
   refine⟨_,rfl,_,rfl,_,rfl,_,rfl,v,a,b,x,Vc,ps,B,S,rfl,hV,hA,hB,hS,wf,vo,fun H1 pa s1 f1 h1=>?_⟩
   refine⟨_,rfl,pa,_,rfl, .inl (SqL.of h1),rfl,_,rfl,?_⟩
   have ed:decide (V.int (((abt ps (kds B) Vc.ms.kind Vc.ms.lone S).map iV).length:Nat)=V.int 0)=decide ((abt ps (kds B) Vc.ms.kind Vc.ms.lone S).length=0):=by
    rw[Nr]
    by_cases h0:(abt ps (kds B) Vc.ms.kind Vc.ms.lone S).length=0
    ·rw[h0]
     rfl
    ·rw[decide_eq_false h0]
     refine decide_eq_false fun z=>h0 ?_
     injection z with z
     omega
   show if decide (V.int (((abt ps (kds B) Vc.ms.kind Vc.ms.lone S).map iV).length:Nat)=V.int 0)=true then _ else _
   rw[ed]
   by_cases h0:(abt ps (kds B) Vc.ms.kind Vc.ms.lone S).length=0
   ·rw[decide_eq_true h0]
    refine iteT ?_
    have z:=k H1 s1
    unfold hindM at z
    rw[hh2,if_neg (by decide),if_pos h0] at z
    exact z
   ·rw[decide_eq_false h0]
    refine iteF ⟨_,rfl,_,rfl,x,pa,S,_,rfl,hS.same s1,h1,habl,lab,fun H2 s2=>?_⟩
    have z:=k H2 (s1.trans s2)
    unfold hindM at z
    rw[hh2,if_neg (by decide),if_neg h0] at z
    refine⟨_,rfl,mA,d.qi,dxm,fsm,_,rfl,(s1.trans s2) _ _ hm,W.qi.cl,W.VE,m2,_,_,rfl,rfl,_,rfl,?_⟩
    by_cases h2:(qs S.pr (abt ps (kds B) Vc.ms.kind Vc.ms.lone S)).sum<Vc.ms.needs
    ·rw[if_pos h2] at z
     rw[decide_eq_true h2]
     exact iteT z
    ·rw[if_neg h2] at z
     rw[decide_eq_false h2]
     exact iteF z
inductive khA (vs:List V) (H:Hp) (Q:VK) (E_:XK):Prop
 |ct (m:Option Int)(n:Int)(_:vs=[oV m, .int n])(_:Q (.int (atM m n)) H):khA vs H Q E_
theorem kig:kao ["most","number"] ["most","number"] (kag keu):=by ac_rfl
theorem kil(W:WB K mg d base):FO P w W 1 d.Yq d.Yr ["most","number"] khA:=by
 exists W.Vj.F,kig
 ·obtain⟨m,n,rfl,k⟩:=h
  refine⟨_,kac (ps_if (kas kdY (pv 0) ka1 (kav _)) (kah (kap (pv 1))) (kat))
   (kah (kap (kau (kdE rfl) (by rfl) W.B.min b_min (kaa (pv 0) (kaa (pv 1) kae))))),?_⟩
  cases m with
  |none=>
   refine⟨_,rfl,rfl,_,rfl,?_⟩
   show if decide (V.non=V.non)=true then _ else _
   rw[show decide (V.non=V.non)=true by simp]
   exact iteT ⟨_,rfl,k⟩
  | some z=>
   refine⟨_,rfl,rfl,_,rfl,?_⟩
   show if decide (V.int z=V.non)=true then _ else _
   rw[show decide (V.int z=V.non)=false by simp]
   refine iteF ⟨_,rfl,_,rfl,_,_,rfl,?_⟩
   have e:atM (some z) n=if n<z then n else z:=by
    show min z n=_
    split <;> omega
   rw[e] at k
   exact k
inductive kgi (d:D) (vs:List V) (H:Hp) (Q:VK) (E_:XK):Prop
 |ct (v x:Addr)(V:Vch)(S:Stnd)(_:vs=[.ref v, .ref x])(_:VchIs d H v V)(_:StndIs d.qd H x S)(_:Q (.int (if kbE V.so=true then atM V.ms.most S.cg else 0)) H):kgi d vs H Q E_
theorem kdv:kao ["voucher","standing"] ["voucher","standing"] (kag kbw):=by ac_rfl
theorem kb9(W:WB K mg d base):FO P w W 2 d.Yd d.Ye ["voucher","standing"] (kgi d):=by
 exists W.Q9.F,kdv
 ·obtain⟨v,x,Vc,S,rfl,⟨mA,dxv,fsv,hv,lvm,_,⟨dxm,fsm,hm,m1,m2,m3,m4,m5,m6⟩,hh,htb⟩,⟨o,p,mk,⟨dxs,fss,hx,l1,l2,l3,l4,l5⟩,ho,hp,hmk⟩,k⟩:=h
  exists UO,kil,W
  refine⟨_,kac (ps_if (ka4 (kau (r:=rIsi K) kb3 (by rfl) W.B.isi b_isi (kaa (pv 0) (kaa (kcw (v:=.ref d.qp) (by rfl) W.Uh rfl) kae)))) (kah (kap (pcl UO hr W.Vj (kaa (kai (K:=K) (kai (K:=K) (pv 0) rfl) rfl) (kaa (kai (K:=K) (pv 1) rfl) kae))))) (kat))
   (kah (kap kaf)),?_⟩
  have I:=kll W hh
  refine⟨_,rfl,_,_,_,_,rfl, .inr ⟨_,rfl⟩,TyOf.ins hv (cl_of W hh) I.ha I.hn I.ht I.hm,kgB W hh,_,rfl,?_⟩
  cases e:kbE Vc.so with
  |false=>
   rw[e,if_neg ND] at k
   exact iteF k
  |true=>
   rw[e,if_pos rfl] at k
   exact iteT ⟨_,rfl,v,clsOf d Vc.so,dxv,fsv,_,rfl,hv,cl_of W hh,na_of W hh,lvm,mA,d.qi,dxm,fsm,_,rfl,hm,W.qi.cl,W.Xe,m3,_,rfl,x,d.qd,dxs,fss,_,rfl,hx,W.qd.cl,W.qV,l3,_,_,rfl,k⟩
noncomputable def kvOf(G:List (Nat×List Nat))(gl:List Addr):List (Key×V):=N2 (fun p r=>(Sum.inl (p.1:Int),V.ref r)) G gl
theorem kh0:∀{G:List (Nat×List Nat)}{gl:List Addr},gl.length=G.length→(kvOf G gl).map Prod.snd=gl.map V.ref
 |[],[],_=>rfl
 |[],r::gl,h=>by cases h
 |p::G,[],h=>by cases h
 |p::G,r::gl,h=>by
  have ih:=kh0 (G:=G) (gl:=gl) (by simpa using h)
  show V.ref r::(kvOf G gl).map Prod.snd=V.ref r::gl.map V.ref
  rw[ih]
theorem khe:∀{G:List (Nat×List Nat)}{gl:List Addr}(o a:Nat),gl.length=G.length→
  (atK (kvOf G gl) (Sum.inl (o:Int))=none∧ins G o a=G++[(o,[a])])∨∃(j:Nat)(g:List Nat)(r:Addr),G[j]?=some (o,g)∧gl[j]?=some r∧atK (kvOf G gl) (Sum.inl (o:Int))=some (.ref r)∧ins G o a=G.set j (o,g++[a])
 |[],gl,o,a,h=>.inl ⟨rfl,rfl⟩
 |(l,g)::G,[],o,a,h=>by cases h
 | (l,g)::G,r::gl,o,a,h=>by
  have hl:gl.length=G.length:=by simpa using h
  unfold ins
  by_cases e:l=o
  ·subst e
   exact .inr ⟨0,g,r,rfl,rfl,by simp[kvOf,atK],by rw[if_pos rfl];rfl⟩
  ·rw[if_neg e]
   have e':¬((l:Int)=(o:Int)):=fun z=>e (by omega)
   have ea:atK (kvOf ((l,g)::G) (r::gl)) (Sum.inl (o:Int))=atK (kvOf G gl) (Sum.inl (o:Int)):=by
    simp[kvOf,atK,Mz,e']
   rcases khe o a hl with⟨h1,h2⟩|⟨j,g',r',h1,h2,h3,h4⟩
   ·exact .inl ⟨by rw[ea];exact h1,by rw[h2];rfl⟩
   ·exact .inr ⟨j+1,g',r',by simpa using h1,by simpa using h2,by rw[ea];exact h3,by rw[h4];rfl⟩
theorem kkA{G:List (Nat×List Nat)}{gl:List Addr}{j o:Nat}{g g':List Nat}(h:G[j]?=some (o,g)):kvOf (G.set j (o,g')) gl=kvOf G gl:=by
 unfold kvOf
 apply List.ext_getElem?
 intro i
 rw[M6,M6]
 by_cases e:j=i
 ·subst e
  have hj:=at_lt h
  rw[MW hj,h]
  cases gl[j]? <;> rfl
 ·rw[MX e]
theorem kjz{G:List (Nat×List Nat)}{gl:List Addr}{o:Nat}{g:List Nat}{e:Addr}(h:gl.length=G.length):kvOf (G++[(o,g)]) (gl++[e])=kvOf G gl++[(Sum.inl (o:Int), .ref e)]:=by
 unfold kvOf
 rw[List.zipWith_append h.symm]
 rfl
structure Ptd (H H':Hp) (dd:Addr) (gl:List Addr) (G:List (Nat×List Nat)):Prop where
 sm:Same H H'
 nd:gl.Nodup
 fg:∀r∈gl,H r=none∧r≠dd
 dk:H' dd=some (.dK (kvOf G gl))
 ls:P2 (fun r p=>H' r=some (.lst (p.2.map iV))) gl G
theorem Ptd.more{H H':Hp}{dd e:Addr}{gl:List Addr}{G:List (Nat×List Nat)}(h:Ptd H H' dd gl G)(fd:H dd=none)(he:H' e=none){o a:Nat}:
  Ptd H (upd (upd (upd H' e (.lst [])) dd (.dK (kvOf G gl++[(Sum.inl (o:Int), .ref e)]))) e (.lst [iV a])) dd (gl++[e]) (G++[(o,[a])]):=by
 have e0:H e=none:=none_of h.sm he
 have ned:e≠dd:=fun z=>by rw[z,h.dk] at he;cases he
 refine⟨kaq e0 (kaq fd (h.sm.trans (kak he)) (kda (nx h.dk)))  (kda (nx kad)),?_,fun r hr=>?_,?_,?_⟩
 ·refine De.mpr ⟨h.nd,by simp,fun x hx y hy z=>?_⟩
  rw[Mt] at hy
  subst hy z
  obtain⟨i,hi⟩:=MB.mp hx
  obtain⟨p,_,hp⟩:=h.ls.at hi
  rw[hp] at he
  cases he
 ·rcases N1.mp hr with hr|hr
  ·exact h.fg r hr
  ·rw[Mt] at hr
   subst hr
   exact⟨e0,ned⟩
 ·rw[kal ned.symm,kad,kjz h.ls.len]
 ·refine P2.snoc (P2.of h.ls.len fun i r p e1 e2=>?_) kad
  have hp:=h.ls.get e1 e2
  rw[kal (kaj hp he),kal (h.fg r (NA e1)).2,kal (kaj hp he)]
  exact hp
theorem Ptd.put{H H':Hp}{dd e r:Addr}{gl:List Addr}{G:List (Nat×List Nat)}(h:Ptd H H' dd gl G)(he:H' e=none){j o a:Nat}{g:List Nat}(h1:G[j]?=some (o,g))(h2:gl[j]?=some r):
  Ptd H (upd (upd H' e (.lst [])) r (.lst (g.map iV++[iV a]))) dd gl (G.set j (o,g++[a])):=by
 have hr:=h.fg r (NA h2)
 have hrv:=h.ls.get h2 h1
 refine⟨kaq hr.1 (h.sm.trans (kak he)),h.nd,h.fg,?_,P2.of (by rw[M0];exact h.ls.len) fun i r' p e1 e2=>?_⟩
 ·rw[kal hr.2.symm,kal (kaj h.dk he),h.dk,kkA h1]
 ·by_cases eji:j=i
  ·subst eji
   rw[h2] at e1
   cases e1
   rw[MW (at_lt h1)] at e2
   cases e2
   rw[kad,Ny]
   rfl
  ·rw[MX eji] at e2
   have hp:=h.ls.get e1 e2
   have hne:r'≠r:=fun z=>by
    subst z
    exact eji ((List.getElem?_inj (at_lt h2) h.nd).mp (h2.trans e1.symm))
   rw[kal hne,kal (kaj hp he)]
   exact hp
inductive khv (CS:Addr) (vs:List V) (H:Hp) (Q:VK) (E_:XK):Prop
 |ct (x pa:Addr)(S:Stnd)(is:List Nat)(_:vs=[.ref x, .ref pa])(_:StndIs CS H x S)(_:H pa=some (.lst (is.map iV)))(_:(∀i∈is,i<S.ow.length))(_:is.length≤720)(_:∀(H':Hp)(p:Addr)(gl:List Addr),Same H H'→H p=none→H' p=some (.lst (gl.map V.ref))→P2 (fun r g=>H' r=some (.lst (g.map iV))) gl ((parted (fun i=>S.ow.getD i 0) is).map Prod.snd)→(∀r∈gl,H r=none)→Q (.ref p) H'):khv CS vs H Q E_
theorem P2.mapR{α β γ:Type}{R: α→γ→Prop}{f: β→γ}{as:List α}{bs:List β}(h:P2 (fun a b=>R a (f b)) as bs):P2 R as (bs.map f):=by
 induction h with
 |nil=>exact .nil
 |cons r t ih=>exact .cons r ih
theorem XA:kao ["standing","pieces","by_line","piece"] ["standing","pieces"] (kag kbG):=by ac_rfl
theorem kdR(W:WB K mg d base):FO P w W 1 d.Yh d.Yi ["standing","pieces"] (khv d.qd):=by
 exists W.Vh.F,XA
 ·obtain⟨x,pa,S,is,rfl,⟨o,p,mk,⟨dxs,fss,hx,l1,l2,l3,l4,l5⟩,ho,hp,hmk⟩,hpa,hi,hl,k⟩:=h
  refine⟨_,kac (psl (i:=2) XA.nd kkm)
   (kac (kbp PassesOwn.never rfl (kaG (K:=K) (pv 1)) (pgn (i:=3) XA.nd)
   (kah (kaS (pe_bm N4 Mu Mv ka5 (pe_bm Dw Dv PySem.F.type_dict_setdefault kfU (pv 2) (kaa (pe_ix (r:=rIxL K) kaC (kai (K:=K) (pv 0) rfl) (pv 3) (fun _ _=>rfl)) (kaa (kaK kae) kae))) (kaa (pv 3) kae)))))
   (kah (kap (kg6 rfl (by rfl) W.B.list (pv 2))))),?_⟩
  refine fun dd hd=>?_
  have s1:=kak (o:=.dK []) hd
  refine⟨_,rfl,pa,rfl,⟨_,SqL.of (s1 _ _ hpa)⟩,kbN (K:=K) (a:=pa) (xs:=is.map iV) (fun i σ H'=>(∃v3:Option V,σ=[some (.ref x),some (.ref pa),some (.ref dd),v3])∧∃gl,Ptd H H' dd gl (parted (fun i=>S.ow.getD i 0) (is.take i)))
   ⟨⟨none,rfl⟩,[],s1,by simp,fun r hr=>by simp at hr,kad, .nil⟩ (fun i σ H' _ h=>SqL.of (h.2.choose_spec.sm _ _ hpa)) ?_ ?_⟩
  ·rintro i y σ H1 hy ⟨⟨v3,rfl⟩,gl,Z⟩
   obtain⟨a,ea,rfl⟩:=kbM hy
   have hil:=at_lt ea
   obtain⟨ln,eln⟩:=at_of (hi a (NA ea))
   have eg:S.ow.getD a 0=ln:=by rw[NR,eln];rfl
   have enext:parted (fun i=>S.ow.getD i 0) (is.take (i+1))=ins (parted (fun i=>S.ow.getD i 0) (is.take i)) ln a:=by
    rw[kbl ea,keE,eg]
   have lenG:=kff (fun i=>S.ow.getD i 0) (is.take i)
   rw[NH] at lenG
   have lenK:(kvOf (parted (fun i=>S.ow.getD i 0) (is.take i)) gl).length<sizeLine:=by
    refine kan ?_
    unfold kvOf
    rw[M5]
    omega
   refine⟨_,rfl, .inr (.inr (.inl ⟨rfl, .inl ⟨_,Z.dk⟩⟩)),_,rfl,x,d.qd,dxs,fss,_,rfl,Z.sm _ _ hx,W.qd.cl,W.qN,l1,_,rfl,o,_,_,_,rfl,rfl,SqL.of (Z.sm _ _ ho),kaU (v:=.int (ln:Nat)) (by rw[NC,eln];rfl),by decide,fun e he=>?_⟩
   have ned:dd≠e:=kaj Z.dk he
   refine⟨dd,kvOf (parted (fun i=>S.ow.getD i 0) (is.take i)) gl,(ln:Nat), .ref e,rfl,rfl,by rw[kal ned];exact Z.dk,lenK,fun v hv=>?_,fun hn=>?_⟩
   ·rcases khe (G:=parted (fun i=>S.ow.getD i 0) (is.take i)) ln a Z.ls.len with⟨h1,_⟩|⟨j,g,r,h1,h2,h3,h4⟩
    ·rw[h1] at hv
     cases hv
    ·rw[h3] at hv
     cases hv
     have hrv:=Z.ls.get h2 h1
     have gl20:g.length≤720:=by
      have eg':=(kcR (fun i=>S.ow.getD i 0) (is.take i)).gs ln g (NA h1)
      rw[eg']
      refine Nx (M4 _ _) ?_
      rw[NH]
      omega
     have hr2:(upd H1 e (.lst [])) r=some (.lst (g.map iV)):=by rw[kal (kaj hrv he)];exact hrv
     refine⟨.inl ⟨rfl,_,SqL.of hr2⟩,_,rfl,r,_,_,rfl,rfl,hr2,kan (by rw[Nr];omega),⟨_,rfl⟩,gl,?_⟩
     rw[enext,h4]
     exact Z.put he h1 h2
   ·rcases khe (G:=parted (fun i=>S.ow.getD i 0) (is.take i)) ln a Z.ls.len with⟨_,h4⟩|⟨j,g,r,h1,h2,h3,h4⟩
    ·have he2:(upd (upd H1 e (.lst [])) dd (.dK (kvOf (parted (fun i=>S.ow.getD i 0) (is.take i)) gl++[(Sum.inl ((ln:Nat):Int), .ref e)]))) e=some (.lst []):=by rw[kal ned.symm,kad]
     refine⟨.inl ⟨rfl,_,SqL.of he2⟩,_,rfl,e,[],_,rfl,rfl,he2,by decide,⟨_,rfl⟩,gl++[e],?_⟩
     rw[enext,h4]
     exact Z.more hd he
    ·rw[h3] at hn
     cases hn
  ·rintro σ H1 ⟨⟨v3,rfl⟩,gl,Z⟩
   rw[Nr,N3] at Z
   refine⟨_,rfl,dd,_,rfl,Z.dk,fun l hl2=>?_⟩
   rw[kh0 Z.ls.len]
   refine k _ l gl (Z.sm.trans (kak hl2)) (none_of Z.sm hl2) kad (P2.mapR (f:=Prod.snd) (R:=fun r g=>(upd H1 l (.lst (gl.map V.ref))) r=some (.lst (g.map iV))) (Z.ls.mono fun r p h=>kak hl2 _ _ h)) fun r hr=>(Z.fg r hr).1
inductive kgh (d:D) (vs:List V) (H:Hp) (Q:VK) (E_:XK):Prop
 |ct (x pa:Addr)(S:Stnd)(is:List Nat)(m:Nat)(_:vs=[.ref x, .ref pa, .int m])(_:StndIs d.qd H x S)(_:H pa=some (.lst (is.map iV)))(_:is.Pairwise (· < ·))(_:(∀i∈is,i<S.pr.length))(_:is.length<64)(_:2≤m)(_:m≤20)(_:Tbs d H)(_:∀(H':Hp)(p:Addr)(gl:List Addr),Same H H'→H p=none→H' p=some (.lst (gl.map V.ref))→P2 (fun r g=>H' r=some (.lst (g.map iV))) gl (grp m (fallP S.pr is))→(∀r∈gl,H r=none)→Q (.ref p) H'):kgh d vs H Q E_
theorem kl6{pr:List Int}{is:List Nat}{ms:List Int}(hs:is.Pairwise (· < ·))(hp:ms.Perm (is.map fun(i:Nat)=>(i:Int)))(hk:ms.Pairwise fun a b=> -(pr.getD a.toNat 0)< -(pr.getD b.toNat 0)∨(-(pr.getD a.toNat 0)= -(pr.getD b.toNat 0)∧a<b)):ms.map V.int=(fallP pr is).map iV:=by
 have e:ms=(ms.map Int.toNat).map fun(i:Nat)=>(i:Int):=by
  rw[NU]
  conv=>lhs;rw[←List.map_id ms]
  refine Mn fun z hz=>?_
  obtain⟨i,_,rfl⟩:=NQ.mp (hp.mem_iff.mp hz)
  simp
 have hp2:(ms.map Int.toNat).Perm is:=by
  have:=hp.map Int.toNat
  rw[NU] at this
  have e2:is.map (Int.toNat∘fun(i:Nat)=>(i:Int))=is:=by
   conv=>rhs;rw[←List.map_id is]
   exact Mn fun i _=>rfl
  rwa [e2] at this
 have hk2:(ms.map Int.toNat).Pairwise (befP pr):=by
  rw[Df]
  refine hk.imp_of_mem fun {a b} ha hb h=>?_
  obtain⟨i,_,rfl⟩:=NQ.mp (hp.mem_iff.mp ha)
  obtain⟨j,_,rfl⟩:=NQ.mp (hp.mem_iff.mp hb)
  unfold befP
  simp only[Int.toNat_natCast] at h⊢
  omega
 rw[e,kir hs hp2 hk2,NU]
 rfl
theorem VZ:kao ["standing","pieces","many","falling"] ["standing","pieces","many"] (kag kaE):=by ac_rfl
theorem kdS(W:WB K mg d base):FO P w W 1 d.Yj d.QX ["standing","pieces","many"] (kgh d):=by
 refine FunD.okC W.Xa.F VZ (fun vs H Q E h=>?_) (fun A outer s H vs Q E hr h=>?_)
 ·obtain⟨x,pa,S,is,m,rfl,_⟩:=h
  rfl
 ·obtain⟨x,pa,S,is,m,rfl,hS,hpa,hs,hi,h64,hm2,hm20,htb,k⟩:=h
  obtain⟨o,p,mk,⟨dxs,fss,hx,l1,l2,l3,l4,l5⟩,ho,hp,hmk⟩:=id hS
  refine⟨_,kac (psl (i:=3) VZ.nd (kii (N:=["piece","standing"]) (cap:=[some 0]) (pv 1) ⟨CompScope.of (N:=["piece","standing"]) (cap:=[none,some 0]) (kag kaE).names ["standing","pieces","many","falling"] rfl rfl (by decide +kernel),rfl,rfl,rfl,rfl,by decide +kernel⟩ rfl hr.depth W.code_falling_groups W.ck_falling_groups W.blt (by rfl) W.B.sorted (fun _ _ _ _ _=>rfl) (fun _ _ _ _ _=>(pe_un kep (pe_ix (r:=rIxL K) kaC (kai (K:=K) (pv 1) rfl) (pv 0) (fun _ _=>rfl)))) (by rfl)))
   (kah (kap (kbf (N:=["start","falling","many"]) (CompScope.of (N:=["start","falling","many"]) (cap:=[none,some 3,some 2]) (kag kaE).names ["standing","pieces","many","falling"] rfl rfl (by decide +kernel)) rfl (kih rfl W.B.range (kaa kaf (kaa (pe_op kaz (pe_op kcB (kau (r:=ka6 K) kax (by rfl) W.B.len b_len (kaa (pv 3) kae)) (pv 2)) kaf) (kaa (pv 2) kae)))) (fun _ _ _ _=>pgn (i:=0) (show(["start","falling","many"]:List Str).Nodup by decide +kernel)) (fun _ _ _ _=>(kc2 (r:=rSlL K) kdK (pv 1) (kcQ (pv 0)) (kcQ (pe_op kaz (pv 0) (pv 2)))))))),?_⟩
  have htb':TbAt d.tP_falling_groups H:=htb
  obtain⟨qs0,eT,_⟩:=id htb'
  have npT:∀{b:Addr}{u:HO},H b=some u→(∀ps,u≠.tbl ps)→b≠d.tP_falling_groups:=fun {b u} e hn z=>by
   rw[z,eT] at e
   cases e
   exact hn _ rfl
  have ei:is.map iV=(is.map fun(i:Nat)=>(i:Int)).map V.int:=by rw[NU];rfl
  refine⟨_,rfl,pa,is.map fun(i:Nat)=>(i:Int),fun a=> -(S.pr.getD a.toNat 0),rfl,SqL.of (by rw[←ei];exact hpa),by rw[Nr];exact h64,?_,htb',npT hpa (fun ps z=>by cases z),fun H2 G n hn=>?_,fun H2 l ms G f1 f2 hpm hpw=>?_⟩
  ·rw[Df]
   exact hs.imp fun {a b} h=>by omega
  ·obtain⟨i,hin,rfl⟩:=NQ.mp hn
   obtain⟨z,ez⟩:=at_of (hi i hin)
   have hx2:=G.kp _ _ (npT hx (fun ps z=>by cases z)) hx
   have hp2:=G.kp _ _ (npT hp (fun ps z=>by cases z)) hp
   refine⟨_,rfl,x,d.qd,dxs,fss,_,rfl,hx2,W.qd.cl,W.qw,l2,_,rfl,p,_,_,_,rfl,rfl,SqL.of hp2,kaU (v:=.int z) (by rw[NC,ez];rfl),_,rfl,?_,rfl⟩
   show V.int (-z)=V.int (-(S.pr.getD ((i:Int)).toNat 0))
   rw[Int.toNat_natCast,NR,ez]
   rfl
  have s2:=G.same htb'
  rw[kl6 hs hpm hpw]
  have lf:(fallP S.pr is).length=is.length:=(kbz S.pr is).length_eq
  have s3:=s2.trans (kak (o:=.lst ((fallP S.pr is).map iV)) f2)
  have el:(upd H2 l (.lst ((fallP S.pr is).map iV))) l=some (.lst ((fallP S.pr is).map iV)):=kad
  generalize upd H2 l (.lst ((fallP S.pr is).map iV))=H3 at *
  have ecnt:(Builtin.Range.rangeSize 0 ((((fallP S.pr is).map iV).length:Int)-(m:Int)+1) (m:Int)).toNat=(fallP S.pr is).length/m:=by
   rw[Nr]
   exact kgX (by omega)
  have lg:=khf m (fallP S.pr is)
  refine⟨_,rfl,l,_,rfl, .inl (SqL.of el),_,rfl,_,_,rfl,rfl,_,_,rfl,rfl,_,rfl,0,_,_,rfl,by omega,?_,by omega,by omega,?_⟩
  ·rw[Nr]
   omega
  rw[ecnt]
  refine kj1 (n:=(fallP S.pr is).length/m) (fun i σ ys H'=>Same H3 H'∧(∃v0:Option V,σ=[v0,some (.ref l),some (.int m)])∧∃gl,ys=gl.map V.ref∧P2 (fun r g=>H' r=some (.lst (g.map iV))) gl ((grp m (fallP S.pr is)).take i)∧∀r∈gl,H r=none)
   ⟨Same.refl _,⟨none,rfl⟩,[],rfl, .nil,fun r hr=>by simp at hr⟩ ?_ ?_ ?_ ?_
  ·have:(grp m (fallP S.pr is)).length=(fallP S.pr is).length/m:=by simp[grp]
   exact NF (kan (by omega))
  ·rintro i σ ys H' hi' ⟨_,_,gl,rfl,hP,_⟩
   rw[Nr,hP.len,NH]
   have:(grp m (fallP S.pr is)).length=(fallP S.pr is).length/m:=by simp[grp]
   omega
  ·rintro i σ ys H' hi' ⟨s4,⟨v0,rfl⟩,gl,rfl,hP,hfr⟩
   have eg:(grp m (fallP S.pr is))[i]?=some (((fallP S.pr is).drop (i*m)).take m):=by
    unfold grp
    rw[NC,EK hi']
    rfl
   have ecut:cutV ((fallP S.pr is).map iV) (some (0+(i:Int)*(m:Int))) (some (0+(i:Int)*(m:Int)+(m:Int)))=(((fallP S.pr is).drop (i*m)).take m).map iV:=by
    have:=kmf ((fallP S.pr is).map iV) (i*m) m
    rw[show(0:Int)+(i:Int)*(m:Int)=((i*m:Nat):Int) by rw[Int.zero_add,Int.natCast_mul],show((i*m:Nat):Int)+(m:Int)=((i*m+m:Nat):Int) by rw[Int.natCast_add],this,MQ,El]
   refine⟨_,rfl,_,rfl,_,rfl,_,rfl,_,rfl,_,_,rfl,rfl,_,rfl,l,_,rfl,SqL.of (s4 _ _ el),fun r hr=>?_⟩
   refine⟨s4.trans (kak hr),⟨_,rfl⟩,gl++[r],by rw[Ny];rfl,?_,fun r' hr'=>?_⟩
   ·rw[kbl eg,ecut]
    exact P2.snoc (hP.mono fun r' g e=>kak hr _ _ e) kad
   ·rcases N1.mp hr' with h|h
    ·exact hfr r' h
    ·rw[Mt] at h
     rw[h]
     exact(s3.trans s4).free hr
  ·rintro σ ys H' ⟨s4,⟨v0,rfl⟩,gl,rfl,hP,hfr⟩ D hD
   have el2:(grp m (fallP S.pr is)).length=(fallP S.pr is).length/m:=by simp[grp]
   rw[Ml (by omega)] at hP
   exact k _ D gl ((s3.trans s4).trans (kak hD)) ((s3.trans s4).free hD) kad (hP.mono fun r g e=>kak hD _ _ e) hfr
theorem QN:kao ["voucher","standing","pieces","groups","lasts"] ["voucher","standing","pieces"] (kag kbb):=by ac_rfl
theorem ke6(W:WB K mg d base):FO P w W 3 d.Yf d.Yg ["voucher","standing","pieces"] (khr d):=by
 exists W.Vg.F,QN
 ·obtain⟨v,x,pa,⟨so,ms⟩,ps,B,S,rfl,⟨mA,dxv,fsv,hv,lvm,hso,hM,hh,htb⟩,hS,hpa,wf,vo,k⟩:=h
  exists Qs,kcC,W
  exists UP,kdR,W
  exists V0,kdS,W
  exists hr1,1,hr,0
  refine⟨_,kac (ps_if (ka4 (kau (r:=rIsi K) kb3 (by rfl) W.B.isi b_isi (kaa (pv 0) (kaa (kcw (v:=.ref d.c_Off) (by rfl) W.g_Off rfl) kae)))) (kah (kap (kaK (kaa (ka0 (kaa (kau (kdE rfl) (by rfl) W.B.min b_min (kaa (kai (K:=K) (pv 0) rfl) (kaa (pcl Qs hr W.Qb (kaa (pv 1) (kaa (pv 2) kae))) kae))) (kaa (pv 2) kae))) kae)))) (kat))
   (kac (ps_if (ka4 (kau (r:=rIsi K) kb3 (by rfl) W.B.isi b_isi (kaa (pv 0) (kaa (kcw (v:=.ref d.ql) (by rfl) W.Ud rfl) kae)))) (kac (psl (i:=3) QN.nd (kmw (khN (ka4 (kai (K:=K) (pv 0) rfl)) (pcl UP hr1 W.Vh (kaa (pv 1) (kaa (pv 2) kae))) (kaK (kaa (pv 2) kae)))))
   (kah (kap (kbf (N:=["group","standing","voucher"]) (CompScope.of (N:=["group","standing","voucher"]) (cap:=[none,some 1,some 0]) (kag kbb).names ["voucher","standing","pieces","groups","lasts"] rfl rfl (by decide +kernel)) rfl (kaG (K:=K) (pv 3)) (fun _ _ _ _=>pgn (i:=0) (show(["group","standing","voucher"]:List Str).Nodup by decide +kernel)) (fun _ _ _ _=>(ka0 (kaa (pe_op kdP (pe_op kb7 (pcl Qs hr W.Qb (kaa (pv 1) (kaa (pv 0) kae))) (kai (K:=K) (pv 2) rfl)) kaf) (kaa (pv 0) kae)))))))) (kat))
   (kac (ps_if (ka4 (kau (r:=rIsi K) kb3 (by rfl) W.B.isi b_isi (kaa (pv 0) (kaa (kcw (v:=.ref d.qo) (by rfl) W.Ue rfl) kae)))) (kac (keA (N:=["group"]) (CompScope.plain rfl (by decide +kernel) (by decide +kernel) (by decide +kernel) (nd1 _)) rfl (kaG (K:=K) (pcl V0 hr1 W.Xa (kaa (pv 1) (kaa (pv 2) (kaa (kai (K:=K) (pv 0) rfl) kae))))) (fun _ _ _ _=>pgn (i:=0) (nd1 _)) (fun _ _ _ _=>(pe_ix (r:=rIxL K) kaC (pv 0) (pe_un kep kaf) (fun _ _=>rfl))) (pgn (i:=4) QN.nd))
   (kah (kap (kbf (N:=["last","standing"]) (CompScope.of (N:=["last","standing"]) (cap:=[none,some 1]) (kag kbb).names ["voucher","standing","pieces","groups","lasts"] rfl rfl (by decide +kernel)) rfl (kaG (K:=K) (pv 4)) (fun _ _ _ _=>pgn (i:=0) (show(["last","standing"]:List Str).Nodup by decide +kernel)) (fun _ _ _ _=>(ka0 (kaa (pe_ix (r:=rIxL K) kaC (kai (K:=K) (pv 1) rfl) (pv 0) (fun _ _=>rfl)) (kaa (kaK (kaa (pv 0) kae)) kae)))))))) (kat))
   (kac (ps_if (ka4 (kau (r:=rIsi K) kb3 (by rfl) W.B.isi b_isi (kaa (pv 0) (kaa (kcw (v:=.ref d.qm) (by rfl) W.Ug rfl) kae)))) (kac (psl (i:=3) QN.nd (pcl V0 hr1 W.Xa (kaa (pv 1) (kaa (pv 2) (kaa (kai (K:=K) (pv 0) rfl) kae)))))
   (kah (kap (kbf (N:=["group","standing","voucher"]) (CompScope.of (N:=["group","standing","voucher"]) (cap:=[none,some 1,some 0]) (kag kbb).names ["voucher","standing","pieces","groups","lasts"] rfl rfl (by decide +kernel)) rfl (kaG (K:=K) (pv 3)) (fun _ _ _ _=>pgn (i:=0) (show(["group","standing","voucher"]:List Str).Nodup by decide +kernel)) (fun _ _ _ _=>(ka0 (kaa (kau (kdF rfl) (by rfl) W.B.max b_max (kaa (pe_op kcB (pcl Qs hr W.Qb (kaa (pv 1) (kaa (pv 0) kae))) (kai (K:=K) (pv 2) rfl)) (kaa kaf kae))) (kaa (pv 0) kae)))))))) (kat))
   (kah (kap (kaK kae)))))),?_⟩
  have I:=kll W hh
  exists Y4
  refine⟨_,rfl,_,_,_,_,rfl, .inr ⟨_,rfl⟩,TyOf.ins hv (cl_of W hh) I.ha I.hn I.ht I.hm,kl5 W hh,_,rfl,?_⟩
  have lp:=wf.lp
  have np:=wf.np
  have habl:∀i∈abt ps (kds B) ms.kind ms.lone S,i<S.pr.length:=fun i hi=>by rw[lp];exact kid hi
  have habo:∀i∈abt ps (kds B) ms.kind ms.lone S,i<S.ow.length:=fun i hi=>kid hi
  have hand:=kgQ ps (kds B) ms.kind ms.lone S
  have lab:(abt ps (kds B) ms.kind ms.lone S).length≤720:=Nx (ke3 _ _ _ _ _) np
  cases so with
  | off am=>
   have qn:=kb5 (qs_nn wf.nn (abt ps (kds B) ms.kind ms.lone S))
   have ha:0≤am∧am≤1000000000000:=vo.so
   refine iteT ?_
   symm
   exists Y6
   refine⟨_,rfl,v,d.c_Off,dxv,fsv,_,rfl,hv,W.c_Off.cl,W.VH,hso,_,rfl,_,rfl,x,pa,S,_,rfl,hS,hpa,habl,lab,fun H1 s1=>?_⟩
   nofun
   exists Y6
   refine⟨_,_,rfl,_,rfl,(by show 2≤sizeLine;decide),fun t ht=>⟨(by show 1≤sizeLine;decide),fun l hl=>?_⟩⟩
   have emin:(if(qs S.pr (abt ps (kds B) ms.kind ms.lone S)).sum<am then(qs S.pr (abt ps (kds B) ms.kind ms.lone S)).sum else am)=min am (qs S.pr (abt ps (kds B) ms.kind ms.lone S)).sum:=by
    split <;> omega
   rw[emin] at hl⊢
   have s2:=s1.trans (kak (o:=.tup [.int (min am (qs S.pr (abt ps (kds B) ms.kind ms.lone S)).sum), .ref pa]) ht)
   have s3:=s2.trans (kak (o:=.lst [.ref t]) hl)
   nofun
   refine k _ l [t] [(min am (qs S.pr (abt ps (kds B) ms.kind ms.lone S)).sum,abt ps (kds B) ms.kind ms.lone S)] s3 (none_of s2 hl) kad (.cons ⟨pa,kak hl _ _ kad,s3 _ _ hpa, .inl rfl⟩ .nil) ?_ ?_ ?_ (by simp) ?_
   ·intro c g hc
    rw[Mt] at hc
    cases hc
    nofun
    exact⟨by omega,by omega,lab⟩
   ·simpa using hand
   ·simpa using habl
   ·simp[want]
  | share sh bl=>
   have hsh:1≤sh∧sh≤1000:=vo.so
   refine iteF ?_
   symm
   exists Y6
   refine⟨_,rfl,_,_,_,_,rfl, .inr ⟨_,rfl⟩,TyOf.ins hv (cl_of W hh) I.ha I.hn I.ht I.hm,kdC W hh,_,rfl,iteT ?_⟩
   nofun
   exists Y6
   refine⟨fun gv H1=>∃(gp:Addr)(gl:List Addr)(gs:List (List Nat)),gv=.ref gp∧Same H H1∧H gp=none∧H1 gp=some (.lst (gl.map V.ref))∧P2 (fun r g=>H1 r=some (.lst (g.map iV))) gl gs∧(∀r∈gl,r=pa∨H r=none)∧gs.length≤720∧(∀g∈gs,g.length≤720)∧gs.flatten.Nodup∧(∀i∈gs.flatten,i<S.pr.length)∧
    spr S.pr.length gs.flatten (gs.map fun g=>dl ((qs S.pr g).sum*sh/1000) (qs S.pr g)).flatten=spr S.pr.length (abt ps (kds B) ms.kind ms.lone S) (want (.share sh bl) S.mkd.length ((abt ps (kds B) ms.kind ms.lone S).map fun i=>S.ow.getD i 0) (qs S.pr (abt ps (kds B) ms.kind ms.lone S))),?_,?_⟩
   ·refine⟨_,rfl,v,d.ql,dxv,fsv,_,rfl,hv,W.ql.cl,W.VL,hso.2,bl,rfl,?_⟩
    cases bl with
    | true=>
     refine iteT ?_
     nofun
     exists Y10
     refine⟨_,rfl,_,rfl,x,pa,S,_,rfl,hS,hpa,habo,lab,fun H1 p gl s1 f1 h1 hP hg=>⟨p,gl,_,rfl,s1,f1,h1,hP,fun r hr=>.inr (hg r hr),?_,?_,?_,?_,?_⟩⟩
     ·rw[Nr]
      exists 4
      exact Nx (kff _ _) lab
     ·intro g hg'
      rw[(kcR (fun i=>S.ow.getD i 0) (abt ps (kds B) ms.kind ms.lone S)).snds] at hg'
      obtain⟨l,_,rfl⟩:=NQ.mp hg'
      exists 4
      exact Nx (M4 _ _) lab
     ·have ok:=kcR (fun i=>S.ow.getD i 0) (abt ps (kds B) ms.kind ms.lone S)
      rw[ok.snds]
      exists 4
      exact keD (f:=fun i=>S.ow.getD i 0) hand ok.nd
     ·intro i hi
      rw[(kcR (fun i=>S.ow.getD i 0) (abt ps (kds B) ms.kind ms.lone S)).snds] at hi
      obtain⟨g,hg',hi'⟩:=MI.mp hi
      obtain⟨l,_,rfl⟩:=NQ.mp hg'
      exists 4
      exact habl i (Mo.mp hi').1
     ·refine kik (fun z=>z*sh/1000) hand fun i hi=>?_
      obtain⟨ln,eln⟩:=at_of (habo i hi)
      rw[NR,eln,wf.lm]
      exists 4
      exact wf.line eln
    |false=>
     refine iteF ?_
     nofun
     exists Y10
     refine⟨_,rfl,(by show 1≤sizeLine;decide),fun p hp=>⟨p,[pa],[abt ps (kds B) ms.kind ms.lone S],rfl,kak hp,hp,kad, .cons (kak hp _ _ hpa) .nil,fun r hr=>.inl (by simpa using hr),by simp,fun g hg=>?_,by simpa using hand,by simpa using habl,by simp[want]⟩⟩
     rw[Mt] at hg
     rw[hg]
     exists 4
     exact lab
   rintro gv H1 ⟨gp,gl,gs,rfl,s1,f1,h1,hP,hor,lgs,lg,gnd,glt,gsp⟩
   have lgl:=hP.len
   have gok:∀g∈gs,∀i∈g,i<S.pr.length:=fun g hg i hi=>glt i (MI.mpr ⟨g,hg,hi⟩)
   nofun
   exists Y6
   refine⟨_,rfl,gp,rfl,⟨_,SqL.of h1⟩,kaO (xs:=gl.map V.ref) (fun i σ ys H'=>Same H1 H'∧(∃v0:Option V,σ=[v0,some (.ref x),some (.ref v)])∧∃tl,ys=tl.map V.ref∧P2 (GrpAt H H' pa) tl ((gs.take i).map fun g=>((qs S.pr g).sum*sh/1000,g)))
    ⟨Same.refl _,⟨none,rfl⟩,[],rfl, .nil⟩ (by rw[Nr];exact NF (kan (by omega))) ?_ ?_ ?_⟩
   ·rintro i σ ys H2 hi ⟨s2,_,tl,rfl,hT⟩
    nofun
    exists Y8
    refine⟨SqL.of (s2 _ _ h1),?_⟩
    rw[Nr,hT.len,Nr,NH]
    rw[Nr] at hi
    omega
   ·rintro i y σ ys H2 hy ⟨s2,⟨v0,rfl⟩,tl,rfl,hT⟩
    obtain⟨r,er,rfl⟩:=kbV hy
    obtain⟨g,eg,hr⟩:=hP.at er
    have s12:=s1.trans s2
    have hg:=NA eg
    have sn:=kb5 (qs_nn wf.nn g)
    have sl:=ki5 wf (lg g hg) (gok g hg)
    exists 3
    exists Y8
    refine⟨_,rfl,_,rfl,x,r,S,g,rfl,hS.same s12,s2 _ _ hr,gok g hg,lg g hg,fun H3 s3=>?_⟩
    have s13:=s12.trans s3
    exists 3
    exists Y8
    refine⟨_,rfl,v,d.ql,dxv,fsv,_,rfl,s13 _ _ hv,W.ql.cl,W.VJ,hso.1,_,_,rfl,rfl, .inl ⟨by omega,by omega⟩,_,_,rfl,rfl,⟨by decide,by decide⟩,_,rfl,(by show 2≤sizeLine;decide),fun t ht=>?_⟩
    have s4:=kak (o:=.tup [.int ((qs S.pr g).sum*sh/1000), .ref r]) ht
    exists 3
    exists Y8
    refine⟨(s2.trans s3).trans s4,⟨_,rfl⟩,tl++[t],by rw[Ny];rfl,?_⟩
    rw[kbl eg,Ny]
    exists 3
    refine P2.snoc (hT.mono fun t' q ⟨ga,a1,a2,a3⟩=>⟨ga,(s3.trans s4) _ _ a1,(s3.trans s4) _ _ a2,a3⟩) ⟨r,kad,((s2.trans s3).trans s4) _ _ hr,hor r (NA er)⟩
   ·rintro σ ys H2 ⟨s2,⟨v0,rfl⟩,tl,rfl,hT⟩ D hD
    rw[Nr,lgl,N3] at hT
    have s3:=kak (o:=.lst (tl.map V.ref)) hD
    have e1:(gs.map fun g=>((qs S.pr g).sum*sh/1000,g)).map Prod.snd=gs:=by
     rw[NU]
     exists 3
     exact List.map_id' gs
    exists 3
    refine k _ D tl _ ((s1.trans s2).trans s3) (none_of (s1.trans s2) hD) kad (hT.mono fun t' q ⟨ga,a1,a2,a3⟩=>⟨ga,s3 _ _ a1,s3 _ _ a2,a3⟩) ?_ (by rw[e1];exact gnd) (by rw[e1];exact glt) (by rw[Nr];exact lgs) ?_
    ·intro c g hc
     obtain⟨g',hg',e⟩:=NQ.mp hc
     cases e
     have sn:=kb5 (qs_nn wf.nn g)
     have:=kfz sn hsh.1 hsh.2
     exists 3
     exact⟨this.1,this.2,lg g hg'⟩
    ·rw[e1,NU]
     exists 3
     exact gsp
  | cheap n=>
   have hn:2≤n∧n≤20:=vo.so
   obtain⟨m,rfl⟩:∃m:Nat,n=m:=⟨n.toNat,by omega⟩
   refine iteF ?_
   symm
   refine⟨_,rfl,_,_,_,_,rfl, .inr ⟨_,rfl⟩,TyOf.ins hv (cl_of W hh) I.ha I.hn I.ht I.hm,kdC W hh,_,rfl,iteF ⟨_,rfl,_,_,_,_,rfl, .inr ⟨_,rfl⟩,TyOf.ins hv (cl_of W hh) I.ha I.hn I.ht I.hm,kcW W hh,_,rfl,iteT ?_⟩⟩
   have hpw:(abt ps (kds B) ms.kind ms.lone S).Pairwise (· < ·):=M1.filter _ Dc
   have l64:(abt ps (kds B) ms.kind ms.lone S).length<64:=MD (ke3 _ _ _ _ _) wf.n64
   symm
   exists Y6
   refine⟨_,rfl,_,rfl,_,rfl,v,d.qo,dxv,fsv,_,rfl,hv,W.qo.cl,W.VN,hso,x,pa,S,_,m,rfl,hS,hpa,hpw,habl,l64,by omega,by omega,htb,fun H1 gp gl s1 f1 h1 hP0 hg=>?_⟩
   have hP:P2 (fun r g=>H1 r=some (.lst (g.map iV))) gl (grp m (fallP S.pr (abt ps (kds B) ms.kind ms.lone S))):=hP0
   clear hP0
   have lgl:=hP.len
   have lG:=khf m (fallP S.pr (abt ps (kds B) ms.kind ms.lone S))
   have lf:(fallP S.pr (abt ps (kds B) ms.kind ms.lone S)).length=(abt ps (kds B) ms.kind ms.lone S).length:=(kbz _ _).length_eq
   have hgr:∀{i:Nat}{g:List Nat},(grp m (fallP S.pr (abt ps (kds B) ms.kind ms.lone S)))[i]?=some g→0<g.length∧g[g.length-1]?=some (g.getLastD 0)∧g.getLastD 0∈abt ps (kds B) ms.kind ms.lone S:=fun {i g} eg=>by
    obtain⟨h1,h2,h3⟩:=kh4 eg
    have h4:=khd (by omega) eg
    nofun
    exists Y8
    refine⟨by omega,?_,(kbz _ _).mem_iff.mp (NA h4)⟩
    rw[h2,h3 _ (by omega)]
    exists 3
    exact h4
   have hla:∀a∈lasts (grp m (fallP S.pr (abt ps (kds B) ms.kind ms.lone S))),a∈abt ps (kds B) ms.kind ms.lone S:=fun a ha=>by
    obtain⟨g,hg',rfl⟩:=NQ.mp ha
    obtain⟨j,hj⟩:=MB.mp hg'
    nofun
    exact(hgr hj).2.2
   nofun
   exists Y6
   refine⟨gp,rfl,⟨_,SqL.of h1⟩,kaO (xs:=gl.map V.ref) (fun i σ ys H'=>Same H1 H'∧(∃v0:Option V,σ=[v0])∧ys=((lasts (grp m (fallP S.pr (abt ps (kds B) ms.kind ms.lone S)))).take i).map iV)
    ⟨Same.refl _,⟨none,rfl⟩,rfl⟩ (by rw[Nr];exact NF (kan (by omega))) ?_ ?_ ?_⟩
   ·rintro i σ ys H2 hi ⟨s2,_,rfl⟩
    nofun
    exists Y8
    refine⟨SqL.of (s2 _ _ h1),?_⟩
    rw[Nr,NH,kdB]
    rw[Nr] at hi
    omega
   ·rintro i y σ ys H2 hy ⟨s2,⟨v0,rfl⟩,rfl⟩
    obtain⟨r,er,rfl⟩:=kbV hy
    obtain⟨g,eg,hr⟩:=hP.at er
    obtain⟨g0,g1,g2⟩:=hgr eg
    have al:atI (g.map iV) (-1)=some (iV (g.getLastD 0)):=kj6 (by rw[Nr,NC,g1];rfl) (by rw[Nr];exact g0)
    exists 3
    exists Y8
    refine⟨_,rfl,1,rfl,r,_,_,_,rfl,rfl,SqL.of (s2 _ _ hr),al,s2,⟨_,rfl⟩,?_⟩
    rw[kbl (r:=g.getLastD 0) (by unfold lasts;rw[NC,eg];rfl),Ny]
    rfl
   rintro σ ys H2 ⟨s2,⟨v0,rfl⟩,rfl⟩ D hD
   rw[Nr,lgl,Ml (by rw[kdB];exact Nv _)]
   have s3:=s2.trans (kak (o:=.lst ((lasts (grp m (fallP S.pr (abt ps (kds B) ms.kind ms.lone S)))).map iV)) hD)
   have fD:H D=none:=none_of (s1.trans s2) hD
   have eD:(upd H2 D (.lst ((lasts (grp m (fallP S.pr (abt ps (kds B) ms.kind ms.lone S)))).map iV))) D=some (.lst ((lasts (grp m (fallP S.pr (abt ps (kds B) ms.kind ms.lone S)))).map iV)):=kad
   generalize upd H2 D (.lst ((lasts (grp m (fallP S.pr (abt ps (kds B) ms.kind ms.lone S)))).map iV))=H3 at *
   obtain⟨o,p,mk,⟨dxs,fss,hx,l1,l2,l3,l4,l5⟩,ho,hp,hmk⟩:=id hS
   have s13:=s1.trans s3
   have lL:=kdB (grp m (fallP S.pr (abt ps (kds B) ms.kind ms.lone S)))
   nofun
   exists Y6
   refine⟨_,rfl,D,rfl,⟨_,SqL.of eD⟩,kaO (xs:=(lasts (grp m (fallP S.pr (abt ps (kds B) ms.kind ms.lone S)))).map iV) (fun i σ ys H'=>Same H3 H'∧(∃v0:Option V,σ=[v0,some (.ref x)])∧∃tl,ys=tl.map V.ref∧P2 (GrpAt H H' pa) tl (((lasts (grp m (fallP S.pr (abt ps (kds B) ms.kind ms.lone S)))).take i).map fun a=>(S.pr.getD a 0,[a])))
    ⟨Same.refl _,⟨none,rfl⟩,[],rfl, .nil⟩ (by rw[Nr];exact NF (kan (by omega))) ?_ ?_ ?_⟩
   ·rintro i σ ys H4 hi ⟨s4,_,tl,rfl,hT⟩
    nofun
    exists Y8
    refine⟨SqL.of (s4 _ _ eD),?_⟩
    rw[Nr,hT.len,Nr,NH]
    rw[Nr] at hi
    omega
   ·rintro i y σ ys H4 hy ⟨s4,⟨v0,rfl⟩,tl,rfl,hT⟩
    obtain⟨a,ea,rfl⟩:=kbM hy
    have ha:=hla a (NA ea)
    obtain⟨z,ez⟩:=at_of (habl a ha)
    have ez':S.pr.getD a 0=z:=by rw[NR,ez];rfl
    have s14:=s13.trans s4
    exists 3
    exists Y8
    refine⟨_,rfl,x,d.qd,dxs,fss,_,rfl,s14 _ _ hx,W.qd.cl,W.qw,l2,_,rfl,p,_,_,_,rfl,rfl,SqL.of (s14 _ _ hp),kaU (v:=.int z) (by rw[NC,ez];rfl),_,rfl,(by show 1≤sizeLine;decide),fun q hq=>⟨(by show 2≤sizeLine;decide),fun t ht=>?_⟩⟩
    have s5:=(kak (o:=.lst [iV a]) hq).trans (kak (o:=.tup [.int z, .ref q]) ht)
    exists 3
    exists Y8
    refine⟨s4.trans s5,⟨_,rfl⟩,tl++[t],by rw[Ny];rfl,?_⟩
    rw[kbl ea,Ny]
    exists 3
    exact P2.snoc (hT.mono fun t' q' ⟨ga,a1,a2,a3⟩=>⟨ga,s5 _ _ a1,s5 _ _ a2,a3⟩) ⟨q,by show upd _ _ _ _=some (.tup [.int (S.pr.getD a 0), .ref q]);rw[ez'];exact kad,kak ht _ _ kad, .inr (none_of s14 hq)⟩
   ·rintro σ ys H4 ⟨s4,⟨v0,rfl⟩,tl,rfl,hT⟩ D2 hD2
    rw[Nr,N3] at hT
    have s5:=kak (o:=.lst (tl.map V.ref)) hD2
    have e1:((lasts (grp m (fallP S.pr (abt ps (kds B) ms.kind ms.lone S)))).map fun a=>(S.pr.getD a 0,[a])).map Prod.snd=(lasts (grp m (fallP S.pr (abt ps (kds B) ms.kind ms.lone S)))).map fun a=>[a]:=by
     rw[NU]
     rfl
    have e2:=kiX (fun i=>S.pr.getD i 0) (lasts (grp m (fallP S.pr (abt ps (kds B) ms.kind ms.lone S))))
    exists 3
    refine k _ D2 tl _ ((s13.trans s4).trans s5) (none_of (s13.trans s4) hD2) kad (hT.mono fun t' q ⟨ga,a1,a2,a3⟩=>⟨ga,s5 _ _ a1,s5 _ _ a2,a3⟩) ?_ (by rw[e1,e2.1];exact khc (by omega) (keY hand)) (by rw[e1,e2.1];exact fun i hi=>habl i (hla i hi)) (by rw[Nr];omega) ?_
    ·intro c g hc
     obtain⟨a,ha,e⟩:=NQ.mp hc
     cases e
     have q0:(qs S.pr [a]).sum=S.pr.getD a 0:=by simp[qs]
     have q1:=kb5 (qs_nn wf.nn [a])
     rw[q0] at q1⊢
     exists 3
     exact⟨q1,Int.le_refl _,by simp⟩
    ·rw[e1,e2.1,NU]
     have e3:(lasts (grp m (fallP S.pr (abt ps (kds B) ms.kind ms.lone S)))).map ((fun p=>dl p.1 (qs S.pr p.2))∘fun a=>(S.pr.getD a 0,[a]))=(lasts (grp m (fallP S.pr (abt ps (kds B) ms.kind ms.lone S)))).map fun a=>[S.pr.getD a 0]:=
      Mn fun a _=>kmS _
     rw[e3,e2.2]
     exists 3
     exact(kj3 (by omega) hand).symm
  | bund n pc=>
   have hn:2≤n∧n≤20∧0≤pc∧pc≤1000000000000:=vo.so
   obtain⟨m,rfl⟩:∃m:Nat,n=m:=⟨n.toNat,by omega⟩
   refine iteF ?_
   symm
   refine⟨_,rfl,_,_,_,_,rfl, .inr ⟨_,rfl⟩,TyOf.ins hv (cl_of W hh) I.ha I.hn I.ht I.hm,kdC W hh,_,rfl,iteF ⟨_,rfl,_,_,_,_,rfl, .inr ⟨_,rfl⟩,TyOf.ins hv (cl_of W hh) I.ha I.hn I.ht I.hm,kcW W hh,_,rfl,iteF ⟨_,rfl,_,_,_,_,rfl, .inr ⟨_,rfl⟩,TyOf.ins hv (cl_of W hh) I.ha I.hn I.ht I.hm,kfi W hh,_,rfl,iteT ?_⟩⟩⟩
   have hpw:(abt ps (kds B) ms.kind ms.lone S).Pairwise (· < ·):=M1.filter _ Dc
   have l64:(abt ps (kds B) ms.kind ms.lone S).length<64:=MD (ke3 _ _ _ _ _) wf.n64
   symm
   exists Y6
   refine⟨_,rfl,_,rfl,_,rfl,v,d.qm,dxv,fsv,_,rfl,hv,W.qm.cl,W.VP,hso.1,x,pa,S,_,m,rfl,hS,hpa,hpw,habl,l64,by omega,by omega,htb,fun H1 gp gl s1 f1 h1 hP0 hg=>?_⟩
   have hP:P2 (fun r g=>H1 r=some (.lst (g.map iV))) gl (grp m (fallP S.pr (abt ps (kds B) ms.kind ms.lone S))):=hP0
   clear hP0
   have lgl:=hP.len
   have lG:=khf m (fallP S.pr (abt ps (kds B) ms.kind ms.lone S))
   have lf:(fallP S.pr (abt ps (kds B) ms.kind ms.lone S)).length=(abt ps (kds B) ms.kind ms.lone S).length:=(kbz _ _).length_eq
   have gin:∀g∈grp m (fallP S.pr (abt ps (kds B) ms.kind ms.lone S)),∀i∈g,i∈abt ps (kds B) ms.kind ms.lone S:=fun g hg' i hi=>(kbz _ _).mem_iff.mp (kjK hg' i hi)
   have gok:∀g∈grp m (fallP S.pr (abt ps (kds B) ms.kind ms.lone S)),∀i∈g,i<S.pr.length:=fun g hg' i hi=>habl i (gin g hg' i hi)
   have lg:∀g∈grp m (fallP S.pr (abt ps (kds B) ms.kind ms.lone S)),g.length≤720:=fun g hg'=>by
    obtain⟨j,hj⟩:=MB.mp hg'
    have:=(kh4 hj).2.1
    omega
   generalize egs:grp m (fallP S.pr (abt ps (kds B) ms.kind ms.lone S))=gs at *
   nofun
   exists Y6
   refine⟨_,rfl,gp,rfl,⟨_,SqL.of h1⟩,kaO (xs:=gl.map V.ref) (fun i σ ys H'=>Same H1 H'∧(∃v0:Option V,σ=[v0,some (.ref x),some (.ref v)])∧∃tl,ys=tl.map V.ref∧P2 (GrpAt H H' pa) tl ((gs.take i).map fun g=>(max 0 ((qs S.pr g).sum-pc),g)))
    ⟨Same.refl _,⟨none,rfl⟩,[],rfl, .nil⟩ (by rw[Nr];exact NF (kan (by omega))) ?_ ?_ ?_⟩
   ·rintro i σ ys H2 hi ⟨s2,_,tl,rfl,hT⟩
    nofun
    exists Y8
    refine⟨SqL.of (s2 _ _ h1),?_⟩
    rw[Nr,hT.len,Nr,NH]
    rw[Nr] at hi
    omega
   ·rintro i y σ ys H2 hy ⟨s2,⟨v0,rfl⟩,tl,rfl,hT⟩
    obtain⟨r,er,rfl⟩:=kbV hy
    obtain⟨g,eg,hr⟩:=hP.at er
    have s12:=s1.trans s2
    have hg':=NA eg
    have sn:=kb5 (qs_nn wf.nn g)
    exists 3
    exists Y8
    refine⟨_,rfl,_,rfl,x,r,S,g,rfl,hS.same s12,s2 _ _ hr,gok g hg',lg g hg',fun H3 s3=>?_⟩
    have s13:=s12.trans s3
    exists 3
    exists Y8
    refine⟨_,rfl,v,d.qm,dxv,fsv,_,rfl,s13 _ _ hv,W.qm.cl,W.VQ,hso.2,_,_,rfl,rfl,?_⟩
    exists 3
    exists Y8
    refine⟨_,_,rfl,_,rfl,(by show 2≤sizeLine;decide),fun t ht=>?_⟩
    have emax:(if(0:Int) > (qs S.pr g).sum-pc then 0 else(qs S.pr g).sum-pc)=max 0 ((qs S.pr g).sum-pc):=by
     split <;> omega
    rw[emax]
    have s4:=kak (o:=.tup [.int (max 0 ((qs S.pr g).sum-pc)), .ref r]) ht
    exists 3
    exists Y8
    refine⟨(s2.trans s3).trans s4,⟨_,rfl⟩,tl++[t],by rw[Ny];rfl,?_⟩
    rw[kbl eg,Ny]
    exists 3
    refine P2.snoc (hT.mono fun t' q ⟨ga,a1,a2,a3⟩=>⟨ga,(s3.trans s4) _ _ a1,(s3.trans s4) _ _ a2,a3⟩) ⟨r,kad,((s2.trans s3).trans s4) _ _ hr, .inr (hg r (NA er))⟩
   ·rintro σ ys H2 ⟨s2,⟨v0,rfl⟩,tl,rfl,hT⟩ D hD
    rw[Nr,lgl,N3] at hT
    have s3:=kak (o:=.lst (tl.map V.ref)) hD
    have e1:(gs.map fun g=>(max 0 ((qs S.pr g).sum-pc),g)).map Prod.snd=gs:=by
     rw[NU]
     exists 3
     exact List.map_id' gs
    exists 3
    refine k _ D tl _ ((s1.trans s2).trans s3) (none_of (s1.trans s2) hD) kad (hT.mono fun t' q ⟨ga,a1,a2,a3⟩=>⟨ga,s3 _ _ a1,s3 _ _ a2,a3⟩) ?_ (by rw[e1,←egs];exact kjJ (keY hand)) (by rw[e1];intro i hi;obtain⟨g,hg',hi'⟩:=MI.mp hi;exact gok g hg' i hi') (by rw[Nr];omega) ?_
    ·intro c g hc
     obtain⟨g',hg',e⟩:=NQ.mp hc
     cases e
     have sn:=kb5 (qs_nn wf.nn g)
     exists 3
     exact⟨by omega,by omega,lg g hg'⟩
    ·rw[e1,NU,←egs]
     exists 3
     exact(kkQ (fun z=>max 0 (z-pc)) hand).symm
  |carr=>
   refine iteF ?_
   symm
   refine⟨_,rfl,_,_,_,_,rfl, .inr ⟨_,rfl⟩,TyOf.ins hv (cl_of W hh) I.ha I.hn I.ht I.hm,kdC W hh,_,rfl,iteF ⟨_,rfl,_,_,_,_,rfl, .inr ⟨_,rfl⟩,TyOf.ins hv (cl_of W hh) I.ha I.hn I.ht I.hm,kcW W hh,_,rfl,iteF ⟨_,rfl,_,_,_,_,rfl, .inr ⟨_,rfl⟩,TyOf.ins hv (cl_of W hh) I.ha I.hn I.ht I.hm,kfi W hh,_,rfl,iteF ?_⟩⟩⟩
   symm
   refine⟨by decide,fun l hl=>?_⟩
   symm
   refine k _ l [] [] (kak hl) hl kad .nil (fun c g hc=>by simp at hc) (by simp) (by simp) (by simp) ?_
   symm
   exact(spr_zero (k:=0)).trans spr_zero.symm
inductive kiU (K:Nt) (d:D) (vs:List V) (H:Hp) (Q:VK) (E_:XK):Prop
 |ct (v a b x:Addr)(V:Vch)(ps:List (Option Nat))(B:Bask)(S:Stnd)(_:vs=[.ref v, .ref a, .ref b, .ref x])(_:VchIs d H v V)(_:SqL K H a (ps.map pV))(_:BaskIs d.qe d.qg H b B)(_:StndIs d.qd H x S)(_:Wf ps B S)(_:VchOk ps V)(_:∀(H':Hp)(p:Addr),Same H H'→H p=none→H' p=some (.lst ((cutM V ps (kds B) S).1.map L2.V.int))→Q (.ref p) H'):kiU K d vs H Q E_
theorem qJ:kao ["voucher","parents","basket","standing","pieces","wanted","cut","group","piece","part","most"] ["voucher","parents","basket","standing"] (kag kbH):=by ac_rfl
theorem kcl(W:WB K mg d base):FO P w W 4 d.Yb d.Yc ["voucher","parents","basket","standing"] (kiU K d):=by
 exists W.Q8.F,qJ
 ·obtain⟨v,a,b,x,Vc,ps,B,S,rfl,hV,hA,hB,hS,wf,vo,k⟩:=h
  exists Xz,khT,W
  exists UQ,ke6,W
  exists V1,kkr,W
  exists Xx,kdZ,W
  exists hr1,1,hr,0
  refine⟨_,kac (psl (i:=4) qJ.nd (pcl Xz hr W.Q7 (kaa (pv 0) (kaa (pv 1) (kaa (pv 2) (kaa (pv 3) kae))))))
   (kac (keA (N:=["price"]) (CompScope.plain rfl (by decide +kernel) (by decide +kernel) (by decide +kernel) (nd1 _)) rfl (kaG (K:=K) (kai (K:=K) (pv 3) rfl)) (fun _ _ _ _=>pgn (i:=0) (nd1 _)) (fun _ _ _ _=>kaf) (pgn (i:=5) qJ.nd))
   (kac (kbp PassesOwn.never rfl (kaG (K:=K) (pcl UQ hr W.Vg (kaa (pv 0) (kaa (pv 3) (kaa (pv 4) kae))))) (kbs (K:=K) (n:=2) rfl (kay (pgn (i:=6) qJ.nd) (kay (pgn (i:=7) qJ.nd) kbr)))
   (kah (kbp PassesOwn.never rfl (keB rfl W.B.zip (kaa (pv 7) (kaa (pcl V1 hr1 W.Q6 (kaa (pv 6) (kaa (pcl Xx hr1 W.Xb (kaa (pv 3) (kaa (pv 7) kae))) kae))) kae))) (kbs (K:=K) (n:=2) rfl (kay (pgn (i:=8) qJ.nd) (kay (pgn (i:=9) qJ.nd) kbr)))
   (kah (khK (pv 9) (kld (pv 5) (pv 8) set_list))))))
   (kac (psl (i:=10) qJ.nd (kai (K:=K) (kai (K:=K) (pv 0) rfl) rfl))
   (kac (ps_if (PW.pt (kbL (kas kdm (pv 10) ka1 (kav _)) (kbx (kas op_gt (kau (r:=rSum K) (kbO rfl) (by rfl) W.B.sum b_sum (kaa (pv 5) kae)) (pv 10) (kav _))))) (kah (kap (pcl V1 hr1 W.Q6 (kaa (pv 10) (kaa (pv 5) kae))))) (kat))
   (kah (kap (pv 5))))))),?_⟩
  have np:=wf.np
  have lp:=wf.lp
  exists Y4
  refine⟨_,rfl,_,rfl,_,rfl,_,rfl,v,a,b,x,Vc,ps,B,S,rfl,hV,hA,hB,hS,wf,vo,fun H1 pa s1 f1 h1=>?_⟩
  have habl:∀i∈abt ps (kds B) Vc.ms.kind Vc.ms.lone S,i<S.pr.length:=fun i hi=>by rw[lp];exact kid hi
  have hand:=kgQ ps (kds B) Vc.ms.kind Vc.ms.lone S
  have lab:(abt ps (kds B) Vc.ms.kind Vc.ms.lone S).length≤720:=Nx (ke3 _ _ _ _ _) np
  obtain⟨o,p,mk,⟨dxs,fss,hx,l1,l2,l3,l4,l5⟩,ho,hp,hmk⟩:=id (hS.same s1)
  symm
  exists Y4
  refine⟨_,rfl,x,d.qd,dxs,fss,_,rfl,hx,W.qd.cl,W.qw,l2,p,rfl,⟨_,SqL.of hp⟩,kaO (xs:=S.pr.map V.int) (fun i σ ys H'=>H'=H1∧ys=(Nw i (0:Int)).map V.int∧∃v,σ=[v]) ⟨rfl,rfl,none,rfl⟩ ?_ ?_ ?_ ?_⟩
  ·rw[Nr]
   symm
   exact NF (kan (by omega))
  ·rintro i σ ys H' hi ⟨rfl,rfl,_⟩
   symm
   exact⟨SqL.of hp,by simp⟩
  ·rintro i y σ ys H' hy ⟨rfl,rfl,v,rfl⟩
   symm
   exact⟨rfl,by rw[Dh,Ny];rfl,_,rfl⟩
  rintro σ ys H' ⟨rfl,rfl,v0,rfl⟩ w hw
  rw[Nr]
  have s2:=s1.trans (kak (o:=.lst ((Nw S.pr.length (0:Int)).map V.int)) hw)
  have hw0:H w=none:=none_of s1 hw
  have ew:(upd H' w (.lst ((Nw S.pr.length (0:Int)).map V.int))) w=some (.lst ((Nw S.pr.length (0:Int)).map V.int)):=kad
  have h1o:=h1
  have h1:=kak (o:=.lst ((Nw S.pr.length (0:Int)).map V.int)) hw _ _ h1
  have nw:pa≠w:=kaj h1o hw
  generalize upd H' w (.lst ((Nw S.pr.length (0:Int)).map V.int))=H2 at *
  symm
  exists Y4
  refine⟨_,rfl,_,rfl,_,rfl,v,x,pa,Vc,ps,B,S,rfl,hV.same s2,hS.same s2,h1,wf,vo,fun H3 gp tl gl s3 f3 h3 hP hc hnd hlt hgl hsp=>?_⟩
  have s03:=s2.trans s3
  have e3:=s3 _ _ ew
  have ngw:gp≠w:=fun e=>by rw[e,ew] at f3;cases f3
  symm
  exists Y4
  refine⟨gp,rfl,⟨_,SqL.of h3⟩,kbN (K:=K) (a:=gp) (xs:=tl.map V.ref) (fun i σ H'=>(∃v8 v9 v10 v11 v12:Option V,σ=[some (.ref v),some (.ref a),some (.ref b),some (.ref x),some (.ref pa),some (.ref w),v8,v9,v10,v11,v12])∧But w H3 H'∧
    H' w=some (.lst ((spr S.pr.length ((gl.take i).map Prod.snd).flatten ((gl.take i).map fun p=>dl p.1 (qs S.pr p.2)).flatten).map V.int)))
   ⟨⟨none,none,none,none,none,rfl⟩,But.refl,by rw[e3];simp[klH]⟩ (fun i σ H' _ h=>SqL.of (h.2.1 _ _ ngw h3)) ?_ ?_⟩
  ·rintro i y σ H4 hy ⟨⟨v8,v9,v10,v11,v12,rfl⟩,b4,h4⟩
   obtain⟨t,et,rfl⟩:=kbV hy
   obtain⟨⟨c,g⟩,eg,ga,ht,hga,hor⟩:=hP.at et
   have hcg:=hc c g (NA eg)
   have hgl':∀i∈g,i<S.pr.length:=fun j hj=>hlt j (MI.mpr ⟨g,NQ.mpr ⟨(c,g),NA eg,rfl⟩,hj⟩)
   have ngaw:ga≠w:=by
    rcases hor with rfl|hor
    ·exact nw
    ·exact fun e=>by rw[e,ew] at hor;cases hor
   have ntw:t≠w:=ne_of ht e3 (by intro z;cases z)
   have htt:H4 t=some (.tup [.int c, .ref ga]):=b4 _ _ ntw ht
   have hgg:H4 ga=some (.lst (g.map iV)):=b4 _ _ ngaw hga
   symm
   exists Y6
   refine⟨t,_,rfl,SqT.of htt,rfl,_,_,rfl,_,_,rfl,rfl,?_⟩
   have hS4:StndIs d.qd H4 x S:=by
    nofun
    exact StndIs.same (H:=H) (khE hw0 s03 b4) hS
   have gnn:=qs_nn wf.nn g
   have gsum:=ki5 wf hcg.2.2 hgl'
   have hg720:=hcg.2.2
   nofun
   exists Y6
   refine⟨_,rfl,_,rfl,_,rfl,_,rfl,x,ga,S,g,rfl,hS4,hgg,hgl',hg720,fun p5 hp5=>?_⟩
   have s5:=kak (o:=.lst ((qs S.pr g).map V.int)) hp5
   nofun
   exists Y6
   refine⟨c,p5,qs S.pr g,rfl,SqL.of kad,gnn,by omega,hcg.1,by omega,by rw[kb6];omega,fun p6 hp6=>?_⟩
   have s6:=s5.trans (kak (o:=.lst ((dl c (qs S.pr g)).map V.int)) hp6)
   have h6:(upd (upd H4 p5 (.lst ((qs S.pr g).map V.int))) p6 (.lst ((dl c (qs S.pr g)).map V.int))) p6=some (.lst ((dl c (qs S.pr g)).map V.int)):=kad
   have n6:H4 p6=none:=none_of s5 hp6
   generalize upd (upd H4 p5 (.lst ((qs S.pr g).map V.int))) p6 (.lst ((dl c (qs S.pr g)).map V.int))=H6 at *
   have b6:=b4.same s6
   have w6:=s6 _ _ h4
   have n6w:p6≠w:=fun e=>by rw[e,h4] at n6;cases n6
   have ldl:(dl c (qs S.pr g)).length=g.length:=by rw[kfk,kb6]
   have emin:min (g.map iV).length ((dl c (qs S.pr g)).map V.int).length=g.length:=by rw[Nr,Nr,ldl,MN]
   have ndt:∀(j n:Nat),g[j]?=some n→(((gl.take i).map Prod.snd).flatten++g.take j++[n]).Nodup:=fun j n hj=>by
    rw[MQ]
    nofun
    exact keq hnd (i:=i) (by rw[NC,eg];rfl) hj
   have lfl:((gl.take i).map Prod.snd).flatten.length=((gl.take i).map fun p=>dl p.1 (qs S.pr p.2)).flatten.length:=by
    rw[List.length_flatten,List.length_flatten,NU,NU]
    congr 1
    nofun
    refine Mn fun q _=>?_
    show q.2.length=(dl q.1 (qs S.pr q.2)).length
    rw[kfk,kb6]
   nofun
   exists Y6
   refine⟨ga,p6,_,_,rfl,s6 _ _ hgg,h6,kjO (xs:=g.map iV) (ys:=(dl c (qs S.pr g)).map V.int) (fun j σ H'=>(∃v8 v9 v10 v11 v12:Option V,σ=[some (.ref v),some (.ref a),some (.ref b),some (.ref x),some (.ref pa),some (.ref w),v8,v9,v10,v11,v12])∧But w H3 H'∧H' ga=some (.lst (g.map iV))∧H' p6=some (.lst ((dl c (qs S.pr g)).map V.int))∧
     H' w=some (.lst ((spr S.pr.length (((gl.take i).map Prod.snd).flatten++g.take j) (((gl.take i).map fun p=>dl p.1 (qs S.pr p.2)).flatten++(dl c (qs S.pr g)).take j)).map V.int)))
    ⟨⟨_,_,_,_,_,rfl⟩,b6,s6 _ _ hgg,h6,by rw[w6];simp⟩ (fun j σ H' _ h=>⟨h.2.2.1,h.2.2.2.1⟩) ?_ ?_⟩
   ·rintro j y1 y2 t2 σ H7 hy1 hy2 ⟨⟨v8,v9,v10,v11,v12,rfl⟩,b7,g7,d7,w7⟩ ht2
    obtain⟨n,en,rfl⟩:=kbM hy1
    obtain⟨z,ez,rfl⟩:=kbM hy2
    have hn:=hgl' n (NA en)
    have s8:=kak (o:=.tup [iV n,V.int z]) ht2
    nofun
    exists Y8
    refine⟨t2,_,rfl,SqT.of kad,rfl,_,_,rfl,_,_,rfl,rfl,?_⟩
    exists 3
    exists Y8
    refine⟨_,rfl,_,rfl,_,rfl,w,_,_,n,rfl,rfl,s8 _ _ w7,kjC (by rw[Nr,kde];exact hn),⟨_,_,_,_,_,rfl⟩,(b7.same s8).trans kar,?_,?_,?_⟩
    ·rw[kal ngaw]
     exists 3
     exact s8 _ _ g7
    ·rw[kal n6w]
     exists 3
     exact s8 _ _ d7
    ·rw[kad,←List.map_set,kbl en,kbl ez,←Mj,←Mj]
     rw[kke (by rw[NI,NI,lfl,NH,NH,ldl]) (ndt j n en) hn]
   ·rintro σ H7 ⟨⟨v8,v9,v10,v11,v12,rfl⟩,b7,g7,d7,w7⟩
    exists 3
    exists Y8
    refine⟨⟨_,_,_,_,_,rfl⟩,b7,?_⟩
    rw[w7,emin,N3,Ml (Er ldl),kbl eg]
    simp
  rintro σ H4 ⟨⟨v8,v9,v10,v11,v12,rfl⟩,b4,h4⟩
  have ltl:(tl.map V.ref).length=gl.length:=by rw[Nr,hP.len]
  rw[ltl,N3,hsp] at h4
  have s04:Same H H4:=khE hw0 s03 b4
  obtain⟨mA,dxv,fsv,hv,lvm,_,⟨dxm,fsm,hm,m1,m2,m3,m4,m5,m6⟩,hh,htb⟩:=id (hV.same s04)
  symm
  exists Y4
  refine⟨_,rfl,v,clsOf d Vc.so,dxv,fsv,_,rfl,hv,cl_of W hh,na_of W hh,lvm,mA,d.qi,dxm,fsm,_,rfl,hm,W.qi.cl,W.Xe,m3,?_⟩
  have wle:=kiw (so:=Vc.so) (n:=S.mkd.length) (lines:=(abt ps (kds B) Vc.ms.kind Vc.ms.lone S).map fun i=>S.ow.getD i 0) (qs_nn wf.nn (abt ps (kds B) Vc.ms.kind Vc.ms.lone S)) vo.so
  have cn:=kkO (V:=Vc) (ps:=ps) (kk:=kds B) (S:=S)
  have cs:=fun(m:Int)(e:Vc.ms.most=some m)(h0:0≤m)=>kkN (V:=Vc) (ps:=ps) (kk:=kds B) (S:=S) lp wle e h0
  have sabs:=ki5 wf lab habl
  generalize ewant:want Vc.so S.mkd.length ((abt ps (kds B) Vc.ms.kind Vc.ms.lone S).map fun i=>S.ow.getD i 0) (qs S.pr (abt ps (kds B) Vc.ms.kind Vc.ms.lone S))=wn at *
  have fnn:Nn (spr S.pr.length (abt ps (kds B) Vc.ms.kind Vc.ms.lone S) wn):=(kgb wf.nn wle).nn
  have fsum:(spr S.pr.length (abt ps (kds B) Vc.ms.kind Vc.ms.lone S) wn).sum≤720000000000000:=by
   have h:=(kgb wf.nn wle).sum
   have h2:=kdJ (b:=1000000000000) (q:=S.pr) fun z hz=>(wf.pr z hz).2
   omega
  cases em:Vc.ms.most with
  |none=>
   symm
   refine⟨_,rfl,rfl,_,rfl,?_⟩
   show if(!decide (V.non=V.non))=true then _ else _
   rw[klg]
   refine iteF (iteF ⟨_,rfl,k _ w s04 hw0 ?_⟩)
   rw[h4,cn em]
  | some m=>
   have hm0:=vo.ms.most m em
   symm
   refine⟨_,rfl,rfl,_,rfl,?_⟩
   show if(!decide (V.int m=V.non))=true then _ else _
   rw[klh]
   refine iteT ?_
   symm
   exists Y6
   refine⟨_,rfl,w,_,rfl,SqL.of h4,_,rfl,_,_,rfl,rfl,_,rfl,?_⟩
   by_cases hgt:(spr S.pr.length (abt ps (kds B) Vc.ms.kind Vc.ms.lone S) wn).sum > m
   ·rw[decide_eq_true hgt]
    refine iteT ?_
    nofun
    exists Y8
    refine⟨_,rfl,_,rfl,m,w,_,rfl,SqL.of h4,fnn,by omega,hm0.1,by omega,by rw[kde];omega,fun p7 hp7=>?_⟩
    exists 3
    refine k _ p7 (s04.trans (kak hp7)) (none_of s04 hp7) ?_
    rw[kad,cs m em hm0.1,if_pos hgt]
   ·rw[decide_eq_false hgt]
    refine iteF ?_
    exists 3
    refine⟨_,rfl,k _ w s04 hw0 ?_⟩
    rw[h4,cs m em hm0.1,if_neg hgt]
theorem klL:kao ["voucher","parents","basket","standing"] ["voucher","parents","basket","standing"] (kag ki1):=by ac_rfl
theorem klZ(W:WB K mg d base):FO P w W 5 d.X7 d.X8 ["voucher","parents","basket","standing"] (kk8 K d):=by
 exists W.Ve.F,klL
 ·obtain⟨v,a,b,x,Vc,ps,B,S,rfl,hV,hA,hB,hS,wf,vo,k⟩:=h
  exists XB,kcl,W
  exists XC,kb9,W
  exists hr2,2,hr,0
  refine⟨_,kah (kap (ka0 (kaa (pcl XB hr W.Q8 (kaa (pv 0) (kaa (pv 1) (kaa (pv 2) (kaa (pv 3) kae))))) (kaa (pcl XC hr2 W.Q9 (kaa (pv 0) (kaa (pv 3) kae))) kae)))),?_⟩
  refine⟨_,rfl,_,rfl,_,rfl,_,rfl,v,a,b,x,Vc,ps,B,S,rfl,hV,hA,hB,hS,wf,vo,fun H1 p s1 f1 h1=>?_⟩
  refine⟨_,rfl,_,rfl,v,x,Vc,S,rfl,hV.same s1,hS.same s1,(by show 2≤sizeLine;decide),fun t ht=>?_⟩
  rw[←kjQ (ps:=ps) (kk:=kds B) (S:=S) vo]
  refine k _ t p (s1.trans (kak ht)) (none_of s1 ht) f1 ?_ (kak ht _ _ h1)
  exact kad
theorem kkT{l:List Nat}{f g:Nat→Bool}(h:∀x∈l,f x=g x):l.any f=l.any g:=by
 induction l with
 |nil=>rfl
 |cons a l ih=>rw[MC,MC,h a NW,ih fun x hx=>h x (NP _ hx)]
theorem khi{ow:List Nat}{cs:List Int}{i o l:Nat}(h:ow[i]?=some o):kdD (ow.take (i+1)) cs l=(kdD (ow.take i) cs l||(o==l&&decide (0<cs.getD i 0))):=by
 have hi:=at_lt h
 unfold kdD
 rw[NH,NH,MM (by omega),MM (by omega),MH,List.any_append]
 congr 1
 ·refine kkT fun j hj=>?_
  have hj':j<i:=by simpa using hj
  simp only[NR,EM]
  rw[if_pos (by omega),if_pos hj']
 ·simp only[MC,List.any_nil,Bool.or_false]
  rw[NR,EM,if_pos (by omega),h]
  rfl
inductive kc7 (d:D) (vs:List V) (H:Hp) (Q:VK) (E_:XK):Prop
 |ct (v x c:Addr)(V:Vch)(S:Stnd)(cs:List Int)(_:vs=[.ref v, .ref x, .ref c])(_:VchIs d H v V)(_:StndIs d.qd H x S)(_:H c=some (.lst (cs.map L2.V.int)))(_:cs.length=S.ow.length)(_:S.ow.length≤720)(_:S.mkd.length≤12)(_:(∀l∈S.ow,l<S.mkd.length))(_:∀(H':Hp)(p:Addr),Same H H'→H p=none→H' p=some (.lst (((NB S.mkd.length).map fun l=>S.mkd.getD l false||(V.ms.lone&&kdD S.ow cs l)).map L2.V.bl))→Q (.ref p) H'):kc7 d vs H Q E_
theorem QO:kao ["voucher","standing","piece_cuts","marked","owner","cut"] ["voucher","standing","piece_cuts"] (kag kbS):=by ac_rfl
theorem kee(W:WB K mg d base):FO P w W 1 d.Yk d.Yl ["voucher","standing","piece_cuts"] (kc7 d):=by
 exists W.Vi.F,QO
 ·obtain⟨v,x,c,Vc,S,cs,rfl,⟨mA,dxv,fsv,hv,lvm,_,⟨dxm,fsm,hm,m1,m2,m3,m4,m5,m6⟩,hh,htb⟩,⟨o,p,mk,⟨dxs,fss,hx,l1,l2,l3,l4,l5⟩,ho,hp,hmk⟩,hc,lc,lo,lmk,hw,k⟩:=h
  refine⟨_,kac (psl (i:=3) QO.nd (kaH (r:=kbe K) kaB (by rfl) W.B.list kbD (kaa (kai (K:=K) (pv 1) rfl) kae)))
   (kac (ps_if (ka4 (kai (K:=K) (kai (K:=K) (pv 0) rfl) rfl)) (kah (kbp PassesOwn.never rfl (keB rfl W.B.zip (kaa (kai (K:=K) (pv 1) rfl) (kaa (pv 2) kae))) (kbs (K:=K) (n:=2) rfl (kay (pgn (i:=4) QO.nd) (kay (pgn (i:=5) QO.nd) kbr)))
   (kah (ps_if (kas op_gt (pv 5) kaf (kav _)) (kah (khK pe_bl (kld (pv 3) (pv 4) set_list))) (kat))))) (kat))
   (kah (kap (pv 3)))),?_⟩
  have e0:S.mkd.map V.bl=((NB S.mkd.length).map fun l=>S.mkd.getD l false||kdD (S.ow.take 0) cs l).map V.bl:=by
   congr 1
   apply MP
   ·simp
   ·intro j h1 h2
    simp[kdD,h1]
  exists Y4
  refine⟨_,rfl,x,d.qd,dxs,fss,_,rfl,hx,W.qd.cl,W.Qh,l4,mk,_,rfl, .inl (SqL.of hmk),fun q hq=>?_⟩
  have s1:=kak (o:=.lst (S.mkd.map V.bl)) hq
  symm
  exists Y4
  refine⟨_,rfl,v,clsOf d Vc.so,dxv,fsv,_,rfl,s1 _ _ hv,cl_of W hh,na_of W hh,lvm,mA,d.qi,dxm,fsm,_,rfl,s1 _ _ hm,W.qi.cl,W.Xf,m6,_,rfl,?_⟩
  cases e:Vc.ms.lone with
  |false=>
   refine iteF ?_
   symm
   exists Y6
   refine⟨_,rfl,k _ q s1 hq ?_⟩
   rw[e0]
   simp only[e,M9,Bool.or_false]
   rw[kad]
   congr 2
   simp[kdD]
  | true=>
   refine iteT ?_
   have emin:min (S.ow.map iV).length (cs.map V.int).length=S.ow.length:=by rw[Nr,Nr,lc,MN]
   symm
   exists Y6
   refine⟨_,rfl,x,d.qd,dxs,fss,_,rfl,s1 _ _ hx,W.qd.cl,W.qN,l1,_,rfl,o,c,_,_,rfl,s1 _ _ ho,s1 _ _ hc,
    kjO (xs:=S.ow.map iV) (ys:=cs.map V.int) (fun i σ H'=>(∃v4 v5:Option V,σ=[some (.ref v),some (.ref x),some (.ref c),some (.ref q),v4,v5])∧But q H H'∧H' q=some (.lst (((NB S.mkd.length).map fun l=>S.mkd.getD l false||kdD (S.ow.take i) cs l).map V.bl)))
     ⟨⟨none,none,rfl⟩,But.of_same s1,by rw[kad,e0]⟩ (fun i σ H' _ h=>⟨h.2.1 _ _ (kaj ho hq) ho,h.2.1 _ _ (kaj hc hq) hc⟩) ?_ ?_⟩
   ·rintro i y z t σ H1 hy hz ⟨⟨v4,v5,rfl⟩,b1,h1⟩ ht
    obtain⟨ln,eln,rfl⟩:=kbM hy
    obtain⟨cz,ecz,rfl⟩:=kbM hz
    have hln:=hw ln (NA eln)
    have st:=fun l=>khi (cs:=cs) (l:=l) eln
    have eg:cs.getD i 0=cz:=by rw[NR,ecz];rfl
    have tq:q≠t:=kaj h1 ht
    have b2:=b1.same (kak (o:=.tup [iV ln,V.int cz]) ht)
    have h2:=kak (o:=.tup [iV ln,V.int cz]) ht _ _ h1
    nofun
    exists Y8
    refine⟨t,_,rfl,SqT.of kad,rfl,_,_,rfl,_,_,rfl,rfl,?_⟩
    exists 3
    exists Y8
    refine⟨_,rfl,_,_,rfl,rfl,_,rfl,?_⟩
    by_cases hc0:cz > 0
    ·rw[decide_eq_true hc0]
     refine iteT ?_
     exists 3
     exists Y10
     refine⟨_,rfl,_,rfl,q,_,_,ln,rfl,rfl,h2,kjC (by simpa using hln),⟨_,_,rfl⟩,b2.trans kar,?_⟩
     rw[kad,←List.map_set]
     congr 3
     apply MP
     ·simp
     ·intro j g1 g2
      have hj:j<S.mkd.length:=by simpa using g1
      rw[List.getElem_set]
      simp only[Ei,EI]
      rw[st j,eg]
      by_cases hjl:ln=j
      ·subst hjl
       simp[hc0]
      ·rw[if_neg hjl,show(ln==j)=false by simpa using hjl]
       simp
    ·rw[decide_eq_false hc0]
     refine iteF ?_
     exists 5
     exists Y10
     refine⟨⟨_,_,rfl⟩,b2,?_⟩
     rw[h2]
     congr 3
     exists 5
     refine Mn fun l _=>?_
     rw[st l,eg,show decide (0<cz)=false by simpa using hc0]
     simp
   ·rintro σ H1 ⟨⟨v4,v5,rfl⟩,b1,h1⟩
    rw[emin,N3] at h1
    exists 3
    exists Y8
    refine⟨_,rfl,k _ q (kj4 b1 hq) hq ?_⟩
    rw[h1]
    simp only[e,Bool.true_and]
noncomputable def rmv(x:Addr)(H:Hp):Hp:=fun a=>if a=x then none else H a
theorem khH{x:Addr}{H:Hp}:rmv x H x=none:=if_pos rfl
theorem kew{x a:Addr}{H:Hp}(n:a≠x):rmv x H a=H a:=if_neg n
theorem kfF{x a:Addr}{H:Hp}{o:HO}(h:rmv x H a=some o):H a=some o:=by
 by_cases e:a=x
 ·subst e
  rw[khH] at h
  cases h
 ·rw[kew e] at h
  exact h
theorem kg4{x:Addr}{H:Hp}(hx:NX H x):But x H (rmv x H):=fun b u n e=>ev_eq (by rw[kew n];exact e) fun⟨ps,e1,t,hor⟩=>⟨ps,by rw[kew n];exact e1,t,fun pos c ec=>by
 obtain⟨c',rfl,z2⟩:=hor pos c ec
 exact⟨c',rfl,by rw[kew fun e=>hx _ (e▸z2)];exact z2⟩⟩
theorem rmv_sub{x:Addr}{H:Hp}:Same (rmv x H) H:=fun b u e=>ev_eq (kfF e) fun⟨ps,e1,t,hor⟩=>⟨ps,kfF e1,t,fun pos c ec=>by
 obtain⟨c',rfl,z2⟩:=hor pos c ec
 exact⟨c',rfl,kfF z2⟩⟩
theorem kbP{Hs H H':Hp}{x:Addr}(s:Same Hs H)(b:But x H H')(f:Hs x=none):Same Hs H':=fun c u e=>kbA (s c u e) fun u' e'=>b c u' (kaj e f) e'
theorem kiZ{Hs H:Hp}{p:Addr}{xs:List V}(s:Same Hs H)(hp:H p=some (.lst xs)):Same (upd Hs p (.lst xs)) H:=fun b u e=>by
 by_cases eb:b=p
 ·subst eb
  rw[kad] at e
  cases e
  exact hp
 ·rw[kal eb] at e
  have h:=s b u e
  cases u <;> first|exact h|refine⟨h.1,fun⟨ps,e1,t,hor⟩=>h.2 ⟨ps,by rw[kal eb] at e1;exact e1,t,fun pos c ec=>?_⟩⟩
  obtain⟨c',rfl,z2⟩:=hor pos c ec
  refine⟨c',rfl,?_⟩
  by_cases ec':c'=p
  ·subst ec'
   rw[kad] at z2
   cases z2
  ·rw[kal ec'] at z2
   exact z2
inductive StndN (C:Addr) (H0 H:Hp) (x:Addr) (S:Stnd):Prop
 |ct (_:H0 x=none)(o p mk:Addr)(_:StandAt C H x o p mk S.cg)(_:H0 o=none)(_:H0 p=none)(_:H0 mk=none)(_:H o=some (.lst (S.ow.map iV)))(_:H p=some (.lst (S.pr.map V.int)))(_:H mk=some (.lst (S.mkd.map V.bl))):StndN C H0 H x S
theorem StndN.is{C x:Addr}{H0 H:Hp}{S:Stnd}:StndN C H0 H x S→StndIs C H x S:=fun⟨_,o,p,mk,h,_,_,_,h1,h2,h3⟩=>⟨o,p,mk,h,h1,h2,h3⟩
theorem kbK{H0 H:Hp}{q a:Addr}(hq:H0 q≠none)(f:H0 a=none):rmv q H a=H a:=kew fun e=>hq (e▸f)
theorem StndN.rmv{C x q:Addr}{H0 H:Hp}{S:Stnd}(hq:H0 q≠none):StndN C H0 H x S→StndIs C (rmv q H) x S:=fun⟨f,o,p,mk,⟨dx,fs,hx,r⟩,f1,f2,f3,h1,h2,h3⟩=>⟨o,p,mk,⟨dx,fs,(kbK hq f).trans hx,r⟩,(kbK hq f1).trans h1,(kbK hq f2).trans h2,(kbK hq f3).trans h3⟩
inductive WayN (d:D) (m:Nat) (H0 H:Hp) (w t b x:Addr) (hand:List Int) (used:List Nat):Prop
 |ct (_:H0 w=none)(dx:Addr)(fs:List (Str×V))(h u:Addr)(_:H0 h=none)(_:H0 u=none)(_:H w=some (.ins d.c_Way dx fs))(_:fs.lookup ("till" :Str)=some (.ref t))(_:fs.lookup ("basket" :Str)=some (.ref b))(_:fs.lookup ("hand" :Str)=some (.ref h))(_:fs.lookup ("used" :Str)=some (.ref u))(_:fs.lookup ("standing" :Str)=some (.ref x))(_:fs.lookup ("word_for" :Str)=none)(_:fs.lookup ("behind" :Str)=none)(_:fs.lookup ("is_let_by" :Str)=none)(_:fs.lookup ("followers" :Str)=none)(_:fs.length≤m)(_:H h=some (.lst (hand.map V.int)))(_:H u=some (.lst (used.map iV))):WayN d m H0 H w t b x hand used
theorem WayN.at{d:D}{m:Nat}{H0 H:Hp}{w t b x:Addr}{hand:List Int}{used:List Nat}:WayN d m H0 H w t b x hand used→WayAt d m H w t b x hand used:=fun⟨_,dx,fs,h,u,_,_,h1,h2,h3,h4,h5,h6,h7,h8,h9,h10,h11,h12,h13⟩=>⟨dx,fs,h,u,h1,h2,h3,h4,h5,h6,h7,h8,h9,h10,h11,h12,h13⟩
theorem WayN.rmv{d:D}{m:Nat}{H0 H:Hp}{w t b x q:Addr}{hand:List Int}{used:List Nat}(hq:H0 q≠none):WayN d m H0 H w t b x hand used→WayAt d m (rmv q H) w t b x hand used:=fun⟨f,dx,fs,h,u,f1,f2,g,h2,h3,h4,h5,h6,h7,h8,h9,h10,h11,h12,h13⟩=>⟨dx,fs,h,u,(kbK hq f).trans g,h2,h3,h4,h5,h6,h7,h8,h9,h10,h11,(kbK hq f1).trans h12,(kbK hq f2).trans h13⟩
inductive khD (K:Nt) (d:D) (vs:List V) (H:Hp) (Q:VK) (E_:XK):Prop
 |ct (v a b x:Addr)(V:Vch)(ps:List (Option Nat))(B:Bask)(S:Stnd)(_:vs=[.ref v, .ref a, .ref b, .ref x])(_:VchIs d H v V)(_:SqL K H a (ps.map pV))(_:BaskIs d.qe d.qg H b B)(_:StndIs d.qd H x S)(_:Wf ps B S)(_:VchOk ps V)(_:∀(H':Hp)(x':Addr),Same H H'→H x'=none→StndN d.qd H H' x' (aftM V ps (kds B) S)→Q (.ref x') H'):khD K d vs H Q E_
theorem XD:kao ["voucher","parents","basket","standing","piece_cuts","left"] ["voucher","parents","basket","standing"] (kag kg3):=by ac_rfl
theorem kks(W:WB K mg d base):FO P w W 5 d.X9 d.Ya ["voucher","parents","basket","standing"] (khD K d):=by
 exists W.Vf.F,XD
 ·obtain⟨v,a,b,x,Vc,ps,B,S,rfl,hV,hA,hB,hS,wf,vo,k⟩:=h
  exists XB,kcl,W
  exists XE,kcD,W
  exists XC,kb9,W
  exists UR,kee,W
  exists hr1,1,hr,0
  exists hr2,2,hr,0
  exists hr3,3,hr,0
  refine⟨_,kac (psl (i:=4) XD.nd (pcl XB hr W.Q8 (kaa (pv 0) (kaa (pv 1) (kaa (pv 2) (kaa (pv 3) kae))))))
   (kac (psl (i:=5) XD.nd (kaT (W.Qi.mk' W.qd) XE hr3 rfl W.qd.m W.Qi.b .nil pass0 (kaa (pv 2) kae)))
   (kac (kaw (pv 5) (kaH (r:=kbe K) kaB (by rfl) W.B.list kbD (kaa (kai (K:=K) (pv 3) rfl) kae)) rfl)
   (kac (kaw (pv 5) (kbf (N:=["price","cut"]) (CompScope.plain rfl (by decide +kernel) (by decide +kernel) (by decide +kernel) (show(["price","cut"]:List Str).Nodup by decide +kernel)) rfl (keB rfl W.B.zip (kaa (kai (K:=K) (pv 3) rfl) (kaa (pv 4) kae))) (fun _ _ _ _=>kbs (K:=K) (n:=2) rfl (kay (pgn (i:=0) (show(["price","cut"]:List Str).Nodup by decide +kernel)) (kay (pgn (i:=1) (show(["price","cut"]:List Str).Nodup by decide +kernel)) kbr))) (fun _ _ _ _=>(pe_op kcB (pv 0) (pv 1)))) rfl)
   (kac (kaw (pv 5) (pe_op kcB (kai (K:=K) (pv 3) rfl) (pcl XC hr2 W.Q9 (kaa (pv 0) (kaa (pv 3) kae)))) rfl)
   (kac (kaw (pv 5) (pcl UR hr1 W.Vi (kaa (pv 0) (kaa (pv 3) (kaa (pv 4) kae)))) rfl)
   (kah (kap (pv 5)))))))),?_⟩
  have np:=wf.np
  have lp:=wf.lp
  have lcut:(cutM Vc ps (kds B) S).1.length=S.pr.length:=(klq wf.nn wf.cg.1 vo.so fun m e=>(vo.ms.most m e).1).1.1
  exists Y4
  refine⟨_,rfl,_,rfl,_,rfl,_,rfl,v,a,b,x,Vc,ps,B,S,rfl,hV,hA,hB,hS,wf,vo,fun H1 pc s1 f1 h1=>?_⟩
  obtain⟨l,ls,hb1,hl1,hL1⟩:=id (hB.same s1)
  symm
  exists Y4
  refine⟨_,rfl,kjp hb1 hl1 hL1 wf.nl wf.ok fun H2 y s2 f2 dxy fsy hy ly lyw=>?_⟩
  have fy:H y=none:=none_of s1 f2
  have s02:=s1.trans s2
  obtain⟨o,p,mk,⟨dxs,fss,hx,l1,l2,l3,l4,l5⟩,ho,hp,hmk⟩:=id hS
  symm
  exists Y4
  refine⟨_,rfl,x,d.qd,dxs,fss,_,rfl,s02 _ _ hx,W.qd.cl,W.qN,l1,o,_,rfl, .inl (SqL.of (s02 _ _ ho)),fun q1 hq1=>?_⟩
  have n1:q1≠y:=(kaj hy hq1).symm
  symm
  exists Y4
  refine⟨_,rfl,y,d.qd,dxy,fsy,rfl,kak hq1 _ _ hy,W.qd.cl,W.qN,few (by omega),?_⟩
  have s3:Same H (upd (upd H2 q1 (.lst (S.ow.map iV))) y (.ins d.qd dxy (putF "owners" (.ref q1) fsy))):=kaq fy (s02.trans (kak hq1))
  have e3:(upd (upd H2 q1 (.lst (S.ow.map iV))) y (.ins d.qd dxy (putF "owners" (.ref q1) fsy))) q1=some (.lst (S.ow.map iV)):=by rw[kal n1,kad]
  have y3:(upd (upd H2 q1 (.lst (S.ow.map iV))) y (.ins d.qd dxy (putF "owners" (.ref q1) fsy))) y=some (.ins d.qd dxy (putF "owners" (.ref q1) fsy)):=kad
  have c3:(upd (upd H2 q1 (.lst (S.ow.map iV))) y (.ins d.qd dxy (putF "owners" (.ref q1) fsy))) pc=some (.lst ((cutM Vc ps (kds B) S).1.map V.int)):=by
   rw[kal (kaj h1 f2)]
   symm
   exact kak hq1 _ _ (s2 _ _ h1)
  have f3:=Nx (kam (f:="owners") (v:=.ref q1) ly) (by decide:11≤20)
  generalize upd (upd H2 q1 (.lst (S.ow.map iV))) y (.ins d.qd dxy (putF "owners" (.ref q1) fsy))=H3 at *
  have emin:min (S.pr.map V.int).length ((cutM Vc ps (kds B) S).1.map V.int).length=S.pr.length:=by rw[Nr,Nr,lcut,MN]
  symm
  exists Y4
  refine⟨_,rfl,x,d.qd,dxs,fss,_,rfl,s3 _ _ hx,W.qd.cl,W.qw,l2,_,rfl,p,pc,_,_,rfl,s3 _ _ hp,c3,
   kf2 (xs:=S.pr.map V.int) (ys:=(cutM Vc ps (kds B) S).1.map V.int) (fun i σ zs H'=>Same H3 H'∧zs=((N2 (· - ·) S.pr (cutM Vc ps (kds B) S).1).take i).map V.int∧∃v0 v1:Option V,σ=[v0,v1])
    ⟨Same.refl _,rfl,none,none,rfl⟩ (by rw[emin];exact NF (kan (by omega))) (fun i σ zs H' hi h=>⟨h.1 _ _ (s3 _ _ hp),h.1 _ _ c3,by rw[h.2.1,Nr,NH,M5,lcut];rw[emin] at hi;omega⟩) ?_ ?_⟩
  ·rintro i y1 y2 t σ zs H4 hy1 hy2 ⟨s4,rfl,v0,v1,rfl⟩ ht
   obtain⟨z1,ez1,rfl⟩:=kbM hy1
   obtain⟨z2,ez2,rfl⟩:=kbM hy2
   symm
   exists Y6
   refine⟨t,_,rfl,SqT.of kad,rfl,_,_,rfl,_,_,rfl,rfl,_,rfl,_,rfl,_,_,rfl,rfl,s4.trans (kak ht),?_,_,_,rfl⟩
   rw[kbl (r:=z1-z2) (by rw[M6,ez1,ez2]),Ny]
   rfl
  rintro σ zs H4 ⟨s4,rfl,v0,v1,rfl⟩ q2 hq2
  rw[emin,Ml (by rw[M5,lcut];omega)]
  have n2:q2≠y:=(kaj (s4 _ _ y3) hq2).symm
  have n12:q1≠q2:=kaj (s4 _ _ e3) hq2
  have s5:=kak (o:=.lst ((N2 (· - ·) S.pr (cutM Vc ps (kds B) S).1).map V.int)) hq2
  symm
  exists Y4
  refine⟨_,rfl,y,d.qd,dxy,_,rfl,s5 _ _ (s4 _ _ y3),W.qd.cl,W.qw,few f3,?_⟩
  have s6:Same H (upd (upd H4 q2 (.lst ((N2 (· - ·) S.pr (cutM Vc ps (kds B) S).1).map V.int))) y (.ins d.qd dxy (putF "prices" (.ref q2) (putF "owners" (.ref q1) fsy)))):=kaq fy ((s3.trans s4).trans s5) (nx (s5 _ _ (s4 _ _ y3)))
  have e6:(upd (upd H4 q2 (.lst ((N2 (· - ·) S.pr (cutM Vc ps (kds B) S).1).map V.int))) y (.ins d.qd dxy (putF "prices" (.ref q2) (putF "owners" (.ref q1) fsy)))) q1=some (.lst (S.ow.map iV)):=by
   rw[kal n1]
   symm
   exact s5 _ _ (s4 _ _ e3)
  have p6:(upd (upd H4 q2 (.lst ((N2 (· - ·) S.pr (cutM Vc ps (kds B) S).1).map V.int))) y (.ins d.qd dxy (putF "prices" (.ref q2) (putF "owners" (.ref q1) fsy)))) q2=some (.lst ((N2 (· - ·) S.pr (cutM Vc ps (kds B) S).1).map V.int)):=by rw[kal n2,kad]
  have y6:(upd (upd H4 q2 (.lst ((N2 (· - ·) S.pr (cutM Vc ps (kds B) S).1).map V.int))) y (.ins d.qd dxy (putF "prices" (.ref q2) (putF "owners" (.ref q1) fsy)))) y=some (.ins d.qd dxy (putF "prices" (.ref q2) (putF "owners" (.ref q1) fsy))):=kad
  have c6:(upd (upd H4 q2 (.lst ((N2 (· - ·) S.pr (cutM Vc ps (kds B) S).1).map V.int))) y (.ins d.qd dxy (putF "prices" (.ref q2) (putF "owners" (.ref q1) fsy)))) pc=some (.lst ((cutM Vc ps (kds B) S).1.map V.int)):=by
   rw[kal (kaj h1 f2)]
   symm
   exact s5 _ _ (s4 _ _ c3)
  have f6:=Nx (kam (f:="prices") (v:=.ref q2) (kam (f:="owners") (v:=.ref q1) ly)) (by decide:12≤20)
  generalize upd (upd H4 q2 (.lst ((N2 (· - ·) S.pr (cutM Vc ps (kds B) S).1).map V.int))) y (.ins d.qd dxy (putF "prices" (.ref q2) (putF "owners" (.ref q1) fsy)))=H6 at *
  symm
  exists Y4
  refine⟨_,rfl,x,d.qd,dxs,fss,_,rfl,s6 _ _ hx,W.qd.cl,W.qV,l3,_,rfl,_,rfl,v,x,Vc,S,rfl,hV.same s6,hS.same s6,_,_,rfl,rfl,?_⟩
  rw[←kjQ (ps:=ps) (kk:=kds B) (S:=S) vo]
  symm
  exists Y4
  refine⟨_,rfl,y,d.qd,dxy,_,rfl,y6,W.qd.cl,W.qV,few f6,?_⟩
  have s7:Same H (upd H6 y (.ins d.qd dxy (putF "carriage" (.int (S.cg-(cutM Vc ps (kds B) S).2)) (putF "prices" (.ref q2) (putF "owners" (.ref q1) fsy))))):=kaq fy s6
  have e7:(upd H6 y (.ins d.qd dxy (putF "carriage" (.int (S.cg-(cutM Vc ps (kds B) S).2)) (putF "prices" (.ref q2) (putF "owners" (.ref q1) fsy))))) q1=some (.lst (S.ow.map iV)):=by rw[kal n1];exact e6
  have p7:(upd H6 y (.ins d.qd dxy (putF "carriage" (.int (S.cg-(cutM Vc ps (kds B) S).2)) (putF "prices" (.ref q2) (putF "owners" (.ref q1) fsy))))) q2=some (.lst ((N2 (· - ·) S.pr (cutM Vc ps (kds B) S).1).map V.int)):=by rw[kal n2];exact p6
  have y7:(upd H6 y (.ins d.qd dxy (putF "carriage" (.int (S.cg-(cutM Vc ps (kds B) S).2)) (putF "prices" (.ref q2) (putF "owners" (.ref q1) fsy))))) y=some (.ins d.qd dxy (putF "carriage" (.int (S.cg-(cutM Vc ps (kds B) S).2)) (putF "prices" (.ref q2) (putF "owners" (.ref q1) fsy)))):=kad
  have c7:(upd H6 y (.ins d.qd dxy (putF "carriage" (.int (S.cg-(cutM Vc ps (kds B) S).2)) (putF "prices" (.ref q2) (putF "owners" (.ref q1) fsy))))) pc=some (.lst ((cutM Vc ps (kds B) S).1.map V.int)):=by rw[kal (kaj h1 f2)];exact c6
  have f7:=Nx (kam (f:="carriage") (v:=.int (S.cg-(cutM Vc ps (kds B) S).2)) (kam (f:="prices") (v:=.ref q2) (kam (f:="owners") (v:=.ref q1) ly))) (by decide:13≤20)
  generalize upd H6 y (.ins d.qd dxy (putF "carriage" (.int (S.cg-(cutM Vc ps (kds B) S).2)) (putF "prices" (.ref q2) (putF "owners" (.ref q1) fsy))))=H7 at *
  symm
  exists Y4
  refine⟨_,rfl,_,rfl,_,rfl,v,x,pc,Vc,S,_,rfl,hV.same s7,hS.same s7,c7,by rw[lcut,lp],np,by rw[wf.lm];exact wf.nl,fun l hl=>?_,fun H8 q3 s8 f8 h8=>?_⟩
  ·obtain⟨i,hi⟩:=MB.mp hl
   rw[wf.lm]
   symm
   exact wf.line hi
  have n3:q3≠y:=(kaj y7 f8).symm
  symm
  exists Y4
  refine⟨_,rfl,y,d.qd,dxy,_,rfl,s8 _ _ y7,W.qd.cl,W.Qh,few f7,?_⟩
  symm
  exists Y4
  refine⟨_,rfl,k _ y (kaq fy (s7.trans s8) (nx (s8 _ _ y7))) fy ⟨fy,q1,q2,q3,⟨dxy,_,kad,?_,?_,?_,?_,?_⟩,none_of s02 hq1,none_of (s3.trans s4) hq2,none_of s7 f8,?_,?_,?_⟩⟩
  ·ac_nf
  ·ac_nf
  ·ac_nf
   rfl
  ·ac_nf
  ·rw[kab,if_neg (by decide +kernel),kab,if_neg (by decide +kernel),kab,if_neg (by decide +kernel),kab,if_neg (by decide +kernel)]
   symm
   exact lyw
  ·rw[kal n1]
   symm
   exact s8 _ _ e7
  ·rw[kal n2]
   symm
   exact s8 _ _ p7
  ·rw[kal n3]
   symm
   exact h8
inductive kfw (d:D) (vs:List V) (H:Hp) (Q:VK) (E_:XK):Prop
 |ct (H0:Hp)(x dx p vl rl:Addr)(ps vs' rs:List V)(bk:Str)(_:vs=[.ref x, .ref p, .ref vl, .ref rl, .str bk])(_:H0 x=none)(_:Same H0 H)(_:H x=some (.ins d.qf dx []))(_:H0 p=some (.lst ps))(_:H0 vl=some (.lst vs'))(_:H0 rl=some (.lst rs))(_:∀(H':Hp)(p' vl' rl':Addr)(fs:List (Str×V)),Same H0 H'→H0 p'=none→H0 vl'=none→H0 rl'=none→H' p'=some (.lst ps)→H' vl'=some (.lst vs')→H' rl'=some (.lst rs)→H' x=some (.ins d.qf dx fs)→fs.lookup ("parents" :Str)=some (.ref p')→fs.lookup ("vouchers" :Str)=some (.ref vl')→fs.lookup ("rules" :Str)=some (.ref rl')→fs.lookup ("back" :Str)=some (.str bk)→Q .non H'):kfw d vs H Q E_
theorem kgp:kao ["self","parents","vouchers","rules","back"] ["self","parents","vouchers","rules","back"] (kag ka7):=by ac_rfl
theorem kd3(W:WB K mg d base):FO P w W 1 d.ZK d.Q5 ["self","parents","vouchers","rules","back"] (kfw d):=by
 exists W.Ql.F,kgp
 ·obtain⟨H0,x,dx,p,vl,rl,ps,vs',rs,bk,rfl,fx,s0,hx,hp,hvl,hrl,k⟩:=h
  refine⟨_,kac (kaw (pv 0) (kaH (r:=kbe K) kaB (by rfl) W.B.list kbD (kaa (pv 1) kae)) rfl)
   (kac (kaw (pv 0) (kaH (r:=kbe K) kaB (by rfl) W.B.list kbD (kaa (pv 2) kae)) rfl)
   (kac (kaw (pv 0) (kaH (r:=kbe K) kaB (by rfl) W.B.list kbD (kaa (pv 3) kae)) rfl)
   (kah (kaw (pv 0) (pv 4) rfl)))),?_⟩
  exists Y4
  refine⟨_,rfl,p,_,rfl, .inl (SqL.of (s0 _ _ hp)),fun p' hp'=>?_⟩
  have n1:=kak (o:=.lst ps) hp'
  have fp:=s0.free hp'
  have np:p'≠x:=(kaj hx hp').symm
  have e1:(upd H p' (.lst ps)) p'=some (.lst ps):=kad
  have s1:=s0.trans n1
  have hx1:=n1 _ _ hx
  clear n1
  generalize upd H p' (.lst ps)=H1 at *
  symm
  exists Y4
  refine⟨_,rfl,x,d.qf,dx,[],rfl,hx1,W.qf.cl,W.Qk,by decide,?_⟩
  have s2:Same H0 (upd H1 x (.ins d.qf dx (putF "parents" (.ref p') []))):=kaq fx s1 (nx hx1)
  have e2:(upd H1 x (.ins d.qf dx (putF "parents" (.ref p') []))) p'=some (.lst ps):=by rw[kal np];exact e1
  have hx2:(upd H1 x (.ins d.qf dx (putF "parents" (.ref p') []))) x=some (.ins d.qf dx (putF "parents" (.ref p') [])):=kad
  generalize upd H1 x (.ins d.qf dx (putF "parents" (.ref p') []))=H2 at *
  symm
  exists Y4
  refine⟨_,rfl,vl,_,rfl, .inl (SqL.of (s2 _ _ hvl)),fun v' hv'=>?_⟩
  have n3:=kak (o:=.lst vs') hv'
  have fv:=s2.free hv'
  have nv:v'≠x:=(kaj hx2 hv').symm
  have s3:=s2.trans n3
  have e3:=n3 _ _ e2
  have ev3:(upd H2 v' (.lst vs')) v'=some (.lst vs'):=kad
  have hx3:=n3 _ _ hx2
  clear n3
  generalize upd H2 v' (.lst vs')=H3 at *
  symm
  exists Y4
  refine⟨_,rfl,x,d.qf,dx,_,rfl,hx3,W.qf.cl,W.qG,few (Nx (kam (n:=0) (Nv _)) (by decide)),?_⟩
  have s4:Same H0 (upd H3 x (.ins d.qf dx (putF "vouchers" (.ref v') (putF "parents" (.ref p') [])))):=kaq fx s3 (nx hx3)
  have e4:(upd H3 x (.ins d.qf dx (putF "vouchers" (.ref v') (putF "parents" (.ref p') [])))) p'=some (.lst ps):=by rw[kal np];exact e3
  have ev4:(upd H3 x (.ins d.qf dx (putF "vouchers" (.ref v') (putF "parents" (.ref p') [])))) v'=some (.lst vs'):=by rw[kal nv];exact ev3
  have hx4:(upd H3 x (.ins d.qf dx (putF "vouchers" (.ref v') (putF "parents" (.ref p') [])))) x=some (.ins d.qf dx (putF "vouchers" (.ref v') (putF "parents" (.ref p') []))):=kad
  generalize upd H3 x (.ins d.qf dx (putF "vouchers" (.ref v') (putF "parents" (.ref p') [])))=H4 at *
  symm
  exists Y4
  refine⟨_,rfl,rl,_,rfl, .inl (SqL.of (s4 _ _ hrl)),fun r' hr'=>?_⟩
  have n5:=kak (o:=.lst rs) hr'
  have fr:=s4.free hr'
  have nr:r'≠x:=(kaj hx4 hr').symm
  have s5:=s4.trans n5
  have e5:=n5 _ _ e4
  have ev5:=n5 _ _ ev4
  have er5:(upd H4 r' (.lst rs)) r'=some (.lst rs):=kad
  have hx5:=n5 _ _ hx4
  clear n5
  generalize upd H4 r' (.lst rs)=H5 at *
  symm
  exists Y4
  refine⟨_,rfl,x,d.qf,dx,_,rfl,hx5,W.qf.cl,W.qH,few (Nx (kam (kam (n:=0) (Nv _))) (by decide)),?_⟩
  have s6:Same H0 (upd H5 x (.ins d.qf dx (putF "rules" (.ref r') (putF "vouchers" (.ref v') (putF "parents" (.ref p') []))))):=kaq fx s5 (nx hx5)
  have hx6:(upd H5 x (.ins d.qf dx (putF "rules" (.ref r') (putF "vouchers" (.ref v') (putF "parents" (.ref p') []))))) x=some (.ins d.qf dx (putF "rules" (.ref r') (putF "vouchers" (.ref v') (putF "parents" (.ref p') [])))):=kad
  symm
  exists Y4
  refine⟨_,rfl,_,rfl,x,d.qf,dx,_,rfl,hx6,W.qf.cl,W.Xp,few (Nx (kam (kam (kam (n:=0) (Nv _)))) (by decide)),?_⟩
  symm
  refine k _ p' v' r' _ (kaq fx s6 (nx hx6)) fp fv fr ?_ ?_ ?_ kad ?_ ?_ ?_ ?_
  ·rw[kal np,kal np];exact e5
  ·rw[kal nv,kal nv];exact ev5
  ·rw[kal nr,kal nr];exact er5
  ·ac_nf
  ·ac_nf
  ·ac_nf
  ·ac_nf
theorem kl2{d:D}{H:Hp}{p vl rl:Addr}{T:TillD}{va ra:List Addr}{R:Addr→Hp→Prop}{E:XK}(hp:H p=some (.lst (T.ps.map pV)))(hvl:H vl=some (.lst (va.map V.ref)))(hv:P2 (fun a V=>VchIs d H a V) va T.vs)(hrl:H rl=some (.lst (ra.map V.ref)))(hr:P2 (fun a r=>RulIs H a r) ra T.rs)
  (k:∀(H':Hp)(x:Addr),Same H H'→H x=none→TillIs d H' x T→R x H'):
  ∀x dx,H x=none→H dx=none→dx≠x→kfw d [.ref x, .ref p, .ref vl, .ref rl, .str T.bk] (upd (upd H dx (.own x)) x (.ins d.qf dx [])) (fun v H2=>v=.non∧R x H2) E:=
 fun x dx nx nd _=>⟨H,x,dx,p,vl,rl,_,_,_,_,rfl,nx,kaX nx nd,kad,hp,hvl,hrl,fun H' p' vl' rl' fs s f1 f2 f3 h1 h2 h3 hx l1 l2 l3 l4=>⟨rfl,k H' x s nx ⟨dx,fs,p',vl',rl',va,ra,hx,l1,l2,l3,l4,h1,h2,hv.mono fun a V h=>h.same s,h3,hr.mono fun a r h=>s _ _ h⟩⟩⟩
inductive kgT (f:List Rul→List Nat→Nat→Bool) (vs:List V) (H:Hp) (Q:VK) (E_:XK):Prop
 |ct (rl u:Addr)(ra:List Addr)(rs:List Rul)(used:List Nat)(n:Nat)(_:vs=[.ref rl, .ref u,iV n])(_:H rl=some (.lst (ra.map V.ref)))(_:P2 (fun a r=>RulIs H a r) ra rs)(_:H u=some (.lst (used.map iV)))(_:Q (.bl (f rs used n)) H):kgT f vs H Q E_
theorem kj9{f:Rul→Bool}{rs:List Rul}{i:Nat}{r:Rul}(e:rs[i]?=some r)(h:f r=true):rs.any f=true:=List.any_eq_true.mpr ⟨r,NA e,h⟩
theorem klu{f:Rul→Bool}{rs:List Rul}{n:Nat}(hn:n=rs.length)(h:∀r∈rs.take n,f r=false):rs.any f=false:=by
 rw[hn,N3] at h
 cases e:rs.any f with
 |false=>rfl
 |true=>
  obtain⟨r,hr,e2⟩:=List.any_eq_true.mp e
  rw[h r hr] at e2
  cases e2
theorem kbY{f:Rul→Bool}{rs:List Rul}{i:Nat}{r:Rul}(e:rs[i]?=some r)(h:∀q∈rs.take i,f q=false)(hr:f r=false):∀q∈rs.take (i+1),f q=false:=fun q hq=>by
 rw[MG,e] at hq
 rcases N1.mp hq with z|z
 ·exact h q z
 ·have e2:q=r:=by simpa using z
  rw[e2]
  exact hr
theorem QP:kao ["rules","used","number","word","one","other"] ["rules","used","number"] (kag kcb):=by ac_rfl
theorem keI(W:WB K mg d base):FO P w W 1 d.Yy d.Yz ["rules","used","number"] (kgT kfg):=by
 exists W.Vm.F,QP
 ·obtain⟨rl,u,ra,rs,used,n,rfl,hrl,hr,hu,k⟩:=h
  refine⟨_,kac (kbp PassesOwn.never rfl (kaG (K:=K) (pv 0)) (kbs (K:=K) (n:=3) rfl (kay (pgn (i:=3) QP.nd) (kay (pgn (i:=4) QP.nd) (kay (pgn (i:=5) QP.nd) kbr))))
   (kah (ps_if (PW.pt (kbL (kas op_eq (pv 3) kbu (kav _)) (kbx (PW.pt (pw_or (PW.pt (kbL (kas op_eq (pv 4) (pv 2) (kav _)) (kbx (kas kcS (pv 5) (pv 1) (by with_unfolding_all rfl))))) (ki7 (PW.pt (kbL (kas op_eq (pv 5) (pv 2) (kav _)) (kbx (kas kcS (pv 4) (pv 1) (by with_unfolding_all rfl))))))))))) (kah (kap pe_bl)) (kat))))
   (kah (kap pe_bl)),?_⟩
  refine⟨_,rfl,rl,rfl,⟨_,SqL.of hrl⟩,kbN (xs:=ra.map V.ref) (fun i σ H'=>H'=H∧(∀r∈rs.take i,nevR used n r=false)∧∃v3 v4 v5:Option V,σ=[some (.ref rl),some (.ref u),some (iV n),v3,v4,v5])
   ⟨rfl,(fun r hr=>by simp at hr),none,none,none,rfl⟩ (fun i σ H' _ h=>by rw[h.1];exact SqL.of hrl) ?_ ?_⟩
  ·rintro i y σ H' hy ⟨rfl,hno,v3,v4,v5,rfl⟩
   obtain⟨a,ea,rfl⟩:=kbV hy
   obtain⟨r,er,hra⟩:=hr.at ea
   have yes:nevR used n r=true→Q (.bl true) H':=fun e=>by
    have z:=kj9 (f:=nevR used n) er e
    unfold kfg at k
    rw[z] at k
    exact k
   refine⟨a,_,rfl,SqT.of hra,rfl,_,_,rfl,_,_,rfl,_,_,rfl,rfl,?_⟩
   refine⟨_,rfl,rfl,_,rfl,?_⟩
   show if decide (V.str r.w=V.str "never")=true then _ else _
   rw[eq_str]
   by_cases hw:r.w=("never" :Str)
   ·rw [decide_eq_true hw]
    refine iteT ⟨_,rfl,_,rfl,rfl,_,rfl,?_⟩
    show if decide (iV r.a=iV n)=true then _ else _
    rw[kgF]
    by_cases ha:r.a=n
    ·rw[decide_eq_true ha]
     refine iteT ⟨_,rfl,_,rfl,u,_,rfl, .inl (SqL.of hu),rfl,kcY _,_,rfl,?_⟩
     rw[if_neg ND,kcX]
     cases hb:used.contains r.b with
     |true=>exact iteT (iteT (yes (by unfold nevR;rw[decide_eq_true hw,decide_eq_true ha,hb];rfl)))
     | false=>
      refine iteF ⟨_,rfl,_,rfl,rfl,_,rfl,?_⟩
      show if decide (iV r.b=iV n)=true then _ else _
      rw[kgF]
      by_cases hc:r.b=n
      ·rw[decide_eq_true hc]
       refine iteT ⟨_,rfl,_,rfl,u,_,rfl, .inl (SqL.of hu),rfl,kcY _,_,rfl,?_⟩
       rw[if_neg ND,kcX]
       cases hd:used.contains r.a with
       |true=>exact iteT (yes (by unfold nevR;rw[decide_eq_true hw,decide_eq_true ha,hb,decide_eq_true hc,hd];rfl))
       |false=>exact iteF ⟨rfl,kbY er hno (by unfold nevR;rw[decide_eq_true hw,decide_eq_true ha,hb,decide_eq_true hc,hd];rfl),_,_,_,rfl⟩
      ·rw[decide_eq_false hc]
       exact iteF (iteF ⟨rfl,kbY er hno (by unfold nevR;rw[decide_eq_true hw,decide_eq_true ha,hb,decide_eq_false hc];rfl),_,_,_,rfl⟩)
    ·rw[decide_eq_false ha]
     refine iteF (iteF ⟨_,rfl,_,rfl,rfl,_,rfl,?_⟩)
     show if decide (iV r.b=iV n)=true then _ else _
     rw[kgF]
     by_cases hc:r.b=n
     ·rw[decide_eq_true hc]
      refine iteT ⟨_,rfl,_,rfl,u,_,rfl, .inl (SqL.of hu),rfl,kcY _,_,rfl,?_⟩
      rw[if_neg ND,kcX]
      cases hd:used.contains r.a with
      |true=>exact iteT (yes (by unfold nevR;rw[decide_eq_true hw,decide_eq_false ha,decide_eq_true hc,hd];rfl))
      |false=>exact iteF ⟨rfl,kbY er hno (by unfold nevR;rw[decide_eq_true hw,decide_eq_false ha,decide_eq_true hc,hd];rfl),_,_,_,rfl⟩
     ·rw[decide_eq_false hc]
      exact iteF (iteF ⟨rfl,kbY er hno (by unfold nevR;rw[decide_eq_true hw,decide_eq_false ha,decide_eq_false hc];rfl),_,_,_,rfl⟩)
   ·rw[decide_eq_false hw]
    refine iteF (iteF ⟨rfl,kbY er hno ?_,_,_,_,rfl⟩)
    unfold nevR
    rw[decide_eq_false hw]
    rfl
  ·rintro σ H' ⟨rfl,hno,v3,v4,v5,rfl⟩
   have z:=klu (by rw[Nr];exact hr.len) hno
   unfold kfg at k
   rw[z] at k
   exact k
theorem QQ:kao ["rules","used","number","word","one","other"] ["rules","used","number"] (kag kcc):=by ac_rfl
theorem keJ(W:WB K mg d base):FO P w W 1 d.YA d.YB ["rules","used","number"] (kgT kfn):=by
 exists W.Vn.F,QQ
 ·obtain⟨rl,u,ra,rs,used,n,rfl,hrl,hr,hu,k⟩:=h
  refine⟨_,kac (kbp PassesOwn.never rfl (kaG (K:=K) (pv 0)) (kbs (K:=K) (n:=3) rfl (kay (pgn (i:=3) QQ.nd) (kay (pgn (i:=4) QQ.nd) (kay (pgn (i:=5) QQ.nd) kbr))))
   (kah (ps_if (PW.pt (kbL (kas op_eq (pv 3) kbu (kav _)) (kbL (kas op_eq (pv 4) (pv 2) (kav _)) (kbx (kas kcS (pv 5) (pv 1) (by with_unfolding_all rfl)))))) (kah (kap pe_bl)) (kat))))
   (kah (kap pe_bl)),?_⟩
  refine⟨_,rfl,rl,rfl,⟨_,SqL.of hrl⟩,kbN (xs:=ra.map V.ref) (fun i σ H'=>H'=H∧(∀r∈rs.take i,ahdR used n r=false)∧∃v3 v4 v5:Option V,σ=[some (.ref rl),some (.ref u),some (iV n),v3,v4,v5])
   ⟨rfl,(fun r hr=>by simp at hr),none,none,none,rfl⟩ (fun i σ H' _ h=>by rw[h.1];exact SqL.of hrl) ?_ ?_⟩
  ·rintro i y σ H' hy ⟨rfl,hno,v3,v4,v5,rfl⟩
   obtain⟨a,ea,rfl⟩:=kbV hy
   obtain⟨r,er,hra⟩:=hr.at ea
   have yes:ahdR used n r=true→Q (.bl true) H':=fun e=>by
    have z:=kj9 (f:=ahdR used n) er e
    unfold kfn at k
    rw[z] at k
    exact k
   refine⟨a,_,rfl,SqT.of hra,rfl,_,_,rfl,_,_,rfl,_,_,rfl,rfl,?_⟩
   refine⟨_,rfl,rfl,_,rfl,?_⟩
   show if decide (V.str r.w=V.str "ahead")=true then _ else _
   rw[eq_str]
   by_cases hw:r.w=("ahead" :Str)
   ·rw[decide_eq_true hw]
    refine iteT ⟨_,rfl,_,rfl,rfl,_,rfl,?_⟩
    show if decide (iV r.a=iV n)=true then _ else _
    rw[kgF]
    by_cases ha:r.a=n
    ·rw[decide_eq_true ha]
     refine iteT ⟨_,rfl,_,rfl,u,_,rfl, .inl (SqL.of hu),rfl,kcY _,_,rfl,?_⟩
     rw[if_neg ND,kcX]
     cases hb:used.contains r.b with
     |true=>exact iteT (yes (by unfold ahdR;rw[decide_eq_true hw,decide_eq_true ha,hb];rfl))
     |false=>exact iteF ⟨rfl,kbY er hno (by unfold ahdR;rw[decide_eq_true hw,decide_eq_true ha,hb];rfl),_,_,_,rfl⟩
    ·rw[decide_eq_false ha]
     exact iteF (iteF ⟨rfl,kbY er hno (by unfold ahdR;rw[decide_eq_true hw,decide_eq_false ha];rfl),_,_,_,rfl⟩)
   ·rw[decide_eq_false hw]
    refine iteF (iteF ⟨rfl,kbY er hno ?_,_,_,_,rfl⟩)
    unfold ahdR
    rw[decide_eq_false hw]
    rfl
  ·rintro σ H' ⟨rfl,hno,v3,v4,v5,rfl⟩
   have z:=klu (by rw[Nr];exact hr.len) hno
   unfold kfn at k
   rw[z] at k
   exact k
inductive kgj (vs:List V) (H:Hp) (Q:VK) (E_:XK):Prop
 |ct (rl u:Addr)(ra:List Addr)(rs:List Rul)(order:List Nat)(_:vs=[.ref rl, .ref u])(_:H rl=some (.lst (ra.map V.ref)))(_:P2 (fun a r=>RulIs H a r) ra rs)(_:H u=some (.lst (order.map iV)))(_:Q (pV (onlyM rs order)) H):kgj vs H Q E_
theorem kh5{f:Rul→Bool}:∀{rs:List Rul}{i:Nat}{r:Rul},rs[i]?=some r→f r=true→(∀q∈rs.take i,f q=false)→rs.find? f=some r
 |[],i,r,e,_,_=>by simp at e
 |q::rs,0,r,e,h,_=>by
  have e2:q=r:=by simpa using e
  subst e2
  simp[h]
 |q::rs,i+1,r,e,h,hno=>by
  have h1:=hno q (by simp)
  rw[List.find?_cons_of_neg (by rw[h1];simp)]
  exact kh5 (by simpa using e) h fun z hz=>hno z (by simp[hz])
theorem kmc{f:Rul→Bool}{rs:List Rul}{n:Nat}(hn:n=rs.length)(h:∀r∈rs.take n,f r=false):rs.find? f=none:=by
 rw[hn,N3] at h
 exact List.find?_eq_none.mpr fun r hr=>by rw[h r hr];simp
theorem QR:kao ["rules","order","word","one","other"] ["rules","order"] (kag kbv):=by ac_rfl
theorem kb8(W:WB K mg d base):FO P w W 1 d.YC d.YD ["rules","order"] kgj:=by
 exists W.Xc.F,QR
 ·obtain⟨rl,u,ra,rs,order,rfl,hrl,hr,hu,k⟩:=h
  refine⟨_,kac (kbp PassesOwn.never rfl (kaG (K:=K) (pv 0)) (kbs (K:=K) (n:=3) rfl (kay (pgn (i:=2) QR.nd) (kay (pgn (i:=3) QR.nd) (kay (pgn (i:=4) QR.nd) kbr))))
   (kah (ps_if (PW.pt (kbL (kas op_eq (pv 2) kbu (kav _)) (kbL (kas kcS (pv 3) (pv 1) (by with_unfolding_all rfl)) (kbx (kas kgt (pv 4) (pv 1) (by with_unfolding_all rfl)))))) (kah (kap (pv 3))) (kat))))
   (kah (kap ka1)),?_⟩
  refine⟨_,rfl,rl,rfl,⟨_,SqL.of hrl⟩,kbN (xs:=ra.map V.ref) (fun i σ H'=>H'=H∧(∀r∈rs.take i,loneM order r=false)∧∃v3 v4 v5:Option V,σ=[some (.ref rl),some (.ref u),v3,v4,v5])
   ⟨rfl,(fun r hr=>by simp at hr),none,none,none,rfl⟩ (fun i σ H' _ h=>by rw[h.1];exact SqL.of hrl) ?_ ?_⟩
  ·rintro i y σ H' hy ⟨rfl,hno,v3,v4,v5,rfl⟩
   obtain⟨a,ea,rfl⟩:=kbV hy
   obtain⟨r,er,hra⟩:=hr.at ea
   refine⟨a,_,rfl,SqT.of hra,rfl,_,_,rfl,_,_,rfl,_,_,rfl,rfl,?_⟩
   refine⟨_,rfl,rfl,_,rfl,?_⟩
   show if decide (V.str r.w=V.str "only")=true then _ else _
   rw[eq_str]
   by_cases hw:r.w=("only" :Str)
   ·rw[decide_eq_true hw]
    refine iteT ⟨_,rfl,_,rfl,u,_,rfl, .inl (SqL.of hu),rfl,kcY _,_,rfl,?_⟩
    rw[if_neg ND,kcX]
    cases ha:order.contains r.a with
    | true=>
     refine iteT ⟨_,rfl,_,rfl,u,_,rfl, .inl (SqL.of hu),rfl,kcY _,_,rfl,?_⟩
     rw[if_pos rfl,kcX]
     cases hb:order.contains r.b with
     |true=>exact iteF ⟨rfl,kbY er hno (by unfold loneM;rw[decide_eq_true hw,ha,hb];rfl),_,_,_,rfl⟩
     |false=>
      refine iteT ⟨_,rfl,?_⟩
      have z:=kh5 (f:=loneM order) er (by unfold loneM;rw[decide_eq_true hw,ha,hb];rfl) hno
      unfold onlyM at k
      rw[z] at k
      exact k
    |false=>exact iteF (iteF ⟨rfl,kbY er hno (by unfold loneM;rw[decide_eq_true hw,ha];rfl),_,_,_,rfl⟩)
   ·rw[decide_eq_false hw]
    refine iteF (iteF ⟨rfl,kbY er hno ?_,_,_,_,rfl⟩)
    unfold loneM
    rw[decide_eq_false hw]
    rfl
  ·rintro σ H' ⟨rfl,hno,v3,v4,v5,rfl⟩
   have z:=kmc (by rw[Nr];exact hr.len) hno
   unfold onlyM at k
   rw[z] at k
   exact k
inductive khq (d:D) (vs:List V) (H:Hp) (Q:VK) (E_:XK):Prop
 |ct (t h u:Addr)(T:TillD)(hand:List Int)(used:List Nat)(n:Nat)(V:Vch)(_:vs=[.ref t, .ref h, .ref u,iV n])(_:TillIs d H t T)(_:H h=some (.lst (hand.map L2.V.int)))(_:H u=some (.lst (used.map iV)))(_:T.vs[n]?=some V)(_:hand.length=T.vs.length)(_:Q (sV (wordM V T.rs hand used n)) H):khq d vs H Q E_
theorem kd8:kao ["till","hand","used","number"] ["till","hand","used","number"] (kag kbQ):=by ac_rfl
theorem ked(W:WB K mg d base):FO P w W 2 d.Yw d.Yx ["till","hand","used","number"] (khq d):=by
 exists W.Vl.F,kd8
 ·obtain⟨t,h,u,T,hand,used,n,Vc,rfl,hT,hh,hu,hn,hl,k⟩:=h
  obtain⟨dx,fs,p,vl,rl,va,ra,ht,t1,t2,t3,t4,hp,hvl,hva,hrl,hra⟩:=hT
  exists US,keI,W
  exists UT,keJ,W
  refine⟨_,kac (ps_if (kas op_gt (pe_op kaz (pe_bm N4 DC DD khW (pv 2) (kaa (pv 3) kae)) kaf) (pe_ix (r:=rIxL K) kaC (pv 1) (pv 3) (fun _ _=>rfl)) (kav _)) (kah (kap kbu)) (kat))
   (kac (ps_if (PW.pt (kbL (ka4 (kai (K:=K) (kai (K:=K) (pe_ix (r:=rIxL K) kaC (kai (K:=K) (pv 0) rfl) (pv 3) (fun _ _=>rfl)) rfl) rfl)) (kbx (kas kcS (pv 3) (pv 2) (by with_unfolding_all rfl))))) (kah (kap kbu)) (kat))
   (kac (ps_if (ka4 (pcl US hr W.Vm (kaa (kai (K:=K) (pv 0) rfl) (kaa (pv 2) (kaa (pv 3) kae))))) (kah (kap kbu)) (kat))
   (kac (ps_if (ka4 (pcl UT hr W.Vn (kaa (kai (K:=K) (pv 0) rfl) (kaa (pv 2) (kaa (pv 3) kae))))) (kah (kap kbu)) (kat))
   (kah (kap ka1))))),?_⟩
  obtain⟨v,ev⟩:=at_of (xs:=va) (i:=n) (by rw[hva.len];exact at_lt hn)
  obtain⟨Vc',eV',hV⟩:=hva.at ev
  rw[hn] at eV'
  cases eV'
  obtain⟨mA,dxv,fsv,hv,lvm,_,⟨dxm,fsm,hm,m1,m2,m3,m4,m5,m6⟩,hh',_⟩:=id hV
  obtain⟨z,ez⟩:=at_of (xs:=hand) (i:=n) (by rw[hl];exact at_lt hn)
  have eu:H u=some (.lst ((used.map fun(i:Nat)=>(i:Int)).map V.int)):=by rw[hu,NU];rfl
  have eg:hand.getD n 0=z:=by rw[NR,ez];rfl
  refine⟨_,rfl, .inl ⟨rfl,_,SqL.of hu⟩,_,rfl,u,_,_,rfl,rfl,eu,_,_,rfl,rfl,_,rfl,_,rfl,h,_,_,_,rfl,rfl,SqL.of hh,kaU (v:=.int z) (by rw[NC,ez];rfl),_,_,rfl,rfl,_,rfl,?_⟩
  rw[kf4]
  unfold wordM at k
  rw[eg] at k
  by_cases c1:z<(used.count n:Int)+1
  ·rw[if_pos c1] at k
   rw[show decide ((used.count n:Int)+1 > z)=true from decide_eq_true c1]
   exact iteT k
  rw[if_neg c1] at k
  rw[show decide ((used.count n:Int)+1 > z)=false from decide_eq_false c1]
  refine iteF ?_
  refine⟨_,rfl,t,d.qf,dx,fs,_,rfl,ht,W.qf.cl,W.qG,t2,_,rfl,vl,_,_,_,rfl,rfl,SqL.of hvl,kaU (v:=.ref v) (by rw[NC,ev];rfl),v,clsOf d Vc.so,dxv,fsv,_,rfl,hv,cl_of W hh',na_of W hh',lvm,mA,d.qi,dxm,fsm,_,rfl,hm,W.qi.cl,W.VG,m5,Vc.ms.once,rfl,?_⟩
  cases ho:Vc.ms.once with
  | true=>
   rw[ho,Bool.true_and] at k
   refine iteT ⟨_,rfl,_,rfl,u,_,rfl, .inl (SqL.of hu),rfl,kcY _,_,rfl,?_⟩
   rw[if_neg ND,kcX]
   cases hc:used.contains n with
   |true=>
    rw[hc,if_pos rfl] at k
    exact iteT k
   | false=>
    rw[hc,if_neg ND] at k
    refine iteF ?_
    refine⟨_,rfl,t,d.qf,dx,fs,_,rfl,ht,W.qf.cl,W.qH,t3,_,rfl,_,rfl,rl,u,ra,T.rs,used,n,rfl,hrl,hra,hu,_,rfl,?_⟩
    cases h1:kfg T.rs used n with
    |true=>
     rw[h1,if_pos rfl] at k
     exact iteT k
    | false=>
     rw[h1,if_neg ND] at k
     refine iteF ⟨_,rfl,t,d.qf,dx,fs,_,rfl,ht,W.qf.cl,W.qH,t3,_,rfl,_,rfl,rl,u,ra,T.rs,used,n,rfl,hrl,hra,hu,_,rfl,?_⟩
     cases h2:kfn T.rs used n with
     |true=>
      rw[h2,if_pos rfl] at k
      exact iteT k
     |false=>
      rw[h2,if_neg ND] at k
      exact iteF k
  | false=>
   rw[ho,M9,if_neg ND] at k
   refine iteF (iteF ?_)
   refine⟨_,rfl,t,d.qf,dx,fs,_,rfl,ht,W.qf.cl,W.qH,t3,_,rfl,_,rfl,rl,u,ra,T.rs,used,n,rfl,hrl,hra,hu,_,rfl,?_⟩
   cases h1:kfg T.rs used n with
   |true=>
    rw[h1,if_pos rfl] at k
    exact iteT k
   | false=>
    rw[h1,if_neg ND] at k
    refine iteF ⟨_,rfl,t,d.qf,dx,fs,_,rfl,ht,W.qf.cl,W.qH,t3,_,rfl,_,rfl,rl,u,ra,T.rs,used,n,rfl,hrl,hra,hu,_,rfl,?_⟩
    cases h2:kfn T.rs used n with
    |true=>
     rw[h2,if_pos rfl] at k
     exact iteT k
    |false=>
     rw[h2,if_neg ND] at k
     exact iteF k
inductive kiI (d:D) (vs:List V) (H:Hp) (Q:VK) (E_:XK):Prop
 |ct (H0:Hp)(w dx t b h:Addr)(hand:List Int)(B:Bask)(_:vs=[.ref w, .ref t, .ref b, .ref h])(_:H0 w=none)(_:Same H0 H)(_:H w=some (.ins d.c_Way dx []))(_:H0 h=some (.lst (hand.map V.int)))(_:BaskIs d.qe d.qg H0 b B)(_:B.rs.length≤12)(_:(∀r∈B.rs,r.Ok))(_:∀(H':Hp)(x:Addr),Same H0 H'→H0 x=none→WayN d 5 H0 H' w t b x hand []→StndIs d.qd H' x (stnd0 B)→Q .non H'):kiI d vs H Q E_
theorem kgY:kao ["self","till","basket","hand"] ["self","till","basket","hand"] (kag kdN):=by ac_rfl
theorem kcx(W:WB K mg d base):FO P w W 4 d.Zz d.ZA ["self","till","basket","hand"] (kiI d):=by
 exists W.qA.F,kgY
 ·obtain⟨H0,wy,dx,t,b,h,hand,B,rfl,fw,s0,hw,hh,hb,hB,hok,k⟩:=h
  exists XE,kcD,W
  refine⟨_,kac (kaw (pv 0) (pv 1) rfl)
   (kac (kaw (pv 0) (pv 2) rfl)
   (kac (kaw (pv 0) (kaH (r:=kbe K) kaB (by rfl) W.B.list kbD (kaa (pv 3) kae)) rfl)
   (kac (kaw (pv 0) (kaK kae) rfl)
   (kah (kaw (pv 0) (kaT (W.Qi.mk' W.qd) XE hr rfl W.qd.m W.Qi.b .nil pass0 (kaa (pv 2) kae)) rfl))))),?_⟩
  exists Y4
  refine⟨_,rfl,_,rfl,wy,d.c_Way,dx,[],rfl,hw,W.c_Way.cl,W.qF,by decide,?_⟩
  have s1:Same H0 (upd H wy (.ins d.c_Way dx (putF "till" (.ref t) []))):=kaq fw s0 (nx hw)
  have hw1:(upd H wy (.ins d.c_Way dx (putF "till" (.ref t) []))) wy=some (.ins d.c_Way dx (putF "till" (.ref t) [])):=kad
  generalize upd H wy (.ins d.c_Way dx (putF "till" (.ref t) []))=H1 at *
  symm
  exists Y4
  refine⟨_,rfl,_,rfl,wy,d.c_Way,dx,_,rfl,hw1,W.c_Way.cl,W.QK,few (Nx (kam (n:=0) (Nv _)) (by decide)),?_⟩
  have s2:Same H0 (upd H1 wy (.ins d.c_Way dx (putF "basket" (.ref b) (putF "till" (.ref t) [])))):=kaq fw s1 (nx hw1)
  have hw2:(upd H1 wy (.ins d.c_Way dx (putF "basket" (.ref b) (putF "till" (.ref t) [])))) wy=some (.ins d.c_Way dx (putF "basket" (.ref b) (putF "till" (.ref t) []))):=kad
  generalize upd H1 wy (.ins d.c_Way dx (putF "basket" (.ref b) (putF "till" (.ref t) [])))=H2 at *
  symm
  exists Y4
  refine⟨_,rfl,h,_,rfl, .inl (SqL.of (s2 _ _ hh)),fun h' hh'=>?_⟩
  have n3:=kak (o:=.lst (hand.map V.int)) hh'
  have nh:h'≠wy:=(kaj hw2 hh').symm
  have s3:=s2.trans n3
  have e3:(upd H2 h' (.lst (hand.map V.int))) h'=some (.lst (hand.map V.int)):=kad
  have hw3:=n3 _ _ hw2
  clear n3
  generalize upd H2 h' (.lst (hand.map V.int))=H3 at *
  symm
  exists Y4
  refine⟨_,rfl,wy,d.c_Way,dx,_,rfl,hw3,W.c_Way.cl,W.Xm,few (Nx (kam (kam (n:=0) (Nv _))) (by decide)),?_⟩
  have s4:Same H0 (upd H3 wy (.ins d.c_Way dx (putF "hand" (.ref h') (putF "basket" (.ref b) (putF "till" (.ref t) []))))):=kaq fw s3 (nx hw3)
  have e4:(upd H3 wy (.ins d.c_Way dx (putF "hand" (.ref h') (putF "basket" (.ref b) (putF "till" (.ref t) []))))) h'=some (.lst (hand.map V.int)):=by rw[kal nh];exact e3
  have hw4:(upd H3 wy (.ins d.c_Way dx (putF "hand" (.ref h') (putF "basket" (.ref b) (putF "till" (.ref t) []))))) wy=some (.ins d.c_Way dx (putF "hand" (.ref h') (putF "basket" (.ref b) (putF "till" (.ref t) [])))):=kad
  generalize upd H3 wy (.ins d.c_Way dx (putF "hand" (.ref h') (putF "basket" (.ref b) (putF "till" (.ref t) []))))=H4 at *
  symm
  exists Y4
  refine⟨by decide,fun u hu=>?_⟩
  have n5:=kak (o:=.lst []) hu
  have nu:u≠wy:=(kaj hw4 hu).symm
  have s5:=s4.trans n5
  have e5:=n5 _ _ e4
  have eu5:(upd H4 u (.lst [])) u=some (.lst (([]:List Nat).map iV)):=kad
  have hw5:=n5 _ _ hw4
  clear n5
  generalize upd H4 u (.lst [])=H5 at *
  symm
  exists Y4
  refine⟨_,rfl,wy,d.c_Way,dx,_,rfl,hw5,W.c_Way.cl,W.qO,few (Nx (kam (kam (kam (n:=0) (Nv _)))) (by decide)),?_⟩
  have s6:Same H0 (upd H5 wy (.ins d.c_Way dx (putF "used" (.ref u) (putF "hand" (.ref h') (putF "basket" (.ref b) (putF "till" (.ref t) [])))))):=kaq fw s5 (nx hw5)
  have e6:(upd H5 wy (.ins d.c_Way dx (putF "used" (.ref u) (putF "hand" (.ref h') (putF "basket" (.ref b) (putF "till" (.ref t) [])))))) h'=some (.lst (hand.map V.int)):=by rw[kal nh];exact e5
  have eu6:(upd H5 wy (.ins d.c_Way dx (putF "used" (.ref u) (putF "hand" (.ref h') (putF "basket" (.ref b) (putF "till" (.ref t) [])))))) u=some (.lst (([]:List Nat).map iV)):=by rw[kal nu];exact eu5
  have hw6:(upd H5 wy (.ins d.c_Way dx (putF "used" (.ref u) (putF "hand" (.ref h') (putF "basket" (.ref b) (putF "till" (.ref t) [])))))) wy=some (.ins d.c_Way dx (putF "used" (.ref u) (putF "hand" (.ref h') (putF "basket" (.ref b) (putF "till" (.ref t) []))))):=kad
  generalize upd H5 wy (.ins d.c_Way dx (putF "used" (.ref u) (putF "hand" (.ref h') (putF "basket" (.ref b) (putF "till" (.ref t) [])))))=H6 at *
  symm
  exists Y4
  refine⟨_,rfl,kl3 (hb.same s6) hB hok fun H7 x s7 f7 hx=>?_⟩
  have hw7:=s7 _ _ hw6
  have fx:H0 x=none:=s6.free f7
  have nxw:x≠wy:=(kaj hw6 f7).symm
  symm
  exists Y4
  refine⟨_,rfl,wy,d.c_Way,dx,_,rfl,hw7,W.c_Way.cl,W.qP,few (Nx (kam (kam (kam (kam (n:=0) (Nv _))))) (by decide)),?_⟩
  symm
  refine k _ x (kaq fw (s6.trans s7) (nx hw7)) fx ⟨fw,dx,_,h',u,none_of s2 hh',none_of s4 hu,kad,?_,?_,?_,?_,?_,?_,?_,?_,?_,?_,?_,?_⟩ ?_
  ·ac_nf
  ·ac_nf
  ·ac_nf
  ·ac_nf
  ·ac_nf
  ·ac_nf
   rfl
  ·ac_nf
   rfl
  ·ac_nf
   rfl
  ·ac_nf
   rfl
  ·exact Nx (kam (kam (kam (kam (kam (n:=0) (Nv _)))))) (by decide)
  ·rw[kal nh];exact s7 _ _ e6
  ·rw[kal nu];exact s7 _ _ eu6
  ·obtain⟨o,pp,mm,⟨dxs,fss,hxs,q⟩,ho,hpp,hmm⟩:=hx
   symm
   exact⟨o,pp,mm,⟨dxs,fss,by rw[kal nxw];exact hxs,q⟩,by rw[kal (ne_of ho hw7 (by intro z;cases z))];exact ho,by rw[kal (ne_of hpp hw7 (by intro z;cases z))];exact hpp,by rw[kal (ne_of hmm hw7 (by intro z;cases z))];exact hmm⟩
theorem khX{d:D}{H:Hp}{t b h:Addr}{hand:List Int}{B:Bask}{R:Addr→Hp→Prop}{E:XK}(hh:H h=some (.lst (hand.map V.int)))(hb:BaskIs d.qe d.qg H b B)(hB:B.rs.length≤12)(hok:∀r∈B.rs,r.Ok)
  (k:∀(H':Hp)(w x:Addr),Same H H'→H w=none→H x=none→WayN d 5 H H' w t b x hand []→StndIs d.qd H' x (stnd0 B)→R w H'):
  ∀w dx,H w=none→H dx=none→dx≠w→kiI d [.ref w, .ref t, .ref b, .ref h] (upd (upd H dx (.own w)) w (.ins d.c_Way dx [])) (fun v H2=>v=.non∧R w H2) E:=
 fun w dx nw nd _=>⟨H,w,dx,t,b,h,hand,B,rfl,nw,kaX nw nd,kad,hh,hb,hB,hok,fun H' x s f hW hx=>⟨rfl,k H' w x s nw f hW hx⟩⟩
inductive kgc (d:D) (vs:List V) (H:Hp) (Q:VK) (E_:XK):Prop
 |ct (wy t b x:Addr)(T:TillD)(B:Bask)(S:Stnd)(hand:List Int)(used:List Nat)(n:Nat)(V:Vch)(_:vs=[.ref wy,iV n])(_:WayIs d H wy t b x hand used)(_:TillIs d H t T)(_:BaskIs d.qe d.qg H b B)(_:StndIs d.qd H x S)(_:Wf T.ps B S)(_:VchOk T.ps V)(_:T.vs[n]?=some V)(_:hand.length=T.vs.length)(_:∀(H':Hp),Same H H'→Q (dueM V T B hand used S n) H'):kgc d vs H Q E_
theorem V2:kao ["self","number","word"] ["self","number"] (kag kch):=by ac_rfl
theorem kbW(W:WB K mg d base):FO P w W 5 d.ZC d.ZD ["self","number"] (kgc d):=by
 exists W.qQ.F,V2
 ·obtain⟨wy,t,b,x,T,B,S,hand,used,n,Vc,rfl,hW,hT,hB,hS,wf,vo,hn,hl,k⟩:=h
  obtain⟨dxw,fsw,h,u,hw,w1,w2,w3,w4,w5,w6,w7,w8,w9,w10,hh,hu⟩:=id hW
  obtain⟨dx,fs,p,vl,rl,va,ra,ht,t1,t2,t3,t4,hp,hvl,hva,hrl,hra⟩:=id hT
  exists UU,ked,W
  exists UV,kgu,W
  exists hr2,2,hr,0
  refine⟨_,kac (psl (i:=2) V2.nd (pcl UU hr2 W.Vl (kaa (kai (K:=K) (pv 0) rfl) (kaa (kai (K:=K) (pv 0) rfl) (kaa (kai (K:=K) (pv 0) rfl) (kaa (pv 1) kae))))))
   (kac (ps_if (kas kdm (pv 2) ka1 (kav _)) (kah (kap (pv 2))) (kat))
   (kah (kap (pcl UV hr W.Vd (kaa (pe_ix (r:=rIxL K) kaC (kai (K:=K) (kai (K:=K) (pv 0) rfl) rfl) (pv 1) (fun _ _=>rfl)) (kaa (kai (K:=K) (kai (K:=K) (pv 0) rfl) rfl) (kaa (kai (K:=K) (pv 0) rfl) (kaa (kai (K:=K) (pv 0) rfl) kae)))))))),?_⟩
  obtain⟨v,ev⟩:=at_of (xs:=va) (i:=n) (by rw[hva.len];exact at_lt hn)
  obtain⟨Vc',eV',hV⟩:=hva.at ev
  rw[hn] at eV'
  cases eV'
  refine⟨_,rfl,wy,d.c_Way,dxw,fsw,_,rfl,hw,W.c_Way.cl,W.qF,w1,_,rfl,wy,d.c_Way,dxw,fsw,_,rfl,hw,W.c_Way.cl,W.Xm,w3,_,rfl,wy,d.c_Way,dxw,fsw,_,rfl,hw,W.c_Way.cl,W.qO,w4,_,rfl,t,h,u,T,hand,used,n,Vc,rfl,hT,hh,hu,hn,hl,?_⟩
  unfold dueM at k
  cases e:wordM Vc T.rs hand used n with
  |some z=>
   rw[e] at k
   refine⟨_,rfl,rfl,_,rfl,?_⟩
   show if(!decide (V.str z=V.non))=true then _ else _
   rw[show(!decide (V.str z=V.non))=true by simp]
   exact iteT ⟨_,rfl,k H (Same.refl _)⟩
  |none=>
   rw[e] at k
   refine⟨_,rfl,rfl,_,rfl,?_⟩
   show if(!decide (V.non=V.non))=true then _ else _
   rw[show(!decide (V.non=V.non))=false by simp]
   refine iteF ⟨_,rfl,wy,d.c_Way,dxw,fsw,_,rfl,hw,W.c_Way.cl,W.qF,w1,t,d.qf,dx,fs,_,rfl,ht,W.qf.cl,W.qG,t2,_,rfl,vl,_,_,_,rfl,rfl,SqL.of hvl,kaU (v:=.ref v) (by rw[NC,ev];rfl),?_⟩
   refine⟨_,rfl,wy,d.c_Way,dxw,fsw,_,rfl,hw,W.c_Way.cl,W.qF,w1,t,d.qf,dx,fs,_,rfl,ht,W.qf.cl,W.Qk,t1,_,rfl,wy,d.c_Way,dxw,fsw,_,rfl,hw,W.c_Way.cl,W.QK,w2,_,rfl,wy,d.c_Way,dxw,fsw,_,rfl,hw,W.c_Way.cl,W.qP,w5,?_⟩
   exact⟨v,p,b,x,Vc,T.ps,B,S,rfl,hV,SqL.of hp,hB,hS,wf,vo,k⟩
inductive khz (d:D) (vs:List V) (H:Hp) (Q:VK) (E_:XK):Prop
 |ct (wy t b x:Addr)(T:TillD)(B:Bask)(S:Stnd)(hand:List Int)(used:List Nat)(n:Nat)(V:Vch)(_:vs=[.ref wy,iV n])(_:WayIs d H wy t b x hand used)(_:TillIs d H t T)(_:BaskIs d.qe d.qg H b B)(_:StndIs d.qd H x S)(_:Wf T.ps B S)(_:VchOk T.ps V)(_:T.vs[n]?=some V)(_:used.length<64)(_:∀(H':Hp)(wy' x':Addr),Same H H'→H wy'=none→WayN d 7 H H' wy' t b x' hand (used++[n])→StndN d.qd H H' x' (aftM V T.ps (kds B) S)→Q (.ref wy') H'):khz d vs H Q E_
theorem V3:kao ["self","number","further"] ["self","number"] (kag kcP):=by ac_rfl
theorem kcy(W:WB K mg d base):FO P w W 6 d.ZE d.ZF ["self","number"] (khz d):=by
 exists W.qR.F,V3
 ·obtain⟨wy,t,b,x,T,B,S,hand,used,n,Vc,rfl,hW,hT,hB,hS,wf,vo,hn,hl,k⟩:=h
  obtain⟨dxw,fsw,h,u,hw,w1,w2,w3,w4,w5,w6,w7,w8,w9,w10,hh,hu⟩:=id hW
  obtain⟨dx,fs,p,vl,rl,va,ra,ht,t1,t2,t3,t4,hp,hvl,hva,hrl,hra⟩:=id hT
  exists qT,kcx,W
  exists UW,kks,W
  refine⟨_,kac (psl (i:=2) V3.nd (kaT (W.qA.mk' W.c_Way) qT hr rfl W.c_Way.m W.qA.b .nil pass0 (kaa (kai (K:=K) (pv 0) rfl) (kaa (kai (K:=K) (pv 0) rfl) (kaa (kai (K:=K) (pv 0) rfl) kae)))))
   (kac (kaw (pv 2) (pe_op keH (kai (K:=K) (pv 0) rfl) (kaK (kaa (pv 1) kae))) rfl)
   (kac (kaw (pv 2) (pcl UW hr W.Vf (kaa (pe_ix (r:=rIxL K) kaC (kai (K:=K) (kai (K:=K) (pv 0) rfl) rfl) (pv 1) (fun _ _=>rfl)) (kaa (kai (K:=K) (kai (K:=K) (pv 0) rfl) rfl) (kaa (kai (K:=K) (pv 0) rfl) (kaa (kai (K:=K) (pv 0) rfl) kae))))) rfl)
   (kah (kap (pv 2))))),?_⟩
  obtain⟨v,ev⟩:=at_of (xs:=va) (i:=n) (by rw[hva.len];exact at_lt hn)
  obtain⟨Vc',eV',hV⟩:=hva.at ev
  rw[hn] at eV'
  cases eV'
  exists Y4
  refine⟨_,rfl,wy,d.c_Way,dxw,fsw,_,rfl,hw,W.c_Way.cl,W.qF,w1,_,rfl,wy,d.c_Way,dxw,fsw,_,rfl,hw,W.c_Way.cl,W.QK,w2,_,rfl,wy,d.c_Way,dxw,fsw,_,rfl,hw,W.c_Way.cl,W.Xm,w3,khX hh hB wf.nl wf.ok fun H1 y x1 s1 fy fx1 hy hx1=>?_⟩
  obtain⟨_,dxy,fsy,h1,u1,fh1,_,hyy,y1,y2,y3,y4,y5,y6,y7,y8,y9,y10,hh1,hu1⟩:=hy
  symm
  exists Y4
  refine⟨_,rfl,wy,d.c_Way,dxw,fsw,_,rfl,s1 _ _ hw,W.c_Way.cl,W.qO,w4,_,rfl,(by show 1≤sizeLine;decide),fun q1 hq1=>?_⟩
  have n2:=kak (o:=.lst [iV n]) hq1
  have eq1:(upd H1 q1 (.lst [iV n])) q1=some (.lst [iV n]):=kad
  have s2:=s1.trans n2
  have hy2:=n2 _ _ hyy
  have hh2:=n2 _ _ hh1
  clear n2
  generalize upd H1 q1 (.lst [iV n])=H2 at *
  symm
  exists Y4
  refine⟨u,q1,_,_,rfl,rfl,s2 _ _ hu,eq1,NF (kan (by rw[Nr];show _+1≤1000;omega)),fun q2 hq2=>?_⟩
  have n3:=kak (o:=.lst (used.map iV++[iV n])) hq2
  have eq2:(upd H2 q2 (.lst (used.map iV++[iV n]))) q2=some (.lst ((used++[n]).map iV)):=by rw[kad,Ny];rfl
  have s3:=s2.trans n3
  have hy3:=n3 _ _ hy2
  have hh3:=n3 _ _ hh2
  have nq2:q2≠y:=(kaj hy2 hq2).symm
  clear n3
  generalize upd H2 q2 (.lst (used.map iV++[iV n]))=H3 at *
  have nh1:h1≠y:=ne_of hh3 hy3 (by intro z;cases z)
  symm
  exists Y4
  refine⟨_,rfl,y,d.c_Way,dxy,fsy,rfl,hy3,W.c_Way.cl,W.qO,few (Nx y10 (by decide)),?_⟩
  have s4:Same H (upd H3 y (.ins d.c_Way dxy (putF "used" (.ref q2) fsy))):=kaq fy s3 (nx hy3)
  have eq4:(upd H3 y (.ins d.c_Way dxy (putF "used" (.ref q2) fsy))) q2=some (.lst ((used++[n]).map iV)):=by rw[kal nq2];exact eq2
  have hh4:(upd H3 y (.ins d.c_Way dxy (putF "used" (.ref q2) fsy))) h1=some (.lst (hand.map V.int)):=by rw[kal nh1];exact hh3
  have hy4:(upd H3 y (.ins d.c_Way dxy (putF "used" (.ref q2) fsy))) y=some (.ins d.c_Way dxy (putF "used" (.ref q2) fsy)):=kad
  generalize upd H3 y (.ins d.c_Way dxy (putF "used" (.ref q2) fsy))=H4 at *
  symm
  exists Y4
  refine⟨_,rfl,wy,d.c_Way,dxw,fsw,_,rfl,s4 _ _ hw,W.c_Way.cl,W.qF,w1,t,d.qf,dx,fs,_,rfl,s4 _ _ ht,W.qf.cl,W.qG,t2,_,rfl,vl,_,_,_,rfl,rfl,SqL.of (s4 _ _ hvl),kaU (v:=.ref v) (by rw[NC,ev];rfl),?_⟩
  symm
  exists Y4
  refine⟨_,rfl,wy,d.c_Way,dxw,fsw,_,rfl,s4 _ _ hw,W.c_Way.cl,W.qF,w1,t,d.qf,dx,fs,_,rfl,s4 _ _ ht,W.qf.cl,W.Qk,t1,_,rfl,wy,d.c_Way,dxw,fsw,_,rfl,s4 _ _ hw,W.c_Way.cl,W.QK,w2,_,rfl,wy,d.c_Way,dxw,fsw,_,rfl,s4 _ _ hw,W.c_Way.cl,W.qP,w5,?_⟩
  symm
  exists Y4
  refine⟨v,p,b,x,Vc,T.ps,B,S,rfl,hV.same s4,SqL.of (s4 _ _ hp),hB.same s4,hS.same s4,wf,vo,fun H5 x' s5 f5 ⟨_,o,pp,mm,⟨dxs,fss,hxs,q⟩,fo,fpp,fmm,ho,hpp,hmm⟩=>?_⟩
  have hy5:=s5 _ _ hy4
  have hh5:=s5 _ _ hh4
  have eq5:=s5 _ _ eq4
  have nx':x'≠y:=(kaj hy4 f5).symm
  symm
  exists Y4
  refine⟨_,rfl,y,d.c_Way,dxy,_,rfl,hy5,W.c_Way.cl,W.qP,few (Nx (kam y10) (by decide)),?_⟩
  symm
  exists Y4
  refine⟨_,rfl,k _ y x' (kaq fy (s4.trans s5) (nx hy5)) fy ⟨fy,dxy,_,h1,q2,fh1,none_of s2 hq2,kad,?_,?_,?_,?_,?_,?_,?_,?_,?_,?_,?_,?_⟩ ?_⟩
  ·ac_nf
   symm
   exact y1
  ·ac_nf
   symm
   exact y2
  ·ac_nf
   symm
   exact y3
  ·ac_nf
  ·ac_nf
  ·ac_nf
   symm
   exact y6
  ·ac_nf
   symm
   exact y7
  ·ac_nf
   symm
   exact y8
  ·ac_nf
   symm
   exact y9
  ·exact Nx (kam (kam y10)) (by decide)
  ·rw[kal nh1];exact hh5
  ·rw[kal nq2];exact eq5
  ·exact⟨none_of s4 f5,o,pp,mm,⟨dxs,fss,by rw[kal nx'];exact hxs,q⟩,none_of s4 fo,none_of s4 fpp,none_of s4 fmm,by rw[kal (ne_of ho hy5 (by intro z;cases z))];exact ho,by rw[kal (ne_of hpp hy5 (by intro z;cases z))];exact hpp,by rw[kal (ne_of hmm hy5 (by intro z;cases z))];exact hmm⟩
inductive kiO (d:D) (vs:List V) (H:Hp) (Q:VK) (E_:XK):Prop
 |ct (wy t b x:Addr)(T:TillD)(hand:List Int)(used:List Nat)(_:vs=[.ref wy])(_:WayIs d H wy t b x hand used)(_:TillIs d H t T)(_:Q (.bl (onlyM T.rs used).isNone) H):kiO d vs H Q E_
theorem kea:kao ["self"] ["self"] (kag kbT):=by ac_rfl
theorem kef(W:WB K mg d base):FO P w W 2 d.ZG d.ZH ["self"] (kiO d):=by
 exists W.Xn.F,kea
 ·obtain⟨wy,t,b,x,T,hand,used,rfl,hW,hT,k⟩:=h
  obtain⟨dxw,fsw,h,u,hw,w1,w2,w3,w4,w5,w6,w7,w8,w9,w10,hh,hu⟩:=id hW
  obtain⟨dx,fs,p,vl,rl,va,ra,ht,t1,t2,t3,t4,hp,hvl,hva,hrl,hra⟩:=id hT
  exists XF,kb8,W
  refine⟨_,kah (kap (kby kdY (pcl XF hr W.Xc (kaa (kai (K:=K) (kai (K:=K) (pv 0) rfl) rfl) (kaa (kai (K:=K) (pv 0) rfl) kae))) ka1 (kav _))),?_⟩
  refine⟨_,rfl,wy,d.c_Way,dxw,fsw,_,rfl,hw,W.c_Way.cl,W.qF,w1,t,d.qf,dx,fs,_,rfl,ht,W.qf.cl,W.qH,t3,_,rfl,wy,d.c_Way,dxw,fsw,_,rfl,hw,W.c_Way.cl,W.qO,w4,rl,u,ra,T.rs,used,rfl,hrl,hra,hu,rfl,?_⟩
  cases e:onlyM T.rs used with
  |none=>
   rw[e] at k
   show Q (.bl (decide (V.non=V.non))) H
   rw[show decide (V.non=V.non)=true by simp]
   exact k
  |some z=>
   rw[e] at k
   show Q (.bl (decide (V.int (z:Int)=V.non))) H
   rw[show decide (V.int (z:Int)=V.non)=false by simp]
   exact k
noncomputable def walkM(T:TillD)(B:Bask)(hand:List Int):List Nat→List Nat→Stnd→List Nat×Stnd
 |[],used,S=>(used,S)
 |n::ns,used,S=>match T.vs[n]? with
  |none=>(used,S)
  |some V=>if dueM V T B hand used S n=.non then walkM T B hand ns (used++[n]) (aftM V T.ps (kds B) S) else(used,S)
inductive kiJ (d:D) (vs:List V) (H:Hp) (Q:VK) (E_:XK):Prop
 |ct (t b h o:Addr)(T:TillD)(B:Bask)(hand:List Int)(order:List Nat)(_:vs=[.ref t, .ref b, .ref h, .ref o])(_:TillIs d H t T)(_:kcp T)(_:BaskIs d.qe d.qg H b B)(_:Wf T.ps B (stnd0 B))(_:H h=some (.lst (hand.map V.int)))(_:H o=some (.lst (order.map iV)))(_:hand.length=T.vs.length)(_:(∀n∈order,n<T.vs.length))(_:order.length<64)(_:∀(H':Hp)(wy x:Addr),Same H H'→H wy=none→WayIs d H' wy t b x hand (walkM T B hand order [] (stnd0 B)).1→StndIs d.qd H' x (walkM T B hand order [] (stnd0 B)).2→Wf T.ps B (walkM T B hand order [] (stnd0 B)).2→Q (.ref wy) H'):kiJ d vs H Q E_
theorem QS:kao ["till","basket","hand","order","way","number"] ["till","basket","hand","order"] (kag kfD):=by ac_rfl
theorem kjl(W:WB K mg d base):FO P w W 7 d.Yu d.Yv ["till","basket","hand","order"] (kiJ d):=by
 exists W.Vk.F,QS
 ·obtain⟨t,b,h,o,T,B,hand,order,rfl,hT,tok,hB,wf0,hh,ho,hl,hlt,h64,k⟩:=h
  exists qT,kcx,W
  exists Qt,kbW,W
  exists Qu,kcy,W
  exists hr5,5,hr,0
  refine⟨_,kac (psl (i:=4) QS.nd (kaT (W.qA.mk' W.c_Way) qT hr5 rfl W.c_Way.m W.qA.b .nil pass0 (kaa (pv 0) (kaa (pv 1) (kaa (pv 2) kae)))))
   (kac (kbp PassesOwn.never rfl (kaG (K:=K) (pv 3)) (pgn (i:=5) QS.nd)
   (kac (ps_if (kas kdm (kbi (pv 4) W.c_Way.cl W.qQ.me Qt hr5 W.qQ.b .nil pass0 (kaa (pv 5) kae)) ka1 (kav _)) (kah (kap (pv 4))) (kat))
   (kah (psl (i:=4) QS.nd (kbi (pv 4) W.c_Way.cl W.qR.me Qu hr W.qR.b .nil pass0 (kaa (pv 5) kae))))))
   (kah (kap (pv 4)))),?_⟩
  generalize eR:walkM T B hand order [] (stnd0 B)=R at k
  exists Y4
  refine⟨_,rfl,_,rfl,_,rfl,khX hh hB wf0.nl wf0.ok fun H1 y0 x0 s1 fy0 fx0 hy0N hx0=>?_⟩
  have hy0:=hy0N.at
  symm
  exists Y4
  refine⟨_,rfl,o,rfl,⟨_,SqL.of (s1 _ _ ho)⟩,kbN (xs:=order.map iV) (fun i σ H'=>Same H H'∧∃(y x:Addr)(used:List Nat)(S:Stnd)(v5:Option V),WayIs d H' y t b x hand used∧H y=none∧StndIs d.qd H' x S∧Wf T.ps B S∧used.length=i∧walkM T B hand (order.drop i) used S=R∧σ=[some (.ref t),some (.ref b),some (.ref h),some (.ref o),some (.ref y),v5])
   ⟨s1,y0,x0,[],_,none,hy0.most (by decide),fy0,hx0,wf0,rfl,eR,rfl⟩ (fun i σ H' _ h=>SqL.of (h.1 _ _ ho)) ?_ ?_⟩
  ·rintro i yv σ H' hyv ⟨sI,y,x,used,S,v5,hY,fy,hx,wf,hul,hwalk,rfl⟩
   obtain⟨n,en,rfl⟩:∃n,order[i]?=some n∧yv=iV n:=kbM hyv
   have hi:=at_lt en
   obtain⟨Vc,hV⟩:=at_of (hlt n (NA en))
   have vo:=tok.vs Vc (NA hV)
   have ed:order.drop i=n::order.drop (i+1):=by
    obtain⟨h1,h2⟩:=NG.mp en
    rw[Dl h1,h2]
   rw[ed] at hwalk
   have hwk:=hwalk
   unfold walkM at hwk
   rw[hV] at hwk
   simp only at hwk
   obtain⟨dxw,fsw,hd,u,hw,w1,w2,w3,w4,w5,w6,w7,w8,w9,w10,hh',hu⟩:=id hY
   symm
   exists Y6
   refine⟨_,rfl,y,dxw,fsw,rfl,hw,w6,_,rfl,y,t,b,x,T,B,S,hand,used,n,Vc,rfl,hY,hT.same sI,hB.same sI,hx,wf,vo,hV,hl,fun H2 s2=>⟨rfl,_,rfl,?_⟩⟩
   have s02:=sI.trans s2
   by_cases hn:dueM Vc T B hand used S n=.non
   ·rw[if_pos hn] at hwk
    rw[hn]
    rw[show(!decide (V.non=V.non))=false by simp]
    refine iteF ?_
    nofun
    exists Y8
    refine⟨_,rfl,y,dxw,fsw,rfl,s2 _ _ hw,w7,_,rfl,y,t,b,x,T,B,S,hand,used,n,Vc,rfl,hY.same s2,hT.same s02,hB.same s02,hx.same s2,wf,vo,hV,by omega,fun H3 y' x' s3 fy' hY1 hx1=>?_⟩
    have hY':=hY1.at
    have hx':=hx1.is
    exists 3
    exact⟨s02.trans s3,y',x',used++[n],_,_,hY',s02.free fy',hx',wf.after vo,by rw[NI,hul];rfl,hwk,rfl⟩
   ·rw[if_neg hn] at hwk
    rw[show(!decide (dueM Vc T B hand used S n=V.non))=true by simp[hn]]
    refine iteT ?_
    exists 3
    exists Y8
    refine⟨_,rfl,k H2 y x s02 fy ?_ ?_ ?_⟩
    ·rw[←hwk];exact hY.same s2
    ·rw[←hwk];exact hx.same s2
    ·rw[←hwk];exact wf
  ·rintro σ H' ⟨sI,y,x,used,S,v5,hY,fy,hx,wf,hul,hwalk,rfl⟩
   rw[Nr,Dm] at hwalk
   have hwk:=hwalk
   unfold walkM at hwk
   nofun
   exists Y6
   refine⟨_,rfl,k H' y x sI fy ?_ ?_ ?_⟩
   ·rw[←hwk];exact hY
   ·rw[←hwk];exact hx
   ·rw[←hwk];exact wf
noncomputable def kcn(T:TillD)(B:Bask)(hand:List Int)(order:List Nat):Option (Nat×L2.V):=
 let r:=walkM T B hand order [] (stnd0 B)
 if r.1.length<order.length then match T.vs[order.getD r.1.length 0]? with
  |none=>none
  |some V=>some (r.1.length,dueM V T B hand r.1 r.2 (order.getD r.1.length 0))
 else if(onlyM T.rs r.1).isNone=true then none else some (r.1.length, .str "only")
noncomputable def FltIs(H:Hp)(v:L2.V):Option (Nat×L2.V)→Prop
 |none=>v=.non
 |some (k,z)=>∃a,v=.ref a∧H a=some (.tup [iV k,z])
inductive kiR (d:D) (vs:List V) (H:Hp) (Q:VK) (E_:XK):Prop
 |ct (t b h o:Addr)(T:TillD)(B:Bask)(hand:List Int)(order:List Nat)(_:vs=[.ref t, .ref b, .ref h, .ref o])(_:TillIs d H t T)(_:kcp T)(_:BaskIs d.qe d.qg H b B)(_:Wf T.ps B (stnd0 B))(_:H h=some (.lst (hand.map V.int)))(_:H o=some (.lst (order.map iV)))(_:hand.length=T.vs.length)(_:(∀n∈order,n<T.vs.length))(_:order.length<64)(_:∀(H':Hp)(v:L2.V),Same H H'→FltIs H' v (kcn T B hand order)→Q v H'):kiR d vs H Q E_
theorem XG:kao ["till","basket","hand","order","way","place"] ["till","basket","hand","order"] (kag kg1):=by ac_rfl
theorem kfK(W:WB K mg d base):FO P w W 8 d.Ys d.Yt ["till","basket","hand","order"] (kiR d):=by
 exists W.QE.F,XG
 ·obtain⟨t,b,h,o,T,B,hand,order,rfl,hT,tok,hB,wf0,hh,ho,hl,hlt,h64,k⟩:=h
  exists UX,kjl,W
  exists Qt,kbW,W
  exists UY,kef,W
  exists hr2,2,hr,0
  exists hr5,5,hr,0
  refine⟨_,kac (psl (i:=4) XG.nd (pcl UX hr W.Vk (kaa (pv 0) (kaa (pv 1) (kaa (pv 2) (kaa (pv 3) kae))))))
   (kac (psl (i:=5) XG.nd (kau (r:=ka6 K) kax (by rfl) W.B.len b_len (kaa (kai (K:=K) (pv 4) rfl) kae)))
   (kac (ps_if (kas op_lt (pv 5) (kau (r:=ka6 K) kax (by rfl) W.B.len b_len (kaa (pv 3) kae)) (kav _)) (kah (kap (ka0 (kaa (pv 5) (kaa (kbi (pv 4) W.c_Way.cl W.qQ.me Qt hr5 W.qQ.b .nil pass0 (kaa (pe_ix (r:=rIxL K) kaC (pv 3) (pv 5) (fun _ _=>rfl)) kae)) kae))))) (kat))
   (kac (ps_if (kez (ka4 (kek (pv 4) W.c_Way.cl W.Xn.me UY hr2 W.Xn.b .nil pass0))) (kah (kap (ka0 (kaa (pv 5) (kaa kbu kae))))) (kat))
   (kah (kap ka1))))),?_⟩
  exists Y4
  refine⟨_,rfl,_,rfl,_,rfl,_,rfl,t,b,h,o,T,B,hand,order,rfl,hT,tok,hB,wf0,hh,ho,hl,hlt,h64,fun H1 y x s1 fy hY hx wf=>?_⟩
  unfold kcn at k
  simp only at k
  generalize walkM T B hand order [] (stnd0 B)=r at *
  obtain⟨used,S⟩:=r
  simp only at *
  obtain⟨dxw,fsw,hd,u,hw,w1,w2,w3,w4,w5,w6,w7,w8,w9,w10,hh',hu⟩:=id hY
  symm
  exists Y4
  refine⟨_,rfl,y,d.c_Way,dxw,fsw,_,rfl,hw,W.c_Way.cl,W.qO,w4,u,_,rfl, .inl (SqL.of hu),?_⟩
  rw[Nr]
  symm
  exists Y4
  refine⟨_,rfl,_,rfl,o,_,rfl, .inl (SqL.of (s1 _ _ ho)),_,_,rfl,rfl,_,rfl,?_⟩
  rw[Nr]
  by_cases hlen:used.length<order.length
  ·rw[if_pos hlen] at k
   rw[show decide ((used.length:Int)<(order.length:Int))=true by simp;exact hlen]
   obtain⟨n,en⟩:=at_of hlen
   have eg:order.getD used.length 0=n:=by rw[NR,en];rfl
   obtain⟨Vc,hV⟩:=at_of (hlt n (NA en))
   rw[eg,hV] at k
   have vo:=tok.vs Vc (NA hV)
   refine iteT ?_
   symm
   exists Y6
   refine⟨_,rfl,_,rfl,y,dxw,fsw,rfl,hw,w6,_,rfl,_,rfl,o,_,_,_,rfl,rfl,SqL.of (s1 _ _ ho),kaU (v:=iV n) (by rw[NC,en];rfl),y,t,b,x,T,B,S,hand,used,n,Vc,rfl,hY,hT.same s1,hB.same s1,hx,wf,vo,hV,hl,fun H2 s2=>?_⟩
   nofun
   exists Y6
   refine⟨(by show 2≤sizeLine;decide),fun q hq=>?_⟩
   nofun
   exact k _ _ ((s1.trans s2).trans (kak hq)) ⟨q,rfl,kad⟩
  ·rw[if_neg hlen] at k
   rw[show decide ((used.length:Int)<(order.length:Int))=false by simp;omega]
   refine iteF ?_
   nofun
   exists Y6
   refine⟨_,rfl,y,dxw,fsw,rfl,hw,w8,y,t,b,x,T,hand,used,rfl,hY,hT.same s1,_,rfl,?_⟩
   cases e:(onlyM T.rs used).isNone with
   |true=>
    rw[e,if_pos rfl] at k
    refine iteF ?_
    nofun
    exact k H1 _ s1 rfl
   |false=>
    rw[e,if_neg ND] at k
    refine iteT ?_
    nofun
    exists Y8
    refine⟨_,rfl,(by show 2≤sizeLine;decide),fun q hq=>?_⟩
    exists 3
    exact k _ _ (s1.trans (kak hq)) ⟨q,rfl,kad⟩
structure Step where
 n:Nat
 cs:List Int
 c:Int
noncomputable def StepIs(H:Hp)(a:Addr)(s:Step):Prop:=∃l,H a=some (.tup [iV s.n, .ref l, .int s.c])∧H l=some (.lst (s.cs.map V.int))
theorem StepIs.same{H H':Hp}{a:Addr}{t:Step}(s:Same H H'):StepIs H a t→StepIs H' a t:=fun⟨l,h1,h2⟩=>⟨l,s _ _ h1,s _ _ h2⟩
noncomputable def StepN(H0 H:Hp)(a:Addr)(s:Step):Prop:=H0 a=none∧∃l,H0 l=none∧H a=some (.tup [iV s.n, .ref l, .int s.c])∧H l=some (.lst (s.cs.map V.int))
theorem StepN.same{H0 H H':Hp}{a:Addr}{t:Step}(s:Same H H'):StepN H0 H a t→StepN H0 H' a t:=fun⟨f,l,g,h1,h2⟩=>⟨f,l,g,s _ _ h1,s _ _ h2⟩
theorem StepN.but{H0 H H':Hp}{a x:Addr}{t:Step}(b:But x H H')(hx:H0 x≠none):StepN H0 H a t→StepN H0 H' a t:=fun⟨f,l,g,h1,h2⟩=>⟨f,l,g,b _ _ (fun e=>hx (e▸f)) h1,b _ _ (fun e=>hx (e▸g)) h2⟩
structure BillD where
 order:List Nat
 steps:List Step
 pr:List Int
 cg:Int
 total:Int
inductive BillIs (d:D) (H0 H:Hp) (b:Addr) (B:BillD):Prop
 |ct (dx:Addr)(fs:List (Str×V))(o s p:Addr)(sa:List Addr)(_:H b=some (.ins d.qk dx fs))(_:fs.lookup ("order" :Str)=some (.ref o))(_:fs.lookup ("steps" :Str)=some (.ref s))(_:fs.lookup ("prices" :Str)=some (.ref p))(_:fs.lookup ("carriage" :Str)=some (.int B.cg))(_:fs.lookup ("total" :Str)=some (.int B.total))(_:H0 b=none)(_:H0 o=none)(_:H0 s=none)(_:H0 p=none)(_:H o=some (.lst (B.order.map iV)))(_:H s=some (.lst (sa.map V.ref)))(_:P2 (fun a t=>StepN H0 H a t) sa B.steps)(_:H p=some (.lst (B.pr.map V.int))):BillIs d H0 H b B
theorem BillIs.same{d:D}{H0 H H':Hp}{b:Addr}{B:BillD}(z:Same H H'):BillIs d H0 H b B→BillIs d H0 H' b B:=fun⟨dx,fs,o,s,p,sa,h1,h2,h3,h4,h5,h6,f1,f2,f3,f4,h7,h8,h9,h10⟩=>
 ⟨dx,fs,o,s,p,sa,z _ _ h1,h2,h3,h4,h5,h6,f1,f2,f3,f4,z _ _ h7,z _ _ h8,h9.mono fun a t h=>h.same z,z _ _ h10⟩
theorem BillIs.but{d:D}{H0 H H':Hp}{b x:Addr}{B:BillD}(z:But x H H')(hx:H0 x≠none):BillIs d H0 H b B→BillIs d H0 H' b B:=fun⟨dx,fs,o,s,p,sa,h1,h2,h3,h4,h5,h6,f1,f2,f3,f4,h7,h8,h9,h10⟩=>
 ⟨dx,fs,o,s,p,sa,z _ _ (fun e=>hx (e▸f1)) h1,h2,h3,h4,h5,h6,f1,f2,f3,f4,z _ _ (fun e=>hx (e▸f2)) h7,z _ _ (fun e=>hx (e▸f3)) h8,h9.mono fun a t h=>h.but z hx,z _ _ (fun e=>hx (e▸f4)) h10⟩
inductive kgV (d:D) (vs:List V) (H:Hp) (Q:VK) (E_:XK):Prop
 |ct (H0:Hp)(b dx o s x:Addr)(order:List Nat)(steps:List Step)(S:Stnd)(sa:List Addr)(_:vs=[.ref b, .ref o, .ref s, .ref x])(_:H0 b=none)(_:Same H0 H)(_:H b=some (.ins d.qk dx []))(_:H0 o=some (.lst (order.map iV)))(_:H0 s=some (.lst (sa.map V.ref)))(_:P2 (fun a t=>StepIs H0 a t) sa steps)(_:steps.length<64)(_:StndIs d.qd H0 x S)(_:∀H',Same H0 H'→BillIs d H0 H' b ⟨order,steps,S.pr,S.cg,S.pr.sum+S.cg⟩→Q .non H'):kgV d vs H Q E_
theorem kgr:kao ["self","order","steps","standing"] ["self","order","steps","standing"] (kag kdk):=by ac_rfl
theorem kgy(W:WB K mg d base):FO P w W 2 d.ZI d.ZJ ["self","order","steps","standing"] (kgV d):=by
 exists W.Xo.F,kgr
 ·obtain⟨H0,b,dx,o,st,x,order,steps,S,sa,rfl,fb,s0,hb,ho,hst,hsa,h64,hS,kk⟩:=h
  obtain⟨ow,pp,mm,⟨dxs,fss,hxs,l1,l2,l3,l4,l5⟩,how,hpp,hmm⟩:=id hS
  exists XH,kcm,W
  refine⟨_,kac (kaw (pv 0) (kaH (r:=kbe K) kaB (by rfl) W.B.list kbD (kaa (pv 1) kae)) rfl)
   (kac (kaw (pv 0) (kbf (N:=["number","piece_cuts","carriage_cut"]) (CompScope.plain rfl (by decide +kernel) (by decide +kernel) (by decide +kernel) (show(["number","piece_cuts","carriage_cut"]:List Str).Nodup by decide +kernel)) rfl (kaG (K:=K) (pv 2)) (fun _ _ _ _=>kbs (K:=K) (n:=3) rfl (kay (pgn (i:=0) (show(["number","piece_cuts","carriage_cut"]:List Str).Nodup by decide +kernel)) (kay (pgn (i:=1) (show(["number","piece_cuts","carriage_cut"]:List Str).Nodup by decide +kernel)) (kay (pgn (i:=2) (show(["number","piece_cuts","carriage_cut"]:List Str).Nodup by decide +kernel)) kbr)))) (fun _ _ _ _=>(ka0 (kaa (pv 0) (kaa (kaH (r:=kbe K) kaB (by rfl) W.B.list kbD (kaa (pv 1) kae)) (kaa (pv 2) kae)))))) rfl)
   (kac (kaw (pv 0) (kaH (r:=kbe K) kaB (by rfl) W.B.list kbD (kaa (kai (K:=K) (pv 3) rfl) kae)) rfl)
   (kac (kaw (pv 0) (kai (K:=K) (pv 3) rfl) rfl)
   (kah (kaw (pv 0) (kek (pv 3) W.qd.cl W.Qj.me XH hr W.Qj.b .nil pass0) rfl))))),?_⟩
  exists Y4
  refine⟨_,rfl,o,_,rfl, .inl (SqL.of (s0 _ _ ho)),fun o' ho'=>?_⟩
  have n1:=kak (o:=.lst (order.map iV)) ho'
  have fo:=s0.free ho'
  have no:o'≠b:=(kaj hb ho').symm
  have e1:(upd H o' (.lst (order.map iV))) o'=some (.lst (order.map iV)):=kad
  have s1:=s0.trans n1
  have hb1:=n1 _ _ hb
  clear n1
  generalize upd H o' (.lst (order.map iV))=H1 at *
  symm
  exists Y4
  refine⟨_,rfl,b,d.qk,dx,[],rfl,hb1,W.qk.cl,W.Ui,by decide,?_⟩
  have s2:Same H0 (upd H1 b (.ins d.qk dx (putF "order" (.ref o') []))):=kaq fb s1 (nx hb1)
  have e2:(upd H1 b (.ins d.qk dx (putF "order" (.ref o') []))) o'=some (.lst (order.map iV)):=by rw[kal no];exact e1
  have hb2:(upd H1 b (.ins d.qk dx (putF "order" (.ref o') []))) b=some (.ins d.qk dx (putF "order" (.ref o') [])):=kad
  generalize upd H1 b (.ins d.qk dx (putF "order" (.ref o') []))=H2 at *
  symm
  exists Y4
  refine⟨_,rfl,st,rfl,⟨_,SqL.of (s2 _ _ hst)⟩,kaO (xs:=sa.map V.ref) (fun i σ ys H'=>Same H2 H'∧∃(ta:List Addr)(v0 v1 v2:Option V),ys=ta.map V.ref∧P2 (fun a t=>StepN H0 H' a t) ta (steps.take i)∧σ=[v0,v1,v2])
   ⟨Same.refl _,[],none,none,none,rfl, .nil,rfl⟩ (by rw[Nr,hsa.len];exact NF (kan (by omega))) ?_ ?_ ?_⟩
  ·rintro i σ ys H' hi ⟨s3,ta,v0,v1,v2,rfl,hT,rfl⟩
   symm
   exists Y6
   refine⟨SqL.of (s3 _ _ (s2 _ _ hst)),?_⟩
   rw[Nr,hT.len,NH]
   rw[Nr,hsa.len] at hi
   omega
  ·rintro i y σ ys H' hy ⟨s3,ta,v0,v1,v2,rfl,hT,rfl⟩
   obtain⟨a,ea,rfl⟩:=kbV hy
   obtain⟨t,et,l,ha,hl⟩:=hsa.at ea
   have s03:=s2.trans s3
   nofun
   exists Y6
   refine⟨a,_,rfl,SqT.of (s03 _ _ ha),rfl,_,_,rfl,_,_,rfl,_,_,rfl,rfl,?_⟩
   nofun
   exists Y6
   refine⟨_,rfl,_,rfl,l,_,rfl, .inl (SqL.of (s03 _ _ hl)),fun l' hl'=>⟨_,rfl,(by show 3≤sizeLine;decide),fun q hq=>?_⟩⟩
   have n4:=kak (o:=.lst (t.cs.map V.int)) hl'
   have n5:=kak (o:=.tup [iV t.n,V.ref l',V.int t.c]) hq
   nofun
   exists Y6
   refine⟨s3.trans (n4.trans n5),ta++[q],_,_,_,by rw[Ny];rfl,?_,rfl⟩
   rw[kbl et]
   nofun
   exact P2.snoc (hT.mono fun a t h=>h.same (n4.trans n5)) ⟨s03.free (n4.free hq),l',s03.free hl',kad,n5 _ _ kad⟩
  rintro σ ys H3 ⟨s3,ta,v0,v1,v2,rfl,hT,rfl⟩ sp hsp
  rw[Nr,hsa.len,N3] at hT
  have n4:=kak (o:=.lst (ta.map V.ref)) hsp
  have s03:=s2.trans s3
  have fsp:=s03.free hsp
  have hb3:=s3 _ _ hb2
  have nsp:sp≠b:=(kaj hb3 hsp).symm
  have s4:=s03.trans n4
  have e4:=n4 _ _ (s3 _ _ e2)
  have es4:(upd H3 sp (.lst (ta.map V.ref))) sp=some (.lst (ta.map V.ref)):=kad
  have hT4:P2 (fun a t=>StepN H0 (upd H3 sp (.lst (ta.map V.ref))) a t) ta steps:=hT.mono fun a t h=>h.same n4
  have hb4:=n4 _ _ hb3
  clear n4
  generalize upd H3 sp (.lst (ta.map V.ref))=H4 at *
  symm
  exists Y4
  refine⟨_,rfl,b,d.qk,dx,_,rfl,hb4,W.qk.cl,W.Uj,few (Nx (kam (n:=0) (Nv _)) (by decide)),?_⟩
  have b5:But b H4 (upd H4 b (.ins d.qk dx (putF "steps" (.ref sp) (putF "order" (.ref o') [])))):=kar (nx hb4)
  have s5:Same H0 (upd H4 b (.ins d.qk dx (putF "steps" (.ref sp) (putF "order" (.ref o') [])))):=kaq fb s4 (nx hb4)
  have e5:(upd H4 b (.ins d.qk dx (putF "steps" (.ref sp) (putF "order" (.ref o') [])))) o'=some (.lst (order.map iV)):=by rw[kal no];exact e4
  have es5:(upd H4 b (.ins d.qk dx (putF "steps" (.ref sp) (putF "order" (.ref o') [])))) sp=some (.lst (ta.map V.ref)):=by rw[kal nsp];exact es4
  have hb5:(upd H4 b (.ins d.qk dx (putF "steps" (.ref sp) (putF "order" (.ref o') [])))) b=some (.ins d.qk dx (putF "steps" (.ref sp) (putF "order" (.ref o') []))):=kad
  have stepb:∀{H5:Hp},But b H4 H5→P2 (fun a t=>StepN H0 H5 a t) ta steps:=fun {H5} bt=>hT4.mono fun a t ⟨f,l,g,h1,h2⟩=>⟨f,l,g,bt _ _ (ne_of h1 hb4 (by intro z;cases z)) h1,bt _ _ (ne_of h2 hb4 (by intro z;cases z)) h2⟩
  generalize upd H4 b (.ins d.qk dx (putF "steps" (.ref sp) (putF "order" (.ref o') [])))=H5 at *
  symm
  exists Y4
  refine⟨_,rfl,x,d.qd,dxs,fss,_,rfl,s5 _ _ hxs,W.qd.cl,W.qw,l2,pp,_,rfl, .inl (SqL.of (s5 _ _ hpp)),fun p' hp'=>?_⟩
  have n6:=kak (o:=.lst (S.pr.map V.int)) hp'
  have fp:=s5.free hp'
  have np:p'≠b:=(kaj hb5 hp').symm
  have s6:=s5.trans n6
  have b6:=b5.same n6
  have e6:=n6 _ _ e5
  have es6:=n6 _ _ es5
  have ep6:(upd H5 p' (.lst (S.pr.map V.int))) p'=some (.lst (S.pr.map V.int)):=kad
  have hb6:=n6 _ _ hb5
  clear n6
  generalize upd H5 p' (.lst (S.pr.map V.int))=H6 at *
  symm
  exists Y4
  refine⟨_,rfl,b,d.qk,dx,_,rfl,hb6,W.qk.cl,W.VT,few (Nx (kam (kam (n:=0) (Nv _))) (by decide)),?_⟩
  have b7:But b H4 (upd H6 b (.ins d.qk dx (putF "prices" (.ref p') (putF "steps" (.ref sp) (putF "order" (.ref o') []))))):=b6.trans (kar (nx hb6))
  have s7:Same H0 (upd H6 b (.ins d.qk dx (putF "prices" (.ref p') (putF "steps" (.ref sp) (putF "order" (.ref o') []))))):=kaq fb s6 (nx hb6)
  have e7:(upd H6 b (.ins d.qk dx (putF "prices" (.ref p') (putF "steps" (.ref sp) (putF "order" (.ref o') []))))) o'=some (.lst (order.map iV)):=by rw[kal no];exact e6
  have es7:(upd H6 b (.ins d.qk dx (putF "prices" (.ref p') (putF "steps" (.ref sp) (putF "order" (.ref o') []))))) sp=some (.lst (ta.map V.ref)):=by rw[kal nsp];exact es6
  have ep7:(upd H6 b (.ins d.qk dx (putF "prices" (.ref p') (putF "steps" (.ref sp) (putF "order" (.ref o') []))))) p'=some (.lst (S.pr.map V.int)):=by rw[kal np];exact ep6
  have hb7:(upd H6 b (.ins d.qk dx (putF "prices" (.ref p') (putF "steps" (.ref sp) (putF "order" (.ref o') []))))) b=some (.ins d.qk dx (putF "prices" (.ref p') (putF "steps" (.ref sp) (putF "order" (.ref o') [])))):=kad
  generalize upd H6 b (.ins d.qk dx (putF "prices" (.ref p') (putF "steps" (.ref sp) (putF "order" (.ref o') []))))=H7 at *
  symm
  exists Y4
  refine⟨_,rfl,x,d.qd,dxs,fss,_,rfl,s7 _ _ hxs,W.qd.cl,W.qV,l3,_,rfl,b,d.qk,dx,_,rfl,hb7,W.qk.cl,W.Uk,few (Nx (kam (kam (kam (n:=0) (Nv _)))) (by decide)),?_⟩
  have s8:Same H0 (upd H7 b (.ins d.qk dx (putF "carriage" (.int S.cg) (putF "prices" (.ref p') (putF "steps" (.ref sp) (putF "order" (.ref o') [])))))):=kaq fb s7 (nx hb7)
  have hb8:(upd H7 b (.ins d.qk dx (putF "carriage" (.int S.cg) (putF "prices" (.ref p') (putF "steps" (.ref sp) (putF "order" (.ref o') [])))))) b=some (.ins d.qk dx (putF "carriage" (.int S.cg) (putF "prices" (.ref p') (putF "steps" (.ref sp) (putF "order" (.ref o') []))))):=kad
  symm
  exists Y4
  refine⟨_,rfl,x,dxs,fss,rfl,s8 _ _ hxs,l5,x,ow,pp,mm,S.cg,S.pr,rfl,⟨dxs,fss,s8 _ _ hxs,l1,l2,l3,l4,l5⟩,s8 _ _ hpp,_,rfl,b,d.qk,dx,_,rfl,hb8,W.qk.cl,W.VU,few (Nx (kam (kam (kam (kam (n:=0) (Nv _))))) (by decide)),?_⟩
  symm
  refine kk _ (kaq fb s8 (nx hb8)) ⟨dx,_,o',sp,p',ta,kad,?_,?_,?_,?_,?_,fb,fo,fsp,fp,?_,?_,stepb ((b7.trans (kar (nx hb7))).trans (kar (nx hb8))),?_⟩
  ·ac_nf
  ·ac_nf
  ·ac_nf
  ·ac_nf
  ·ac_nf
  ·rw[kal no,kal no];exact e7
  ·rw[kal nsp,kal nsp];exact es7
  ·rw[kal np,kal np];exact ep7
theorem kl4{d:D}{H:Hp}{o s x:Addr}{order:List Nat}{steps:List Step}{S:Stnd}{sa:List Addr}{R:Addr→Hp→Prop}{E:XK}(ho:H o=some (.lst (order.map iV)))(hs:H s=some (.lst (sa.map V.ref)))(hsa:P2 (fun a t=>StepIs H a t) sa steps)(h64:steps.length<64)(hS:StndIs d.qd H x S)
  (k:∀(H':Hp)(b:Addr),Same H H'→BillIs d H H' b ⟨order,steps,S.pr,S.cg,S.pr.sum+S.cg⟩→R b H'):
  ∀b dx,H b=none→H dx=none→dx≠b→kgV d [.ref b, .ref o, .ref s, .ref x] (upd (upd H dx (.own b)) b (.ins d.qk dx [])) (fun v H2=>v=.non∧R b H2) E:=
 fun b dx nb nd _=>⟨H,b,dx,o,s,x,order,steps,S,sa,rfl,nb,kaX nb nd,kad,ho,hs,hsa,h64,hS,fun H' z hB=>⟨rfl,k H' b z hB⟩⟩
theorem kdO{H:Hp}{sp o:Addr}{xs:List Addr}{ys:List V}(hsp:H sp=some (.lst (xs.map V.ref)))(h0:xs≠[])(ho:H o=some (.lst ys))(hy:∀y∈ys,∀r,y≠V.ref r):o≠sp:=fun z=>by
 rw[z,hsp] at ho
 injection ho with ho
 injection ho with ho
 cases xs with
 |nil=>exact h0 rfl
 |cons r xs=>exact hy (V.ref r) (by rw[←ho];simp) r rfl
theorem StndIs.butR{C sp x:Addr}{H H':Hp}{S:Stnd}{xs:List Addr}(b:But sp H H')(hsp:H sp=some (.lst (xs.map V.ref)))(h0:xs≠[]):StndIs C H x S→StndIs C H' x S:=fun⟨o,p,mk,⟨dx,fs,hx,q⟩,ho,hp,hm⟩=>
 ⟨o,p,mk,⟨dx,fs,b _ _ (ne_of hx hsp (by intro z;cases z)) hx,q⟩,
  b _ _ (kdO hsp h0 ho fun y hy r e=>by obtain⟨n,_,rfl⟩:=NQ.mp hy;cases e) ho,
  b _ _ (kdO hsp h0 hp fun y hy r e=>by obtain⟨n,_,rfl⟩:=NQ.mp hy;cases e) hp,
  b _ _ (kdO hsp h0 hm fun y hy r e=>by obtain⟨n,_,rfl⟩:=NQ.mp hy;cases e) hm⟩
theorem WayAt.butR{d:D}{m:Nat}{sp w t b x:Addr}{H H':Hp}{hand:List Int}{used:List Nat}{xs:List Addr}(z:But sp H H')(hsp:H sp=some (.lst (xs.map V.ref)))(h0:xs≠[]):WayAt d m H w t b x hand used→WayAt d m H' w t b x hand used:=fun⟨dx,fs,h,u,h1,h2,h3,h4,h5,h6,h7,h8,h9,h10,h11,h12,h13⟩=>
 ⟨dx,fs,h,u,z _ _ (ne_of h1 hsp (by intro z;cases z)) h1,h2,h3,h4,h5,h6,h7,h8,h9,h10,h11,
  z _ _ (kdO hsp h0 h12 fun y hy r e=>by obtain⟨n,_,rfl⟩:=NQ.mp hy;cases e) h12,
  z _ _ (kdO hsp h0 h13 fun y hy r e=>by obtain⟨n,_,rfl⟩:=NQ.mp hy;cases e) h13⟩
noncomputable def billM(T:TillD)(B:Bask):List Nat→Stnd→List Step×Stnd
 |[],S=>([],S)
 |n::ns,S=>match T.vs[n]? with
  |none=>([],S)
  |some V=>(⟨n,(cutM V T.ps (kds B) S).1,(cutM V T.ps (kds B) S).2⟩::(billM T B ns (aftM V T.ps (kds B) S)).1,(billM T B ns (aftM V T.ps (kds B) S)).2)
noncomputable def kdd(T:TillD)(B:Bask)(order:List Nat):BillD:=⟨order,(billM T B order (stnd0 B)).1,(billM T B order (stnd0 B)).2.pr,(billM T B order (stnd0 B)).2.cg,(billM T B order (stnd0 B)).2.pr.sum+(billM T B order (stnd0 B)).2.cg⟩
inductive kht (d:D) (vs:List V) (H:Hp) (Q:VK) (E_:XK):Prop
 |ct (t b h o:Addr)(T:TillD)(B:Bask)(hand:List Int)(order:List Nat)(_:vs=[.ref t, .ref b, .ref h, .ref o])(_:TillIs d H t T)(_:kcp T)(_:BaskIs d.qe d.qg H b B)(_:Wf T.ps B (stnd0 B))(_:H h=some (.lst (hand.map V.int)))(_:H o=some (.lst (order.map iV)))(_:hand.length=T.vs.length)(_:(∀n∈order,n<T.vs.length))(_:order.length<64)(_:kcn T B hand order=none)(_:∀(H0 H':Hp)(bl:Addr),Same H H0→Same H0 H'→BillIs d H0 H' bl (kdd T B order)→Q (.ref bl) H'):kht d vs H Q E_
theorem qU:kao ["till","basket","hand","order","due","way","steps","number","told"] ["till","basket","hand","order"] (kag kfE):=by ac_rfl
theorem kjm(W:WB K mg d base):FO P w W 9 d.YE d.YF ["till","basket","hand","order"] (kht d):=by
 exists W.Vo.F,qU
 ·obtain⟨t,b,h,o,T,B,hand,order,rfl,hT,tok,hB,wf0,hh,ho,hl,hlt,h64,hf,kk⟩:=h
  exists Qv,kfK,W
  exists qT,kcx,W
  exists UZ,klZ,W
  exists Qu,kcy,W
  exists U0,kgy,W
  exists hr3,3,hr,0
  exists hr5,5,hr,0
  exists hr6,6,hr,0
  refine⟨_,kac (psl (i:=4) qU.nd (pcl Qv hr W.QE (kaa (pv 0) (kaa (pv 1) (kaa (pv 2) (kaa (pv 3) kae))))))
   (kac (ps_if (kas kdm (pv 4) ka1 (kav _)) (kah (ps_no)) (kat))
   (kac (psl (i:=5) qU.nd (kaT (W.qA.mk' W.c_Way) qT hr5 rfl W.c_Way.m W.qA.b .nil pass0 (kaa (pv 0) (kaa (pv 1) (kaa (pv 2) kae)))))
   (kac (psl (i:=6) qU.nd (kaK kae))
   (kac (kbp PassesOwn.never rfl (kaG (K:=K) (pv 3)) (pgn (i:=7) qU.nd)
   (kac (psl (i:=8) qU.nd (pcl UZ hr5 W.Ve (kaa (pe_ix (r:=rIxL K) kaC (kai (K:=K) (pv 0) rfl) (pv 7) (fun _ _=>rfl)) (kaa (kai (K:=K) (pv 0) rfl) (kaa (pv 1) (kaa (kai (K:=K) (pv 5) rfl) kae))))))
   (kac (kaS (pe_bm N4 Mu Mv ka5 (pv 6) (kaa (ka0 (kaa (pv 7) (kaa (pe_ix (r:=rIxT K) keU (pv 8) kaf (fun _ _=>rfl)) (kaa (pe_ix (r:=rIxT K) keU (pv 8) kaf (fun _ _=>rfl)) kae)))) kae)))
   (kah (psl (i:=5) qU.nd (kbi (pv 5) W.c_Way.cl W.qR.me Qu hr6 W.qR.b .nil pass0 (kaa (pv 7) kae)))))))
   (kah (kap (kaT (W.Xo.mk' W.qk) U0 hr3 rfl W.qk.m W.Xo.b .nil pass0 (kaa (pv 3) (kaa (pv 6) (kaa (kai (K:=K) (pv 5) rfl) kae)))))))))),?_⟩
  exists Y4
  refine⟨_,rfl,_,rfl,_,rfl,_,rfl,t,b,h,o,T,B,hand,order,rfl,hT,tok,hB,wf0,hh,ho,hl,hlt,h64,fun H1 v s1 hF=>?_⟩
  rw[hf] at hF
  have ev:v=.non:=hF
  subst ev
  symm
  exists Y4
  refine⟨_,rfl,rfl,_,rfl,?_⟩
  show if(!decide (V.non=V.non))=true then _ else _
  rw[show(!decide (V.non=V.non))=false by simp]
  refine iteF ?_
  symm
  exists Y4
  refine⟨_,rfl,_,rfl,_,rfl,khX (s1 _ _ hh) (hB.same s1) wf0.nl wf0.ok fun H2 y0 x0 s2 fy0 fx0 hy0N hx0=>?_⟩
  have hy0:=hy0N.at
  have s02:=s1.trans s2
  symm
  exists Y4
  refine⟨by decide,fun sp fsp=>?_⟩
  generalize hgH3:upd H2 sp _=H3
  obtain⟨n3,(esp0:H3 sp=some (.lst (([]:List Addr).map V.ref)))⟩:=kaF hgH3 fsp
  have fsp0:=s02.free fsp
  generalize eR:billM T B order (stnd0 B)=R at *
  symm
  exists Y4
  refine⟨_,rfl,o,rfl,⟨_,SqL.of ((s02.trans n3) _ _ ho)⟩,kbN (xs:=order.map iV) (fun i σ H'=>Same H2 H'∧∃(y x:Addr)(used:List Nat)(S:Stnd)(sa:List Addr)(st:List Step)(v7 v8:Option V),WayIs d H' y t b x hand used∧StndIs d.qd H' x S∧(sa=[]→WayIs d H2 y t b x hand used∧StndIs d.qd H2 x S)∧Wf T.ps B S∧used.length=i∧H' sp=some (.lst (sa.map V.ref))∧P2 (fun a t=>StepIs H' a t) sa st∧st.length=i∧st++(billM T B (order.drop i) S).1=R.1∧(billM T B (order.drop i) S).2=R.2∧σ=[some (.ref t),some (.ref b),some (.ref h),some (.ref o),some .non,some (.ref y),some (.ref sp),v7,v8])
   ⟨n3,y0,x0,[],_,[],[],none,none,(hy0.most (by decide)).same n3,hx0.same n3,(fun _=>⟨hy0.most (by decide),hx0⟩),wf0,rfl,esp0, .nil,rfl,by rw[M3,eR];rfl,by rw[M3,eR],rfl⟩ (fun i σ H' _ h=>SqL.of ((s02.trans h.1) _ _ ho)) ?_ ?_⟩
  ·rintro i yv σ H' hyv ⟨sI,y,x,used,S,sa,st,v7,v8,hY,hx,h2,wf,hul,hsp,hsa,hsl,hR1,hR2,rfl⟩
   obtain⟨n,en,rfl⟩:∃n,order[i]?=some n∧yv=iV n:=kbM hyv
   have hi:=at_lt en
   obtain⟨Vc,hV⟩:=at_of (hlt n (NA en))
   have vo:=tok.vs Vc (NA hV)
   have ed:order.drop i=n::order.drop (i+1):=by
    obtain⟨z1,z2⟩:=NG.mp en
    rw[Dl z1,z2]
   rw[ed] at hR1 hR2
   unfold billM at hR1 hR2
   rw[hV] at hR1 hR2
   simp only at hR1 hR2
   have s0I:=s02.trans sI
   obtain⟨dxw,fsw,hd,u,hw,w1,w2,w3,w4,w5,w6,w7,w8,w9,w10,hh',hu⟩:=id hY
   obtain⟨dx,fs,p,vl,rl,va,ra,ht,t1,t2,t3,t4,hp,hvl,hva,hrl,hra⟩:=id (hT.same s0I)
   obtain⟨vv,evv⟩:=at_of (xs:=va) (i:=n) (by rw[hva.len];exact at_lt hV)
   obtain⟨Vc',eV',hVv⟩:=hva.at evv
   rw[hV] at eV'
   cases eV'
   symm
   exists Y6
   refine⟨_,rfl,t,d.qf,dx,fs,_,rfl,ht,W.qf.cl,W.qG,t2,_,rfl,vl,_,_,_,rfl,rfl,SqL.of hvl,kaU (v:=.ref vv) (by rw[NC,evv];rfl),?_⟩
   nofun
   exists Y6
   refine⟨_,rfl,t,d.qf,dx,fs,_,rfl,ht,W.qf.cl,W.Qk,t1,_,rfl,_,rfl,y,d.c_Way,dxw,fsw,_,rfl,hw,W.c_Way.cl,W.qP,w5,?_⟩
   nofun
   exists Y6
   refine⟨vv,p,b,x,Vc,T.ps,B,S,rfl,hVv,SqL.of hp,hB.same s0I,hx,wf,vo,fun H4 tt pc s4 ft fpc htt hpc=>?_⟩
   have hsp4:=s4 _ _ hsp
   nofun
   exists Y6
   refine⟨_,rfl, .inl ⟨rfl,_,SqL.of hsp4⟩,_,rfl,_,rfl,tt,_,_,_,rfl,rfl,SqT.of htt,rfl,_,rfl,tt,_,_,_,rfl,rfl,SqT.of htt,rfl,(by show 3≤sizeLine;decide),fun q hq=>?_⟩
   have n5:=kak (o:=.tup [iV n,V.ref pc,V.int (cutM Vc T.ps (kds B) S).2]) hq
   have eq5:(upd H4 q (.tup [iV n,V.ref pc,V.int (cutM Vc T.ps (kds B) S).2])) q=some (.tup [iV n,V.ref pc,V.int (cutM Vc T.ps (kds B) S).2]):=kad
   have s5:=s4.trans n5
   have hsp5:=n5 _ _ hsp4
   have hpc5:=n5 _ _ hpc
   have npc:pc≠sp:=(kaj hsp fpc).symm
   clear n5
   generalize upd H4 q (.tup [iV n,V.ref pc,V.int (cutM Vc T.ps (kds B) S).2])=H5 at *
   nofun
   exists Y6
   refine⟨sp,_,_,rfl,rfl,hsp5,kan (by rw[Nr,hsa.len];omega),?_⟩
   have b6:But sp H5 (upd H5 sp (.lst (sa.map V.ref++[V.ref q]))):=kar (nx hsp5)
   have s6:Same H2 (upd H5 sp (.lst (sa.map V.ref++[V.ref q]))):=kaq fsp (sI.trans s5) (nx hsp5)
   have esp6:(upd H5 sp (.lst (sa.map V.ref++[V.ref q]))) sp=some (.lst ((sa++[q]).map V.ref)):=by rw[kad,Ny];rfl
   generalize upd H5 sp (.lst (sa.map V.ref++[V.ref q]))=H6 at *
   have hYx:WayIs d H6 y t b x hand used∧StndIs d.qd H6 x S:=by
    by_cases h0:sa=[]
    ·exact⟨(h2 h0).1.same s6,(h2 h0).2.same s6⟩
    ·exact⟨(hY.same s5).butR b6 hsp5 h0,(hx.same s5).butR b6 hsp5 h0⟩
   have hst:P2 (fun a t=>StepIs H6 a t) (sa++[q]) (st++[⟨n,(cutM Vc T.ps (kds B) S).1,(cutM Vc T.ps (kds B) S).2⟩]):=by
    nofun
    refine P2.snoc ?_ ⟨pc,b6 _ _ (ne_of eq5 hsp5 (by intro z;cases z)) eq5,b6 _ _ npc hpc5⟩
    by_cases h0:sa=[]
    ·subst h0
     cases hsa
     nofun
     exact .nil
    ·refine hsa.mono fun a t ⟨l,g1,g2⟩=>?_
     have g1':=s5 _ _ g1
     have g2':=s5 _ _ g2
     nofun
     exists Y10
     refine⟨l,b6 _ _ (ne_of g1' hsp5 (by intro z;cases z)) g1',b6 _ _ ?_ g2'⟩
     exists 4
     exact kdO hsp5 h0 g2' fun y hy r e=>by obtain⟨n,_,rfl⟩:=NQ.mp hy;cases e
   have s06:=s02.trans s6
   obtain⟨dxw',fsw',hd',u',hw',_,_,_,_,_,_,w7',_⟩:=id hYx.1
   nofun
   exists Y6
   refine⟨_,rfl,y,dxw',fsw',rfl,hw',w7',_,rfl,y,t,b,x,T,B,S,hand,used,n,Vc,rfl,hYx.1,hT.same s06,hB.same s06,hYx.2,wf,vo,hV,by omega,fun H7 y' x' s7 fy' hY1 hx1=>?_⟩
   have hY':=hY1.at
   have hx':=hx1.is
   nofun
   exists Y6
   refine⟨s6.trans s7,y',x',used++[n],_,sa++[q],_,_,_,hY',hx',(fun e=>by simp at e),wf.after vo,by rw[NI,hul];rfl,s7 _ _ esp6,hst.mono fun a t h=>h.same s7,by rw[NI,hsl];rfl,?_,hR2,rfl⟩
   rw[Mj]
   nofun
   exact hR1
  ·rintro σ H' ⟨sI,y,x,used,S,sa,st,v7,v8,hY,hx,h2,wf,hul,hsp,hsa,hsl,hR1,hR2,rfl⟩
   rw[Nr,Dm] at hR1 hR2
   unfold billM at hR1 hR2
   have e1:st=R.1:=by simpa using hR1
   have e2:S=R.2:=hR2
   obtain⟨dxw,fsw,hd,u,hw,w1,w2,w3,w4,w5,w6,w7,w8,w9,w10,hh',hu⟩:=id hY
   rw[Nr] at hsl
   nofun
   exists Y6
   refine⟨_,rfl,_,rfl,_,rfl,y,d.c_Way,dxw,fsw,_,rfl,hw,W.c_Way.cl,W.qP,w5,kl4 ((s02.trans sI) _ _ ho) hsp hsa (by omega) hx fun H8 bl s8 hBl=>?_⟩
   nofun
   refine kk H' H8 bl (s02.trans sI) s8 ?_
   unfold kdd
   rw[eR,←e1,←e2]
   nofun
   exact hBl
theorem kmg(xs:List V)(a m:Nat)(h:a+m≤xs.length):cutV xs (some (a:Int)) (some ((a+m:Nat):Int))=(xs.drop a).take m:=by
 unfold cutV
 rw[HT.sIx_nat,HT.sIx_nat,MM h,MM (show a≤xs.length by omega)]
 congr 1
 omega
noncomputable def mans(rs:List Row):List Nat:=rs.map fun r=>r.mn.toNat
theorem kgs:∀(rs:List Row)(k:Nat),((rs.zipIdx k).map fun p=>Nw p.1.mn.toNat p.2).flatten.length=(mans rs).sum
 |[],k=>rfl
 |r::rs,k=>by
  rw[EG,NJ,NZ,NI,Mx,kgs rs (k+1)]
  rfl
theorem kfJ(rs:List Row):(ownN rs).length=(mans rs).sum:=kgs rs 0
theorem kjs{rs:List Row}{i:Nat}{r:Row}(h:rs[i]?=some r):mans (rs.take (i+1))=mans (rs.take i)++[r.mn.toNat]:=by
 rw[take_snoc h]
 unfold mans
 rw[Ny]
 rfl
theorem kjt(rs:List Row)(i:Nat):(mans (rs.take i)).sum≤(mans rs).sum:=by
 conv=>rhs;rw[←EL i rs]
 unfold mans
 rw[Ny,M8]
 omega
theorem kd6{H:Hp}{x y C C' dx dx':Addr}{fs fs':List (Str×V)}{g:Str}{v:V}(hx:H x=some (.ins C dx fs))(hy:H y=some (.ins C' dx' fs'))(l:fs'.lookup g=some v)(n:fs.lookup g=none):y≠x:=fun e=>by
 subst e
 rw[hx] at hy
 injection hy with hy
 injection hy with _ _ c
 rw[c,l] at n
 cases n
theorem kc1{f:Str}{y:V}:∀{fs:List (Str×V)}{v:V},fs.lookup f=some v→(putF f y fs).length=fs.length
 |[],v,h=>by cases h
 | (g,z)::r,v,h=>by
  rw[show putF f y ((g,z)::r)=(if g=f then(g,y)::r else(g,z)::putF f y r) from rfl]
  by_cases e:g=f
  ·rw[if_pos e]
   rfl
  ·rw[if_neg e]
   have hb:(f==g)=false:=beq_eq_false_iff_ne.mpr (Ne.symm e)
   have h':r.lookup f=some v:=by simpa only[Mq,hb] using h
   show(putF f y r).length+1=r.length+1
   rw[kc1 h']
noncomputable def Foe(fs:List (Str×V)):Prop:=fs.lookup ("marks" :Str)=none∧fs.lookup ("kind" :Str)=none∧fs.lookup ("parents" :Str)=none∧fs.lookup ("lines" :Str)=none
section
variable {d:D} {H H':Hp} {x C dx:Addr} {fs:List (Str×V)}
theorem Tbs.butI(b:But x H H')(hx:H x=some (.ins C dx fs))(h:Tbs d H):Tbs d H':=by
 obtain⟨ps,e,t⟩:=id h
 exact(b _ _ (ne_of e hx (by intro z;cases z)) e).2 h
theorem VchIs.butI(b:But x H H')(hx:H x=some (.ins C dx fs))(foe:Foe fs){v:Addr}{V:Vch}:VchIs d H v V→VchIs d H' v V:=fun⟨mA,dv,fv,h1,h2,h3,⟨dm,fm,hm,l1,q⟩,h5,tb⟩=>
 ⟨mA,dv,fv,b _ _ (kd6 hx h1 h2 foe.1) h1,h2,h3,⟨dm,fm,b _ _ (kd6 hx hm l1 foe.2.1) hm,l1,q⟩,h5,tb.butI b hx⟩
theorem TillIs.butI(b:But x H H')(hx:H x=some (.ins C dx fs))(foe:Foe fs){t:Addr}{T:TillD}:TillIs d H t T→TillIs d H' t T:=by
 rintro⟨dt,ft,p,vl,rl,va,ra,h1,h2,h3,h4,h5,h6,h7,h8,h9,h10⟩
 exact⟨dt,ft,p,vl,rl,va,ra,b _ _ (kd6 hx h1 h2 foe.2.2.1) h1,h2,h3,h4,h5,b _ _ (ne_of h6 hx (by intro z;cases z)) h6,b _ _ (ne_of h7 hx (by intro z;cases z)) h7,h8.mono fun a V h=>h.butI b hx foe,b _ _ (ne_of h9 hx (by intro z;cases z)) h9,h10.mono fun a r h=>b _ _ (ne_of h hx (by intro z;cases z)) h⟩
theorem BaskIs.butI(b:But x H H')(hx:H x=some (.ins C dx fs))(foe:Foe fs){CL CB y:Addr}{B:Bask}:BaskIs CL CB H y B→BaskIs CL CB H' y B:=by
 rintro⟨l,ls,⟨db,fb,h1,h2,q⟩,h3,h4⟩
 exact⟨l,ls,⟨db,fb,b _ _ (kd6 hx h1 h2 foe.2.2.2) h1,h2,q⟩,b _ _ (ne_of h3 hx (by intro z;cases z)) h3,h4.mono fun a r ⟨dl,fl,g1,g2,g3⟩=>⟨dl,fl,b _ _ (kd6 hx g1 g2 foe.2.1) g1,g2,g3⟩⟩
theorem kaR(b:But x H H')(hx:H x=some (.ins C dx fs)){y:Addr}{xs:List V}(h:H y=some (.lst xs)):H' y=some (.lst xs):=b _ _ (ne_of h hx (by intro z;cases z)) h
end
structure AccD where
 T:TillD
 B:Bask
 pr:List Int
 hand:List Int
 order:List Nat
 fallen:List Nat
 many:List Int
 paid:Int
 owed:Int
noncomputable def accNo:List Str:=["take_back","has_left","pay_back","paid_behind","what_stays","due_again","go_through","marks","kind","parents","lines"]
structure AccF (fs:List (Str×V)) (t b h fp o fa m:Addr) (paid owed:Int):Prop where
 l1:fs.lookup ("till" :Str)=some (.ref t)
 l2:fs.lookup ("basket" :Str)=some (.ref b)
 l3:fs.lookup ("hand" :Str)=some (.ref h)
 l4:fs.lookup ("first_prices" :Str)=some (.ref fp)
 l5:fs.lookup ("order" :Str)=some (.ref o)
 l6:fs.lookup ("fallen" :Str)=some (.ref fa)
 l7:fs.lookup ("many" :Str)=some (.ref m)
 l8:fs.lookup ("paid" :Str)=some (.int paid)
 l9:fs.lookup ("owed" :Str)=some (.int owed)
 l10:fs.length≤10
 l11:∀z∈accNo,fs.lookup z=none
theorem kaJ{fs:List (Str×V)}{v:V}{f g:Str}{r:Option V}(h:fs.lookup g=r)(n:g≠f:=by decide +kernel):(putF f v fs).lookup g=r:=by
 rw[kab,if_neg n]
 exact h
theorem lk_at{fs:List (Str×V)}{v:V}{f:Str}:(putF f v fs).lookup f=some v:=by rw[kab,if_pos rfl]
theorem kca{fs:List (Str×V)}{v:V}{f:Str}(h:∀z∈accNo,fs.lookup z=none)(n:f∉accNo:=by decide +kernel):∀z∈accNo,(putF f v fs).lookup z=none:=fun z hz=>kaJ (h z hz) fun e=>n (e▸hz)
section
variable {fs:List (Str×V)} {t b h fp o fa m c:Addr} {p q z:Int}
theorem AccF.order(A:AccF fs t b h fp o fa m p q):AccF (putF "order" (.ref c) fs) t b h fp c fa m p q:=⟨kaJ A.l1,kaJ A.l2,kaJ A.l3,kaJ A.l4,lk_at,kaJ A.l6,kaJ A.l7,kaJ A.l8,kaJ A.l9,by rw[kc1 A.l5];exact A.l10,kca A.l11⟩
theorem AccF.fallen(A:AccF fs t b h fp o fa m p q):AccF (putF "fallen" (.ref c) fs) t b h fp o c m p q:=⟨kaJ A.l1,kaJ A.l2,kaJ A.l3,kaJ A.l4,kaJ A.l5,lk_at,kaJ A.l7,kaJ A.l8,kaJ A.l9,by rw[kc1 A.l6];exact A.l10,kca A.l11⟩
theorem AccF.many(A:AccF fs t b h fp o fa m p q):AccF (putF "many" (.ref c) fs) t b h fp o fa c p q:=⟨kaJ A.l1,kaJ A.l2,kaJ A.l3,kaJ A.l4,kaJ A.l5,kaJ A.l6,lk_at,kaJ A.l8,kaJ A.l9,by rw[kc1 A.l7];exact A.l10,kca A.l11⟩
theorem AccF.paid(A:AccF fs t b h fp o fa m p q):AccF (putF "paid" (.int z) fs) t b h fp o fa m z q:=⟨kaJ A.l1,kaJ A.l2,kaJ A.l3,kaJ A.l4,kaJ A.l5,kaJ A.l6,kaJ A.l7,lk_at,kaJ A.l9,by rw[kc1 A.l8];exact A.l10,kca A.l11⟩
theorem AccF.owed(A:AccF fs t b h fp o fa m p q):AccF (putF "owed" (.int z) fs) t b h fp o fa m p z:=⟨kaJ A.l1,kaJ A.l2,kaJ A.l3,kaJ A.l4,kaJ A.l5,kaJ A.l6,kaJ A.l7,kaJ A.l8,lk_at,by rw[kc1 A.l9];exact A.l10,kca A.l11⟩
theorem AccF.foe(A:AccF fs t b h fp o fa m p q):Foe fs:=⟨A.l11 _ (by decide +kernel),A.l11 _ (by decide +kernel),A.l11 _ (by decide +kernel),A.l11 _ (by decide +kernel)⟩
end
structure AccK (d:D) (Hs:Hp) (t b h fp o fa m:Addr) (A:AccD):Prop where
 T:TillIs d Hs t A.T
 B:BaskIs d.qe d.qg Hs b A.B
 h:Hs h=some (.lst (A.hand.map V.int))
 p:Hs fp=some (.lst (A.pr.map V.int))
 o:Hs o=some (.lst (A.order.map iV))
 f:Hs fa=some (.lst (A.fallen.map iV))
 m:Hs m=some (.lst (A.many.map V.int))
inductive AccIn (d:D) (Hs H:Hp) (x:Addr) (A:AccD):Prop
 |ct (dx t b h fp o fa m:Addr)(fs:List (Str×V))(_:H x=some (.ins d.qc dx fs))(_:AccF fs t b h fp o fa m A.paid A.owed)(_:AccK d Hs t b h fp o fa m A):AccIn d Hs H x A
section
variable {d:D} {Hs Hs' H H':Hp} {x:Addr} {A:AccD}
theorem AccK.kept{t b h fp o fa m:Addr}(s:Same Hs Hs')(k:AccK d Hs t b h fp o fa m A):AccK d Hs' t b h fp o fa m A:=⟨k.T.same s,k.B.same s,s _ _ k.h,s _ _ k.p,s _ _ k.o,s _ _ k.f,s _ _ k.m⟩
theorem AccIn.same(s:Same H H'):AccIn d Hs H x A→AccIn d Hs H' x A:=fun⟨dx,t,b,h,fp,o,fa,m,fs,hx,f,q⟩=>⟨dx,t,b,h,fp,o,fa,m,fs,s _ _ hx,f,q⟩
theorem AccIn.but{y:Addr}(z:But y H H')(n:x≠y):AccIn d Hs H x A→AccIn d Hs H' x A:=fun⟨dx,t,b,h,fp,o,fa,m,fs,hx,f,q⟩=>⟨dx,t,b,h,fp,o,fa,m,fs,z _ _ n hx,f,q⟩
theorem AccIn.kept(s:Same Hs Hs'):AccIn d Hs H x A→AccIn d Hs' H x A:=fun⟨dx,t,b,h,fp,o,fa,m,fs,hx,f,q⟩=>⟨dx,t,b,h,fp,o,fa,m,fs,hx,f,q.kept s⟩
theorem AccIn.obj(h:AccIn d Hs H x A):∃(dx:Addr)(fs:List (Str×V)),H x=some (.ins d.qc dx fs)∧Foe fs:=by
 obtain⟨dx,t,b,h,fp,o,fa,m,fs,hx,f,q⟩:=h
 exact⟨dx,fs,hx,f.foe⟩
theorem AccIn.rmv{y C dy:Addr}{gs:List (Str×V)}(hy:Hs y=some (.ins C dy gs))(foe:Foe gs):AccIn d Hs H x A→AccIn d (rmv y Hs) H x A:=fun⟨dx,t,b,h,fp,o,fa,m,fs,hx,f,q⟩=>
 have bt:=kg4 (nx hy)
 ⟨dx,t,b,h,fp,o,fa,m,fs,hx,f,q.T.butI bt hy foe,q.B.butI bt hy foe,kaR bt hy q.h,kaR bt hy q.p,kaR bt hy q.o,kaR bt hy q.f,kaR bt hy q.m⟩
end
inductive TillN (d:D) (H0 H:Hp) (t:Addr) (T:TillD):Prop
 |ct (dx:Addr)(fs:List (Str×V))(p vl rl:Addr)(va ra:List Addr)(_:H0 p=none)(_:H0 vl=none)(_:H0 rl=none)(_:H t=some (.ins d.qf dx fs))(_:fs.lookup ("parents" :Str)=some (.ref p))(_:fs.lookup ("vouchers" :Str)=some (.ref vl))(_:fs.lookup ("rules" :Str)=some (.ref rl))(_:fs.lookup ("back" :Str)=some (.str T.bk))(_:H p=some (.lst (T.ps.map pV)))(_:H vl=some (.lst (va.map V.ref)))(_:P2 (fun a V=>VchIs d H a V) va T.vs)(_:H rl=some (.lst (ra.map V.ref)))(_:P2 (fun a r=>RulIs H a r) ra T.rs):TillN d H0 H t T
inductive BaskN (CL CB:Addr) (H0 H:Hp) (b:Addr) (B:Bask):Prop
 |ct (l:Addr)(ls:List Addr)(_:H0 l=none)(_:BaskAt CB H b l B.cg B.m)(_:H l=some (.lst (ls.map V.ref)))(_:Lines CL H ls B.rs):BaskN CL CB H0 H b B
section
variable {d:D} {H0 H H':Hp} {x C dx q:Addr} {fs:List (Str×V)} {t:Addr} {T:TillD} {B:Bask} {CL CB:Addr} {xs:List V}
theorem TillN.is:TillN d H0 H t T→TillIs d H t T:=fun⟨dt,ft,p,vl,rl,va,ra,_,_,_,h1,h2,h3,h4,h5,h6,h7,h8,h9,h10⟩=>⟨dt,ft,p,vl,rl,va,ra,h1,h2,h3,h4,h5,h6,h7,h8,h9,h10⟩
theorem TillN.butI(b:But x H H')(hx:H x=some (.ins C dx fs))(foe:Foe fs):TillN d H0 H t T→TillN d H0 H' t T:=by
 rintro⟨dt,ft,p,vl,rl,va,ra,f1,f2,f3,h1,h2,h3,h4,h5,h6,h7,h8,h9,h10⟩
 exact⟨dt,ft,p,vl,rl,va,ra,f1,f2,f3,b _ _ (kd6 hx h1 h2 foe.2.2.1) h1,h2,h3,h4,h5,b _ _ (ne_of h6 hx (by intro z;cases z)) h6,b _ _ (ne_of h7 hx (by intro z;cases z)) h7,h8.mono fun a V h=>h.butI b hx foe,b _ _ (ne_of h9 hx (by intro z;cases z)) h9,h10.mono fun a r h=>b _ _ (ne_of h hx (by intro z;cases z)) h⟩
theorem BaskN.is:BaskN CL CB H0 H x B→BaskIs CL CB H x B:=fun⟨l,ls,_,h1,h2,h3⟩=>⟨l,ls,h1,h2,h3⟩
theorem BaskN.butI{y:Addr}(b:But x H H')(hx:H x=some (.ins C dx fs))(foe:Foe fs):BaskN CL CB H0 H y B→BaskN CL CB H0 H' y B:=by
 rintro⟨l,ls,f,⟨db,fb,h1,h2,q⟩,h3,h4⟩
 exact⟨l,ls,f,⟨db,fb,b _ _ (kd6 hx h1 h2 foe.2.2.2) h1,h2,q⟩,b _ _ (ne_of h3 hx (by intro z;cases z)) h3,h4.mono fun a r ⟨dl,fl,g1,g2,g3⟩=>⟨dl,fl,b _ _ (kd6 hx g1 g2 foe.2.1) g1,g2,g3⟩⟩
theorem VchIs.butL(b:But q H H')(hq:H q=some (.lst xs)){v:Addr}{V:Vch}:VchIs d H v V→VchIs d H' v V:=fun⟨mA,dv,fv,h1,h2,h3,⟨dm,fm,hm,l1,r⟩,h5,tb⟩=>by
 have hn:∀{a C dx:Addr}{fs:List (Str×L2.V)},H a=some (.ins C dx fs)→a≠q:=fun h=>ne_of h hq (by intro z;cases z)
 refine⟨mA,dv,fv,b _ _ (hn h1) h1,h2,h3,⟨dm,fm,b _ _ (hn hm) hm,l1,r⟩,h5,?_⟩
 obtain⟨ps,e,t⟩:=id tb
 exact(b _ _ (ne_of e hq (by intro z;cases z)) e).2 tb
theorem TillN.rmv(f0:H0 q≠none)(hq:H q=some (.lst xs)):TillN d H0 H t T→TillIs d (rmv q H) t T:=by
 rintro⟨dt,ft,p,vl,rl,va,ra,f1,f2,f3,h1,h2,h3,h4,h5,h6,h7,h8,h9,h10⟩
 have b:=kg4 (nx hq)
 exact⟨dt,ft,p,vl,rl,va,ra,b _ _ (ne_of h1 hq (by intro z;cases z)) h1,h2,h3,h4,h5,(kbK f0 f1).trans h6,(kbK f0 f2).trans h7,h8.mono fun a V h=>h.butL b hq,(kbK f0 f3).trans h9,h10.mono fun a r h=>b _ _ (ne_of h hq (by intro z;cases z)) h⟩
theorem BaskN.rmv(f0:H0 q≠none)(hq:H q=some (.lst xs)):BaskN CL CB H0 H x B→BaskIs CL CB (rmv q H) x B:=by
 rintro⟨l,ls,f,⟨db,fb,h1,h2,r⟩,h3,h4⟩
 have b:=kg4 (nx hq)
 exact⟨l,ls,⟨db,fb,b _ _ (ne_of h1 hq (by intro z;cases z)) h1,h2,r⟩,(kbK f0 f).trans h3,h4.mono fun a r ⟨dl,fl,g1,g2,g3⟩=>⟨dl,fl,b _ _ (ne_of g1 hq (by intro z;cases z)) g1,g2,g3⟩⟩
end
theorem kkt{d:D}{H0 H:Hp}{p vl rl:Addr}{T:TillD}{va ra:List Addr}{R:Addr→Hp→Prop}{E:XK}(s0:Same H0 H)(hp:H p=some (.lst (T.ps.map pV)))(hvl:H vl=some (.lst (va.map V.ref)))(hv:P2 (fun a V=>VchIs d H a V) va T.vs)(hrl:H rl=some (.lst (ra.map V.ref)))(hr:P2 (fun a r=>RulIs H a r) ra T.rs)
  (k:∀(H':Hp)(x:Addr),Same H H'→H x=none→TillN d H0 H' x T→R x H'):
  ∀x dx,H x=none→H dx=none→dx≠x→kfw d [.ref x, .ref p, .ref vl, .ref rl, .str T.bk] (upd (upd H dx (.own x)) x (.ins d.qf dx [])) (fun v H2=>v=.non∧R x H2) E:=
 fun x dx nx nd _=>⟨H,x,dx,p,vl,rl,_,_,_,_,rfl,nx,kaX nx nd,kad,hp,hvl,hrl,fun H' p' vl' rl' fs s f1 f2 f3 h1 h2 h3 hx l1 l2 l3 l4=>⟨rfl,k H' x s nx ⟨dx,fs,p',vl',rl',va,ra,none_of s0 f1,none_of s0 f2,none_of s0 f3,hx,l1,l2,l3,l4,h1,h2,hv.mono fun a V h=>h.same s,h3,hr.mono fun a r h=>s _ _ h⟩⟩⟩
theorem kdu{Hk H0 H':Hp}{x C dx:Addr}{fs fs':List (Str×V)}(h:upd Hk x (.ins C dx fs')=H')(hx:Hk x=some (.ins C dx fs))(fx:H0 x=none)(s:Same H0 Hk):But x Hk H'∧Same H0 H'∧H' x=some (.ins C dx fs'):=by
 subst h
 exact⟨kar (nx hx),kaq fx s (nx hx),kad⟩
noncomputable def acc0(T:TillD)(B:Bask)(hand:List Int)(order:List Nat):AccD:=⟨T,B,(kdd T B order).pr,hand,order,[],B.rs.map fun r=>r.mn,(kdd T B order).total,0⟩
inductive kiV (d:D) (vs:List V) (H:Hp) (Q:VK) (E_:XK):Prop
 |ct (H0:Hp)(x dx t b h o:Addr)(T:TillD)(B:Bask)(hand:List Int)(order:List Nat)(_:vs=[.ref x, .ref t, .ref b, .ref h, .ref o])(_:H0 x=none)(_:Same H0 H)(_:H x=some (.ins d.qc dx []))(_:TillIs d H0 t T)(_:kcp T)(_:BaskIs d.qe d.qg H0 b B)(_:Wf T.ps B (stnd0 B))(_:H0 h=some (.lst (hand.map V.int)))(_:H0 o=some (.lst (order.map iV)))(_:hand.length=T.vs.length)(_:(∀n∈order,n<T.vs.length))(_:order.length<64)(_:kcn T B hand order=none)(_:∀H',Same H0 H'→AccIn d H' H' x (acc0 T B hand order)→(∀q xs,H0 q=some (.lst xs)→AccIn d (rmv q H') H' x (acc0 T B hand order))→Q .non H'):kiV d vs H Q E_
theorem V4:kao ["self","till","basket","hand","order","bill"] ["self","till","basket","hand","order"] (kag kci):=by ac_rfl
theorem keO(W:WB K mg d base):FO P w W 10 d.ZL d.ZM ["self","till","basket","hand","order"] (kiV d):=by
 exists W.Qo.F,V4
 ·obtain⟨H0,x,dx,t,b,h,o,T,B,hand,order,rfl,fx,s0,hx,hT,tok,hB,wf0,hh,ho,hhl,hlt,h64,hf,k⟩:=h
  exists U1,kjm,W
  exists XI,kd3,W
  exists Qw,kck,W
  exists hr2,2,hr,0
  refine⟨_,kac (psl (i:=5) V4.nd (pcl U1 hr W.Vo (kaa (pv 1) (kaa (pv 2) (kaa (pv 3) (kaa (pv 4) kae))))))
   (kac (kaw (pv 0) (kaT (W.Ql.mk' W.qf) XI hr2 rfl W.qf.m W.Ql.b .nil pass0 (kaa (kai (K:=K) (pv 1) rfl) (kaa (kai (K:=K) (pv 1) rfl) (kaa (kai (K:=K) (pv 1) rfl) (kaa (kai (K:=K) (pv 1) rfl) kae))))) rfl)
   (kac (kaw (pv 0) (kaT (W.qM.mk' W.qg) Qw hr2 rfl W.qg.m W.qM.b .nil pass0 (kaa (kai (K:=K) (pv 2) rfl) (kaa (kai (K:=K) (pv 2) rfl) (kaa (kai (K:=K) (pv 2) rfl) kae)))) rfl)
   (kac (kaw (pv 0) (kaH (r:=kbe K) kaB (by rfl) W.B.list kbD (kaa (pv 3) kae)) rfl)
   (kac (kaw (pv 0) (kai (K:=K) (pv 5) rfl) rfl)
   (kac (kaw (pv 0) (kaH (r:=kbe K) kaB (by rfl) W.B.list kbD (kaa (pv 4) kae)) rfl)
   (kac (kaw (pv 0) (kaK kae) rfl)
   (kac (kaw (pv 0) (kbf (N:=["line"]) (CompScope.plain rfl (by decide +kernel) (by decide +kernel) (by decide +kernel) (nd1 _)) rfl (kaG (K:=K) (kai (K:=K) (pv 2) rfl)) (fun _ _ _ _=>pgn (i:=0) (nd1 _)) (fun _ _ _ _=>(kai (K:=K) (pv 0) rfl))) rfl)
   (kac (kaw (pv 0) (kai (K:=K) (pv 5) rfl) rfl)
   (kah (kaw (pv 0) kaf rfl)))))))))),?_⟩
  exists Y4
  refine⟨_,rfl,_,rfl,_,rfl,_,rfl,t,b,h,o,T,B,hand,order,rfl,hT.same s0,tok,hB.same s0,wf0,s0 _ _ hh,s0 _ _ ho,hhl,hlt,h64,hf,fun Hz H1 bl z0 z1 hBl=>?_⟩
  have len0:([]:List (Str×V)).length≤0:=Nv _
  have hzx:Hz x≠none:=by
   rw[z0 _ _ hx]
   intro z
   cases z
  have S1:=(s0.trans z0).trans z1
  have hx1:=(z0.trans z1) _ _ hx
  obtain⟨dxt,fst,tp,vl,rl,va,ra,ht,t1,t2,t3,t4,htp,hvl,hva,hrl,hra⟩:=id (hT.same S1)
  symm
  exists Y4
  refine⟨_,rfl,t,d.qf,dxt,fst,_,rfl,ht,W.qf.cl,W.Qk,t1,_,rfl,t,d.qf,dxt,fst,_,rfl,ht,W.qf.cl,W.qG,t2,_,rfl,t,d.qf,dxt,fst,_,rfl,ht,W.qf.cl,W.qH,t3,_,rfl,t,d.qf,dxt,fst,_,rfl,ht,W.qf.cl,W.Xp,t4,kkt (T:=T) S1 htp hvl hva hrl hra fun H2 t' s2 ft' hT'=>?_⟩
  have S2:=S1.trans s2
  have hx2:=s2 _ _ hx1
  symm
  exists Y4
  refine⟨_,rfl,x,d.qc,dx,_,rfl,hx2,W.qc.cl,W.QL,(by have:=len0;omega),?_⟩
  generalize hH3:upd H2 x _=H3
  obtain⟨b3,S3,hx3⟩:=kdu hH3 hx2 fx S2
  have len1:=kam (f:="till") (v:=.ref t') len0
  obtain⟨l,ls,⟨dxb,fsb,hb,lbl,lbc,lbm⟩,hl,hL⟩:=id (hB.same S3)
  symm
  exists Y4
  refine⟨_,rfl,b,d.qg,dxb,fsb,_,rfl,hb,W.qg.cl,W.qz,lbl,_,rfl,b,d.qg,dxb,fsb,_,rfl,hb,W.qg.cl,W.QJ,lbc,_,rfl,b,d.qg,dxb,fsb,_,rfl,hb,W.qg.cl,W.Qg,lbm,kg8 (SqL.of hl) fun H4 b' l' s4 fb' fl' hl' hb'=>?_⟩
  have S4:=S3.trans s4
  have hx4:=s4 _ _ hx3
  have hB':BaskN d.qe d.qg H0 H4 b' B:=⟨l',ls,none_of S3 fl',hb',hl',hL.same s4⟩
  symm
  exists Y4
  refine⟨_,rfl,x,d.qc,dx,_,rfl,hx4,W.qc.cl,W.Qm,(by have:=len1;omega),?_⟩
  generalize hH5:upd H4 x _=H5
  obtain⟨b5,S5,hx5⟩:=kdu hH5 hx4 fx S4
  have len2:=kam (f:="basket") (v:=.ref b') len1
  symm
  exists Y4
  refine⟨_,rfl,h,_,rfl, .inl (SqL.of (S5 _ _ hh)),fun h' fh'=>?_⟩
  generalize hgH6:upd H5 h' _=H6
  obtain⟨s6,eh⟩:=kaF hgH6 fh'
  have S6:=S5.trans s6
  have hx6:=s6 _ _ hx5
  symm
  exists Y4
  refine⟨_,rfl,x,d.qc,dx,_,rfl,hx6,W.qc.cl,W.VV,(by have:=len2;omega),?_⟩
  generalize hH7:upd H6 x _=H7
  obtain⟨b7,S7,hx7⟩:=kdu hH7 hx6 fx S6
  have len3:=kam (f:="hand") (v:=.ref h') len2
  obtain⟨dx2,fs2,o2,sp,pp,sa,g1,g2,g3,g4,g5,g6,_,_,_,fpp,g7,g8,g9,g10⟩:=id ((((((hBl.same s2).but b3 hzx).same s4).but b5 hzx).same s6).but b7 hzx)
  symm
  exists Y4
  refine⟨_,rfl,bl,d.qk,dx2,fs2,_,rfl,g1,W.qk.cl,W.VT,g4,?_⟩
  symm
  exists Y4
  refine⟨_,rfl,x,d.qc,dx,_,rfl,hx7,W.qc.cl,W.VW,(by have:=len3;omega),?_⟩
  generalize hH8:upd H7 x _=H8
  obtain⟨b8,S8,hx8⟩:=kdu hH8 hx7 fx S7
  have len4:=kam (f:="first_prices") (v:=.ref pp) len3
  symm
  exists Y4
  refine⟨_,rfl,o,_,rfl, .inl (SqL.of (S8 _ _ ho)),fun o' fo'=>?_⟩
  generalize hgH9:upd H8 o' _=H9
  obtain⟨s9,eo⟩:=kaF hgH9 fo'
  have S9:=S8.trans s9
  have hx9:=s9 _ _ hx8
  symm
  exists Y4
  refine⟨_,rfl,x,d.qc,dx,_,rfl,hx9,W.qc.cl,W.qI,(by have:=len4;omega),?_⟩
  generalize hH10:upd H9 x _=H10
  obtain⟨b10,S10,hx10⟩:=kdu hH10 hx9 fx S9
  have len5:=kam (f:="order") (v:=.ref o') len4
  symm
  exists Y4
  refine⟨by decide,fun fa ffa=>?_⟩
  generalize hgH11:upd H10 fa _=H11
  obtain⟨s11,efa⟩:=kaF hgH11 ffa
  have S11:=S10.trans s11
  have hx11:=s11 _ _ hx10
  symm
  exists Y4
  refine⟨_,rfl,x,d.qc,dx,_,rfl,hx11,W.qc.cl,W.qW,(by have:=len5;omega),?_⟩
  generalize hH12:upd H11 x _=H12
  obtain⟨b12,S12,hx12⟩:=kdu hH12 hx11 fx S11
  have len6:=kam (f:="fallen") (v:=.ref fa) len5
  obtain⟨l2,ls2,⟨dxb2,fsb2,hb2,lbl2,lbc2,lbm2⟩,hl2,hL2⟩:=id (hB.same S12)
  have hll:=hL2.len
  have hnl:=wf0.nl
  symm
  exists Y4
  refine⟨_,rfl,b,d.qg,dxb2,fsb2,_,rfl,hb2,W.qg.cl,W.qz,lbl2,l2,rfl,⟨_,SqL.of hl2⟩,kaO (xs:=ls2.map V.ref) (fun i σ ys H'=>H'=H12∧ys=((B.rs.take i).map fun r=>r.mn).map V.int∧∃v,σ=[v]) ⟨rfl,rfl,none,rfl⟩ (by rw[Nr,hll];exact NF (kan (by omega))) ?_ ?_ ?_⟩
  ·rintro i σ ys H' hi ⟨rfl,rfl,_⟩
   symm
   exact⟨SqL.of hl2,by rw[Nr,Nr,NH];rw[Nr] at hi;omega⟩
  ·rintro i y σ ys H' hy ⟨rfl,rfl,v,rfl⟩
   obtain⟨lx,el,rfl⟩:=kbV hy
   obtain⟨r,er⟩:=at_of (xs:=B.rs) (i:=i) (by have:=at_lt el;omega)
   obtain⟨dxl,fsl,hlx,lk1,lk2,lk3,lk4⟩:=hL2.get el er
   symm
   exists Y6
   refine⟨_,rfl,lx,d.qe,dxl,fsl,_,rfl,hlx,W.qe.cl,W.qE,lk3,rfl,?_,_,rfl⟩
   rw[take_snoc er,Ny,Ny]
   rfl
  ·rintro σ ys H' ⟨rfl,rfl,v,rfl⟩ m' fm'
   rw[Nr,hll,N3]
   generalize hgH13:upd H' m' _=H13
   obtain⟨s13,em⟩:=kaF hgH13 fm'
   have S13:=S12.trans s13
   have hx13:=s13 _ _ hx12
   nofun
   exists Y6
   refine⟨_,rfl,x,d.qc,dx,_,rfl,hx13,W.qc.cl,W.qr,(by have:=len6;omega),?_⟩
   generalize hH14:upd H13 x _=H14
   obtain⟨b14,S14,hx14⟩:=kdu hH14 hx13 fx S13
   have len7:=kam (f:="many") (v:=.ref m') len6
   obtain⟨dx3,fs3,o3,sp3,pp3,sa3,k1,_,_,_,_,k6,_⟩:=id ((((((((((hBl.same s2).but b3 hzx).same s4).but b5 hzx).same s6).but b7 hzx).but b8 hzx).same s9).but b10 hzx).same s11 |>.but b12 hzx |>.same s13 |>.but b14 hzx)
   nofun
   exists Y6
   refine⟨_,rfl,bl,d.qk,dx3,fs3,_,rfl,k1,W.qk.cl,W.VU,k6,?_⟩
   nofun
   exists Y6
   refine⟨_,rfl,x,d.qc,dx,_,rfl,hx14,W.qc.cl,W.Qn,(by have:=len7;omega),?_⟩
   generalize hH15:upd H14 x _=H15
   obtain⟨b15,S15,hx15⟩:=kdu hH15 hx14 fx S14
   have len8:=kam (f:="paid") (v:=.int (kdd T B order).total) len7
   nofun
   exists Y6
   refine⟨_,rfl,x,d.qc,dx,_,rfl,hx15,W.qc.cl,W.Xq,(by have:=len8;omega),?_⟩
   generalize hH16:upd H15 x _=H16
   obtain⟨b16,S16,hx16⟩:=kdu hH16 hx15 fx S15
   have len9:=kam (f:="owed") (v:=.int 0) len8
   have c13:=(b14.trans b15).trans b16
   have c11:=(b12.same s13).trans c13
   have c9:=(b10.same s11).trans c11
   have c7:=(b8.same s9).trans c9
   have c6:=b7.trans c7
   have c4:=(b5.same s6).trans c6
   have c2:=(b3.same s4).trans c4
   have foe0:Foe ([]:List (Str×V)):=⟨rfl,rfl,rfl,rfl⟩
   have foe1:Foe (putF "till" (.ref t') []):=⟨rfl,rfl,rfl,rfl⟩
   have fin:AccF (putF "owed" (.int 0) (putF "paid" (.int (kdd T B order).total) (putF "many" (.ref m') (putF "fallen" (.ref fa) (putF "order" (.ref o') (putF "first_prices" (.ref pp) (putF "hand" (.ref h') (putF "basket" (.ref b') (putF "till" (.ref t') []))))))))) t' b' h' pp o' fa m' (kdd T B order).total 0:=by
    nofun
    exists Y8
    refine⟨?_,?_,?_,?_,?_,?_,?_,?_,?_,(by have:=len9;omega),?_⟩
    ·ac_nf
    ·ac_nf
    ·ac_nf
    ·ac_nf
    ·ac_nf
    ·ac_nf
    ·ac_nf
    ·ac_nf
    ·ac_nf
    ·exact kca (kca (kca (kca (kca (kca (kca (kca (kca fun _ _=>rfl))))))))
   have zT:=hT'.butI c2 hx2 foe0
   have zB:=hB'.butI c4 hx4 foe1
   have z1:=kaR c6 hx6 eh
   have z2:=kaR c7 hx7 g10
   have z3:=kaR c9 hx9 eo
   have z4:=kaR c11 hx11 efa
   have z5:=kaR c13 hx13 em
   nofun
   refine k H16 S16 ⟨dx,t',b',h',pp,o',fa,m',_,hx16,fin,zT.is,zB.is,z1,z2,z3,z4,z5⟩ fun q xs hq=>?_
   have hq0:H0 q≠none:=by rw[hq];intro z;cases z
   have hq1:=S16 _ _ hq
   nofun
   exact⟨dx,t',b',h',pp,o',fa,m',_,hx16,fin,zT.rmv hq0 hq1,zB.rmv hq0 hq1,(kbK hq0 (none_of S5 fh')).trans z1,(kbK hq0 (none_of (s0.trans z0) fpp)).trans z2,(kbK hq0 (none_of S8 fo')).trans z3,(kbK hq0 (none_of S10 ffa)).trans z4,(kbK hq0 (none_of S12 fm')).trans z5⟩
theorem kli{d:D}{H:Hp}{t b h o:Addr}{T:TillD}{B:Bask}{hand:List Int}{order:List Nat}{R:Addr→Hp→Prop}{E:XK}(hT:TillIs d H t T)(tok:kcp T)(hB:BaskIs d.qe d.qg H b B)(wf0:Wf T.ps B (stnd0 B))(hh:H h=some (.lst (hand.map V.int)))(ho:H o=some (.lst (order.map iV)))(hhl:hand.length=T.vs.length)(hlt:∀n∈order,n<T.vs.length)(h64:order.length<64)(hf:kcn T B hand order=none)
  (k:∀(H':Hp)(x:Addr),Same H H'→H x=none→AccIn d H' H' x (acc0 T B hand order)→(∀q xs,H q=some (.lst xs)→AccIn d (rmv q H') H' x (acc0 T B hand order))→R x H'):
  ∀x dx,H x=none→H dx=none→dx≠x→kiV d [.ref x, .ref t, .ref b, .ref h, .ref o] (upd (upd H dx (.own x)) x (.ins d.qc dx [])) (fun v H2=>v=.non∧R x H2) E:=
 fun x dx nx nd _=>⟨H,x,dx,t,b,h,o,T,B,hand,order,rfl,nx,kaX nx nd,kad,hT,tok,hB,wf0,hh,ho,hhl,hlt,h64,hf,fun H' s hA hA'=>⟨rfl,k H' x s nx hA hA'⟩⟩
noncomputable def hasM(many:List Int)(l n:Int):Bool:=decide (0≤l)&&(decide (l<(many.length:Nat))&&(decide (1≤n)&&decide (n≤many.getD l.toNat 0)))
inductive kgg (d:D) (vs:List V) (H:Hp) (Q:VK) (E_:XK):Prop
 |ct (Hs:Hp)(x:Addr)(l n:Int)(A:AccD)(_:vs=[.ref x, .int l, .int n])(_:Same Hs H)(_:AccIn d Hs H x A)(_:Q (.bl (hasM A.many l n)) H):kgg d vs H Q E_
theorem kdg:kao ["self","line","many"] ["self","line","many"] (kag kbo):=by ac_rfl
theorem kdp(W:WB K mg d base):FO P w W 1 d.ZP d.ZQ ["self","line","many"] (kgg d):=by
 exists W.Xr.F,kdg
 ·obtain⟨Hs,x,l,n,A,rfl,sS,⟨dx,t,b,hd,fp,o',fa',m',fs,hx,F,k⟩,kk⟩:=h
  refine⟨_,kah (kap (kmy (khP op_le op_lt kaf (pv 1) (kau (r:=ka6 K) kax (by rfl) W.B.len b_len (kaa (kai (K:=K) (pv 0) rfl) kae))) (kjg (khP op_le op_le kaf (pv 2) (pe_ix (r:=rIxL K) kaC (kai (K:=K) (pv 0) rfl) (pv 1) (fun _ _=>rfl)))))),?_⟩
  refine⟨_,rfl,_,_,rfl,rfl,_,rfl,?_⟩
  have hm':=k.m
  unfold hasM at kk
  by_cases h1:(0:Int)≤l
  case neg=>
   rw[decide_eq_false h1] at kk⊢
   exact iteF ⟨_,rfl,iteF kk⟩
  rw[decide_eq_true h1] at kk⊢
  refine iteT ⟨_,rfl,x,d.qc,dx,fs,_,rfl,hx,W.qc.cl,W.qr,F.l7,m',_,rfl, .inl (SqL.of (sS _ _ hm')),_,_,rfl,rfl,_,rfl,?_⟩
  rw[Nr]
  by_cases h2:l<((A.many.length:Nat):Int)
  case neg=>
   rw[decide_eq_false h2] at kk⊢
   exact iteF kk
  rw[decide_eq_true h2] at kk⊢
  refine iteT ⟨_,rfl,_,_,rfl,rfl,_,rfl,?_⟩
  by_cases h3:(1:Int)≤n
  case neg=>
   rw[decide_eq_false h3] at kk⊢
   exact iteF kk
  rw[decide_eq_true h3] at kk⊢
  obtain⟨m,rfl⟩:=Int.eq_ofNat_of_zero_le h1
  have hm2:m<A.many.length:=by omega
  refine iteT ⟨_,rfl,x,d.qc,dx,fs,_,rfl,hx,W.qc.cl,W.qr,F.l7,_,rfl,m',_,_,_,rfl,rfl,SqL.of (sS _ _ hm'),kaU (v:=.int (A.many.getD m 0)) (by rw[NC,NR,MA hm2];rfl),_,_,rfl,rfl,?_⟩
  exact kk
inductive kge (d:D) (vs:List V) (H:Hp) (Q:VK) (E_:XK):Prop
 |ct (Hs:Hp)(x:Addr)(n:Int)(A:AccD)(_:vs=[.ref x, .int n])(_:AccIn d Hs H x A)(_:∀H',But x H H'→AccIn d Hs H' x {A with paid:=A.paid-n}→Q (.int n) H'):kge d vs H Q E_
theorem kdf:kao ["self","back"] ["self","back"] (kag kbn):=by ac_rfl
theorem kdo(W:WB K mg d base):FO P w W 1 d.ZR d.ZS ["self","back"] (kge d):=by
 exists W.Qp.F,kdf
 ·obtain⟨Hs,x,n,A,rfl,⟨dx,t,b,hd,fp,o',fa',m',fs,hx,F,k⟩,kk⟩:=h
  refine⟨_,kac (ki9 (pv 0) (pv 1) kmN)
   (kah (kap (pv 1))),?_⟩
  refine⟨_,rfl,x,d.qc,dx,fs,_,rfl,hx,W.qc.cl,W.Qn,F.l8,_,rfl,_,_,rfl,rfl,dx,fs,hx,by have:=F.l10;omega,?_⟩
  exact⟨_,rfl,kk _ (kar (nx hx)) ⟨dx,t,b,hd,fp,o',fa',m',_,kad,F.paid,k.T,k.B,k.h,k.p,k.o,k.f,k.m⟩⟩
inductive kdX (d:D) (vs:List V) (H:Hp) (Q:VK) (E_:XK):Prop
 |ct (Hs:Hp)(x:Addr)(l:Nat)(e n:Nat)(A:AccD)(_:vs=[.ref x,iV l,iV e,iV n])(_:Same Hs H)(_:AccIn d Hs H x A)(_:A.B.rs.length≤12)(_:(∀r∈A.B.rs,r.Ok))(_:(mans (A.B.rs.take l)).sum+e+n≤A.pr.length)(_:∀H',Same H H'→Q (.int ((A.pr.drop ((mans (A.B.rs.take l)).sum+e)).take n).sum) H'):kdX d vs H Q E_
theorem V5:kao ["self","line","left","many","start"] ["self","line","left","many"] (kag ka9):=by ac_rfl
theorem kcH(W:WB K mg d base):FO P w W 1 d.ZT d.ZU ["self","line","left","many"] (kdX d):=by
 exists W.Xs.F,V5
 ·obtain⟨Hs,x,l,e,n,A,rfl,sS,⟨dx,t,b,hd,fp,o',fa',m',fs,hx,F,k⟩,h12,hok,hle,kk⟩:=h
  refine⟨_,kac (psl (i:=4) V5.nd (pe_op kaz (kau (r:=rSum K) (kbO rfl) (by rfl) W.B.sum b_sum (kaa (kbf (N:=["each"]) (CompScope.plain rfl (by decide +kernel) (by decide +kernel) (by decide +kernel) (nd1 _)) rfl (kaG (K:=K) (kc2 (r:=rSlL K) kdK (kai (K:=K) (kai (K:=K) (pv 0) rfl) rfl) kfH (kcQ (pv 1)))) (fun _ _ _ _=>pgn (i:=0) (nd1 _)) (fun _ _ _ _=>(kai (K:=K) (pv 0) rfl))) kae)) (pv 2)))
   (kah (kap (kau (r:=rSum K) (kbO rfl) (by rfl) W.B.sum b_sum (kaa (kc2 (r:=rSlL K) kdK (kai (K:=K) (pv 0) rfl) (kcQ (pv 4)) (kcQ (pe_op kaz (pv 4) (pv 3)))) kae)))),?_⟩
  obtain⟨lb,ls,⟨dxb,fsb,hb,lbl,lbc,lbm⟩,hl,hL⟩:=id (k.B.same sS)
  have hll:=hL.len
  refine⟨_,rfl,x,d.qc,dx,fs,_,rfl,hx,W.qc.cl,W.Qm,F.l2,b,d.qg,dxb,fsb,_,rfl,hb,W.qg.cl,W.qz,lbl,_,rfl,_,rfl,lb,_,rfl,SqL.of hl,fun p1 fp1=>?_⟩
  rw[kj0,←MQ]
  generalize hgH1:upd H p1 _=H1
  obtain⟨n1,e1⟩:=kaF hgH1 fp1
  refine⟨p1,rfl,⟨_,SqL.of e1⟩,kaO (xs:=(ls.take l).map V.ref) (fun i σ ys H'=>H'=H1∧ys=(((A.B.rs.take l).take i).map fun r=>r.mn).map V.int∧∃v,σ=[v]) ⟨rfl,rfl,none,rfl⟩ (by rw[Nr,NH,hll];exact NF (kan (by omega))) ?_ ?_ ?_⟩
  ·rintro i σ ys H' hi ⟨rfl,rfl,_⟩
   exact⟨SqL.of e1,by rw[Nr,Nr,NH,NH];rw[Nr,NH,hll] at hi;omega⟩
  ·rintro i y σ ys H' hy ⟨rfl,rfl,v,rfl⟩
   obtain⟨lx,el,rfl⟩:=kbV hy
   have hil:i<l:=by
    have:=at_lt el
    rw[NH] at this
    omega
   have el':ls[i]?=some lx:=by
    rw[EM,if_pos hil] at el
    exact el
   obtain⟨r,er⟩:=at_of (xs:=A.B.rs) (i:=i) (by have:=at_lt el';omega)
   obtain⟨dxl,fsl,hlx,lk1,lk2,lk3,lk4⟩:=hL.get el' er
   refine⟨_,rfl,lx,d.qe,dxl,fsl,_,rfl,n1 _ _ hlx,W.qe.cl,W.qE,lk3,rfl,?_,_,rfl⟩
   rw[take_snoc (rs:=A.B.rs.take l) (by rw[EM,if_pos hil];exact er),Ny,Ny]
   rfl
  ·rintro σ ys H' ⟨rfl,rfl,v,rfl⟩ D hD
   rw[Nr,show(A.B.rs.take l).take (ls.take l).length=A.B.rs.take l by rw[Ml (by rw[NH,NH,hll];exact Nv _)]]
   generalize hgH2:upd H' D _=H2
   obtain⟨n2,e2⟩:=kaF hgH2 hD
   have s2:=n1.trans n2
   have esum:∀rs:List Row,(∀r∈rs,r.Ok)→(rs.map fun r=>r.mn).sum=(((mans rs).sum:Nat):Int):=fun rs hr=>by
    induction rs with
    |nil=>rfl
    |cons r rs ih=>
     have h0:=(hr r NW).mn0
     have:=ih fun r h=>hr r (NP _ h)
     unfold mans at this⊢
     rw[NJ,NJ,MR,MR,this]
     omega
   refine⟨D,_,rfl,SqL.of e2,_,rfl,_,_,rfl,rfl,?_⟩
   rw[esum (A.B.rs.take l) fun r h=>hok r (Em h)]
   refine⟨_,rfl,x,d.qc,dx,fs,_,rfl,s2 _ _ hx,W.qc.cl,W.VW,F.l4,_,rfl,_,rfl,_,rfl,_,rfl,_,_,rfl,rfl,_,rfl,fp,_,rfl,SqL.of ((sS.trans s2) _ _ k.p),fun p3 fp3=>?_⟩
   rw[show(((mans (A.B.rs.take l)).sum:Nat):Int)+((e:Nat):Int)=(((mans (A.B.rs.take l)).sum+e:Nat):Int) by omega,show(((mans (A.B.rs.take l)).sum+e:Nat):Int)+((n:Nat):Int)=(((mans (A.B.rs.take l)).sum+e+n:Nat):Int) by omega,kmg _ _ _ (by rw[Nr];exact hle),←El,←MQ]
   exact⟨p3,_,rfl,SqL.of kad,kk _ (s2.trans (kak fp3))⟩
noncomputable def kbJ(B:Bask)(many:List Int):Bask:={B with rs:=N2 (fun(r:Row)(m:Int)=>{r with mn:=m}) B.rs many}
theorem klv{rs:List Row}{many:List Int}{i:Nat}{r:Row}{z:Int}(h1:rs[i]?=some r)(h2:many[i]?=some z):(N2 (fun(r:Row)(m:Int)=>{r with mn:=m}) rs many)[i]?=some {r with mn:=z}:=by
 rw[M6,h1,h2]
inductive ker (d:D) (vs:List V) (H:Hp) (Q:VK) (E_:XK):Prop
 |ct (Hs:Hp)(x:Addr)(A:AccD)(_:vs=[.ref x])(_:Same Hs H)(_:AccIn d Hs H x A)(_:A.many.length=A.B.rs.length)(_:A.B.rs.length≤12)(_:∀H' b',Same H H'→H b'=none→BaskIs d.qe d.qg H' b' (kbJ A.B A.many)→Q (.ref b') H'):ker d vs H Q E_
theorem V6:kao ["self","lines"] ["self"] (kag kbc):=by ac_rfl
theorem kcT(W:WB K mg d base):FO P w W 3 d.ZV d.ZW ["self"] (ker d):=by
 exists W.Xt.F,V6
 ·obtain⟨Hs,x,A,rfl,sS,⟨dx,t,b,hd,fp,o',fa',m',fs,hx,F,k⟩,hml,h12,kk⟩:=h
  exists XJ,kd4,W
  exists Qw,kck,W
  refine⟨_,kac (keA (N:=["line","left"]) (CompScope.plain rfl (by decide +kernel) (by decide +kernel) (by decide +kernel) (show(["line","left"]:List Str).Nodup by decide +kernel)) rfl (keB rfl W.B.zip (kaa (kai (K:=K) (kai (K:=K) (pv 0) rfl) rfl) (kaa (kai (K:=K) (pv 0) rfl) kae))) (fun _ _ _ _=>kbs (K:=K) (n:=2) rfl (kay (pgn (i:=0) (show(["line","left"]:List Str).Nodup by decide +kernel)) (kay (pgn (i:=1) (show(["line","left"]:List Str).Nodup by decide +kernel)) kbr))) (fun _ _ _ _=>(kaT (W.Qf.mk' W.qe) XJ hr rfl W.qe.m W.Qf.b .nil pass0 (kaa (kai (K:=K) (pv 0) rfl) (kaa (kai (K:=K) (pv 0) rfl) (kaa (pv 1) (kaa (kai (K:=K) (pv 0) rfl) kae)))))) (pgn (i:=1) V6.nd))
   (kah (kap (kaT (W.qM.mk' W.qg) Qw hr rfl W.qg.m W.qM.b .nil pass0 (kaa (pv 1) (kaa (kai (K:=K) (kai (K:=K) (pv 0) rfl) rfl) (kaa (kai (K:=K) (kai (K:=K) (pv 0) rfl) rfl) kae)))))),?_⟩
  obtain⟨l,ls,⟨dxb,fsb,hb,lbl,lbc,lbm⟩,hl,hL⟩:=id (k.B.same sS)
  have hm:=sS _ _ k.m
  have hll:=hL.len
  have emin:min (ls.map V.ref).length (A.many.map V.int).length=A.B.rs.length:=by rw[Nr,Nr,hll,hml,MN]
  have lzw:(kbJ A.B A.many).rs.length=A.B.rs.length:=by unfold kbJ;rw[M5,hml,MN]
  refine⟨_,rfl,x,d.qc,dx,fs,_,rfl,hx,W.qc.cl,W.Qm,F.l2,b,d.qg,dxb,fsb,_,rfl,hb,W.qg.cl,W.qz,lbl,_,rfl,x,d.qc,dx,fs,_,rfl,hx,W.qc.cl,W.qr,F.l7,l,m',_,_,rfl,hl,hm,
   kf2 (xs:=ls.map V.ref) (ys:=A.many.map V.int) (fun i σ zs H'=>Same H H'∧∃ns:List Addr,zs=ns.map V.ref∧Lines d.qe H' ns ((kbJ A.B A.many).rs.take i)∧∃v0 v1:Option V,σ=[v0,v1])
    ⟨Same.refl _,[],rfl, .nil,none,none,rfl⟩ (by rw[emin];exact NF (kan (by omega))) (fun i σ zs H' hi ⟨s,ns,e,hn,_⟩=>⟨s _ _ hl,s _ _ hm,by rw[e,Nr,hn.len,NH,lzw];rw[emin] at hi;omega⟩) ?_ ?_⟩
  ·rintro i y1 y2 tt σ zs H4 hy1 hy2 ⟨s4,ns,rfl,hn,v0,v1,rfl⟩ ht
   obtain⟨lx,el,rfl⟩:=kbV hy1
   obtain⟨z,ez,rfl⟩:=kbM hy2
   obtain⟨r,er⟩:=at_of (xs:=A.B.rs) (i:=i) (by have:=at_lt el;omega)
   have n5:=kak (o:=.tup [.ref lx, .int z]) ht
   have s5:=s4.trans n5
   obtain⟨dxl,fsl,hlx,lk1,lk2,lk3,lk4⟩:=(hL.get el er).same s5
   refine⟨tt,_,rfl,SqT.of kad,rfl,_,_,rfl,_,_,rfl,rfl,_,rfl,lx,d.qe,dxl,fsl,_,rfl,hlx,W.qe.cl,W.Xl,lk1,_,rfl,lx,d.qe,dxl,fsl,_,rfl,hlx,W.qe.cl,W.Qe,lk2,_,rfl,_,rfl,lx,d.qe,dxl,fsl,_,rfl,hlx,W.qe.cl,W.QI,lk4,kjq (r:={r with mn:=z}) fun H6 y s6 fy hy=>?_⟩
   refine⟨s5.trans s6,ns++[y],by rw[Ny];rfl,?_,_,_,rfl⟩
   rw[take_snoc (show(kbJ A.B A.many).rs[i]?=_ from klv er ez)]
   exact(hn.same (n5.trans s6)).snoc hy
  rintro σ zs H4 ⟨s4,ns,rfl,hn,v0,v1,rfl⟩ q hq
  rw[emin,←lzw,N3] at hn
  generalize hgH5:upd H4 q _=H5
  obtain⟨n5,e5⟩:=kaF hgH5 hq
  have s5:=s4.trans n5
  refine⟨_,rfl,_,rfl,x,d.qc,dx,fs,_,rfl,s5 _ _ hx,W.qc.cl,W.Qm,F.l2,b,d.qg,dxb,fsb,_,rfl,s5 _ _ hb,W.qg.cl,W.QJ,lbc,_,rfl,x,d.qc,dx,fs,_,rfl,s5 _ _ hx,W.qc.cl,W.Qm,F.l2,b,d.qg,dxb,fsb,_,rfl,s5 _ _ hb,W.qg.cl,W.Qg,lbm,kg8 (SqL.of e5) fun H6 y l' s6 fy fl' hl' hy=>?_⟩
  exact kk H6 y (s5.trans s6) (none_of s5 fy) ⟨l',ns,hy,hl',hn.same (n5.trans s6)⟩
noncomputable def thrM(T:TillD)(B:Bask)(hand:List Int):List Nat→List Nat→Stnd→List Nat×List Nat×Stnd
 |[],u,S=>(u,[],S)
 |n::ns,u,S=>match T.vs[n]? with
  |none=>(u,[],S)
  |some V=>if dueM V T B hand u S n=.non then thrM T B hand ns (u++[n]) (aftM V T.ps (kds B) S) else((thrM T B hand ns u S).1,n::(thrM T B hand ns u S).2.1,(thrM T B hand ns u S).2.2)
theorem kfV{Hs H H':Hp}{p:Addr}{xs:List V}(s:Same Hs H)(f:H p=none)(e:H' p=some (.lst xs))(s':Same H H'):Same Hs (upd Hs p (.lst xs))∧Same (upd Hs p (.lst xs)) H'∧(upd Hs p (.lst xs)) p=some (.lst xs)∧∀a,H a≠none→Hs a=none→(upd Hs p (.lst xs)) a=none:=
 ⟨kak (none_of s f),kiZ (s.trans s') e,kad,fun a ha hs=>by rw[kal fun z:a=p=>ha (by rw[z];exact f)];exact hs⟩
theorem WayAt.butI{d:D}{m:Nat}{w t b x y C dx:Addr}{fs:List (Str×V)}{H H':Hp}{hand:List Int}{used:List Nat}(z:But y H H')(hy:H y=some (.ins C dx fs))(n:w≠y):WayAt d m H w t b x hand used→WayAt d m H' w t b x hand used:=fun⟨dw,fw,h,u,h1,h2,h3,h4,h5,h6,h7,h8,h9,h10,h11,h12,h13⟩=>
 ⟨dw,fw,h,u,z _ _ n h1,h2,h3,h4,h5,h6,h7,h8,h9,h10,h11,kaR z hy h12,kaR z hy h13⟩
theorem StndIs.butI{S C x y dx:Addr}{fs:List (Str×V)}{H H':Hp}{T:Stnd}(z:But y H H')(hy:H y=some (.ins C dx fs))(n:x≠y):StndIs S H x T→StndIs S H' x T:=fun⟨o,p,mk,⟨ds,fs,h,r⟩,h1,h2,h3⟩=>⟨o,p,mk,⟨ds,fs,z _ _ n h,r⟩,kaR z hy h1,kaR z hy h2,kaR z hy h3⟩
noncomputable def thrOf(A:AccD)(B':Bask):List Nat×List Nat×Stnd:=thrM A.T B' A.hand A.order [] (stnd0 B')
inductive spThr (d:D) (vs:List V) (H:Hp) (Q:VK) (E_:XK):Prop
 |ct (Hs:Hp)(x bs:Addr)(A:AccD)(B':Bask)(_:vs=[.ref x, .ref bs])(_:Same Hs H)(_:Hs x=none)(_:AccIn d Hs H x A)(_:kcp A.T)(_:BaskIs d.qe d.qg H bs B')(_:Wf A.T.ps B' (stnd0 B'))(_:A.hand.length=A.T.vs.length)(_:(∀n∈A.order,n<A.T.vs.length))(_:A.order.length+A.fallen.length≤8)(_:∀(Hs' H':Hp)(wy t xs:Addr),Same Hs Hs'→Same Hs' H'→(∀a,H a≠none→Hs a=none→Hs' a=none)→But x H H'→AccIn d Hs' H' x {A with order:=(thrOf A B').1,fallen:=A.fallen++(thrOf A B').2.1}→WayIs d H' wy t bs xs A.hand (thrOf A B').1→StndIs d.qd H' xs (thrOf A B').2.2→Q (.ref wy) H'):spThr d vs H Q E_
theorem Qx:kao ["self","stays","way","falling","number"] ["self","stays"] (kag kbd):=by ac_rfl
theorem kcU(W:WB K mg d base):FO P w W 7 d.ZX d.ZY ["self","stays"] (spThr d):=by
 exists W.Xu.F,Qx
 ·obtain⟨Hs,x,bs,A,B',rfl,sS,fS,hA,tok,hB,wf0,hhl,hlt,h8,kk⟩:=h
  exists qT,kcx,W
  exists Qt,kbW,W
  exists Qu,kcy,W
  exists hr5,5,hr,0
  refine⟨_,kac (psl (i:=2) Qx.nd (kaT (W.qA.mk' W.c_Way) qT hr5 rfl W.c_Way.m W.qA.b .nil pass0 (kaa (kai (K:=K) (pv 0) rfl) (kaa (pv 1) (kaa (kai (K:=K) (pv 0) rfl) kae)))))
   (kac (psl (i:=3) Qx.nd (kaK kae))
   (kac (kbp PassesOwn.never rfl (kaG (K:=K) (kai (K:=K) (pv 0) rfl)) (pgn (i:=4) Qx.nd)
   (kah (ps_if (kas kdY (kbi (pv 2) W.c_Way.cl W.qQ.me Qt hr5 W.qQ.b .nil pass0 (kaa (pv 4) kae)) ka1 (kav _)) (kah (psl (i:=2) Qx.nd (kbi (pv 2) W.c_Way.cl W.qR.me Qu hr W.qR.b .nil pass0 (kaa (pv 4) kae)))) (kah (kaS (pe_bm N4 Mu Mv ka5 (pv 3) (kaa (pv 4) kae)))))))
   (kac (kaw (pv 0) (kaH (r:=kbe K) kaB (by rfl) W.B.list kbD (kaa (kai (K:=K) (pv 2) rfl) kae)) rfl)
   (kac (kaw (pv 0) (pe_op keH (kai (K:=K) (pv 0) rfl) (pv 3)) rfl)
   (kah (kap (pv 2))))))),?_⟩
  obtain⟨dx,t,b,hd,fpp,o',fa',m',fs,hx,F,k⟩:=id hA
  have hT:=k.T.same sS
  exists Y4
  refine⟨_,rfl,x,d.qc,dx,fs,_,rfl,hx,W.qc.cl,W.QL,F.l1,_,rfl,_,rfl,x,d.qc,dx,fs,_,rfl,hx,W.qc.cl,W.VV,F.l3,khX (sS _ _ k.h) hB wf0.nl wf0.ok fun H1 y0 x0 s1 fy0 fx0 hy0 hx0=>?_⟩
  symm
  exists Y4
  refine⟨by decide,fun p fp=>?_⟩
  generalize hgH2:upd H1 p _=H2
  obtain⟨n2,(ep0:H2 p=some (.lst (([]:List Nat).map iV)))⟩:=kaF hgH2 fp
  have s12:=s1.trans n2
  have ho:=(sS.trans s12) _ _ k.o
  have fpS:=none_of (sS.trans s1) fp
  generalize eR:thrOf A B'=R at *
  unfold thrOf at eR
  symm
  exists Y4
  refine⟨_,rfl,x,d.qc,dx,fs,_,rfl,s12 _ _ hx,W.qc.cl,W.qI,F.l5,o',rfl,⟨_,SqL.of ho⟩,kbN (xs:=A.order.map iV) (fun i σ H'=>Same H1 H'∧∃(Hw:Hp)(y xx:Addr)(used fell:List Nat)(S:Stnd)(v4:Option V),Same Hw H'∧Hw p=none∧y≠x∧xx≠x∧WayIs d Hw y t bs xx A.hand used∧StndIs d.qd Hw xx S∧Wf A.T.ps B' S∧H' p=some (.lst (fell.map iV))∧used.length+fell.length=i∧(thrM A.T B' A.hand (A.order.drop i) used S).1=R.1∧fell++(thrM A.T B' A.hand (A.order.drop i) used S).2.1=R.2.1∧(thrM A.T B' A.hand (A.order.drop i) used S).2.2=R.2.2∧σ=[some (.ref x),some (.ref bs),some (.ref y),some (.ref p),v4])
   ⟨n2,H1,y0,x0,[],[],_,none,n2,fp,(kaj hx fy0).symm,(kaj hx fx0).symm,hy0.at.most (by decide),hx0,wf0,ep0,rfl,by rw[M3,eR],by rw[M3,eR];rfl,by rw[M3,eR],rfl⟩ (fun i σ H' _ h=>SqL.of ((sS.trans (s1.trans h.1)) _ _ k.o)) ?_ ?_⟩
  ·rintro i yv σ H' hyv ⟨sI,Hw,y,xx,used,fell,S,v4,sw,fw,ny,nxx,hY,hS,wf,ep,hul,hR1,hR2,hR3,rfl⟩
   obtain⟨n,en,rfl⟩:∃n,A.order[i]?=some n∧yv=iV n:=kbM hyv
   have hi:=at_lt en
   obtain⟨Vc,hV⟩:=at_of (hlt n (NA en))
   have vo:=tok.vs Vc (NA hV)
   have ed:A.order.drop i=n::A.order.drop (i+1):=by
    obtain⟨h1,h2⟩:=NG.mp en
    rw[Dl h1,h2]
   rw[ed] at hR1 hR2 hR3
   unfold thrM at hR1 hR2 hR3
   rw[hV] at hR1 hR2 hR3
   simp only at hR1 hR2 hR3
   have s0I:=s1.trans sI
   have hYI:=hY.same sw
   have hSI:=hS.same sw
   obtain⟨dxw,fsw,hd',u,hw,w1,w2,w3,w4,w5,w6,w7,w8,w9,w10,hh',hu⟩:=id hYI
   symm
   exists Y6
   refine⟨_,rfl,y,dxw,fsw,rfl,hw,w6,_,rfl,y,t,bs,xx,A.T,B',S,A.hand,used,n,Vc,rfl,hYI,hT.same s0I,hB.same s0I,hSI,wf,vo,hV,hhl,fun H3 s3=>⟨rfl,_,rfl,?_⟩⟩
   have s03:=s0I.trans s3
   have ep3:=s3 _ _ ep
   by_cases hn:dueM Vc A.T B' A.hand used S n=.non
   ·rw[if_pos hn] at hR1 hR2 hR3
    rw[hn,show decide (V.non=V.non)=true by simp]
    refine iteT ?_
    nofun
    exists Y8
    refine⟨_,rfl,y,dxw,fsw,rfl,s3 _ _ hw,w7,_,rfl,y,t,bs,xx,A.T,B',S,A.hand,used,n,Vc,rfl,hYI.same s3,hT.same s03,hB.same s03,hSI.same s3,wf,vo,hV,by omega,fun H4 y' x' s4 fy' hY' hx'=>?_⟩
    have hp3:H3 p≠none:=by rw[ep3];intro z;cases z
    exists 3
    exact⟨(sI.trans s3).trans s4,Vs.rmv p H4,y',x',used++[n],fell,_,_,rmv_sub,khH,(kaj (s03 _ _ hx) fy').symm,(kaj (s03 _ _ hx) hx'.1).symm,hY'.rmv hp3,hx'.rmv hp3,wf.after vo,s4 _ _ ep3,by rw[NI];show _+1+_=_;omega,hR1,hR2,hR3,rfl⟩
   ·rw[if_neg hn] at hR1 hR2 hR3
    rw[show decide (dueM Vc A.T B' A.hand used S n=V.non)=false by simp[hn]]
    refine iteF ?_
    exists 3
    exists Y8
    refine⟨_,rfl, .inl ⟨rfl,_,SqL.of ep3⟩,_,rfl,p,_,_,rfl,rfl,ep3,kan (by rw[Nr];omega),?_⟩
    exists 3
    exists Y8
    refine⟨kaq fp (sI.trans s3) (nx ep3),Hw,y,xx,used,fell++[n],S,_,kbP (sw.trans s3) (kar (nx ep3)) fw,fw,ny,nxx,hY,hS,wf,?_,by rw[NI];show _+(_+1)=_;omega,hR1,?_,hR3,rfl⟩
    ·rw[kad,Ny]
     rfl
    ·rw[Mj]
     exists 3
     exact hR2
  ·rintro σ H' ⟨sI,Hw,y,xx,used,fell,S,v4,sw,fw,ny,nxx,hY,hS,wf,ep,hul,hR1,hR2,hR3,rfl⟩
   rw[Nr,Dm] at hR1 hR2 hR3
   unfold thrM at hR1 hR2 hR3
   rw[Eb] at hR2
   simp only at hR1 hR2 hR3
   obtain⟨r1,r2,r3⟩:=R
   simp only at hR1 hR2 hR3 kk
   subst hR1 hR2 hR3
   rw[Nr] at hul
   have s0I:=s1.trans sI
   have hYI:=hY.same sw
   obtain⟨dxw,fsw,hd',u,hw,w1,w2,w3,w4,w5,w6,w7,w8,w9,w10,hh',hu⟩:=id hYI
   nofun
   exists Y6
   refine⟨_,rfl,y,d.c_Way,dxw,fsw,_,rfl,hw,W.c_Way.cl,W.qO,w4,u,_,rfl, .inl (SqL.of hu),fun q hq=>?_⟩
   generalize hgH5:upd H' q _=H5
   obtain⟨n5,e5⟩:=kaF hgH5 hq
   have hx5:=(s0I.trans n5) _ _ hx
   nofun
   exists Y6
   refine⟨_,rfl,x,d.qc,dx,fs,rfl,hx5,W.qc.cl,W.qI,by have:=F.l10;omega,?_⟩
   have nqx:q≠x:=(kaj (s0I _ _ hx) hq).symm
   have b6:But x H5 (upd H5 x (.ins d.qc dx (putF "order" (.ref q) fs))):=kar (nx hx5)
   have hx6:(upd H5 x (.ins d.qc dx (putF "order" (.ref q) fs))) x=some (.ins d.qc dx (putF "order" (.ref q) fs)):=kad
   generalize upd H5 x (.ins d.qc dx (putF "order" (.ref q) fs))=H6 at *
   obtain⟨sk,sk',ek,fk⟩:=kfV (sS.trans s0I) hq e5 n5
   generalize upd Hs q (.lst (used.map iV))=Hs6 at *
   have fx6:Hs6 x=none:=fk x (by rw[s0I _ _ hx];intro z;cases z) fS
   have S6:=kbP sk' b6 fx6
   have F6:=F.order (c:=q)
   have ep6:=b6 _ _ (ne_of (n5 _ _ ep) hx5 (by intro z;cases z)) (n5 _ _ ep)
   nofun
   exists Y6
   refine⟨_,rfl,x,d.qc,dx,_,_,rfl,hx6,W.qc.cl,W.qW,F6.l6,_,rfl,fa',p,_,_,rfl,rfl,S6 _ _ (sk _ _ k.f),ep6,NF (kan (by rw[Nr,Nr];omega)),fun q2 hq2=>?_⟩
   rw[←Ny]
   generalize hgH7:upd H6 q2 _=H7
   obtain⟨n7,e7⟩:=kaF hgH7 hq2
   have hx7:=n7 _ _ hx6
   nofun
   exists Y6
   refine⟨_,rfl,x,d.qc,dx,_,rfl,hx7,W.qc.cl,W.qW,by have:=F6.l10;omega,?_⟩
   have b8:But x H7 (upd H7 x (.ins d.qc dx (putF "fallen" (.ref q2) (putF "order" (.ref q) fs)))):=kar (nx hx7)
   have hx8:(upd H7 x (.ins d.qc dx (putF "fallen" (.ref q2) (putF "order" (.ref q) fs)))) x=some (.ins d.qc dx (putF "fallen" (.ref q2) (putF "order" (.ref q) fs))):=kad
   generalize upd H7 x (.ins d.qc dx (putF "fallen" (.ref q2) (putF "order" (.ref q) fs)))=H8 at *
   obtain⟨sl,sl',el,fl⟩:=kfV S6 hq2 e7 n7
   generalize upd Hs6 q2 (.lst ((A.fallen++fell).map iV))=Hs8 at *
   have fx8:Hs8 x=none:=fl x (by rw[hx6];intro z;cases z) fx6
   have S8:=kbP sl' b8 fx8
   have bw:=(b6.same n7).trans b8
   have foe:=F.foe
   nofun
   exists Y6
   refine⟨_,rfl,kk Hs8 H8 y t xx (sk.trans sl) S8 (fun a ha hs=>fl a ?_ (fk a ?_ hs)) ((But.of_same (s0I.trans n5)).trans bw) ⟨dx,t,b,hd,fpp,q,q2,m',_,hx8,F6.fallen,k.T.same (sk.trans sl),k.B.same (sk.trans sl),(sk.trans sl) _ _ k.h,(sk.trans sl) _ _ k.p,sl _ _ ek,el,(sk.trans sl) _ _ k.m⟩ ((hYI.same n5).butI bw hx5 ny) (((hS.same sw).same n5).butI bw hx5 nxx)⟩
   ·exact fun z=>ha (none_of (s0I.trans n5) (But.free b6 hx6 z))
   ·exact fun z=>ha (none_of s0I z)
noncomputable def dueA(T:TillD)(B:Bask)(hand:List Int):Nat→List Nat→List Nat×List Nat×Stnd
 |0,o=>(o,[],stnd0 B)
 |n+1,o=>match onlyM T.rs (thrM T B hand o [] (stnd0 B)).1 with
  |none=>thrM T B hand o [] (stnd0 B)
  |some l=>((dueA T B hand n ((thrM T B hand o [] (stnd0 B)).1.filter fun m=>decide (m≠l))).1,(thrM T B hand o [] (stnd0 B)).2.1++(Nw ((thrM T B hand o [] (stnd0 B)).1.count l) l++(dueA T B hand n ((thrM T B hand o [] (stnd0 B)).1.filter fun m=>decide (m≠l))).2.1),(dueA T B hand n ((thrM T B hand o [] (stnd0 B)).1.filter fun m=>decide (m≠l))).2.2)
theorem kfu{T:TillD}{B:Bask}{hand:List Int}:∀{o u:List Nat}{S:Stnd},(∀n∈o,n<T.vs.length)→(thrM T B hand o u S).1.length+(thrM T B hand o u S).2.1.length=u.length+o.length
 |[],u,S,_=>by unfold thrM;rfl
 | n::o,u,S,h=>by
  obtain⟨V,hV⟩:=at_of (h n NW)
  have h':∀m∈o,m<T.vs.length:=fun m hm=>h m (NP _ hm)
  unfold thrM
  rw[hV]
  simp only
  by_cases e:dueM V T B hand u S n=.non
  ·rw[if_pos e,kfu h']
   simp only[NI,N8,MV]
   omega
  ·rw[if_neg e]
   have:=kfu (T:=T) (B:=B) (hand:=hand) (u:=u) (S:=S) h'
   simp only[N8]
   omega
variable {T:TillD}{B:Bask}{hand:List Int}
theorem kft:∀{o u:List Nat}{S:Stnd}{m:Nat},m∈(thrM T B hand o u S).1→m∈u∨m∈o
 |[],u,S,m,h=>by unfold thrM at h;exact .inl h
 | n ::o,u,S,m,h=>by
  unfold thrM at h
  split at h
  ·exact .inl h
  ·split at h
   ·rcases kft h with h|h
    ·rcases N1.mp h with h|h
     ·exact .inl h
     ·exact .inr (by rw[show m=n by simpa using h];simp)
    ·exact .inr (NP _ h)
   ·rcases kft h with h|h
    ·exact .inl h
    ·exact .inr (NP _ h)
theorem khS{rs:List Rul}{o:List Nat}{l:Nat}(h:onlyM rs o=some l):l∈o:=by
 unfold onlyM at h
 obtain⟨r,h1,rfl⟩:=EN.mp h
 have h2:=List.find?_some h1
 unfold loneM at h2
 rw[Ms,Ms] at h2
 simpa using h2.2.1
theorem filter_lt{o:List Nat}{l:Nat}(h:l∈o):(o.filter fun m=>decide (m≠l)).length<o.length:=by
 have h1:(o.filter fun m=>decide (m≠l)).length≤o.length:=M4 _ _
 have h2:(o.filter fun m=>decide (m≠l)).length≠o.length:=fun e=>by
  have h3:=List.length_filter_eq_length_iff.mp e l h
  simp at h3
 omega
section
variable {d:D} {Hs Hs' H H1:Hp} {x t b h fp o fa m q C dx:Addr} {A A':AccD} {fs gs:List (Str×V)} {xs:List V}
theorem khm(sS:Same Hs H)(fx:Hs x=none)(hx:H x=some (.ins d.qc dx fs))(n:Same H H1)(hq:H q=none)(eq:H1 q=some (.lst xs))(mk:∀Hs',Same Hs Hs'→Hs' q=some (.lst xs)→AccIn d Hs' (upd H1 x (.ins d.qc dx gs)) x A'):
  ∃Hs',Same Hs Hs'∧Same Hs' (upd H1 x (.ins d.qc dx gs))∧Hs' x=none∧(∀a,H a≠none→Hs a=none→Hs' a=none)∧But x H (upd H1 x (.ins d.qc dx gs))∧AccIn d Hs' (upd H1 x (.ins d.qc dx gs)) x A':=by
 obtain⟨s1,s2,e,f⟩:=kfV sS hq eq n
 have bt:But x H1 (upd H1 x (.ins d.qc dx gs)):=kar (nx (n _ _ hx))
 have f2:=f x (by rw[hx];intro z;cases z) fx
 exact⟨_,s1,kbP s2 bt f2,f2,f,(But.of_same n).trans bt,mk _ s1 e⟩
theorem AccK.fallen{L:List Nat}(k:AccK d Hs t b h fp o fa m A)(s:Same Hs Hs')(e:Hs' q=some (.lst (L.map iV))):AccK d Hs' t b h fp o q m {A with fallen:=L}:=⟨k.T.same s,k.B.same s,s _ _ k.h,s _ _ k.p,s _ _ k.o,e,s _ _ k.m⟩
theorem AccK.order{L:List Nat}(k:AccK d Hs t b h fp o fa m A)(s:Same Hs Hs')(e:Hs' q=some (.lst (L.map iV))):AccK d Hs' t b h fp q fa m {A with order:=L}:=⟨k.T.same s,k.B.same s,s _ _ k.h,s _ _ k.p,e,s _ _ k.f,s _ _ k.m⟩
theorem AccK.many{L:List Int}(k:AccK d Hs t b h fp o fa m A)(s:Same Hs Hs')(e:Hs' q=some (.lst (L.map V.int))):AccK d Hs' t b h fp o fa q {A with many:=L}:=⟨k.T.same s,k.B.same s,s _ _ k.h,s _ _ k.p,s _ _ k.o,s _ _ k.f,e⟩
end
noncomputable def dueOf(n:Nat)(A:AccD)(B':Bask):List Nat×List Nat×Stnd:=dueA A.T B' A.hand n A.order
inductive spDue (d:D) (n:Nat) (vs:List V) (H:Hp) (Q:VK) (E_:XK):Prop
 |ct (Hs:Hp)(x bs:Addr)(A:AccD)(B':Bask)(_:vs=[.ref x, .ref bs])(_:A.order.length<n)(_:Same Hs H)(_:Hs x=none)(_:AccIn d Hs H x A)(_:kcp A.T)(_:BaskIs d.qe d.qg H bs B')(_:Wf A.T.ps B' (stnd0 B'))(_:A.hand.length=A.T.vs.length)(_:(∀n∈A.order,n<A.T.vs.length))(_:A.order.length+A.fallen.length≤8)(_:∀(Hs' H':Hp),Same Hs Hs'→Same Hs' H'→(∀a,H a≠none→Hs a=none→Hs' a=none)→But x H H'→AccIn d Hs' H' x {A with order:=(dueOf n A B').1,fallen:=A.fallen++(dueOf n A B').2.1}→Q (.int ((dueOf n A B').2.2.pr.sum+(dueOf n A B').2.2.cg)) H'):spDue d n vs H Q E_
theorem kk7{d:D}{vs:List V}{H:Hp}{Q:VK}{E:XK}(h:spDue d 0 vs H Q E):False:=by
 obtain⟨_,_,_,_,_,_,h,_⟩:=h
 omega
theorem kib{x a:Addr}{H H':Hp}{o:HO}(b:But x H H')(hx:H' x=some o)(ha:H a≠none):H' a≠none:=fun z=>ha (But.free b hx z)
theorem kmh{l:Nat}{o:List Nat}:o.count l+(o.filter fun m=>decide (m≠l)).length=o.length:=by
 induction o with
 |nil=>rfl
 | cons a o ih=>
  rw[Ej,MU,N8]
  by_cases e:a=l
  ·subst e
   rw[beq_self_eq_true,if_pos rfl,decide_eq_false (fun h=>h rfl),if_neg ND]
   omega
  ·have e1:(a==l)=false:=beq_eq_false_iff_ne.mpr e
   rw[e1,if_neg ND,decide_eq_true e,if_pos rfl,N8]
   omega
theorem kkJ{l n:Nat}:(Nw n [pV (some l)]).flatten=(Nw n l).map iV:=by
 induction n with
 |zero=>rfl
 |succ n ih=>rw[My,My,NZ,ih,NJ];rfl
theorem XM:kao ["self","stays","way","lonely"] ["self","stays"] (kag ka2):=by ac_rfl
theorem kcG(W:WB K mg d base)(n:Nat)(G_rec:FO P w W (7+n) d.qY d.qZ ["self","stays"] (spDue d n)):FO P w W (7+n+1) d.qY d.qZ ["self","stays"] (spDue d (n+1)):=by
 exists W.Qq.F,XM
 ·obtain⟨Hs,x,bs,A,B',rfl,hn,sS,fS,hA,tok,hB,wf0,hhl,hlt,h8,kk⟩:=h
  exists U2,kcU,W
  exists XF,kb8,W
  exists XH,kcm,W
  have hr1:Room 1 _:=hr.mono (by omega)
  have hr7:Room 7 _:=hr.mono (by omega)
  refine⟨_,kac (psl (i:=2) XM.nd (kbi (pv 0) W.qc.cl W.Xu.me U2 hr7 W.Xu.b .nil pass0 (kaa (pv 1) kae)))
   (kac (psl (i:=3) XM.nd (pcl XF hr1 W.Xc (kaa (kai (K:=K) (kai (K:=K) (pv 0) rfl) rfl) (kaa (kai (K:=K) (pv 0) rfl) kae))))
   (kac (ps_if (kas kdY (pv 3) ka1 (kav _)) (kah (kap (kek (kai (K:=K) (pv 2) rfl) W.qd.cl W.Qj.me XH hr1 W.Qj.b .nil pass0))) (kat))
   (kac (kaw (pv 0) (pe_op keH (kai (K:=K) (pv 0) rfl) (pe_op kjk (kaK (kaa (pv 3) kae)) (pe_bm N4 DC DD khW (kai (K:=K) (pv 0) rfl) (kaa (pv 3) kae)))) rfl)
   (kac (kaw (pv 0) (khO (N:=["number","lonely"]) (CompScope.of (N:=["number","lonely"]) (cap:=[none,some 3]) (kag ka2).names ["self","stays","way","lonely"] rfl rfl (by decide +kernel)) rfl (kaG (K:=K) (kai (K:=K) (pv 0) rfl)) (fun _ _ _ _=>pgn (i:=0) (show(["number","lonely"]:List Str).Nodup by decide +kernel)) (fun _ _ _ _=>kg5 (kas op_ne (pv 0) (pv 1) (kav _))) (fun _ _ _ _=>(pv 0))) rfl)
   (kah (kap (kbi (pv 0) W.qc.cl W.Qq.me G_rec hr W.Qq.b .nil pass0 (kaa (pv 1) kae)))))))),?_⟩
  obtain⟨dx,t,b,hd,fpp,o',fa',m',fs,hx,F,k⟩:=id hA
  exists Y4
  refine⟨_,rfl,x,dx,fs,rfl,hx,F.l11 _ (by decide +kernel),_,rfl,Hs,x,bs,A,B',rfl,sS,fS,hA,tok,hB,wf0,hhl,hlt,h8,fun Hs1 H1 wy t1 xs s1 S1 f1 b1 hA1 hY hS=>?_⟩
  have hlen:=kfu (T:=A.T) (B:=B') (hand:=A.hand) (u:=[]) (S:=stnd0 B') hlt
  have hmem:=fun m=>kft (T:=A.T) (B:=B') (hand:=A.hand) (o:=A.order) (u:=[]) (S:=stnd0 B') (m:=m)
  have eU:dueOf (n+1) A B'=(match onlyM A.T.rs (thrOf A B').1 with
   |none=>thrOf A B'
   |some l=>((dueA A.T B' A.hand n ((thrOf A B').1.filter fun m=>decide (m≠l))).1,(thrOf A B').2.1++(Nw ((thrOf A B').1.count l) l++(dueA A.T B' A.hand n ((thrOf A B').1.filter fun m=>decide (m≠l))).2.1),(dueA A.T B' A.hand n ((thrOf A B').1.filter fun m=>decide (m≠l))).2.2)):=rfl
  rw[eU] at kk
  rw[show thrM A.T B' A.hand A.order [] (stnd0 B')=thrOf A B' from rfl] at hlen hmem
  clear eU
  generalize thrOf A B'=R at *
  obtain⟨r1,r2,S'⟩:=R
  simp only at *
  obtain⟨dx1,t2,b2,hd1,fp1,o1,fa1,m1,fs1,hx1,F1,k1⟩:=id hA1
  obtain⟨dxt,fst,tp,vl,rl,va,ra,ht,t1',t2',t3',t4',htp,hvl,hva,hrl,hra⟩:=id (k1.T.same S1)
  have ho1:=S1 _ _ k1.o
  symm
  exists Y4
  refine⟨_,rfl,x,d.qc,dx1,fs1,_,rfl,hx1,W.qc.cl,W.QL,F1.l1,t2,d.qf,dxt,fst,_,rfl,ht,W.qf.cl,W.qH,t3',_,rfl,x,d.qc,dx1,fs1,_,rfl,hx1,W.qc.cl,W.qI,F1.l5,rl,o1,ra,A.T.rs,r1,rfl,hrl,hra,ho1,?_⟩
  symm
  exists Y4
  refine⟨_,rfl,rfl,_,rfl,?_⟩
  cases e:onlyM A.T.rs r1 with
  |none=>
   rw[e] at kk
   simp only at kk
   show if decide (V.non=V.non)=true then _ else _
   rw[show decide (V.non=V.non)=true by simp]
   obtain⟨dxw,fsw,hd',u,hw,w1,w2,w3,w4,w5,w6,w7,w8,w9,w10,hh',hu⟩:=id hY
   obtain⟨ow,pp,mm,⟨dxs,fss,hxs,l1,l2,l3,l4,l5⟩,how,hpp,hmm⟩:=id hS
   refine iteT ?_
   symm
   exact⟨_,rfl,wy,d.c_Way,dxw,fsw,_,rfl,hw,W.c_Way.cl,W.qP,w5,xs,dxs,fss,rfl,hxs,l5,xs,ow,pp,mm,S'.cg,S'.pr,rfl,⟨dxs,fss,hxs,l1,l2,l3,l4,l5⟩,hpp,kk Hs1 H1 s1 S1 f1 b1 hA1⟩
  | some l=>
   rw[e] at kk
   simp only at kk
   have hl:=khS e
   have hcl:=kmh (l:=l) (o:=r1)
   have hlt1:=filter_lt hl
   show if decide (iV l=V.non)=true then _ else _
   rw[show decide (iV l=V.non)=false from decide_eq_false (by intro z;cases z)]
   refine iteF ?_
   have eo1:H1 o1=some (.lst ((r1.map fun(i:Nat)=>(i:Int)).map V.int)):=by rw[ho1,NU];rfl
   symm
   exists Y6
   refine⟨_,rfl,x,d.qc,dx1,fs1,_,rfl,hx1,W.qc.cl,W.qW,F1.l6,_,rfl,(by show 1≤sizeLine;decide),fun q1 hq1=>?_⟩
   generalize hgH2:upd H1 q1 _=H2
   obtain⟨n2,e2⟩:=kaF hgH2 hq1
   have hc8:r1.count l≤8:=by simp only[MV] at hlen;omega
   nofun
   exists Y6
   refine⟨_,rfl,x,d.qc,dx1,fs1,_,rfl,n2 _ _ hx1,W.qc.cl,W.qI,F1.l5, .inl ⟨rfl,_,SqL.of (n2 _ _ ho1)⟩,_,rfl,o1,_,_,rfl,rfl,n2 _ _ eo1,q1,_,_,rfl,rfl,e2,by omega,by rw[kf4];omega,by rw[kf4,Int.toNat_natCast];exact NF (kan (by show 1*_≤1000;omega)),fun q2 hq2=>?_⟩
   rw[kf4,Int.toNat_natCast,kkJ]
   generalize hg3:upd H2 q2 _=H3
   obtain⟨n3,e3⟩:=kaF hg3 hq2
   have s13:=n2.trans n3
   nofun
   exists Y6
   refine⟨fa1,q2,_,_,rfl,rfl,(S1.trans s13) _ _ k1.f,e3,NF (kan (by rw[Nr,Nr,NI,Mx];simp only[MV] at hlen;omega)),fun q3 hq3=>?_⟩
   rw[←Ny]
   generalize hg4:upd H3 q3 _=H4
   obtain⟨n4,e4⟩:=kaF hg4 hq3
   nofun
   exists Y6
   refine⟨_,rfl,x,d.qc,dx1,fs1,rfl,(s13.trans n4) _ _ hx1,W.qc.cl,W.qW,by have:=F1.l10;omega,?_⟩
   obtain⟨Hs5,p1,p2,p3,p4,p5,hA5⟩:=khm (A':={A with order:=r1,fallen:=A.fallen++r2++Nw (r1.count l) l}) (gs:=putF "fallen" (.ref q3) fs1) (S1.trans s13) (f1 x (by rw[hx];intro z;cases z) fS) (s13 _ _ hx1) n4 hq3 e4 fun Hs' s e=>⟨dx1,t2,b2,hd1,fp1,o1,q3,m1,_,kad,F1.fallen,k1.fallen s e⟩
   generalize upd H4 x (.ins d.qc dx1 (putF "fallen" (.ref q3) fs1))=H5 at *
   obtain⟨dx5,t5,b5,hd5,fp5,o5,fa5,m5,fs5,hx5,F5,k5⟩:=id hA5
   have ho5:=p2 _ _ k5.o
   nofun
   exists Y6
   refine⟨_,rfl,x,d.qc,dx5,fs5,_,rfl,hx5,W.qc.cl,W.qI,F5.l5,o5,rfl,⟨_,SqL.of ho5⟩,kf3 (J:=Itl K o5) (n:=(r1.map iV).length) (fun i σ ys H'=>H'=H5∧ys=((r1.take i).filter fun m=>decide (m≠l)).map iV∧∃v,σ=[v,some (iV l)]) ⟨rfl,rfl,none,rfl⟩ (by rw[Nr];exact NF (kan (by simp only[MV] at hlen;omega))) ?_ (fun i σ ys H' hi p=>⟨_,_,SqL.of (p.1▸ho5),MA hi⟩) (fun σ ys H' p=>⟨_,SqL.of (p.1▸ho5),Nv _⟩) ?_ ?_⟩
   ·rintro i σ ys H' hi ⟨rfl,rfl,_⟩
    rw[Nr]
    nofun
    exact Nx (M4 _ _) (by rw[NH];omega)
   ·rintro i σ ys H' y H'' hi ⟨rfl,rfl,v,rfl⟩ ⟨rfl,hy⟩
    obtain⟨m,em,rfl⟩:∃m,r1[i]?=some m∧y=iV m:=kbM (hy _ (SqL.of ho5))
    nofun
    exists Y8
    refine⟨_,rfl,_,rfl,rfl,_,rfl,?_⟩
    rw[take_snoc em,M7,Ny]
    by_cases e1:m=l
    ·subst e1
     rw[show(!decide (iV m=iV m))=false by simp]
     refine iteF ?_
     exists 3
     exists Y10
     refine⟨rfl,?_,_,rfl⟩
     rw[MU,decide_eq_false (fun h=>h rfl),if_neg ND]
     exists 5
     exact(Eb _).symm
    ·show if(!decide (iV m=iV l))=true then _ else _
     rw[show(!decide (iV m=iV l))=true from by rw[kgF,decide_eq_false e1];rfl]
     refine iteT ?_
     exists 5
     exists Y10
     refine⟨_,rfl,rfl,?_,_,rfl⟩
     rw[MU,decide_eq_true e1,if_pos rfl]
     rfl
   ·rintro σ ys H' ⟨rfl,rfl,v,rfl⟩ q6 hq6
    rw[Nr,N3]
    generalize hg7:upd H' q6 _=H7
    obtain⟨n7,e7⟩:=kaF hg7 hq6
    exists 3
    exists Y8
    refine⟨_,rfl,x,d.qc,dx5,fs5,rfl,n7 _ _ hx5,W.qc.cl,W.qI,by have:=F5.l10;omega,?_⟩
    obtain⟨Hs8,u1,u2,u3,u4,u5,hA8⟩:=khm (A':={A with order:=r1.filter fun m=>decide (m≠l),fallen:=A.fallen++r2++Nw (r1.count l) l}) (gs:=putF "order" (.ref q6) fs5) p2 p3 hx5 n7 hq6 e7 fun Hs' s e=>⟨dx5,t5,b5,hd5,fp5,q6,fa5,m5,_,kad,F5.order,k5.order s e⟩
    generalize upd H7 x (.ins d.qc dx5 (putF "order" (.ref q6) fs5))=H8 at *
    obtain⟨dx8,t8,b8,hd8,fp8,o8,fa8,m8,fs8,hx8,F8,k8⟩:=id hA8
    have hc1:=(b1.same s13)
    have hc2:=hc1.trans p5
    have hc3:=hc2.trans u5
    exists 3
    exists Y8
    refine⟨_,rfl,x,dx8,fs8,rfl,hx8,F8.l11 _ (by decide +kernel),_,rfl,Hs8,x,bs,_,B',rfl,?_,u2,u3,hA8,tok,hB.butI hc3 hx F.foe,wf0,hhl,?_,?_,fun Hs9 H9 v1 v2 v3 v4 hA9=>?_⟩
    ·show(r1.filter fun m=>decide (m≠l)).length<n
     simp only[MV] at hlen
     omega
    ·intro m hm
     have h1:=(Mo.mp hm).1
     rcases hmem m h1 with h|h
     ·cases h
     ·exact hlt m h
    ·show(r1.filter fun m=>decide (m≠l)).length+(A.fallen++r2++Nw (r1.count l) l).length≤8
     rw[NI,NI,Mx]
     simp only[MV] at hlen
     omega
    ·refine kk Hs9 H9 (((s1.trans p1).trans u1).trans v1) v2 (fun a ha hs=>v3 a (kib hc3 hx8 ha) (u4 a (kib hc2 hx5 ha) (p4 a (kib hc1 (s13 _ _ hx1) ha) (f1 a ha hs)))) (hc3.trans v4) ?_
     rw[←Mj,←Mj]
     exists 3
     exact hA9
theorem kbC(W:WB K mg d base):∀n:Nat,FO P w W (7+n) d.qY d.qZ ["self","stays"] (spDue d n)
 |0=>⟨fun _ _ _ _ h=>(kk7 h).elim,fun _ _ _ _ _ _ _ _ _ _ _ _ _ h=>(kk7 h).elim⟩
 |n+1=>kcG W n (kbC W n)
theorem kc6(W:WB K mg d base):FO P w W 16 d.qY d.qZ ["self","stays"] (spDue d 9):=kbC W 9
theorem klm(i j:Int):(if j > i then j else i)=max i j:=by split <;> omega
noncomputable def due1(A:AccD)(l:Nat)(k:Int):List Nat×List Nat×Stnd:=dueOf 9 {A with many:=A.many.set l k} (kbJ A.B (A.many.set l k))
noncomputable def owes(r:List Nat×List Nat×Stnd):Int:=r.2.2.pr.sum+r.2.2.cg
noncomputable def backA(A:AccD)(l:Nat)(k:Int):Int:=max (A.paid-owes (due1 A l k)) 0
noncomputable def tookA(A:AccD)(l:Nat)(k:Int):AccD:={A with many:=A.many.set l k,order:=(due1 A l k).1,fallen:=A.fallen++(due1 A l k).2.1,paid:=A.paid-backA A l k,owed:=max (owes (due1 A l k)-(A.paid-backA A l k)) 0}
structure AccOk (A:AccD):Prop where
 tok:kcp A.T
 nl:A.B.rs.length≤12
 ml:A.many.length=A.B.rs.length
 hl:A.hand.length=A.T.vs.length
 lt:∀n∈A.order,n<A.T.vs.length
 l8:A.order.length+A.fallen.length≤8
noncomputable def bkS(A:AccD)(l:Nat)(k:Int)(n:Nat):Int:=((A.pr.drop ((mans (A.B.rs.take l)).sum+k.toNat)).take n).sum
noncomputable def backB(A:AccD)(l:Nat)(k:Int)(n:Nat):Int:=if A.T.bk=("again" :Str) then backA A l k else bkS A l k n
noncomputable def tookB(A:AccD)(l:Nat)(k:Int)(n:Nat):AccD:=if A.T.bk=("again" :Str) then tookA A l k else {A with many:=A.many.set l k,paid:=A.paid-bkS A l k n}
theorem kkE{many:List Int}{l:Nat}{n z:Int}(hz:many[l]?=some z)(h1:1≤n)(h2:n≤z):hasM many ((l:Nat):Int) n=true:=by
 have hl:=at_lt hz
 have e:many.getD ((l:Nat):Int).toNat 0=z:=by rw[Int.toNat_natCast,NR,hz];rfl
 unfold hasM
 rw[e,decide_eq_true (by omega),decide_eq_true (by omega),decide_eq_true h1,decide_eq_true h2]
 rfl
noncomputable def TakeB(d:D)(vs:List V)(H:Hp)(Q:VK):Prop:=∃(Hs:Hp)(x:Addr)(l n:Nat)(z:Int)(A:AccD),vs=[.ref x,iV l,iV n]∧Same Hs H∧Hs x=none∧AccIn d Hs H x A∧AccOk A∧((A.T.bk=("again" :Str)∧Wf A.T.ps (kbJ A.B (A.many.set l (z-n))) (stnd0 (kbJ A.B (A.many.set l (z-n)))))∨(A.T.bk=("shares" :Str)∧(∀r∈A.B.rs,r.Ok)∧(mans (A.B.rs.take l)).sum+z.toNat≤A.pr.length))∧A.many[l]?=some z∧1≤n∧(n:Int)≤z∧
 ∀Hs' H',Same Hs Hs'→Same Hs' H'→(∀a,H a≠none→Hs a=none→Hs' a=none)→But x H H'→AccIn d Hs' H' x (tookB A l (z-n) n)→Q (.int (backB A l (z-n) n)) H'
noncomputable def TakeN(d:D)(vs:List V)(H:Hp)(E:XK):Prop:=∃(Hs:Hp)(x:Addr)(l n:Int)(A:AccD),vs=[.ref x, .int l, .int n]∧Same Hs H∧AccIn d Hs H x A∧hasM A.many l n=false∧E (.ref d.qq) none H
noncomputable def klI(d:D):Sp:=fun vs H Q E=>TakeB d vs H Q∨TakeN d vs H E
theorem QT:kao ["self","line","many","left","due","back"] ["self","line","many"] (kag kbh):=by ac_rfl
theorem kbB(W:WB K mg d base):FnOk P w K mg base (CX1 P w) 17 d.ZN d.ZO ["self","line","many"] (klI d):=by
 refine FunD.okX W.qS.F QT (fun vs H Q E h=>?_) (fun cdv A outer s H vs Q E hr h=>?_)
 ·rcases h with⟨Hs,x,l,n,z,A,rfl,_⟩|⟨Hs,x,l,n,A,rfl,_⟩
  ·rfl
  ·rfl
 ·have h0:=h
  exists U3,kdp,W
  exists V7,kdo,W
  exists U4,kcH,W
  exists U5,kc6,W
  exists U6,kcT,W
  exists hr1,1,hr,0
  exists hr3,3,hr,0
  refine⟨_,kac (ps_if (kez (ka4 (kbi (pv 0) W.qc.cl W.Xr.me U3 hr1 W.Xr.b .nil pass0 (kaa (pv 1) (kaa (pv 2) kae))))) (kah (ki8 (kmz W.kin W.VX W.UK) PySem.F.excBase_ValueError rz_cx rfl)) (kat))
   (kac (psl (i:=3) QT.nd (pe_op kcB (pe_ix (r:=rIxL K) kaC (kai (K:=K) (pv 0) rfl) (pv 1) (fun _ _=>rfl)) (pv 2)))
   (kac (kaw (pv 0) (pe_op keH (pe_op keH (kc2 (r:=rSlL K) kdK (kai (K:=K) (pv 0) rfl) kfH (kcQ (pv 1))) (kaK (kaa (pv 3) kae))) (kc2 (r:=rSlL K) kdK (kai (K:=K) (pv 0) rfl) (kcQ (pe_op kaz (pv 1) kaf)) kfH)) rfl)
   (kac (ps_if (kas op_eq (kai (K:=K) (kai (K:=K) (pv 0) rfl) rfl) kbu (kav _)) (kah (kap (kbi (pv 0) W.qc.cl W.Qp.me V7 hr1 W.Qp.b .nil pass0 (kaa (kbi (pv 0) W.qc.cl W.Xs.me U4 hr1 W.Xs.b .nil pass0 (kaa (pv 1) (kaa (pv 3) (kaa (pv 2) kae)))) kae)))) (kat))
   (kac (psl (i:=4) QT.nd (kbi (pv 0) W.qc.cl W.Qq.me U5 hr W.Qq.b .nil pass0 (kaa (kek (pv 0) W.qc.cl W.Xt.me U6 hr3 W.Xt.b .nil pass0) kae)))
   (kac (psl (i:=5) QT.nd (kbi (pv 0) W.qc.cl W.Qp.me V7 hr1 W.Qp.b .nil pass0 (kaa (kau (kdF rfl) (by rfl) W.B.max b_max (kaa (pe_op kcB (kai (K:=K) (pv 0) rfl) (pv 4)) (kaa kaf kae))) kae)))
   (kac (kaw (pv 0) (kau (kdF rfl) (by rfl) W.B.max b_max (kaa (pe_op kcB (pv 4) (kai (K:=K) (pv 0) rfl)) (kaa kaf kae))) rfl)
   (kah (kap (pv 5))))))))),?_⟩
  rcases h with⟨Hs,x,l,n,z,A,rfl,sS,fS,hA,ok,hmode,hz,hn1,hn2,kk⟩|⟨Hs,x,l,n,A,rfl,sS,hA,hno,kk⟩
  case inr=>
   obtain⟨dx,t,b,hd,fp,o',fa',m',fs,hx,F,k⟩:=id hA
   exists Y6
   refine⟨_,rfl,x,dx,fs,rfl,hx,F.l11 _ (by decide +kernel),_,rfl,_,rfl,Hs,x,l,n,A,rfl,sS,hA,_,rfl,?_⟩
   rw[hno]
   refine iteT ?_
   try apply Y6
   exact kk
  obtain⟨dx,t,b,hd,fp,o',fa',m',fs,hx,F,k⟩:=id hA
  have hl:=at_lt hz
  have hm':=sS _ _ k.m
  exists Y4
  refine⟨_,rfl,x,dx,fs,rfl,hx,F.l11 _ (by decide +kernel),_,rfl,_,rfl,Hs,x,l,n,A,rfl,sS,hA,_,rfl,?_⟩
  rw[kkE hz (by omega) hn2]
  refine iteF ?_
  have hat:atI (A.many.map V.int) ((l:Nat):Int)=some (V.int z):=kaU (v:=V.int z) (by rw[NC,hz];rfl)
  symm
  exists Y4
  refine⟨_,rfl,x,d.qc,dx,fs,_,rfl,hx,W.qc.cl,W.qr,F.l7,_,rfl,m',_,_,_,rfl,rfl,SqL.of hm',hat,_,rfl,_,_,rfl,rfl,?_⟩
  have ht12:A.many.length≤12:=by rw[ok.ml];exact ok.nl
  symm
  exists Y4
  refine⟨_,rfl,x,d.qc,dx,fs,_,rfl,hx,W.qc.cl,W.qr,F.l7,_,rfl,_,rfl,m',_,rfl,SqL.of hm',fun p1 fp1=>?_⟩
  rw[kj0,←MQ]
  generalize hg1:upd H p1 _=H1
  obtain⟨n1,e1⟩:=kaF hg1 fp1
  symm
  exists Y4
  refine⟨_,rfl,(by show 1≤sizeLine;decide),fun p2 fp2=>?_⟩
  generalize hg2:upd H1 p2 _=H2
  obtain⟨n2,e2⟩:=kaF hg2 fp2
  symm
  exists Y4
  refine⟨p1,p2,_,_,rfl,rfl,n2 _ _ e1,e2,NF (kan (by rw[Nr,NH];show _+1≤1000;omega)),fun p3 fp3=>?_⟩
  generalize hg3:upd H2 p3 _=H3
  obtain⟨n3,e3⟩:=kaF hg3 fp3
  have s3:=(n1.trans n2).trans n3
  symm
  exists Y4
  refine⟨_,rfl,x,d.qc,dx,fs,_,rfl,s3 _ _ hx,W.qc.cl,W.qr,F.l7,_,rfl,_,_,rfl,rfl,_,rfl,m',_,rfl,SqL.of (s3 _ _ hm'),fun p4 fp4=>?_⟩
  rw[show((l:Nat):Int)+1=((l+1:Nat):Int) by omega,kkP,←El]
  generalize hg4:upd H3 p4 _=H4
  obtain⟨n4,e4⟩:=kaF hg4 fp4
  have emany:(A.many.take l).map V.int++[V.int (z-n)]++(A.many.drop (l+1)).map V.int=(A.many.set l (z-n)).map V.int:=by
   rw[List.set_eq_take_append_cons_drop,if_pos hl,Ny,NJ,Mj]
   rfl
  symm
  exists Y4
  refine⟨p3,p4,_,_,rfl,rfl,n4 _ _ e3,e4,NF (kan (by rw[NI,Nr,Nr,NH,Ef];show _+1+_≤1000;omega)),fun p5 fp5=>?_⟩
  rw[emany]
  generalize hg5:upd H4 p5 _=H5
  obtain⟨n5,e5⟩:=kaF hg5 fp5
  have s4:=s3.trans n4
  have hx4:=s4 _ _ hx
  symm
  exists Y4
  refine⟨_,rfl,x,d.qc,dx,fs,rfl,n5 _ _ hx4,W.qc.cl,W.qr,by have:=F.l10;omega,?_⟩
  obtain⟨Hs6,p1',p2',p3',p4',p5',hA6⟩:=khm (A':={A with many:=A.many.set l (z-n)}) (gs:=putF "many" (.ref p5) fs) (sS.trans s4) fS hx4 n5 fp5 e5 fun Hs' s e=>⟨dx,t,b,hd,fp,o',fa',p5,_,kad,F.many,k.many s e⟩
  generalize upd H5 x (.ins d.qc dx (putF "many" (.ref p5) fs))=H6 at *
  obtain⟨dx6,t6,b6,hd6,fp6,o6,fa6,m6,fs6,hx6,F6,k6⟩:=id hA6
  have c6:But x H H6:=(But.of_same s4).trans p5'
  have f6:∀a,H a≠none→Hs a=none→Hs6 a=none:=fun a ha hs=>p4' a (fun z=>ha (none_of s4 z)) hs
  obtain⟨dxt,fst,tp,vl,rl,va,ra,ht,t1,t2,t3,t4,_⟩:=k6.T.same p2'
  symm
  exists Y4
  refine⟨_,rfl,x,d.qc,dx6,fs6,_,rfl,hx6,W.qc.cl,W.QL,F6.l1,t6,d.qf,dxt,fst,_,rfl,ht,W.qf.cl,W.Xp,t4,rfl,_,rfl,?_⟩
  show if decide (V.str A.T.bk=V.str "shares")=true then _ else _
  rcases hmode with⟨hbk,wf⟩|⟨hbk,hok,hle⟩
  case inr=>
   rw[hbk,show decide (V.str "shares"=V.str "shares")=true by simp]
   have nag:¬A.T.bk=("again" :Str):=by rw[hbk];decide +kernel
   obtain⟨zk,ezk⟩:=Int.eq_ofNat_of_zero_le (show 0≤z-(n:Int) by omega)
   have etk:backB A l (z-n) n=((A.pr.drop ((mans (A.B.rs.take l)).sum+zk)).take n).sum:=by
    unfold backB bkS
    rw[if_neg nag,ezk,Int.toNat_natCast]
   have ett:tookB A l (z-n) n= {A with many:=A.many.set l (z-n),paid:=A.paid-backB A l (z-n) n}:=by
    unfold tookB backB
    rw[if_neg nag,if_neg nag]
   rw[etk] at ett kk
   rw[ett] at kk
   refine iteT ?_
   symm
   exists Y6
   refine⟨_,rfl,x,dx6,fs6,rfl,hx6,F6.l11 _ (by decide +kernel),_,rfl,x,dx6,fs6,rfl,hx6,F6.l11 _ (by decide +kernel),_,rfl,_,rfl,_,rfl,Hs6,x,l,zk,n,_,?_,p2',hA6,ok.nl,hok,(by show(mans (A.B.rs.take l)).sum+zk+n≤A.pr.length;omega),fun H7 s7=>?_⟩
   ·show [V.ref x,iV l,V.int (z-n),iV n]=[V.ref x,iV l,V.int ((zk:Nat):Int),iV n]
    rw[ezk]
   ·exact⟨Hs6,x,_,_,rfl,hA6.same s7,fun H8 b8 hA8=>kk Hs6 H8 p1' (kbP (p2'.trans s7) b8 p3') f6 ((c6.same s7).trans b8) hA8⟩
  have ett:tookB A l (z-n) n=tookA A l (z-n):=by unfold tookB;rw[if_pos hbk]
  have etk:backB A l (z-n) n=backA A l (z-n):=by unfold backB;rw[if_pos hbk]
  rw[ett,etk] at kk
  rw[hbk,show decide (V.str "again"=V.str "shares")=false by rw[eq_str];decide +kernel]
  have ml':(A.many.set l (z-n)).length=A.B.rs.length:=by rw[M0];exact ok.ml
  refine iteF ?_
  symm
  exists Y4
  refine⟨_,rfl,x,dx6,fs6,rfl,hx6,F6.l11 _ (by decide +kernel),_,rfl,x,dx6,fs6,rfl,hx6,F6.l11 _ (by decide +kernel),Hs6,x,_,rfl,p2',hA6,ml',ok.nl,fun H7 bs s7 fbs hBs=>?_⟩
  symm
  exists Y4
  refine⟨Hs6,x,bs,_,_,rfl,(by have:=ok.l8;show A.order.length<9;omega),p2'.trans s7,p3',hA6.same s7,ok.tok,hBs,wf,ok.hl,ok.lt,ok.l8,fun Hs8 H8 v1 v2 v3 v4 hA8=>?_⟩
  have c8:But x H H8:=(c6.same s7).trans v4
  have f8:∀a,H a≠none→Hs a=none→Hs8 a=none:=fun a ha hs=>v3 a (fun z=>kib c6 hx6 ha (none_of s7 z)) (f6 a ha hs)
  obtain⟨dx8,t8,b8,hd8,fp8,o8,fa8,m8,fs8,hx8,F8,k8⟩:=id hA8
  symm
  exists Y4
  refine⟨_,rfl,x,dx8,fs8,rfl,hx8,F8.l11 _ (by decide +kernel),_,rfl,x,d.qc,dx8,fs8,_,rfl,hx8,W.qc.cl,W.Qn,F8.l8,_,rfl,_,_,rfl,rfl,_,_,rfl,Hs8,x,_,_,rfl,hA8,fun H9 b9 hA9=>?_⟩
  rw[klm] at hA9⊢
  obtain⟨dx9,t9,b9',hd9,fp9,o9,fa9,m9,fs9,hx9,F9,k9⟩:=id hA9
  symm
  exists Y4
  refine⟨_,rfl,_,rfl,x,d.qc,dx9,fs9,_,rfl,hx9,W.qc.cl,W.Qn,F9.l8,_,_,rfl,rfl,_,_,rfl,_,rfl,x,d.qc,dx9,fs9,rfl,hx9,W.qc.cl,W.Xq,by have:=F9.l10;omega,?_⟩
  rw[klm]
  have b10:But x H9 (upd H9 x (.ins d.qc dx9 (putF "owed" (.int (max (owes (due1 A l (z-n))-(A.paid-backA A l (z-n))) 0)) fs9))):=kar (nx hx9)
  have fx8:Hs8 x=none:=f8 x (by rw[hx];intro z;cases z) fS
  symm
  exact⟨_,rfl,kk Hs8 _ (p1'.trans v1) (kbP (kbP v2 b9 fx8) b10 fx8) f8 ((c8.trans b9).trans b10) ⟨dx9,t9,b9',hd9,fp9,o9,fa9,m9,_,kad,F9.owed,k9.T,k9.B,k9.h,k9.p,k9.o,k9.f,k9.m⟩⟩
inductive khy (K:Nt) (vs:List V) (H:Hp) (Q:VK) (E_:XK):Prop
 |ct (a:Addr)(ns:List Int)(n:Int)(_:vs=[.ref a, .int n])(_:SqL K H a (ns.map V.int))(_:0≤n)(_:∀z:Int,Q (.int z) H):khy K vs H Q E_
theorem kes:kao ["_law_script","_law_k"] ["_law_script","_law_k"] (kag kcg):=by ac_rfl
theorem keN(W:WB K mg d base):FO P w W 1 d.YG d.YH ["_law_script","_law_k"] (khy K):=by
 exists W.Vp.F,kes
 ·obtain⟨a,ns,n,rfl,hS,n0,kk⟩:=h
  refine⟨_,kac (ps_if (kas op_lt (pv 1) (kau (r:=ka6 K) kax (by rfl) W.B.len b_len (kaa (pv 0) kae)) (kav _)) (kah (kap (pe_ix (r:=rIxL K) kaC (pv 0) (pv 1) (fun _ _=>rfl)))) (kat))
   (kah (kap kaf)),?_⟩
  obtain⟨m,rfl⟩:=Int.eq_ofNat_of_zero_le n0
  refine⟨_,rfl,_,rfl,a,_,rfl, .inl hS,_,_,rfl,rfl,_,rfl,ite2 (fun h=>?_) (fun _=>kk 0)⟩
  have hn:m<ns.length:=by
   have:(m:Int)<((ns.map V.int).length:Nat):=by simpa using h
   rw[Nr] at this
   omega
  obtain⟨z,ez⟩:=at_of hn
  exact⟨_,rfl,_,rfl,a,_,_,_,rfl,rfl,hS,kaU (v:=.int z) (by rw[NC,ez];rfl),kk z⟩
inductive kk3 (K:Nt) (vs:List V) (H:Hp) (Q:VK) (E_:XK):Prop
 |ct (a:Addr)(ns:List Int)(k t m:Int)(_:vs=[.ref a, .int k, .int t, .int m])(_:SqL K H a (ns.map V.int))(_:(0≤k∧k≤1000))(_:(0≤t∧t≤1000))(_:0<m)(_:∀z:Int,0≤z→z<m→Q (.int z) H):kk3 K vs H Q E_
theorem XO:kao ["_law_script","_law_k","_law_salt","_law_many","_law_cell","_law_mixed"] ["_law_script","_law_k","_law_salt","_law_many"] (kag kdj):=by ac_rfl
theorem kaI(W:WB K mg d base):FO P w W 2 d.YI d.YJ ["_law_script","_law_k","_law_salt","_law_many"] (kk3 K):=by
 exists W.qj.F,XO
 ·obtain⟨a,ns,k,t,m,rfl,hS,hk,ht,hm,kk⟩:=h
  exists U7,keN,W
  refine⟨_,kac (psl (i:=4) XO.nd (pe_op kaz (pe_op keG (pcl U7 hr W.Vp (kaa (pv 0) (kaa (pv 1) kae))) kaf) kaf))
   (kac (psl (i:=5) XO.nd (pe_op keG (pe_op kb7 (pv 4) (pe_op kaz (pe_op kaz kaf (pe_op kb7 (pe_op kb7 kaf (pv 1)) (pv 1))) (pe_op kb7 (pe_op kb7 kaf (pv 2)) (pv 2)))) kaf))
   (kah (kap (pe_op keG (pe_op kdP (pe_op keG (pe_op kb7 (pv 5) (pv 5)) kaf) kaf) (pv 3))))),?_⟩
  refine⟨_,rfl,_,rfl,a,ns,k,rfl,hS,hk.1,fun z=>⟨_,_,rfl,rfl,(by show(0:Int)<1000003;decide),_,_,rfl,rfl,?_⟩⟩
  refine⟨_,rfl,_,rfl,_,_,rfl,rfl, .inl ⟨by decide,by decide⟩,_,rfl,_,_,rfl,rfl, .inr ⟨by omega,by omega⟩,_,_,rfl,rfl,_,rfl,_,_,rfl,rfl, .inl ⟨by decide,by decide⟩,_,rfl,_,_,rfl,rfl, .inr ⟨by omega,by omega⟩,_,_,rfl,rfl,_,_,rfl,rfl, .inl ⟨by omega,by omega⟩,_,_,rfl,rfl,(by show(0:Int)<2147483647;decide),?_⟩
  generalize hx:(z%1000003+1)*(48271+1000*k*k+69621*t*t)%2147483647=x
  have x0:0≤x∧x<2147483647:=by omega
  refine⟨_,rfl,_,rfl,_,_,rfl,rfl, .inl ⟨by omega,by omega⟩,_,_,rfl,rfl,(by show(0:Int)<2147483629;decide),_,_,rfl,rfl,⟨by decide,by decide⟩,_,rfl,_,_,rfl,rfl,hm,?_⟩
  exact kk _ (Int.emod_nonneg _ (by omega)) (Int.emod_lt_of_pos _ hm)
inductive khu (K:Nt) (vs:List V) (H:Hp) (Q:VK) (E_:XK):Prop
 |ct (a:Addr)(ns:List Int)(k t:Int)(_:vs=[.ref a, .int k, .int t])(_:SqL K H a (ns.map V.int))(_:(0≤k∧k≤1000))(_:(0≤t∧t≤900))(_:∀z:Int,0≤z→z≤1000000000000→Q (.int z) H):khu K vs H Q E_
theorem V8:kao ["_law_script","_law_k","_law_salt","_law_how"] ["_law_script","_law_k","_law_salt"] (kag kcK):=by ac_rfl
theorem kfN(W:WB K mg d base):FO P w W 3 d.YK d.YL ["_law_script","_law_k","_law_salt"] (khu K):=by
 exists W.QF.F,V8
 ·obtain⟨a,ns,k,t,rfl,hS,hk,ht,kk⟩:=h
  exists qh,kaI,W
  refine⟨_,kac (psl (i:=3) V8.nd (pcl qh hr W.qj (kaa (pv 0) (kaa (pv 1) (kaa (pv 2) (kaa kaf kae))))))
   (kac (ps_if (kas op_lt (pv 3) kaf (kav _)) (kah (kap (pcl qh hr W.qj (kaa (pv 0) (kaa (pv 1) (kaa (pe_op kaz (pv 2) kaf) (kaa kaf kae))))))) (kat))
   (kac (ps_if (kas op_eq (pv 3) kaf (kav _)) (kah (kap (pe_op kb7 kaf (pcl qh hr W.qj (kaa (pv 0) (kaa (pv 1) (kaa (pe_op kaz (pv 2) kaf) (kaa kaf kae)))))))) (kat))
   (kah (kap (pe_op kaz (pe_op kb7 (pcl qh hr W.qj (kaa (pv 0) (kaa (pv 1) (kaa (pe_op kaz (pv 2) kaf) (kaa kaf kae))))) kaf) (pcl qh hr W.qj (kaa (pv 0) (kaa (pv 1) (kaa (pe_op kaz (pv 2) kaf) (kaa kaf kae)))))))))),?_⟩
  refine⟨_,rfl,_,rfl,_,rfl,a,ns,k,t,4,rfl,hS,hk,⟨by omega,by omega⟩,by decide,fun w w0 w1=>?_⟩
  refine⟨_,rfl,_,_,rfl,rfl,_,rfl,ite2 (fun _=>?_) (fun _=>?_)⟩
  ·exact⟨_,rfl,_,rfl,_,rfl,_,_,rfl,rfl,a,ns,k,t+1,10,rfl,hS,hk,⟨by omega,by omega⟩,by decide,fun z z0 z1=>kk z z0 (by omega)⟩
  refine⟨_,rfl,rfl,_,rfl,ite2 (fun _=>?_) (fun _=>?_)⟩
  ·exact⟨_,rfl,_,rfl,_,rfl,_,_,rfl,rfl,a,ns,k,t+1,40,rfl,hS,hk,⟨by omega,by omega⟩,by decide,fun z z0 z1=>⟨_,_,rfl,rfl, .inl ⟨by decide,by decide⟩,kk _ (by omega) (by omega)⟩⟩
  exact⟨_,rfl,_,rfl,_,rfl,_,_,rfl,rfl,a,ns,k,t+1,1000000,rfl,hS,hk,⟨by omega,by omega⟩,by decide,fun z z0 z1=>⟨_,_,rfl,rfl, .inr ⟨by decide,by decide⟩,_,rfl,_,rfl,_,rfl,_,_,rfl,rfl,a,ns,k,t+2,1000001,rfl,hS,hk,⟨by omega,by omega⟩,by decide,fun y y0 y1=>⟨_,_,rfl,rfl,kk _ (by omega) (by omega)⟩⟩⟩
inductive kk4 (K:Nt) (vs:List V) (H:Hp) (Q:VK) (E_:XK):Prop
 |ct (a:Addr)(ns:List Int)(_:vs=[.ref a])(_:SqL K H a (ns.map V.int))(_:∀(H':Hp)(p:Addr)(ps:List (Option Nat)),Same H H'→H p=none→H' p=some (.lst (ps.map pV))→Good ps→ps.length≤20→0<ps.length→Q (.ref p) H'):kk4 K vs H Q E_
theorem XQ:kao ["_law_script","_law_parents_here","_law_j"] ["_law_script"] (kag kcf):=by ac_rfl
theorem keM(W:WB K mg d base):FO P w W 3 d.YM d.YN ["_law_script"] (kk4 K):=by
 exists W.Vq.F,XQ
 ·obtain⟨a,ns,rfl,hS,kk⟩:=h
  exists qh,kaI,W
  refine⟨_,kac (psl (i:=1) XQ.nd (kaK kae))
   (kac (kbp PassesOwn.never rfl (kbq rfl W.B.range (kaa (pe_op kaz kaf (pcl qh hr W.qj (kaa (pv 0) (kaa kaf (kaa kaf (kaa kaf kae)))))) kae)) (pgn (i:=2) XQ.nd)
   (kah (ps_if (PW.pt (pw_or (kas op_eq (pv 2) kaf (kav _)) (ki7 (kas op_eq (pcl qh hr W.qj (kaa (pv 0) (kaa kaf (kaa (pe_op kaz kaf (pv 2)) (kaa kaf kae))))) kaf (kav _))))) (kah (kaS (pe_bm N4 Mu Mv ka5 (pv 1) (kaa ka1 kae)))) (kah (kaS (pe_bm N4 Mu Mv ka5 (pv 1) (kaa (pcl qh hr W.qj (kaa (pv 0) (kaa kaf (kaa (pe_op kaz kaf (pv 2)) (kaa (pv 2) kae))))) kae)))))))
   (kah (kap (pv 1)))),?_⟩
  refine⟨by decide,fun p hp=>?_⟩
  generalize hgH1:upd H p _=H1
  obtain⟨s1,(hp1:H1 p=some (.lst (([]:List (Option Nat)).map pV)))⟩:=kaF hgH1 hp
  refine⟨_,rfl,a,ns,0,1,6,rfl,s1.seq hS,⟨by decide,by decide⟩,⟨by decide,by decide⟩,by decide,fun m m0 m1=>⟨_,_,rfl,rfl,_,rfl,by omega,by omega,?_⟩⟩
  refine kbZ (fun i σ H'=>Same H H'∧∃(ps:List (Option Nat))(v2:Option V),σ=[some (.ref a),some (.ref p),v2]∧H' p=some (.lst (ps.map pV))∧ps.length=i∧Good ps)
   ⟨s1,[],none,rfl,hp1,rfl,kkG⟩ ?_ ?_
  ·rintro i σ H' hi ⟨s2,ps,v2,rfl,hp2,hl,hg⟩
   rw[Int.zero_add]
   have hi6:i<7:=by omega
   have fin:∀(o:Option Nat)(v2:Option V),(∀k,o=some k→k<ps.length)→ki4 (.ref p) [pV o] H' (fun _ H1=>Same H H1∧∃(ps':List (Option Nat))(v2':Option V),([some (.ref a),some (.ref p),v2]:St)=[some (.ref a),some (.ref p),v2']∧H1 p=some (.lst (ps'.map pV))∧ps'.length=i+1∧Good ps'):=by
    intro o v2 h
    refine⟨p,_,_,rfl,rfl,hp2,kan (by rw[Nr];omega),kaq hp s2,ps++[o],v2,rfl,?_,by simp[hl],kjN hg h⟩
    rw[kad]
    simp
   refine⟨_,rfl,rfl,_,rfl,ite2 (fun _=>iteT ⟨_,rfl, .inl ⟨rfl,_,SqL.of hp2⟩,fin none _ (fun k e=>by cases e)⟩) (fun h0=>?_)⟩
   refine⟨_,rfl,_,rfl,_,_,rfl,rfl,a,ns,0,10+(i:Int),3,rfl,s2.seq hS,⟨by decide,by decide⟩,⟨by omega,by omega⟩,by decide,fun y y0 y1=>⟨rfl,_,rfl,ite2 (fun _=>⟨_,rfl, .inl ⟨rfl,_,SqL.of hp2⟩,fin none _ (fun k e=>by cases e)⟩) (fun _=>?_)⟩⟩
   have hi0:0<i:=by
    rcases Nat.eq_zero_or_pos i with e|e
    ·exact absurd (by rw[e];decide) h0
    ·exact e
   refine⟨_,rfl, .inl ⟨rfl,_,SqL.of hp2⟩,_,rfl,_,rfl,_,_,rfl,rfl,_,rfl,a,ns,0,20+(i:Int),(i:Int),rfl,s2.seq hS,⟨by decide,by decide⟩,⟨by omega,by omega⟩,by omega,fun y y0 y1=>?_⟩
   obtain⟨n,en⟩:=Int.eq_ofNat_of_zero_le y0
   have q:=fin (some n) (some (.int i)) (fun k e=>by cases e;omega)
   rw[show pV (some n)=V.int y by rw[en];rfl] at q
   exact q
  ·rintro σ H' ⟨s2,ps,v2,rfl,hp2,hl,hg⟩
   exact⟨_,rfl,kk H' p ps s2 hp hp2 hg (by omega) (by omega)⟩
noncomputable def wrth(rs:List Row):List Int:=rs.map fun r=>r.pr*r.mn
inductive kiG (d:D) (vs:List V) (H:Hp) (Q:VK) (E_:XK):Prop
 |ct (b:Addr)(B:Bask)(_:vs=[.ref b])(_:BaskIs d.qe d.qg H b B)(_:B.rs.length≤12)(_:(∀r∈B.rs,r.Ok))(_:∀(H':Hp),Same H H'→0≤(wrth B.rs).sum→Q (.int (wrth B.rs).sum) H'):kiG d vs H Q E_
theorem kfA:kao ["_law_basket_here"] ["_law_basket_here"] (kag kcI):=by ac_rfl
theorem kfL(W:WB K mg d base):FO P w W 1 d.YZ d.Y0 ["_law_basket_here"] (kiG d):=by
 exists W.Vw.F,kfA
 ·obtain⟨b,B,rfl,hB,h12,hok,kk⟩:=h
  obtain⟨l,ls,⟨dxb,fsb,hb,lb1,lb2,lb3⟩,hl,hL⟩:=id hB
  refine⟨_,kah (kap (kau (r:=rSum K) (kbO rfl) (by rfl) W.B.sum b_sum (kaa (kbf (N:=["_law_line"]) (CompScope.plain rfl (by decide +kernel) (by decide +kernel) (by decide +kernel) (nd1 _)) rfl (kaG (K:=K) (kai (K:=K) (pv 0) rfl)) (fun _ _ _ _=>pgn (i:=0) (nd1 _)) (fun _ _ _ _=>(pe_op kb7 (kai (K:=K) (pv 0) rfl) (kai (K:=K) (pv 0) rfl)))) kae))),?_⟩
  refine⟨_,rfl,b,d.qg,dxb,fsb,_,rfl,hb,W.qg.cl,W.qz,lb1,l,rfl,⟨_,SqL.of hl⟩,kaO (xs:=ls.map V.ref) (fun i σ ys H'=>H'=H∧ys=((wrth B.rs).take i).map V.int∧∃v0:Option V,σ=[v0]) ⟨rfl,rfl,none,rfl⟩ (by rw[Nr,hL.len];exact NF (kan (by omega))) ?_ ?_ ?_⟩
  ·rintro i σ ys H' hi ⟨rfl,rfl,v0,rfl⟩
   refine⟨SqL.of hl,?_⟩
   rw[Nr,NH]
   unfold wrth
   rw[Nr,hL.len] at hi
   rw[Nr]
   omega
  ·rintro i y σ ys H' hy ⟨rfl,rfl,v0,rfl⟩
   obtain⟨a,ea,rfl⟩:=kbV hy
   obtain⟨r,er,dxl,fsl,ha,q1,q2,q3,q4⟩:=hL.at ea
   have ro:=hok r (NA er)
   refine⟨_,rfl,a,d.qe,dxl,fsl,_,rfl,ha,W.qe.cl,W.Qe,q2,_,rfl,a,d.qe,dxl,fsl,_,rfl,ha,W.qe.cl,W.qE,q3,_,_,rfl,rfl, .inl ⟨by have:=ro.pr0;omega,by have:=ro.pr1;omega⟩,rfl,?_,_,rfl⟩
   rw[kbl (r:=r.pr*r.mn) (by unfold wrth;rw[NC,er];rfl),Ny]
   rfl
  ·rintro σ ys H' ⟨rfl,rfl,v0,rfl⟩ D hD
   rw[Nr,Ml (by unfold wrth;rw[Nr,hL.len];exact Nv _)]
   refine⟨D,_,rfl,SqL.of kad,kk _ (kak hD) (kb5 fun z hz=>?_)⟩
   obtain⟨r,hr,rfl⟩:=NQ.mp hz
   have ro:=hok r hr
   exact Int.mul_nonneg ro.pr0 ro.mn0
theorem at5N{a b c e f:V}{i:Int}(h0:0≤i)(h5:i<5):∃v,atI [a,b,c,e,f] i=some v∧(v=a∨v=b∨v=c∨v=e∨v=f):=by
 obtain⟨n,rfl⟩:=Int.eq_ofNat_of_zero_le h0
 have hn:n<5:=by omega
 match n,hn with
 |0,_=>exact⟨a,rfl, .inl rfl⟩
 |1,_=>exact⟨b,rfl, .inr (.inl rfl)⟩
 |2,_=>exact⟨c,rfl, .inr (.inr (.inl rfl))⟩
 |3,_=>exact⟨e,rfl, .inr (.inr (.inr (.inl rfl)))⟩
 |4,_=>exact⟨f,rfl, .inr (.inr (.inr (.inr rfl)))⟩
inductive kiP (K:Nt) (vs:List V) (H:Hp) (Q:VK) (E_:XK):Prop
 |ct (a:Addr)(ns:List Int)(m:Nat)(_:vs=[.ref a,iV m])(_:SqL K H a (ns.map V.int))(_:m≤8)(_:∀(H':Hp)(h:Addr)(hand:List Int),Same H H'→H h=none→H' h=some (.lst (hand.map V.int))→hand.length=m→Q (.ref h) H'):kiP K vs H Q E_
theorem kgo:kao ["_law_script","_law_many"] ["_law_script","_law_many"] (kag kct):=by ac_rfl
theorem kgx(W:WB K mg d base):FO P w W 3 d.Y3 d.Y5 ["_law_script","_law_many"] (kiP K):=by
 exists W.Vy.F,kgo
 ·obtain⟨a,ns,m,rfl,hS,hm,kk⟩:=h
  exists qh,kaI,W
  refine⟨_,kah (kap (kbf (N:=["_law_j","_law_script"]) (CompScope.of (N:=["_law_j","_law_script"]) (cap:=[none,some 0]) (kag kct).names ["_law_script","_law_many"] rfl rfl (by decide +kernel)) rfl (kbq rfl W.B.range (kaa (pv 1) kae)) (fun _ _ _ _=>pgn (i:=0) (show(["_law_j","_law_script"]:List Str).Nodup by decide +kernel)) (fun _ _ _ _=>(pe_ix (r:=rIxL K) kaC (kaK (kaa kaf (kaa kaf (kaa kaf (kaa kaf (kaa kaf kae)))))) (pcl qh hr W.qj (kaa (pv 1) (kaa kaf (kaa (pe_op kaz kaf (pv 0)) (kaa kaf kae))))) (fun _ _=>rfl))))),?_⟩
  refine⟨_,rfl,_,rfl,by omega,by omega,?_⟩
  rw[Int.toNat_natCast]
  refine kfl (fun i σ ys H'=>Same H H'∧∃(hand:List Int)(v0:Option V),ys=hand.map V.int∧hand.length=i∧σ=[v0,some (.ref a)])
   ⟨Same.refl _,[],none,rfl,rfl,rfl⟩ (NF (kan (by omega))) (fun i σ ys H' hi h=>by obtain⟨_,o,v0,rfl,hl,_⟩:=h;rw[Nr];exact hl) ?_ ?_
  ·rintro i σ ys H' hi ⟨s1,hand,v0,rfl,hl,rfl⟩
   rw[Int.zero_add]
   refine⟨(by show 5≤sizeLine;decide),fun l hl'=>?_⟩
   have n2:=kak (o:=.lst [V.int 1,V.int 1,V.int 2,V.int 0,V.int 3]) hl'
   refine⟨_,rfl,_,rfl,_,_,rfl,rfl,a,ns,7,1+(i:Int),5,rfl,(s1.trans n2).seq hS,⟨by decide,by decide⟩,⟨by omega,by omega⟩,by decide,fun z z0 z1=>?_⟩
   obtain⟨v,e,hv⟩:=at5N (a:=.int 1) (b:=.int 1) (c:=.int 2) (e:=.int 0) (f:=.int 3) z0 z1
   obtain⟨k,rfl⟩:∃k:Int,v=.int k:=by rcases hv with rfl|rfl|rfl|rfl|rfl <;> exact⟨_,rfl⟩
   exact⟨l,_,_,_,rfl,rfl,SqL.of kad,e,s1.trans n2,hand++[k],_,by rw[Ny];rfl,by simp[hl],rfl⟩
  ·rintro σ ys H' ⟨s1,hand,v0,rfl,hl,rfl⟩ D hD
   exact kk _ D hand (s1.trans (kak hD)) (s1.free hD) kad hl
noncomputable def goM(T:TillD)(B:Bask)(hand:List Int)(order:List Nat):Bool:=match kcn T B hand order with
 |none=>true
 |some (_,z)=>decide (z=.str "only")
inductive kiQ (d:D) (vs:List V) (H:Hp) (Q:VK) (E_:XK):Prop
 |ct (t b h o:Addr)(T:TillD)(B:Bask)(hand:List Int)(order:List Nat)(_:vs=[.ref t, .ref b, .ref h, .ref o])(_:TillIs d H t T)(_:kcp T)(_:BaskIs d.qe d.qg H b B)(_:Wf T.ps B (stnd0 B))(_:H h=some (.lst (hand.map V.int)))(_:H o=some (.lst (order.map iV)))(_:hand.length=T.vs.length)(_:(∀n∈order,n<T.vs.length))(_:order.length<64)(_:∀(H':Hp)(g:Bool),Same H H'→g=goM T B hand order→Q (.bl g) H'):kiQ d vs H Q E_
theorem kjR{order:List Nat}{k:Nat}{z:L2.V}(hf:kcn T B hand order=some (k,z)):(∃s,z=.str s)∨z=.non:=by
 unfold kcn at hf
 simp only at hf
 split at hf
 ·split at hf
  ·cases hf
  ·injection hf with hf
   injection hf with _ hz
   subst hz
   unfold dueM
   split
   ·exact .inl ⟨_,rfl⟩
   ·unfold hindM
    split
    ·exact .inl ⟨_,rfl⟩
    ·split
     ·exact .inl ⟨_,rfl⟩
     ·split
      ·exact .inl ⟨_,rfl⟩
      ·exact .inr rfl
 ·split at hf
  ·cases hf
  ·injection hf with hf
   injection hf with _ hz
   exact .inl ⟨_,hz.symm⟩
theorem V9:kao ["_law_till_here","_law_basket_here","_law_hand_here","_law_order_here","_law_found"] ["_law_till_here","_law_basket_here","_law_hand_here","_law_order_here"] (kag kcN):=by ac_rfl
theorem kfQ(W:WB K mg d base):FO P w W 9 d.Y7 d.Y9 ["_law_till_here","_law_basket_here","_law_hand_here","_law_order_here"] (kiQ d):=by
 exists W.Vz.F,V9
 ·obtain⟨t,b,h,o,T,B,hand,order,rfl,hT,tok,hB,wf0,hh,ho,hl,hlt,h64,kk⟩:=h
  exists Qv,kfK,W
  refine⟨_,kac (psl (i:=4) V9.nd (pcl Qv hr W.QE (kaa (pv 0) (kaa (pv 1) (kaa (pv 2) (kaa (pv 3) kae))))))
   (kah (kap (pe_or (kby kdY (pv 4) ka1 (kav _)) (kjg (kby op_eq (pe_ix (r:=rIxT K) keU (pv 4) kaf (fun _ _=>rfl)) kbu (kav _)))))),?_⟩
  refine⟨_,rfl,_,rfl,_,rfl,_,rfl,t,b,h,o,T,B,hand,order,rfl,hT,tok,hB,wf0,hh,ho,hl,hlt,h64,fun H1 v s1 hF=>?_⟩
  cases e:kcn T B hand order with
  |none=>
   rw[e] at hF
   have ev:v=.non:=hF
   subst ev
   refine⟨_,rfl,rfl,_,rfl,?_⟩
   show if decide (V.non=V.non)=true then _ else _
   rw[show decide (V.non=V.non)=true by simp]
   exact iteT (kk H1 _ s1 (by unfold goM;rw[e]))
  |some p=>
   obtain⟨k,z⟩:=p
   rw[e] at hF
   obtain⟨a,rfl,ha⟩:=hF
   refine⟨_,rfl,rfl,_,rfl,?_⟩
   show if decide (V.ref a=V.non)=true then _ else _
   rw[show decide (V.ref a=V.non)=false by simp]
   refine iteF ⟨_,rfl,a,_,_,_,rfl,rfl,SqT.of ha,rfl,?_,kk H1 _ s1 (by unfold goM;rw[e])⟩
   rcases kjR e with⟨s,rfl⟩|rfl <;> rfl
theorem kjS:kcn T B hand []=none:=by
 have e:onlyM T.rs []=none:=by
  unfold onlyM
  rw[List.find?_eq_none.mpr fun r _=>by unfold loneM;simp]
  rfl
 have ew:walkM T B hand [] [] (stnd0 B)=([],stnd0 B):=rfl
 unfold kcn
 rw[ew]
 simp[e]
inductive khw (K:Nt) (d:D) (vs:List V) (H:Hp) (Q:VK) (E_:XK):Prop
 |ct (a t b h:Addr)(ns:List Int)(k:Int)(T:TillD)(B:Bask)(hand:List Int)(_:vs=[.ref a, .int k, .ref t, .ref b, .ref h])(_:SqL K H a (ns.map V.int))(_:(0≤k∧k≤900))(_:TillIs d H t T)(_:kcp T)(_:0<T.vs.length)(_:BaskIs d.qe d.qg H b B)(_:Wf T.ps B (stnd0 B))(_:H h=some (.lst (hand.map V.int)))(_:hand.length=T.vs.length)(_:∀(H':Hp)(o:Addr)(order:List Nat),Same H H'→H o=none→H' o=some (.lst (order.map iV))→(∀n∈order,n<T.vs.length)→order.length≤8→kcn T B hand order=none→Q (.ref o) H'):khw K d vs H Q E_
theorem qX:kao ["_law_script","_law_k","_law_till_here","_law_basket_here","_law_hand_here","_law_order_here","_law_most","_law_j","_law_number"] ["_law_script","_law_k","_law_till_here","_law_basket_here","_law_hand_here"] (kag kcL):=by ac_rfl
theorem kfO(W:WB K mg d base):FO P w W 10 d.Za d.Zb ["_law_script","_law_k","_law_till_here","_law_basket_here","_law_hand_here"] (khw K d):=by
 exists W.VA.F,qX
 ·obtain⟨a,t,b,h,ns,k,T,B,hand,rfl,hS,hk,hT,tok,hv0,hB,wf0,hh,hl,kk⟩:=h
  exists qh,kaI,W
  exists U8,kfQ,W
  exists Qv,kfK,W
  exists hr2,2,hr,0
  exists hr8,8,hr,0
  refine⟨_,kac (psl (i:=5) qX.nd (kaK kae))
   (kac (psl (i:=6) qX.nd kaf)
   (kac (kc8 (ps_if (PW.pt (kbL (kas op_lt (kau (r:=rSum K) (kbO rfl) (by rfl) W.B.sum b_sum (kaa (kbf (N:=["_law_line"]) (CompScope.plain rfl (by decide +kernel) (by decide +kernel) (by decide +kernel) (nd1 _)) rfl (kaG (K:=K) (kai (K:=K) (pv 3) rfl)) (fun _ _ _ _=>pgn (i:=0) (nd1 _)) (fun _ _ _ _=>(kai (K:=K) (pv 0) rfl))) kae)) kaf (kav _)) (kbx (kas op_eq (pcl qh hr2 W.qj (kaa (pv 0) (kaa kaf (kaa kaf (kaa kaf kae))))) kaf (kav _))))) (kah (psl (i:=6) qX.nd kaf)) (kat)))
   (kac (kbp PassesOwn.never rfl (kbq rfl W.B.range (kaa (pe_ix (r:=rIxL K) kaC (kaK (kaa kaf (kaa kaf kae))) (kaH kdG (by rfl) W.B.int b_int (kaa (kby op_eq (pv 6) kaf (kav _)) kae)) (fun _ _=>rfl)) kae)) (pgn (i:=7) qX.nd)
   (kac (psl (i:=8) qX.nd (pcl qh hr2 W.qj (kaa (pv 0) (kaa (pe_op kaz (pv 1) (pv 7)) (kaa kaf (kaa (kau (r:=ka6 K) kax (by rfl) W.B.len b_len (kaa (kai (K:=K) (pv 2) rfl) kae)) kae))))))
   (kah (ps_if (PW.pt (kbL (kas op_lt (kau (r:=ka6 K) kax (by rfl) W.B.len b_len (kaa (pv 5) kae)) (pv 6) (kav _)) (kbx (ka4 (pcl U8 hr W.Vz (kaa (pv 2) (kaa (pv 3) (kaa (pv 4) (kaa (pe_op keH (pv 5) (kaK (kaa (pv 8) kae))) kae))))))))) (kah (kaS (pe_bm N4 Mu Mv ka5 (pv 5) (kaa (pv 8) kae)))) (kat)))))
   (kac (khJ PassesOwn.never (kas kdm (pcl Qv hr8 W.QE (kaa (pv 2) (kaa (pv 3) (kaa (pv 4) (kaa (pv 5) kae))))) ka1 (kav _))
   (kah (kaS (kmx N4 PySem.F.slot_list_pop PySem.F.type_list_pop kmF (pv 5)))))
   (kah (kap (pv 5))))))),?_⟩
  exists Y4
  refine⟨by decide,fun o fo=>?_⟩
  generalize hgH1:upd H o _=H1
  obtain⟨s1,(eo1:H1 o=some (.lst (([]:List Nat).map iV)))⟩:=kaF hgH1 fo
  symm
  refine⟨fun σ H'=>Same H H'∧H' o=some (.lst (([]:List Nat).map iV))∧∃m:Int,(m=5∨m=8)∧σ=[some (.ref a),some (.int k),some (.ref t),some (.ref b),some (.ref h),some (.ref o),some (.int m),none,none],?_,?_⟩
  ·obtain⟨l,ls,⟨dxb,fsb,hb,lbl,lbc,lbm⟩,hlb,hL⟩:=id (hB.same s1)
   have hll:=hL.len
   have hnl:=wf0.nl
   symm
   exists Y6
   refine⟨_,rfl,b,d.qg,dxb,fsb,_,rfl,hb,W.qg.cl,W.qz,lbl,l,rfl,⟨_,SqL.of hlb⟩,kaO (xs:=ls.map V.ref) (fun i σ ys H'=>H'=H1∧(∃zs:List Int,ys=zs.map V.int∧zs.length=i)∧∃v,σ=[v]) ⟨rfl,⟨[],rfl,rfl⟩,none,rfl⟩ (by rw[Nr,hll];exact NF (kan (by omega))) ?_ ?_ ?_⟩
   ·rintro i σ ys H' hi ⟨rfl,⟨zs,rfl,hz⟩,_⟩
    nofun
    exact⟨SqL.of hlb,by rw[Nr];exact hz⟩
   ·rintro i y σ ys H' hy ⟨rfl,⟨zs,rfl,hz⟩,v,rfl⟩
    obtain⟨lx,el,rfl⟩:=kbV hy
    obtain⟨r,er⟩:=at_of (xs:=B.rs) (i:=i) (by have:=at_lt el;omega)
    obtain⟨dxl,fsl,hlx,lk1,lk2,lk3,lk4⟩:=hL.get el er
    nofun
    exact⟨_,rfl,lx,d.qe,dxl,fsl,_,rfl,hlx,W.qe.cl,W.qE,lk3,rfl,⟨zs++[r.mn],by rw[Ny];rfl,by rw[NI,hz];rfl⟩,_,rfl⟩
   ·rintro σ ys H' ⟨rfl,⟨zs,rfl,hz⟩,v,rfl⟩ D hD
    generalize hgH2:upd H' D _=H2
    obtain⟨n2,u2⟩:=kaF hgH2 hD
    have s2:=s1.trans n2
    nofun
    exists Y8
    refine⟨D,_,rfl,SqL.of u2,_,_,rfl,rfl,_,rfl,ite2 (fun _=>?_) (fun _=>?_)⟩
    ·refine⟨_,rfl,a,ns,7,20,4,rfl,s2.seq hS,⟨by decide,by decide⟩,⟨by decide,by decide⟩,by decide,fun z z0 z1=>⟨rfl,_,rfl,ite2 (fun _=>?_) (fun _=>?_)⟩⟩
     ·exact⟨s2,n2 _ _ eo1,8, .inr rfl,rfl⟩
     ·exact⟨s2,n2 _ _ eo1,5, .inl rfl,rfl⟩
    ·exact iteF ⟨s2,n2 _ _ eo1,5, .inl rfl,rfl⟩
  rintro σ H1' ⟨s1',eo1',m,hm,rfl⟩
  symm
  refine⟨(by show 2≤sizeLine;decide),fun q0 hq0=>?_⟩
  generalize hgH2p:upd H1' q0 _=H2'
  obtain⟨n2,u2⟩:=kaF hgH2p hq0
  symm
  exists Y4
  refine⟨_,rfl,rfl, .inr ⟨_,rfl,?_⟩⟩
  generalize decide (V.int m=V.int 8)=dm
  obtain⟨c,ec,hc⟩:∃c:Int,atI [V.int 5,V.int 12] (if dm=true then(1:Int) else 0)=some (.int c)∧0≤c∧c≤12:=by
   cases dm with
   |true=>exact⟨12,rfl,by omega,by omega⟩
   |false=>exact⟨5,rfl,by omega,by omega⟩
  symm
  exists Y4
  refine⟨q0,_,_,_,rfl,rfl,SqL.of u2,ec,_,rfl,by omega,by omega,?_⟩
  symm
  refine kbZ (fun i σ H'=>Same H H'∧∃(order:List Nat)(v7 v8:Option V),H' o=some (.lst (order.map iV))∧(∀n∈order,n<T.vs.length)∧order.length≤8∧σ=[some (.ref a),some (.int k),some (.ref t),some (.ref b),some (.ref h),some (.ref o),some (.int m),v7,v8])
   ⟨s1'.trans n2,[],none,none,n2 _ _ eo1',(fun n hn=>by simp at hn),by simp,rfl⟩ ?_ ?_
  ·rintro i σ H' hi ⟨s2,order,v7,v8,eo,hlt,hle,rfl⟩
   have hi12:i<12:=by omega
   rw[Int.zero_add]
   obtain⟨dx,fs,p,vl,rl,va,ra,ht,t1,t2,t3,t4,hp,hvl,hva,hrl,hra⟩:=id (hT.same s2)
   have lva:=hva.len
   symm
   exists Y6
   refine⟨_,rfl,_,rfl,_,rfl,_,_,rfl,rfl,_,rfl,t,d.qf,dx,fs,_,rfl,ht,W.qf.cl,W.qG,t2,vl,_,rfl, .inl (SqL.of hvl),a,ns,k+(i:Int),1,_,rfl,s2.seq hS,⟨by omega,by omega⟩,⟨by decide,by decide⟩,(by rw[Nr];omega),fun z z0 z1=>?_⟩
   rw[Nr,lva] at z1
   obtain⟨n,rfl⟩:=Int.eq_ofNat_of_zero_le z0
   have hn:n<T.vs.length:=by omega
   nofun
   exists Y6
   refine⟨_,rfl,o,_,rfl, .inl (SqL.of eo),_,rfl,_,_,rfl,rfl,_,rfl,ite2 (fun hlm=>?_) (fun _=>iteF ⟨s2,order,_,_,eo,hlt,hle,rfl⟩)⟩
   have hlm':order.length<8:=by
    have h1:(((order.map iV).length:Nat):Int)<m:=by simpa using hlm
    rw[Nr] at h1
    omega
   nofun
   exists Y6
   refine⟨_,rfl,_,rfl,_,rfl,_,rfl,_,rfl,(by show 1≤sizeLine;decide),fun q1 hq1=>?_⟩
   have n3:=kak (o:=.lst [V.int (n:Int)]) hq1
   nofun
   exists Y6
   refine⟨o,q1,_,_,rfl,rfl,n3 _ _ eo,kad,NF (kan (by rw[Nr];show _+1≤1000;omega)),fun q2 hq2=>?_⟩
   have n4:=kak (o:=.lst (order.map iV++[V.int (n:Int)])) hq2
   have eq2:(upd (upd H' q1 (.lst [V.int (n:Int)])) q2 (.lst (order.map iV++[V.int (n:Int)]))) q2=some (.lst ((order++[n]).map iV)):=by rw[kad,Ny];rfl
   have s34:=n3.trans n4
   generalize upd (upd H' q1 (.lst [V.int (n:Int)])) q2 (.lst (order.map iV++[V.int (n:Int)]))=H4 at *
   have s4:=s2.trans s34
   have eo4:=s34 _ _ eo
   have hlt':∀m∈order++[n],m<T.vs.length:=fun m hm=>by
    rcases N1.mp hm with h|h
    ·exact hlt m h
    ·have:m=n:=by simpa using h
     omega
   nofun
   exists Y6
   refine⟨t,b,h,q2,T,B,hand,order++[n],rfl,hT.same s4,tok,hB.same s4,wf0,s4 _ _ hh,eq2,hl,hlt',by rw[NI];show _+1<64;omega,fun H5 g s5 _=>⟨g,rfl,?_⟩⟩
   have s05:=s4.trans s5
   have eo5:=s5 _ _ eo4
   cases g with
   |true=>
    refine iteT ?_
    nofun
    exists Y8
    refine⟨_,rfl, .inl ⟨rfl,_,SqL.of eo5⟩,_,rfl,o,_,_,rfl,rfl,eo5,kan (by rw[Nr];omega),?_⟩
    exists 3
    exists Y8
    refine⟨kaq fo s05 (nx eo5),order++[n],_,_,?_,hlt',by rw[NI];show _+1≤_;omega,rfl⟩
    rw[kad,Ny]
    rfl
   |false=>exact iteF ⟨s05,order,_,_,eo5,hlt,by omega,rfl⟩
  ·rintro σ H' ⟨s2,order,v7,v8,eo,hlt,hle,rfl⟩
   have hle8:order.length≤8:=hle
   nofun
   refine khn (fun σ H'=>Same H H'∧∃(order:List Nat)(v7 v8:Option V),H' o=some (.lst (order.map iV))∧(∀n∈order,n<T.vs.length)∧order.length≤8∧σ=[some (.ref a),some (.int k),some (.ref t),some (.ref b),some (.ref h),some (.ref o),some (.int m),v7,v8])
    (fun _ H'=>match H' o with|some (.lst xs)=>xs.length|_=>0) ⟨s2,order,v7,v8,eo,hlt,hle8,rfl⟩ ?_ ?_
   ·rintro σ H3 ⟨s3,order,v7,v8,eo3,hlt,hle,rfl⟩
    nofun
    exists Y8
    refine⟨_,rfl,_,rfl,_,rfl,_,rfl,t,b,h,o,T,B,hand,order,rfl,hT.same s3,tok,hB.same s3,wf0,s3 _ _ hh,eo3,hl,hlt,by omega,fun H4 v s4 hF=>⟨rfl,_,rfl,?_⟩⟩
    have eo4:=s4 _ _ eo3
    cases e:kcn T B hand order with
    |none=>
     rw[e] at hF
     have ev:v=.non:=hF
     subst ev
     rw[show(!decide (V.non=V.non))=false by simp]
     refine iteF ?_
     exists 3
     exact⟨_,rfl,kk H4 o order (s3.trans s4) fo eo4 hlt hle e⟩
    | some pz=>
     obtain⟨kz,z⟩:=pz
     rw[e] at hF
     obtain⟨fa,rfl,hfa⟩:=hF
     rw[show(!decide (V.ref fa=V.non))=true by simp]
     have h0:order≠[]:=fun z=>by
      rw[z,kjS] at e
      cases e
     have hpos:0<order.length:=List.length_pos_iff.mpr h0
     obtain⟨y,ey⟩:=at_of (xs:=order) (i:=order.length-1) (by omega)
     refine iteT ?_
     exists 3
     exists Y10
     refine⟨_,rfl, .inl ⟨rfl,_,SqL.of eo4⟩,o,_,iV y,rfl,rfl,eo4,(by rw[Nr,NC,ey];rfl),?_⟩
     rw[←List.map_dropLast]
     exists 5
     exists Y10
     refine⟨⟨kaq fo (s3.trans s4) (nx eo4),order.dropLast,_,_,kad,fun n hn=>hlt n ((List.dropLast_sublist order).subset hn),by rw[E5];omega,rfl⟩,?_⟩
     show(match(upd H4 o _) o with|some (.lst xs)=>xs.length|_=>0)<(match H3 o with|some (.lst xs)=>xs.length|_=>0)
     rw[kad,eo3]
     show(order.dropLast.map iV).length<(order.map iV).length
     rw[Nr,Nr,E5]
     omega
   ·rintro σ H' Q' Q'' hq ⟨x0,g0,x1,g1,x2,g2,x3,g3,t',b',h',o',T',B',hd',od',e,a1,a2,a3,a4,a5,a6,a7,a8,a9,kz⟩
    exists 3
    exists Y8
    refine⟨x0,g0,x1,g1,x2,g2,x3,g3,t',b',h',o',T',B',hd',od',e,a1,a2,a3,a4,a5,a6,a7,a8,a9,fun H1 v z1 hF=>?_⟩
    obtain⟨r,c,e2,q⟩:=kz H1 v z1 hF
    exists 3
    exact⟨r,c,e2,hq _ _ q⟩
inductive khs (K:Nt) (vs:List V) (H:Hp) (Q:VK) (E_:XK):Prop
 |ct (a:Addr)(ns:List Int)(m:Nat)(_:vs=[.ref a,iV m])(_:SqL K H a (ns.map V.int))(_:0<m)(_:∀(H':Hp)(l:Addr)(ra:List Addr)(rs:List Rul),Same H H'→H l=none→H' l=some (.lst (ra.map V.ref))→P2 (fun a r=>RulIs H' a r) ra rs→rs.length≤20→Q (.ref l) H'):khs K vs H Q E_
theorem QU:kao ["_law_script","_law_many","_law_rules_here","_law_j","_law_word"] ["_law_script","_law_many"] (kag kcJ):=by ac_rfl
theorem kfM(W:WB K mg d base):FO P w W 3 d.YX d.YY ["_law_script","_law_many"] (khs K):=by
 exists W.Vv.F,QU
 ·obtain⟨a,ns,m,rfl,hS,hm,kk⟩:=h
  exists qh,kaI,W
  refine⟨_,kac (psl (i:=2) QU.nd (kaK kae))
   (kac (kbp PassesOwn.never rfl (kbq rfl W.B.range (kaa (pcl qh hr W.qj (kaa (pv 0) (kaa kaf (kaa kaf (kaa kaf kae))))) kae)) (pgn (i:=3) QU.nd)
   (kac (psl (i:=4) QU.nd (pe_ix (r:=rIxL K) kaC (kaK (kaa kbu (kaa kbu (kaa kbu kae)))) (pcl qh hr W.qj (kaa (pv 0) (kaa kaf (kaa (pe_op kaz kaf (pv 3)) (kaa kaf kae))))) (fun _ _=>rfl)))
   (kah (kaS (pe_bm N4 Mu Mv ka5 (pv 2) (kaa (ka0 (kaa (pv 4) (kaa (pcl qh hr W.qj (kaa (pv 0) (kaa kaf (kaa (pe_op kaz kaf (pv 3)) (kaa (pv 1) kae))))) (kaa (pcl qh hr W.qj (kaa (pv 0) (kaa kaf (kaa (pe_op kaz kaf (pv 3)) (kaa (pv 1) kae))))) kae)))) kae))))))
   (kah (kap (pv 2)))),?_⟩
  exists Y4
  refine⟨by decide,fun l fl=>?_⟩
  generalize hgH1:upd H l _=H1
  obtain⟨s1,(el1:H1 l=some (.lst (([]:List Addr).map V.ref)))⟩:=kaF hgH1 fl
  symm
  exists Y4
  refine⟨_,rfl,a,ns,5,1,4,rfl,s1.seq hS,⟨by decide,by decide⟩,⟨by decide,by decide⟩,by decide,fun c c0 c1=>⟨_,rfl,by omega,by omega,?_⟩⟩
  symm
  refine kbZ (fun i σ H'=>Same H H'∧∃(ra:List Addr)(rs:List Rul)(v3 v4:Option V),H' l=some (.lst (ra.map V.ref))∧P2 (fun a r=>RulIs H' a r) ra rs∧rs.length=i∧σ=[some (.ref a),some (iV m),some (.ref l),v3,v4])
   ⟨s1,[],[],none,none,el1, .nil,rfl,rfl⟩ ?_ ?_
  ·rintro i σ H' hi ⟨s2,ra,rs,v3,v4,el,hr,hlen,rfl⟩
   have hi4:i<4:=by omega
   rw[Int.zero_add]
   symm
   exists Y6
   refine⟨(by show 3≤sizeLine;decide),fun q1 hq1=>?_⟩
   have n3:=kak (o:=.lst [V.str "only",V.str "never",V.str "ahead"]) hq1
   have e3:(upd H' q1 (.lst [V.str "only",V.str "never",V.str "ahead"])) q1=some (.lst [V.str "only",V.str "never",V.str "ahead"]):=kad
   have el3:=n3 _ _ el
   have s3:=s2.trans n3
   have hr3:P2 (fun a r=>RulIs (upd H' q1 (.lst [V.str "only",V.str "never",V.str "ahead"])) a r) ra rs:=hr.mono fun a r h=>n3 _ _ h
   clear n3
   generalize upd H' q1 (.lst [V.str "only",V.str "never",V.str "ahead"])=H3 at *
   nofun
   exists Y6
   refine⟨_,rfl,_,rfl,_,_,rfl,rfl,a,ns,5,10+(i:Int),3,rfl,s3.seq hS,⟨by decide,by decide⟩,⟨by omega,by omega⟩,by decide,fun z z0 z1=>?_⟩
   obtain⟨v,ev,hv⟩:∃v,atI [V.str "only",V.str "never",V.str "ahead"] z=some v∧∃w:Str,v=.str w:=by
    obtain⟨n,rfl⟩:=Int.eq_ofNat_of_zero_le z0
    have hn:n<3:=by omega
    match n,hn with
    |0,_=>exact⟨_,rfl,_,rfl⟩
    |1,_=>exact⟨_,rfl,_,rfl⟩
    |2,_=>exact⟨_,rfl,_,rfl⟩
   obtain⟨wd,rfl⟩:=hv
   nofun
   exists Y6
   refine⟨q1,_,_,_,rfl,rfl,SqL.of e3,ev,?_⟩
   nofun
   exists Y6
   refine⟨_,rfl, .inl ⟨rfl,_,SqL.of el3⟩,_,rfl,_,rfl,_,rfl,_,_,rfl,rfl,_,rfl,a,ns,5,20+(i:Int),(m:Int),rfl,s3.seq hS,⟨by decide,by decide⟩,⟨by omega,by omega⟩,by omega,fun x x0 x1=>?_⟩
   nofun
   exists Y6
   refine⟨_,rfl,_,rfl,_,_,rfl,rfl,_,rfl,a,ns,5,30+(i:Int),(m:Int),rfl,s3.seq hS,⟨by decide,by decide⟩,⟨by omega,by omega⟩,by omega,fun y y0 y1=>⟨(by show 3≤sizeLine;decide),fun q hq=>?_⟩⟩
   obtain⟨xn,rfl⟩:=Int.eq_ofNat_of_zero_le x0
   obtain⟨yn,rfl⟩:=Int.eq_ofNat_of_zero_le y0
   have n4:=kak (o:=.tup [V.str wd,V.int (xn:Int),V.int (yn:Int)]) hq
   have e4:(upd H3 q (.tup [V.str wd,V.int (xn:Int),V.int (yn:Int)])) q=some (.tup [V.str wd,V.int (xn:Int),V.int (yn:Int)]):=kad
   have el4:=n4 _ _ el3
   have s4:=s3.trans n4
   have hr4:P2 (fun a r=>RulIs (upd H3 q (.tup [V.str wd,V.int (xn:Int),V.int (yn:Int)])) a r) ra rs:=hr3.mono fun a r h=>n4 _ _ h
   clear n4
   generalize upd H3 q (.tup [V.str wd,V.int (xn:Int),V.int (yn:Int)])=H4 at *
   nofun
   exists Y6
   refine⟨l,_,_,rfl,rfl,el4,kan (by rw[Nr,hr.len];omega),?_⟩
   have b5:But l H4 (upd H4 l (.lst (ra.map V.ref++[V.ref q]))):=kar (nx el4)
   nofun
   exists Y6
   refine⟨kaq fl s4 (nx el4),ra++[q],rs++[⟨wd,xn,yn⟩],_,_,by rw[kad,Ny];rfl,P2.snoc (hr4.mono fun a r h=>b5 _ _ (ne_of h el4 (by intro z;cases z)) h) (b5 _ _ (ne_of e4 el4 (by intro z;cases z)) e4),by rw[NI,hlen];rfl,rfl⟩
  ·rintro σ H' ⟨s2,ra,rs,v3,v4,el,hr,hlen,rfl⟩
   nofun
   exact⟨_,rfl,kk H' l ra rs s2 fl el hr (by omega)⟩
inductive khB (K:Nt) (vs:List V) (H:Hp) (Q:VK) (E_:XK):Prop
 |ct (a:Addr)(ns:List Int)(k t w:Int)(_:vs=[.ref a, .int k, .int t, .int w])(_:SqL K H a (ns.map V.int))(_:(0≤k∧k≤1000))(_:(0≤t∧t≤900))(_:0≤w)(_:∀(H':Hp)(z:Int),Same H H'→0≤z→z≤1000000000000→Q (.int z) H'):khB K vs H Q E_
theorem XR:kao ["_law_script","_law_k","_law_salt","_law_worth_here","_law_how","_law_some_here"] ["_law_script","_law_k","_law_salt","_law_worth_here"] (kag kcv):=by ac_rfl
theorem kc9(W:WB K mg d base):FO P w W 3 d.YR d.YS ["_law_script","_law_k","_law_salt","_law_worth_here"] (khB K):=by
 exists W.Qc.F,XR
 ·obtain⟨a,ns,k,t,wo,rfl,hS,hk,ht,hw,kk⟩:=h
  exists qh,kaI,W
  refine⟨_,kac (psl (i:=4) XR.nd (pcl qh hr W.qj (kaa (pv 0) (kaa (pv 1) (kaa (pv 2) (kaa kaf kae))))))
   (kac (psl (i:=5) XR.nd (kaK (kaa (pcl qh hr W.qj (kaa (pv 0) (kaa (pv 1) (kaa (pe_op kaz (pv 2) kaf) (kaa kaf kae))))) (kaa (pv 3) (kaa (pe_op kaz (pv 3) kaf) (kaa (pe_op kdP (pv 3) kaf) (kaa (pe_op kdP (pv 3) kaf) kae)))))))
   (kac (kaS (pe_bm N4 Mu Mv ka5 (pv 5) (kaa (pcl qh hr W.qj (kaa (pv 0) (kaa (pv 1) (kaa (pe_op kaz (pv 2) kaf) (kaa kaf kae))))) kae)))
   (kah (kap (kau (kdE rfl) (by rfl) W.B.min b_min (kaa kaf (kaa (pe_ix (r:=rIxL K) kaC (pv 5) (pv 4) (fun _ _=>rfl)) kae))))))),?_⟩
  refine⟨_,rfl,_,rfl,_,rfl,a,ns,k,t,6,rfl,hS,hk,⟨by omega,by omega⟩,by decide,fun c c0 c1=>?_⟩
  refine⟨_,rfl,_,rfl,_,rfl,_,_,rfl,rfl,a,ns,k,t+1,10,rfl,hS,hk,⟨by omega,by omega⟩,by decide,fun x x0 x1=>⟨_,rfl,_,rfl,_,_,rfl,rfl,_,rfl,_,_,rfl,rfl,⟨by decide,by decide⟩,_,rfl,_,_,rfl,rfl,⟨by decide,by decide⟩,(by show 5≤sizeLine;decide),fun l fl=>?_⟩⟩
  generalize hgH1:upd H l _=H1
  obtain⟨s1,(e1:H1 l=some (.lst ([x,wo,wo+1,wo/2,wo/5].map V.int)))⟩:=kaF hgH1 fl
  refine⟨_,rfl, .inl ⟨rfl,_,SqL.of e1⟩,_,rfl,_,rfl,_,rfl,_,_,rfl,rfl,a,ns,k,t+1,1000000,rfl,s1.seq hS,hk,⟨by omega,by omega⟩,by decide,fun y y0 y1=>⟨l,_,_,rfl,rfl,e1,kan (by show 5≤1000;decide),?_⟩⟩
  have s2:Same H (upd H1 l (.lst ([x,wo,wo+1,wo/2,wo/5].map V.int++[V.int y]))):=kaq fl s1 (nx e1)
  have e2:(upd H1 l (.lst ([x,wo,wo+1,wo/2,wo/5].map V.int++[V.int y]))) l=some (.lst ([x,wo,wo+1,wo/2,wo/5,y].map V.int)):=kad
  generalize upd H1 l (.lst ([x,wo,wo+1,wo/2,wo/5].map V.int++[V.int y]))=H2 at *
  obtain⟨z,ez,hz⟩:=pickI (zs:=[x,wo,wo+1,wo/2,wo/5,y]) (m:=c) c0 (by show _<(6:Int);exact c1)
  have hz0:0≤z:=by
   simp only[NO,Mi,or_false] at hz
   omega
  refine⟨_,rfl,_,rfl,l,_,_,_,rfl,rfl,SqL.of e2,ez,_,_,rfl,kk H2 _ s2 ?_ ?_⟩
  ·split <;> omega
  ·split <;> omega
noncomputable def MkV(d:D)(H:Hp)(v:V)(M:Mks):Prop:=(v=.non∧M=mks0)∨∃mA,v=.ref mA∧MksIs d.qi H mA M
theorem MkV.same{d:D}{H H':Hp}{v:V}{M:Mks}(s:Same H H'):MkV d H v M→MkV d H' v M
 | .inl h=>.inl h
 | .inr ⟨mA,e,h⟩=>.inr ⟨mA,e,h.same s⟩
inductive khx (K:Nt) (d:D) (vs:List V) (H:Hp) (Q:VK) (E_:XK):Prop
 |ct (a:Addr)(ns:List Int)(k w:Int)(ps:List (Option Nat))(_:vs=[.ref a, .int k,iV ps.length, .int w])(_:SqL K H a (ns.map V.int))(_:(0≤k∧k≤1000))(_:0<ps.length)(_:0≤w)(_:∀(H':Hp)(v:V)(M:Mks),Same H H'→MkV d H' v M→MksOk ps M→Q v H'):khx K d vs H Q E_
theorem qK:kao ["_law_script","_law_k","_law_kinds","_law_worth_here","_law_kind","_law_least","_law_bound","_law_bits"] ["_law_script","_law_k","_law_kinds","_law_worth_here"] (kag kcM):=by ac_rfl
theorem kfP(W:WB K mg d base):FO P w W 4 d.YT d.YU ["_law_script","_law_k","_law_kinds","_law_worth_here"] (khx K d):=by
 exists W.Vt.F,qK
 ·obtain⟨a,ns,k,wo,ps,rfl,hS,hk,hp0,hw,kk⟩:=h
  exists qh,kaI,W
  exists Qy,kc9,W
  exists Xw,kdy,W
  exists hr2,2,hr,0
  refine⟨_,kac (ps_if (kas op_eq (pcl qh hr2 W.qj (kaa (pv 0) (kaa (pv 1) (kaa kaf (kaa kaf kae))))) kaf (kav _)) (kah (kap ka1)) (kat))
   (kac (psl (i:=4) qK.nd ka1)
   (kac (kc8 (ps_if (kas op_eq (pcl qh hr2 W.qj (kaa (pv 0) (kaa (pv 1) (kaa kaf (kaa kaf kae))))) kaf (kav _)) (kah (psl (i:=4) qK.nd (pcl qh hr2 W.qj (kaa (pv 0) (kaa (pv 1) (kaa kaf (kaa (pv 2) kae))))))) (kat)))
   (kac (psl (i:=5) qK.nd kaf)
   (kac (kc8 (ps_if (kas op_eq (pcl qh hr2 W.qj (kaa (pv 0) (kaa (pv 1) (kaa kaf (kaa kaf kae))))) kaf (kav _)) (kah (psl (i:=5) qK.nd (pcl Qy hr W.Qc (kaa (pv 0) (kaa (pv 1) (kaa kaf (kaa (pv 3) kae))))))) (kat)))
   (kac (psl (i:=6) qK.nd ka1)
   (kac (kc8 (ps_if (kas op_eq (pcl qh hr2 W.qj (kaa (pv 0) (kaa (pv 1) (kaa kaf (kaa kaf kae))))) kaf (kav _)) (kah (psl (i:=6) qK.nd (pcl Qy hr W.Qc (kaa (pv 0) (kaa (pv 1) (kaa kaf (kaa (pv 3) kae))))))) (kat)))
   (kac (psl (i:=7) qK.nd (pcl qh hr2 W.qj (kaa (pv 0) (kaa (pv 1) (kaa kaf (kaa kaf kae))))))
   (kah (kap (kaT (W.QH.mk' W.qi) Xw hr2 rfl W.qi.m W.QH.b .nil pass0 (kaa (pv 4) (kaa (pv 5) (kaa (pv 6) (kaa (kby op_eq (pe_op keG (pv 7) kaf) kaf (kav _)) (kaa (kby op_eq (pe_op keG (pv 7) kaf) kaf (kav _)) (kaa (kby op_eq (pe_op keG (pv 7) kaf) kaf (kav _)) kae)))))))))))))))),?_⟩
  refine⟨_,rfl,_,rfl,a,ns,k,1,3,rfl,hS,hk,⟨by decide,by decide⟩,by decide,fun c c0 c1=>⟨rfl,_,rfl,ite2 (fun _=>?_) (fun _=>?_)⟩⟩
  ·exact kk H _ mks0 (Same.refl _) (.inl ⟨rfl,rfl⟩) ⟨(fun k e=>by cases e),⟨by decide,by decide⟩,(fun m e=>by cases e)⟩
  refine⟨fun σ H'=>H'=H∧∃kd:Option Nat,(∀k,kd=some k→k<ps.length)∧σ=[some (.ref a),some (.int k),some (iV ps.length),some (.int wo),some (pV kd),none,none,none],?_,?_⟩
  ·refine⟨_,rfl,_,rfl,a,ns,k,2,3,rfl,hS,hk,⟨by decide,by decide⟩,by decide,fun c c0 c1=>⟨rfl,_,rfl,ite2 (fun _=>?_) (fun _=>⟨rfl,none,(fun k e=>by cases e),rfl⟩)⟩⟩
   refine⟨_,rfl,_,rfl,_,rfl,a,ns,k,3,_,rfl,hS,hk,⟨by decide,by decide⟩,(by show(0:Int)<(ps.length:Int);omega),fun z z0 z1=>?_⟩
   obtain⟨n,rfl⟩:=Int.eq_ofNat_of_zero_le z0
   exact⟨rfl,some n,(fun k e=>by cases e;have:(n:Int)<(ps.length:Int):=z1;omega),rfl⟩
  rintro σ H' ⟨rfl,kd,hkd,rfl⟩
  refine⟨fun σ H1=>Same H' H1∧∃nd:Int,(0≤nd∧nd≤1000000000000)∧σ=[some (.ref a),some (.int k),some (iV ps.length),some (.int wo),some (pV kd),some (.int nd),none,none],?_,?_⟩
  ·refine⟨_,rfl,_,rfl,a,ns,k,4,4,rfl,hS,hk,⟨by decide,by decide⟩,by decide,fun c c0 c1=>⟨rfl,_,rfl,ite2 (fun _=>?_) (fun _=>⟨Same.refl _,0,⟨by decide,by decide⟩,rfl⟩)⟩⟩
   exact⟨_,rfl,_,rfl,_,rfl,a,ns,k,5,wo,rfl,hS,hk,⟨by decide,by decide⟩,hw,fun H1 z s1 z0 z1=>⟨s1,z,⟨z0,z1⟩,rfl⟩⟩
  rintro σ H1 ⟨s1,nd,hnd,rfl⟩
  refine⟨fun σ H2=>Same H1 H2∧∃mo:Option Int,(∀m,mo=some m→0≤m∧m≤1000000000000)∧σ=[some (.ref a),some (.int k),some (iV ps.length),some (.int wo),some (pV kd),some (.int nd),some (oV mo),none],?_,?_⟩
  ·refine⟨_,rfl,_,rfl,a,ns,k,8,3,rfl,s1.seq hS,hk,⟨by decide,by decide⟩,by decide,fun c c0 c1=>⟨rfl,_,rfl,ite2 (fun _=>?_) (fun _=>⟨Same.refl _,none,(fun m e=>by cases e),rfl⟩)⟩⟩
   exact⟨_,rfl,_,rfl,_,rfl,a,ns,k,9,wo,rfl,s1.seq hS,hk,⟨by decide,by decide⟩,hw,fun H2 z s2 z0 z1=>⟨s2,some z,(fun m e=>by cases e;exact⟨z0,z1⟩),rfl⟩⟩
  rintro σ H2 ⟨s2,mo,hmo,rfl⟩
  have s12:=s1.trans s2
  refine⟨_,rfl,_,rfl,a,ns,k,12,60,rfl,s12.seq hS,hk,⟨by decide,by decide⟩,by decide,fun bt b0 b1=>?_⟩
  refine⟨_,rfl,_,rfl,_,rfl,_,rfl,_,_,rfl,rfl,(by show(0:Int)<5;decide),rfl,_,rfl,_,_,rfl,rfl,(by show(0:Int)<4;decide),rfl,_,rfl,_,_,rfl,rfl,(by show(0:Int)<3;decide),rfl,?_⟩
  generalize decide (V.int (bt%5)=V.int 0)=m1
  generalize decide (V.int (bt%4)=V.int 0)=m2
  generalize decide (V.int (bt%3)=V.int 0)=m3
  exact khY (M:=⟨kd,nd,mo,m1,m2,m3⟩) fun H3 mA s3 f3 hM=>kk H3 _ _ (s12.trans s3) (.inr ⟨mA,rfl,hM⟩) ⟨hkd,hnd,hmo⟩
theorem keQ{d:D}{H:Hp}{so:Srt}{is:Srt→Prop}{mv:V}{M:Mks}{R:Addr→Hp→Prop}{E:XK}(hi:is so)(hh:here so=true)(hM:MkV d H mv M)(k:∀(H':Hp)(x:Addr),Same H H'→H x=none→VchIs d H' x ⟨so,M⟩→R x H')(htb:Tbs d H:=by assumption):
  ∀x dx,H x=none→H dx=none→dx≠x→kdt (clsOf d so) d.qi is (.ref x::(kfv so++[mv])) (upd (upd H dx (.own x)) x (.ins (clsOf d so) dx [])) (fun v H2=>v=.non∧R x H2) E:=by
 rcases hM with⟨rfl,rfl⟩|⟨mA,rfl,h⟩
 ·exact kl1 hi hh k htb
 ·exact kmG hi hh h k htb
inductive kk0 (K:Nt) (d:D) (vs:List V) (H:Hp) (Q:VK) (E_:XK):Prop
 |ct (a:Addr)(ns:List Int)(k w:Int)(ps:List (Option Nat))(_:vs=[.ref a, .int k,iV ps.length, .int w])(_:SqL K H a (ns.map V.int))(_:(0≤k∧k≤1000))(_:0<ps.length)(_:0≤w)(_:Tbs d H)(_:∀(H':Hp)(v:Addr)(V:Vch),Same H H'→H v=none→VchIs d H' v V→VchOk ps V→Q (.ref v) H'):kk0 K d vs H Q E_
theorem QV:kao ["_law_script","_law_k","_law_kinds","_law_worth_here","_law_marks_here","_law_how","_law_share"] ["_law_script","_law_k","_law_kinds","_law_worth_here"] (kag kcd):=by ac_rfl
theorem keK(W:WB K mg d base):FO P w W 6 d.YV d.YW ["_law_script","_law_k","_law_kinds","_law_worth_here"] (kk0 K d):=by
 exists W.Vu.F,QV
 ·obtain⟨a,ns,k,wo,ps,rfl,hS,hk,hp0,hw,htb0,kk⟩:=h
  exists U9,kfP,W
  exists qh,kaI,W
  exists Ja,kg7,W
  exists Qy,kc9,W
  exists Jb,kfS,W
  exists Jc,keg,W
  exists Jd,ke8,W
  exists Je,keh,W
  exists hr2,2,hr,0
  exists hr3,3,hr,0
  exists hr4,4,hr,0
  refine⟨_,kac (psl (i:=4) QV.nd (pcl U9 hr4 W.Vt (kaa (pv 0) (kaa (pv 1) (kaa (pv 2) (kaa (pv 3) kae))))))
   (kac (psl (i:=5) QV.nd (pcl qh hr2 W.qj (kaa (pv 0) (kaa (pv 1) (kaa kaf (kaa kaf kae))))))
   (kac (ps_if (kas op_eq (pv 5) kaf (kav _)) (kah (kap (kaT (W.Xg.mk' W.c_Off) Ja hr rfl W.c_Off.m W.Xg.b .nil pass0 (kaa (pcl Qy hr3 W.Qc (kaa (pv 0) (kaa (pv 1) (kaa kaf (kaa (pv 3) kae))))) (kaa (pv 4) kae))))) (kat))
   (kac (ps_if (kas op_eq (pv 5) kaf (kav _)) (kac (psl (i:=6) QV.nd (pe_ix (r:=rIxL K) kaC (kaK (kaa kaf (kaa kaf (kaa (pe_op kaz kaf (pcl qh hr2 W.qj (kaa (pv 0) (kaa (pv 1) (kaa kaf (kaa kaf kae)))))) kae)))) (pcl qh hr2 W.qj (kaa (pv 0) (kaa (pv 1) (kaa kaf (kaa kaf kae))))) (fun _ _=>rfl)))
   (kah (kap (kaT (W.Xh.mk' W.ql) Jb hr rfl W.ql.m W.Xh.b .nil pass0 (kaa (pv 6) (kaa (kby op_eq (pcl qh hr2 W.qj (kaa (pv 0) (kaa (pv 1) (kaa kaf (kaa kaf kae))))) kaf (kav _)) (kaa (pv 4) kae))))))) (kat))
   (kac (ps_if (kas op_eq (pv 5) kaf (kav _)) (kah (kap (kaT (W.Xi.mk' W.qo) Jc hr rfl W.qo.m W.Xi.b .nil pass0 (kaa (pe_op kaz kaf (pcl qh hr2 W.qj (kaa (pv 0) (kaa (pv 1) (kaa kaf (kaa (pe_ix (r:=rIxL K) kaC (kaK (kaa kaf (kaa kaf kae))) (pcl qh hr2 W.qj (kaa (pv 0) (kaa (pv 1) (kaa kaf (kaa kaf kae))))) (fun _ _=>rfl)) kae)))))) (kaa (pv 4) kae))))) (kat))
   (kac (ps_if (kas op_eq (pv 5) kaf (kav _)) (kah (kap (kaT (W.Xj.mk' W.qm) Jd hr rfl W.qm.m W.Xj.b .nil pass0 (kaa (pe_op kaz kaf (pcl qh hr2 W.qj (kaa (pv 0) (kaa (pv 1) (kaa kaf (kaa kaf kae)))))) (kaa (pcl Qy hr3 W.Qc (kaa (pv 0) (kaa (pv 1) (kaa kaf (kaa (pe_op kdP (pv 3) kaf) kae))))) (kaa (pv 4) kae)))))) (kat))
   (kah (kap (kaT (W.Xk.mk' W.qp) Je hr rfl W.qp.m W.Xk.b .nil pass0 (kaa (pv 4) kae))))))))),?_⟩
  exists Y4
  refine⟨_,rfl,_,rfl,_,rfl,_,rfl,a,ns,k,wo,ps,rfl,hS,hk,hp0,hw,fun H1 mv M s1 hM mok=>?_⟩
  symm
  exists Y4
  refine⟨_,rfl,_,rfl,a,ns,k,20,5,rfl,s1.seq hS,hk,⟨by decide,by decide⟩,by decide,fun c c0 c1=>?_⟩
  have fin:∀{so:Srt}{H2:Hp},Same H H2→SrtOk so→∀(H3:Hp)(x:Addr),Same H2 H3→H2 x=none→VchIs d H3 x ⟨so,M⟩→Q (.ref x) H3:=fun {so H2} z ho H3 x s3 f3 hV=>kk H3 x _ (z.trans s3) (z.free f3) hV ⟨ho,mok⟩
  symm
  exists Y4
  refine⟨_,rfl,rfl,_,rfl,ite2 (fun _=>?_) (fun _=>?_)⟩
  ·refine⟨_,rfl,_,rfl,_,rfl,a,ns,k,21,wo,rfl,s1.seq hS,hk,⟨by decide,by decide⟩,hw,fun H2 z s2 z0 z1=>⟨_,rfl,keQ (so:=.off z) ⟨_,rfl⟩ rfl (hM.same s2) (fin (s1.trans s2) ⟨z0,z1⟩) (Tbs.same (s1.trans s2) htb0)⟩⟩
  symm
  exists Y4
  refine⟨_,rfl,rfl,_,rfl,ite2 (fun _=>?_) (fun _=>?_)⟩
  ·refine⟨_,rfl,_,rfl,a,ns,k,23,1000,rfl,s1.seq hS,hk,⟨by decide,by decide⟩,by decide,fun x x0 x1=>⟨_,_,rfl,rfl,(by show 3≤sizeLine;decide),fun l hl=>?_⟩⟩
   have n2:=kak (o:=.lst [V.int 1,V.int 1000,V.int (1+x)]) hl
   symm
   exists Y6
   refine⟨_,rfl,_,rfl,a,ns,k,24,3,rfl,(s1.trans n2).seq hS,hk,⟨by decide,by decide⟩,by decide,fun y y0 y1=>?_⟩
   obtain⟨z,ez,hz⟩:=pickI (zs:=[1,1000,1+x]) (m:=y) y0 (by show _<(3:Int);exact y1)
   have hz:1≤z∧z≤1000:=by
    simp only[NO,Mi,or_false] at hz
    omega
   nofun
   exists Y6
   refine⟨l,_,_,_,rfl,rfl,SqL.of kad,ez,?_⟩
   nofun
   refine⟨_,rfl,_,rfl,_,rfl,a,ns,k,25,2,rfl,(s1.trans n2).seq hS,hk,⟨by decide,by decide⟩,by decide,fun b b0 b1=>⟨rfl,_,rfl,keQ (so:=.share z _) ⟨_,_,rfl⟩ rfl (hM.same n2) (fin (s1.trans n2) hz) (Tbs.same (s1.trans n2) htb0)⟩⟩
  symm
  exists Y4
  refine⟨_,rfl,rfl,_,rfl,ite2 (fun _=>?_) (fun _=>?_)⟩
  ·refine⟨_,rfl,_,rfl,(by show 2≤sizeLine;decide),fun l hl=>?_⟩
   have n2:=kak (o:=.lst [V.int 3,V.int 19]) hl
   symm
   exists Y6
   refine⟨_,rfl,_,rfl,a,ns,k,27,2,rfl,(s1.trans n2).seq hS,hk,⟨by decide,by decide⟩,by decide,fun y y0 y1=>?_⟩
   obtain⟨z,ez,hz⟩:=pickI (zs:=[3,19]) (m:=y) y0 (by show _<(2:Int);exact y1)
   have hz:0<z∧z≤19:=by
    simp only[NO,Mi,or_false] at hz
    omega
   nofun
   exists Y6
   refine⟨l,_,_,_,rfl,rfl,SqL.of kad,ez,a,ns,k,26,z,rfl,(s1.trans n2).seq hS,hk,⟨by decide,by decide⟩,hz.1,fun x x0 x1=>⟨_,_,rfl,rfl,_,rfl,keQ (so:=.cheap (2+x)) ⟨_,rfl⟩ rfl (hM.same n2) (fin (s1.trans n2) ⟨by omega,by omega⟩) (Tbs.same (s1.trans n2) htb0)⟩⟩
  symm
  exists Y4
  refine⟨_,rfl,rfl,_,rfl,ite2 (fun _=>?_) (fun _=>?_)⟩
  ·refine⟨_,rfl,_,rfl,a,ns,k,28,4,rfl,s1.seq hS,hk,⟨by decide,by decide⟩,by decide,fun x x0 x1=>⟨_,_,rfl,rfl,_,rfl,_,rfl,_,rfl,_,_,rfl,rfl,⟨by decide,by decide⟩,a,ns,k,30,wo/3,rfl,s1.seq hS,hk,⟨by decide,by decide⟩,by omega,fun H2 z s2 z0 z1=>⟨_,rfl,keQ (so:=.bund (2+x) z) ⟨_,_,rfl⟩ rfl (hM.same s2) (fin (s1.trans s2) ⟨by omega,by omega,z0,z1⟩) (Tbs.same (s1.trans s2) htb0)⟩⟩⟩
  symm
  exact⟨_,rfl,keQ (so:=.carr) (is:=fun so=>so=.carr) rfl rfl hM (fin s1 trivial) (Tbs.same s1 htb0)⟩
inductive kiL (K:Nt) (d:D) (vs:List V) (H:Hp) (Q:VK) (E_:XK):Prop
 |ct (a p b:Addr)(ns:List Int)(ps:List (Option Nat))(B:Bask)(bk:Str)(_:vs=[.ref a, .ref p, .ref b, .str bk])(_:SqL K H a (ns.map V.int))(_:H p=some (.lst (ps.map pV)))(_:0<ps.length)(_:BaskIs d.qe d.qg H b B)(_:B.rs.length≤12)(_:(∀r∈B.rs,r.Ok))(_:Tbs d H)(_:∀(H':Hp)(t:Addr)(vs:List Vch)(rs:List Rul),Same H H'→H t=none→TillIs d H' t ⟨ps,vs,rs,bk⟩→kcp ⟨ps,vs,rs,bk⟩→0<vs.length→Q (.ref t) H'):kiL K d vs H Q E_
theorem XS:kao ["_law_script","_law_parents_here","_law_basket_here","_law_back","_law_many","_law_vouchers"] ["_law_script","_law_parents_here","_law_basket_here","_law_back"] (kag kcr):=by ac_rfl
theorem kgv(W:WB K mg d base):FO P w W 7 d.Y1 d.Y2 ["_law_script","_law_parents_here","_law_basket_here","_law_back"] (kiL K d):=by
 exists W.Vx.F,XS
 ·obtain⟨a,p,b,ns,ps,B,bk,rfl,hS,hp,hp0,hB,h12,hok,htb0,kk⟩:=h
  exists qh,kaI,W
  exists Jf,keK,W
  exists Jg,kfL,W
  exists XI,kd3,W
  exists Jh,kfM,W
  exists hr1,1,hr,0
  exists hr2,2,hr,0
  exists hr3,3,hr,0
  refine⟨_,kac (psl (i:=4) XS.nd (pe_op kaz kaf (pcl qh hr2 W.qj (kaa (pv 0) (kaa kaf (kaa kaf (kaa kaf kae)))))))
   (kac (keA (N:=["_law_j","_law_script","_law_parents_here","_law_basket_here"]) (CompScope.of (N:=["_law_j","_law_script","_law_parents_here","_law_basket_here"]) (cap:=[none,some 0,some 1,some 2]) (kag kcr).names ["_law_script","_law_parents_here","_law_basket_here","_law_back","_law_many","_law_vouchers"] rfl rfl (by decide +kernel)) rfl (kbq rfl W.B.range (kaa (pv 4) kae)) (fun _ _ _ _=>pgn (i:=0) (show(["_law_j","_law_script","_law_parents_here","_law_basket_here"]:List Str).Nodup by decide +kernel)) (fun _ _ _ _=>(pcl Jf hr W.Vu (kaa (pv 1) (kaa (pe_op kaz kaf (pv 0)) (kaa (kau (r:=ka6 K) kax (by rfl) W.B.len b_len (kaa (pv 2) kae)) (kaa (pcl Jg hr1 W.Vw (kaa (pv 3) kae)) kae)))))) (pgn (i:=5) XS.nd))
   (kah (kap (kaT (W.Ql.mk' W.qf) XI hr2 rfl W.qf.m W.Ql.b .nil pass0 (kaa (pv 1) (kaa (pv 5) (kaa (pcl Jh hr3 W.Vv (kaa (pv 0) (kaa (pv 4) kae))) (kaa (pv 3) kae)))))))),?_⟩
  exists Y4
  refine⟨_,rfl,a,ns,0,2,4,rfl,hS,⟨by decide,by decide⟩,⟨by decide,by decide⟩,by decide,fun z z0 z1=>⟨_,_,rfl,rfl,?_⟩⟩
  obtain⟨zn,rfl⟩:=Int.eq_ofNat_of_zero_le z0
  dsimp only
  rw[show(1:Int)+(zn:Int)=((1+zn:Nat):Int) by omega]
  have hm:1+zn≤4:=by omega
  have hm0:0<1+zn:=by omega
  generalize 1+zn=m at *
  symm
  exists Y4
  refine⟨_,rfl,_,rfl,by omega,by omega,?_⟩
  rw[Int.toNat_natCast]
  symm
  refine kfl (fun i σ ys H'=>Same H H'∧∃(va:List Addr)(Vs:List Vch)(v0:Option V),ys=va.map V.ref∧P2 (fun a V=>VchIs d H' a V) va Vs∧(∀V∈Vs,VchOk ps V)∧Vs.length=i∧σ=[v0,some (.ref a),some (.ref p),some (.ref b)])
   ⟨Same.refl _,[],[],none,rfl, .nil,(fun V hV=>by simp at hV),rfl,rfl⟩ (NF (kan (by omega))) (fun i σ ys H' hi h=>by obtain⟨_,va,Vs,v0,rfl,hP,_,hl,_⟩:=h;rw[Nr,hP.len];exact hl) ?_ ?_
  ·rintro i σ ys H' hi ⟨s1,va,Vs,v0,rfl,hP,hvo,hl,rfl⟩
   rw[Int.zero_add]
   symm
   exists Y6
   refine⟨_,rfl,_,rfl,_,_,rfl,rfl,_,rfl,p,_,rfl, .inl (SqL.of (s1 _ _ hp)),_,rfl,b,B,rfl,hB.same s1,h12,hok,fun H3 s3 hw=>?_⟩
   have s13:=s1.trans s3
   nofun
   exists Y6
   refine⟨a,ns,1+(i:Int),_,ps,(by rw[Nr];rfl),s13.seq hS,⟨by omega,by omega⟩,hp0,hw,Tbs.same s13 htb0,fun H4 v Vc s4 f4 hV vo=>?_⟩
   nofun
   exists Y6
   refine⟨s13.trans s4,va++[v],Vs++[Vc],_,by rw[Ny];rfl,P2.snoc (hP.mono fun a V h=>(h.same s3).same s4) hV,fun V hV'=>?_,by simp[hl],rfl⟩
   rcases N1.mp hV' with h|h
   ·exact hvo V h
   ·have e:V=Vc:=by simpa using h
    rw[e]
    nofun
    exact vo
  ·rintro σ ys H' ⟨s1,va,Vs,v0,rfl,hP,hvo,hl,rfl⟩ D hD
   have n2:=kak (o:=.lst (va.map V.ref)) hD
   have s2:=s1.trans n2
   have eD:(upd H' D (.lst (va.map V.ref))) D=some (.lst (va.map V.ref)):=kad
   have hP2:P2 (fun a c=>VchIs d (upd H' D (.lst (va.map V.ref))) a c) va Vs:=hP.mono fun a c h=>h.same n2
   clear n2
   generalize upd H' D (.lst (va.map V.ref))=H2 at *
   nofun
   exists Y6
   refine⟨_,rfl,_,rfl,_,rfl,_,rfl,a,ns,m,rfl,s2.seq hS,hm0,fun H5 rl ra rs s5 f5 h5 hr hlen=>⟨_,rfl,kl2 (T:=⟨ps,Vs,rs,bk⟩) ((s2.trans s5) _ _ hp) (s5 _ _ eD) (hP2.mono fun a V h=>h.same s5) h5 hr fun H6 t s6 f6 hT=>?_⟩⟩
   have s26:=(s2.trans s5).trans s6
   nofun
   exact kk H6 t Vs rs s26 ((s2.trans s5).free f6) hT ⟨hvo,by show Vs.length≤8;omega⟩ (by omega)
theorem P2.ins{α β:Type}{R: α→β→Prop}{a: α}{b: β}(hab:R a b):∀{as:List α}{bs:List β},P2 R as bs→∀k,P2 R (as.take k++a::as.drop k) (bs.take k++b::bs.drop k)
 |_,_, .nil,k=>by
  cases k <;> exact .cons hab .nil
 |_,_, .cons h t,0=>.cons hab (.cons h t)
 |_,_, .cons h t,k+1=>.cons h (P2.ins hab t k)
theorem P2.app{α β:Type}{R: α→β→Prop}{as':List α}{bs':List β}(h':P2 R as' bs'):∀{as:List α}{bs:List β},P2 R as bs→P2 R (as++as') (bs++bs')
 |_,_, .nil=>h'
 |_,_, .cons h t=>.cons h (P2.app h' t)
theorem P2.tk{α β:Type}{R: α→β→Prop}:∀{as:List α}{bs:List β},P2 R as bs→∀k,P2 R (as.take k) (bs.take k)
 |_,_, .nil,k=>by
  rw[List.take_nil,List.take_nil]
  exact .nil
 |_,_, .cons _ _,0=>.nil
 |_,_, .cons h t,k+1=>.cons h (P2.tk t k)
theorem khQ:∀(rs:List Row)(k:Nat),(∀r∈rs,0≤r.mn)→(((rs.zipIdx k).map fun p=>Nw p.1.mn.toNat p.2).flatten.length:Int)=(rs.map fun r=>r.mn).sum
 |[],_,_=>by simp
 |r::rs,k,h=>by
  have h1:=h r NW
  have ih:=khQ rs (k+1) fun q hq=>h q (NP _ hq)
  rw[EG,NJ,NZ,NI,Mx,NJ,MR]
  simp only
  omega
theorem kji(rs:List Row)(h:∀r∈rs,0≤r.mn):((ownN rs).length:Int)=(rs.map fun r=>r.mn).sum:=khQ rs 0 h
theorem kkC{α:Type}{a x: α}{l:List α}{k:Nat}(h:x∈l.take k++a::l.drop k):x=a∨x∈l:=by
 rcases N1.mp h with h|h
 ·exact .inr (Em h)
 ·rcases NO.mp h with h|h
  ·exact .inl h
  ·exact .inr (List.mem_of_mem_drop h)
theorem klF{r:Row}{rs:List Row}{k:Nat}:((rs.take k++r::rs.drop k).map fun r=>r.mn).sum=(rs.map fun r=>r.mn).sum+r.mn:=by
 have e:(rs.map fun r=>r.mn).sum=((rs.take k).map fun r=>r.mn).sum+((rs.drop k).map fun r=>r.mn).sum:=by
  rw[←M8,←Ny,EL]
 rw[e,Ny,NJ,M8,MR]
 omega
inductive kk9 (K:Nt) (CL CB:Addr) (vs:List V) (H:Hp) (Q:VK) (E_:XK):Prop
 |ct (a:Addr)(ns:List Int)(n:Nat)(_:vs=[.ref a,iV n])(_:SqL K H a (ns.map V.int))(_:0<n)(_:∀(H':Hp)(b:Addr)(B:Bask),Same H H'→H b=none→BaskIs CL CB H' b B→B.rs.length≤12→(∀r∈B.rs,r.Ok)→(∀r∈B.rs,0≤r.kd∧r.kd<(n:Int))→0≤B.cg∧B.cg≤1000000000000→(ownN B.rs).length<64→Q (.ref b) H'):kk9 K CL CB vs H Q E_
theorem qt:kao ["_law_script","_law_kinds","_law_lines","_law_wide","_law_salt","_law_j","_law_many","_law_extra","_law_price_here","_law_pieces"] ["_law_script","_law_kinds"] (kag kcu):=by ac_rfl
theorem ke7(W:WB K mg d base):FO P w W 4 d.YO d.YQ ["_law_script","_law_kinds"] (kk9 K d.qe d.qg):=by
 exists W.Vr.F,qt
 ·obtain⟨a,ns,n,rfl,hS,hn0,kk⟩:=h
  exists qh,kaI,W
  exists XT,kfN,W
  exists XJ,kd4,W
  exists Qw,kck,W
  exists hr2,2,hr,0
  refine⟨_,kac (psl (i:=2) qt.nd (kaK kae))
   (kac (psl (i:=3) qt.nd (kby op_eq (pcl qh hr2 W.qj (kaa (pv 0) (kaa kaf (kaa kaf (kaa kaf kae))))) kaf (kav _)))
   (kac (psl (i:=4) qt.nd (pe_op kb7 kaf (kaH kdG (by rfl) W.B.int b_int (kaa (pv 3) kae))))
   (kac (kbp PassesOwn.never rfl (kbq rfl W.B.range (kaa (pe_ix (r:=rIxL K) kaC (kaK (kaa (pcl qh hr2 W.qj (kaa (pv 0) (kaa kaf (kaa kaf (kaa kaf kae))))) (kaa (pe_op kaz kaf (pcl qh hr2 W.qj (kaa (pv 0) (kaa kaf (kaa kaf (kaa kaf kae)))))) kae))) (kaH kdG (by rfl) W.B.int b_int (kaa (pv 3) kae)) (fun _ _=>rfl)) kae)) (pgn (i:=5) qt.nd)
   (kac (psl (i:=6) qt.nd (pe_op kaz kaf (pcl qh hr2 W.qj (kaa (pv 0) (kaa kaf (kaa (pe_op kaz kaf (pv 5)) (kaa kaf kae)))))))
   (kac (kc8 (ps_if (kas op_lt (pcl qh hr2 W.qj (kaa (pv 0) (kaa kaf (kaa (pe_op kaz kaf (pv 5)) (kaa kaf kae))))) kaf (kav _)) (kah (psl (i:=6) qt.nd (pe_ix (r:=rIxL K) kaC (kaK (kaa kaf (kaa (pe_ix (r:=rIxL K) kaC (kaK (kaa kaf (kaa kaf kae))) (kaH kdG (by rfl) W.B.int b_int (kaa (kby op_gt (pv 5) kaf (kav _)) kae)) (fun _ _=>rfl)) kae))) (pcl qh hr2 W.qj (kaa (pv 0) (kaa kaf (kaa (pe_op kaz kaf (pv 5)) (kaa kaf kae))))) (fun _ _=>rfl)))) (kat)))
   (kac (kc8 (ps_if (ka4 (pv 3)) (kah (psl (i:=6) qt.nd (pcl qh hr2 W.qj (kaa (pv 0) (kaa kaf (kaa (pe_op kaz (pe_op kaz (pv 4) kaf) (pv 5)) (kaa kaf kae))))))) (kat)))
   (kac (psl (i:=7) qt.nd ka1)
   (kac (kc8 (ps_if (kas op_eq (pcl qh hr2 W.qj (kaa (pv 0) (kaa kaf (kaa (pe_op kaz (pe_op kaz (pv 4) kaf) (pv 5)) (kaa kaf kae))))) kaf (kav _)) (kah (psl (i:=7) qt.nd (pcl XT hr W.QF (kaa (pv 0) (kaa kaf (kaa (pe_op kaz (pe_op kaz (pv 4) kaf) (pe_op kb7 kaf (pv 5))) kae)))))) (kat)))
   (kac (psl (i:=8) qt.nd (pcl XT hr W.QF (kaa (pv 0) (kaa kaf (kaa (pe_op kaz (pe_op kaz (pv 4) kaf) (pe_op kb7 kaf (pv 5))) kae)))))
   (kah (kaS (pe_bm N4 Mu Mv ka5 (pv 2) (kaa (kaT (W.Qf.mk' W.qe) XJ hr2 rfl W.qe.m W.Qf.b .nil pass0 (kaa (pcl qh hr2 W.qj (kaa (pv 0) (kaa kaf (kaa (pe_op kaz (pe_op kaz (pv 4) kaf) (pv 5)) (kaa (pv 1) kae))))) (kaa (pv 8) (kaa (pv 6) (kaa (pv 7) kae))))) kae)))))))))))
   (kac (psl (i:=9) qt.nd (kau (r:=rSum K) (kbO rfl) (by rfl) W.B.sum b_sum (kaa (kbf (N:=["_law_line"]) (CompScope.plain rfl (by decide +kernel) (by decide +kernel) (by decide +kernel) (nd1 _)) rfl (kaG (K:=K) (pe_op keH (pv 2) (kc2 (r:=rSlL K) kdK (pv 2) kfH (kcQ kaf)))) (fun _ _ _ _=>pgn (i:=0) (nd1 _)) (fun _ _ _ _=>(kai (K:=K) (pv 0) rfl))) kae)))
   (kac (kc8 (ps_if (PW.pt (kbL (kkg op_lt op_lt kaf (kau (r:=ka6 K) kax (by rfl) W.B.len b_len (kaa (pv 2) kae)) kaf) (kbL (kas op_lt (pv 9) kaf (kav _)) (kbx (kas op_eq (pcl qh hr2 W.qj (kaa (pv 0) (kaa kaf (kaa kaf (kaa kaf kae))))) kaf (kav _)))))) (kah (kaS (pe_bm N4 PySem.F.slot_list_insert PySem.F.type_list_insert kjo (pv 2) (kaa (pcl qh hr2 W.qj (kaa (pv 0) (kaa kaf (kaa kaf (kaa (pe_op kaz (kau (r:=ka6 K) kax (by rfl) W.B.len b_len (kaa (pv 2) kae)) kaf) kae))))) (kaa (pe_ix (r:=rIxL K) kaC (pv 2) kaf (fun _ _=>rfl)) kae))))) (kat)))
   (kah (kap (kaT (W.qM.mk' W.qg) Qw hr2 rfl W.qg.m W.qM.b .nil pass0 (kaa (pv 2) (kaa (pcl XT hr W.QF (kaa (pv 0) (kaa kaf (kaa kaf kae)))) (kaa (kby op_eq (pcl qh hr2 W.qj (kaa (pv 0) (kaa kaf (kaa kaf (kaa kaf kae))))) kaf (kav _)) kae))))))))))),?_⟩
  exists Y4
  refine⟨by decide,fun l fl=>?_⟩
  generalize hgH1:upd H l _=H1
  obtain⟨s1,(el1:H1 l=some (.lst (([]:List Addr).map V.ref)))⟩:=kaF hgH1 fl
  symm
  exists Y4
  refine⟨_,rfl,a,ns,6,99,16,rfl,s1.seq hS,⟨by decide,by decide⟩,⟨by decide,by decide⟩,by decide,fun w0 _ _=>⟨rfl,?_⟩⟩
  generalize decide (V.int w0=V.int 0)=wd
  symm
  exists Y4
  refine⟨_,rfl, .inr ⟨wd,rfl,_,_,rfl,rfl, .inl ⟨by decide,by decide⟩,?_⟩⟩
  dsimp only
  have hsl:0≤200*(if wd=true then(1:Int) else 0)∧200*(if wd=true then(1:Int) else 0)≤200:=by split <;> omega
  generalize 200*(if wd=true then(1:Int) else 0)=sl at *
  symm
  exists Y4
  refine⟨_,rfl,a,ns,6,1,5,rfl,s1.seq hS,⟨by decide,by decide⟩,⟨by decide,by decide⟩,by decide,fun x x0 x1=>⟨_,rfl,a,ns,6,1,5,rfl,s1.seq hS,⟨by decide,by decide⟩,⟨by decide,by decide⟩,by decide,fun y y0 y1=>⟨_,_,rfl,rfl,(by show 2≤sizeLine;decide),fun q0 hq0=>?_⟩⟩⟩
  have n2:=kak (o:=.lst [V.int x,V.int (8+y)]) hq0
  obtain⟨c,ec,hc0,hc1,hcw⟩:∃c:Int,atI [V.int x,V.int (8+y)] (if wd=true then(1:Int) else 0)=some (.int c)∧0≤c∧c≤12∧(wd=false→c≤4):=by
   cases wd with
   |true=>exact⟨8+y,rfl,by omega,by omega,fun e=>by cases e⟩
   |false=>exact⟨x,rfl,by omega,by omega,fun _=>by omega⟩
  symm
  exists Y4
  refine⟨_,rfl, .inr ⟨wd,rfl,q0,_,_,_,rfl,rfl,SqL.of kad,ec,_,rfl,by omega,by omega,?_⟩⟩
  have s2:=s1.trans n2
  have el2:=n2 _ _ el1
  clear n2
  generalize upd H1 q0 (.lst [V.int x,V.int (8+y)])=H2 at *
  symm
  refine kbZ (fun i σ H'=>Same H H'∧∃(ls:List Addr)(rs:List Row)(v5 v6 v7 v8:Option V),H' l=some (.lst (ls.map V.ref))∧Lines d.qe H' ls rs∧rs.length=i∧(∀r∈rs,r.Ok)∧(∀r∈rs,0≤r.kd∧r.kd<(n:Int))∧(rs.map fun r=>r.mn).sum≤(if wd=true then 1 else 15)*(i:Int)∧σ=[some (.ref a),some (iV n),some (.ref l),some (.bl wd),some (.int sl),v5,v6,v7,v8,none])
   ⟨s2,[],[],none,none,none,none,el2, .nil,rfl,(fun r hr=>by simp at hr),(fun r hr=>by simp at hr),by simp,rfl⟩ ?_ ?_
  ·rintro i σ H' hi ⟨s3,ls,rs,v5,v6,v7,v8,el,hL,hlen,hok,hkd,hsum,rfl⟩
   have hi12:i<12:=by omega
   rw[Int.zero_add]
   symm
   exists Y6
   refine⟨_,rfl,_,rfl,_,_,rfl,rfl,a,ns,6,10+(i:Int),4,rfl,s3.seq hS,⟨by decide,by decide⟩,⟨by omega,by omega⟩,by decide,fun m0 m00 m01=>⟨_,_,rfl,rfl,?_⟩⟩
   nofun
   exists Y6
   refine⟨fun σ H4=>Same H' H4∧∃m:Int,0≤m∧m≤15∧σ=[some (.ref a),some (iV n),some (.ref l),some (.bl wd),some (.int sl),some (.int (i:Int)),some (.int m),v7,v8,none],?_,?_⟩
   ·refine⟨_,rfl,_,rfl,_,_,rfl,rfl,a,ns,6,20+(i:Int),8,rfl,s3.seq hS,⟨by decide,by decide⟩,⟨by omega,by omega⟩,by decide,fun t t0 t1=>⟨_,_,rfl,rfl,_,rfl,ite2 (fun _=>?_) (fun _=>⟨Same.refl _,1+m0,by omega,by omega,rfl⟩)⟩⟩
    nofun
    exists Y8
    refine⟨(by show 2≤sizeLine;decide),fun q' hq'=>?_⟩
    generalize hgH3:upd H' q' _=H3
    obtain⟨n3,u3⟩:=kaF hgH3 hq'
    exists 3
    exists Y8
    refine⟨_,rfl,_,_,rfl,rfl, .inr ⟨_,rfl,?_⟩⟩
    generalize decide ((i:Int) > 0)=dj
    obtain⟨c',ec',hc'⟩:∃c':Int,atI [V.int 15,V.int 3] (if dj=true then(1:Int) else 0)=some (.int c')∧0≤c'∧c'≤15:=by
     cases dj with
     |true=>exact⟨3,rfl,by omega,by omega⟩
     |false=>exact⟨15,rfl,by omega,by omega⟩
    exists 3
    exists Y8
    refine⟨q',_,_,_,rfl,rfl,SqL.of u3,ec',(by show 2≤sizeLine;decide),fun q hq=>?_⟩
    have n4:=n3.trans (kak (o:=.lst [V.int 0,V.int c']) hq)
    exists 3
    exists Y8
    refine⟨_,rfl,_,rfl,_,_,rfl,rfl,a,ns,6,25+(i:Int),2,rfl,(s3.trans n4).seq hS,⟨by decide,by decide⟩,⟨by omega,by omega⟩,by decide,fun u u0 u1=>?_⟩
    obtain⟨z,ez,hz⟩:=pickI (zs:=[0,c']) (m:=u) u0 (by show _<(2:Int);exact u1)
    have hz:0≤z∧z≤15:=by
     simp only[NO,Mi,or_false] at hz
     omega
    exists 3
    exact⟨q,_,_,_,rfl,rfl,SqL.of kad,ez,n4,z,hz.1,hz.2,rfl⟩
   rintro σ H4 ⟨s4,m1,m10,m11,rfl⟩
   have s34:=s3.trans s4
   nofun
   exists Y6
   refine⟨fun σ H5=>H5=H4∧∃m:Int,0≤m∧m≤(if wd=true then 1 else 15)∧σ=[some (.ref a),some (iV n),some (.ref l),some (.bl wd),some (.int sl),some (.int (i:Int)),some (.int m),v7,v8,none],?_,?_⟩
   ·refine⟨_,rfl,wd,rfl,?_⟩
    cases wd with
    |true=>
     refine iteT ?_
     nofun
     exact⟨_,rfl,_,rfl,_,_,rfl,rfl,_,rfl,_,_,rfl,rfl,a,ns,6,sl+10+(i:Int),2,rfl,s34.seq hS,⟨by decide,by decide⟩,⟨by omega,by omega⟩,by decide,fun u u0 u1=>⟨rfl,u,u0,by show u≤1;omega,rfl⟩⟩
    |false=>exact iteF ⟨rfl,m1,m10,m11,rfl⟩
   rintro σ H5 ⟨rfl,m,hm0,hm1,rfl⟩
   have hm60:m≤60:=by
    split at hm1 <;> omega
   nofun
   refine⟨fun σ H6=>H6=H5∧∃ex:Option Int,(∀z,ex=some z→0≤z∧z≤1000000000000)∧σ=[some (.ref a),some (iV n),some (.ref l),some (.bl wd),some (.int sl),some (.int (i:Int)),some (.int m),some (oV ex),v8,none],?_,?_⟩
   ·refine⟨_,rfl,_,rfl,_,_,rfl,rfl,_,rfl,_,_,rfl,rfl,a,ns,6,sl+30+(i:Int),3,rfl,s34.seq hS,⟨by decide,by decide⟩,⟨by omega,by omega⟩,by decide,fun u u0 u1=>⟨rfl,_,rfl,ite2 (fun _=>?_) (fun _=>⟨rfl,none,(fun z e=>by cases e),rfl⟩)⟩⟩
    nofun
    exact⟨_,rfl,_,rfl,_,_,rfl,rfl,_,rfl,_,_,rfl,rfl, .inl ⟨by decide,by decide⟩,_,_,rfl,rfl,a,ns,6,sl+40+3*(i:Int),rfl,s34.seq hS,⟨by decide,by decide⟩,⟨by omega,by omega⟩,fun z z0 z1=>⟨rfl,some z,(fun y e=>by cases e;exact⟨z0,z1⟩),rfl⟩⟩
   rintro σ H6 ⟨rfl,ex,hex,rfl⟩
   nofun
   refine⟨_,rfl,_,rfl,_,_,rfl,rfl,_,rfl,_,_,rfl,rfl, .inl ⟨by decide,by decide⟩,_,_,rfl,rfl,a,ns,6,sl+80+3*(i:Int),rfl,s34.seq hS,⟨by decide,by decide⟩,⟨by omega,by omega⟩,fun pz pz0 pz1=>?_⟩
   have el6:=s4 _ _ el
   nofun
   refine⟨_,rfl, .inl ⟨rfl,_,SqL.of el6⟩,_,rfl,_,rfl,_,_,rfl,rfl,_,rfl,_,_,rfl,rfl,_,rfl,a,ns,6,sl+60+(i:Int),(n:Int),rfl,s34.seq hS,⟨by decide,by decide⟩,⟨by omega,by omega⟩,by omega,fun kd kd0 kd1=>⟨_,rfl,_,rfl,_,rfl,kjq (r:=⟨kd,pz,m,ex⟩) fun H7 ln s7 f7 hln=>?_⟩⟩
   have el7:=s7 _ _ el6
   have s37:=s34.trans s7
   nofun
   exists Y6
   refine⟨l,_,_,rfl,rfl,el7,kan (by rw[Nr,hL.len];omega),?_⟩
   nofun
   exists Y6
   refine⟨kaq fl s37 (nx el7),ls++[ln],rs++[⟨kd,pz,m,ex⟩],_,_,_,_,by rw[kad,Ny];rfl,P2.snoc ((Lines.same (s4.trans s7) hL).set el7) (hln.set el7),by rw[NI,hlen];rfl,fun r hr=>?_,fun r hr=>?_,?_,rfl⟩
   ·rcases N1.mp hr with h|h
    ·exact hok r h
    ·have e:r=⟨kd,pz,m,ex⟩:=by simpa using h
     rw[e]
     nofun
     exact⟨pz0,pz1,hm0,hm60,hex⟩
   ·rcases N1.mp hr with h|h
    ·exact hkd r h
    ·have e:r=⟨kd,pz,m,ex⟩:=by simpa using h
     rw[e]
     nofun
     exact⟨kd0,kd1⟩
   ·rw[Ny,M8]
    show _+(m+0)≤_
    cases wd with
    |true=>simp only[if_true] at hsum hm1⊢;omega
    |false=>simp only[Mh,if_false] at hsum hm1⊢;omega
  ·rintro σ H' ⟨s3,ls,rs,v5,v6,v7,v8,el,hL,hlen,hok,hkd,hsum,rfl⟩
   have hlen12:rs.length≤12:=by omega
   have hs60:(rs.map fun r=>r.mn).sum≤60:=by
    cases wd with
    |true=>simp only[if_true] at hsum;omega
    |false=>
     simp only[Mh,if_false] at hsum
     have:=hcw rfl
     omega
   have hown:=kji rs fun r hr=>(hok r hr).mn0
   nofun
   exists Y6
   refine⟨_,rfl,_,rfl,_,rfl,l,_,rfl,SqL.of el,fun q1 hq1=>?_⟩
   have ecut:cutV (ls.map V.ref) none (some 1)=(ls.take 1).map V.ref:=by
    show cutV (ls.map V.ref) none (some ((1:Nat):Int))=_
    rw[kj0,MQ]
   rw[ecut]
   have n4:=kak (o:=.lst ((ls.take 1).map V.ref)) hq1
   have e4:(upd H' q1 (.lst ((ls.take 1).map V.ref))) q1=some (.lst ((ls.take 1).map V.ref)):=kad
   have el4:=n4 _ _ el
   have hL4:=Lines.same n4 hL
   have s4:=s3.trans n4
   clear n4
   generalize upd H' q1 (.lst ((ls.take 1).map V.ref))=H4 at *
   nofun
   exists Y6
   refine⟨l,q1,_,_,rfl,rfl,el4,e4,NF (kan (by rw[Nr,Nr,NH,hL.len];omega)),fun q2 hq2=>?_⟩
   rw[←Ny]
   have n5:=kak (o:=.lst ((ls++ls.take 1).map V.ref)) hq2
   have e5:(upd H4 q2 (.lst ((ls++ls.take 1).map V.ref))) q2=some (.lst ((ls++ls.take 1).map V.ref)):=kad
   have el5:=n5 _ _ el4
   have hL5:=Lines.same n5 hL4
   have s5:=s4.trans n5
   clear n5
   generalize upd H4 q2 (.lst ((ls++ls.take 1).map V.ref))=H5 at *
   have hLL:P2 (LineAt d.qe H5) (ls++ls.take 1) (rs++rs.take 1):=P2.app (P2.tk hL5 1) hL5
   nofun
   exists Y6
   refine⟨q2,rfl,⟨_,SqL.of e5⟩,kaO (xs:=(ls++ls.take 1).map V.ref) (fun i σ ys H''=>H''=H5∧ys=(((rs++rs.take 1).map fun r=>r.mn).take i).map V.int∧∃v,σ=[v]) ⟨rfl,rfl,none,rfl⟩ (by rw[Nr,hLL.len,NI,NH];exact NF (kan (by omega))) ?_ ?_ ?_⟩
   ·rintro j σ ys H'' hj ⟨rfl,rfl,v,rfl⟩
    nofun
    exists Y8
    refine⟨SqL.of e5,?_⟩
    rw[Nr,NH,Nr]
    rw[Nr,hLL.len] at hj
    omega
   ·rintro j y σ ys H'' hy ⟨rfl,rfl,v,rfl⟩
    obtain⟨la,ea,rfl⟩:=kbV hy
    obtain⟨r,er,dxl,fsl,ha,g1,g2,g3,g4⟩:=hLL.at ea
    exists 3
    exists Y8
    refine⟨_,rfl,la,d.qe,dxl,fsl,_,rfl,ha,W.qe.cl,W.qE,g3,rfl,?_,_,rfl⟩
    rw[kbl (r:=r.mn) (by rw[NC,er];rfl),Ny (f:=V.int)]
    rfl
   rintro σ ys H'' ⟨rfl,rfl,v,rfl⟩ D hD
   rw[Nr,hLL.len,Ml (by rw[Nr];exact Nv _)]
   have n6:=kak (o:=.lst (((rs++rs.take 1).map fun r=>r.mn).map V.int)) hD
   nofun
   exists Y6
   refine⟨D,_,rfl,SqL.of kad,?_⟩
   have el6:=n6 _ _ el5
   have hL6:=Lines.same n6 hL5
   have s6:=s5.trans n6
   clear n6
   generalize upd H'' D (.lst (((rs++rs.take 1).map fun r=>r.mn).map V.int))=H6 at *
   generalize hpc:((rs++rs.take 1).map fun r=>r.mn).sum=pc at *
   nofun
   exists Y6
   refine⟨fun σ H7=>Same H H7∧∃(ls':List Addr)(rs':List Row),H7 l=some (.lst (ls'.map V.ref))∧Lines d.qe H7 ls' rs'∧rs'.length≤12∧(∀r∈rs',r.Ok)∧(∀r∈rs',0≤r.kd∧r.kd<(n:Int))∧(ownN rs').length<64∧σ=[some (.ref a),some (iV n),some (.ref l),some (.bl wd),some (.int sl),v5,v6,v7,v8,some (.int pc)],?_,?_⟩
   ·have plain:Same H H6∧∃(ls':List Addr)(rs':List Row),H6 l=some (.lst (ls'.map V.ref))∧Lines d.qe H6 ls' rs'∧rs'.length≤12∧(∀r∈rs',r.Ok)∧(∀r∈rs',0≤r.kd∧r.kd<(n:Int))∧(ownN rs').length<64∧([some (.ref a),some (iV n),some (.ref l),some (.bl wd),some (.int sl),v5,v6,v7,v8,some (.int pc)]:St)=[some (.ref a),some (iV n),some (.ref l),some (.bl wd),some (.int sl),v5,v6,v7,v8,some (.int pc)]:=⟨s6,ls,rs,el6,hL6,hlen12,hok,hkd,by omega,rfl⟩
    nofun
    exists Y8
    refine⟨_,rfl,l,_,rfl, .inl (SqL.of el6),_,_,rfl,rfl,_,rfl,?_⟩
    exists 3
    refine ite2 (fun h1=>?_) (fun _=>⟨_,rfl,iteF (iteF plain)⟩)
    have hl0:0<ls.length:=by
     have:(0:Int)<((ls.map V.ref).length:Nat):=by simpa using h1
     rw[Nr] at this
     omega
    exists 3
    exists Y8
    refine⟨_,_,rfl,rfl,_,rfl,ite2 (fun h2=>?_) (fun _=>iteF plain)⟩
    have hl12:ls.length<12:=by
     have:((ls.map V.ref).length:Int)<12:=by simpa using h2
     rw[Nr] at this
     omega
    exists 3
    exists Y8
    refine⟨_,rfl,_,_,rfl,rfl,_,rfl,ite2 (fun h3=>?_) (fun _=>iteF plain)⟩
    have hp61:pc<31:=by simpa using h3
    exists 3
    exists Y8
    refine⟨_,rfl,a,ns,6,98,3,rfl,s6.seq hS,⟨by decide,by decide⟩,⟨by decide,by decide⟩,by decide,fun u u0 u1=>⟨rfl,_,rfl,ite2 (fun _=>?_) (fun _=>plain)⟩⟩
    obtain⟨l0,el0⟩:=at_of hl0
    obtain⟨r0,er0,hr0⟩:=hL6.at el0
    have e0s:(rs.take 1).map (fun r=>r.mn)=[r0.mn]:=by
     rw[kbl er0]
     rfl
    have hpc':(rs.map fun r=>r.mn).sum+r0.mn=pc:=by
     rw[←hpc,Ny,M8,e0s]
     simp
    exists 3
    exists Y8
    refine⟨_,rfl, .inl ⟨rfl,_,SqL.of el6⟩,_,rfl,_,rfl,l,_,rfl, .inl (SqL.of el6),_,_,rfl,rfl,a,ns,6,97,_,rfl,s6.seq hS,⟨by decide,by decide⟩,⟨by decide,by decide⟩,(by show(0:Int)<_;omega),fun k k0 k1=>?_⟩
    exists 3
    exists Y8
    refine⟨_,rfl,l,_,_,_,rfl,rfl,SqL.of el6,kaU (j:=0) (v:=.ref l0) (by rw[NC,el0];rfl),l,_,k,_,rfl,rfl,el6,k0,by omega,kan (by rw[Nr];omega),?_⟩
    rw[←MQ,←El]
    have el7:(upd H6 l (.lst ((ls.take k.toNat).map V.ref++V.ref l0::(ls.drop k.toNat).map V.ref))) l=some (.lst ((ls.take k.toNat++l0::ls.drop k.toNat).map V.ref)):=by
     rw[kad,Ny,NJ]
    have hmem:∀r∈rs.take k.toNat++r0::rs.drop k.toNat,r∈rs:=fun r hr=>by
     rcases kkC hr with e|e
     ·rw[e];exact NA er0
     ·exact e
    have hown7:=kji (rs.take k.toNat++r0::rs.drop k.toNat) fun r hr=>(hok r (hmem r hr)).mn0
    rw[klF] at hown7
    exists 3
    exists Y8
    refine⟨kaq fl s6 (nx el6),ls.take k.toNat++l0::ls.drop k.toNat,rs.take k.toNat++r0::rs.drop k.toNat,el7,P2.ins (hr0.set el6) (Lines.set el6 hL6) k.toNat,?_,fun r hr=>hok r (hmem r hr),fun r hr=>hkd r (hmem r hr),by omega,rfl⟩
    have l1:=hL6.len
    rw[NI,N8,NH,Ef]
    omega
   rintro σ H7 ⟨s7,ls',rs',el7,hL7,h12,hok7,hkd7,h64,rfl⟩
   nofun
   exists Y6
   refine⟨_,rfl,_,rfl,a,ns,6,90,rfl,s7.seq hS,⟨by decide,by decide⟩,⟨by decide,by decide⟩,fun cg cg0 cg1=>⟨_,rfl,a,ns,6,95,2,rfl,s7.seq hS,⟨by decide,by decide⟩,⟨by decide,by decide⟩,by decide,fun mb mb0 mb1=>⟨rfl,kg8 (SqL.of el7) fun H8 b l' s8 f8 f8' hl' hb=>?_⟩⟩⟩
   nofun
   exact kk H8 b ⟨rs',cg,_⟩ (s7.trans s8) (s7.free f8) ⟨l',ls',hb,hl',Lines.same s8 hL7⟩ h12 hok7 hkd7 ⟨cg0,cg1⟩ h64
inductive kk2 (K:Nt) (vs:List V) (H:Hp) (Q:VK) (E_:XK):Prop
 |ct (a m:Addr)(ns:List Int)(k:Int)(zs:List Int)(_:vs=[.ref a, .int k, .ref m])(_:SqL K H a (ns.map V.int))(_:(0≤k∧k≤900))(_:H m=some (.lst (zs.map V.int)))(_:zs.length≤12)(_:(∀z∈zs,0≤z∧z≤60))(_:(∀H',Same H H'→(∀z∈zs,z≤0)→Q .non H'))(_:∀(H':Hp)(p:Addr)(l:Nat)(n z:Int),Same H H'→H p=none→H' p=some (.tup [iV l, .int n])→zs[l]?=some z→1≤n→n≤z→Q (.ref p) H'):kk2 K vs H Q E_
theorem Qz:kao ["_law_script","_law_k","_law_many","_law_some_here","_law_line","_law_how","_law_least"] ["_law_script","_law_k","_law_many"] (kag kcs):=by ac_rfl
theorem kgw(W:WB K mg d base):FO P w W 3 d.Zc d.Zd ["_law_script","_law_k","_law_many"] (kk2 K):=by
 exists W.VB.F,Qz
 ·obtain⟨a,m,ns,k,zs,rfl,hS,hk,hm,h12,hz,k1,k2⟩:=h
  exists qh,kaI,W
  refine⟨_,kac (kkh (N:=["_law_line","_law_many"]) (CompScope.of (N:=["_law_line","_law_many"]) (cap:=[none,some 2]) (kag kcs).names ["_law_script","_law_k","_law_many","_law_some_here","_law_line","_law_how","_law_least"] rfl rfl (by decide +kernel)) rfl (kbq rfl W.B.range (kaa (kau (r:=ka6 K) kax (by rfl) W.B.len b_len (kaa (pv 2) kae)) kae)) (fun _ _ _ _=>pgn (i:=0) (show(["_law_line","_law_many"]:List Str).Nodup by decide +kernel)) (fun _ _ _ _=>kg5 (kas op_gt (pe_ix (r:=rIxL K) kaC (pv 1) (pv 0) (fun _ _=>rfl)) kaf (kav _))) (fun _ _ _ _=>(pv 0)) (pgn (i:=3) Qz.nd))
   (kac (ps_if (kas (kmC hr.units0) (pv 3) (kaK kae) (kav _)) (kah (kap ka1)) (kat))
   (kac (psl (i:=4) Qz.nd (pe_ix (r:=rIxL K) kaC (pv 3) (pcl qh hr W.qj (kaa (pv 0) (kaa (pv 1) (kaa kaf (kaa (kau (r:=ka6 K) kax (by rfl) W.B.len b_len (kaa (pv 3) kae)) kae))))) (fun _ _=>rfl)))
   (kac (psl (i:=5) Qz.nd (pcl qh hr W.qj (kaa (pv 0) (kaa (pv 1) (kaa kaf (kaa kaf kae))))))
   (kac (ps_if (kas op_eq (pv 5) kaf (kav _)) (kah (kap (ka0 (kaa (pv 4) (kaa (pe_ix (r:=rIxL K) kaC (pv 2) (pv 4) (fun _ _=>rfl)) kae))))) (kat))
   (kac (psl (i:=6) Qz.nd (pe_op kaz kaf (pe_op kdP (pe_ix (r:=rIxL K) kaC (pv 2) (pv 4) (fun _ _=>rfl)) kaf)))
   (kac (ps_if (kas op_eq (pv 5) kaf (kav _)) (kah (kap (ka0 (kaa (pv 4) (kaa (pv 6) kae))))) (kat))
   (kah (kap (ka0 (kaa (pv 4) (kaa (pe_op kaz (pv 6) (pcl qh hr W.qj (kaa (pv 0) (kaa (pv 1) (kaa kaf (kaa (pe_op kcB (pe_op kaz (pe_ix (r:=rIxL K) kaC (pv 2) (pv 4) (fun _ _=>rfl)) kaf) (pv 6)) kae)))))) kae))))))))))),?_⟩
  exists Y4
  refine⟨_,rfl,m,_,rfl, .inl (SqL.of hm),_,rfl,by omega,(by rw[Nr];omega),khj (fun i σ ys H'=>H'=H∧(∃is:List Nat,ys=is.map iV∧is.length≤i∧(∀l∈is,∃z,zs[l]?=some z∧0<z)∧(∀l z,l<i→zs[l]?=some z→0<z→is≠[]))∧∃v,σ=[v,some (.ref m)]) ⟨rfl,⟨[],rfl,Nv _,(fun l hl=>by simp at hl),fun l z h=>by omega⟩,none,rfl⟩ ?_ ?_ ?_ ?_⟩
  ·rw[Nr]
   symm
   exact NF (kan (by omega))
  ·rintro i σ ys H' hi ⟨rfl,⟨is,rfl,hl,_⟩,_⟩
   rw[Nr]
   symm
   exact hl
  ·rintro i σ ys H' hi ⟨rfl,⟨is,rfl,hil,his,hno⟩,v,rfl⟩
   rw[Int.zero_add]
   have hi':i<zs.length:=by
    rw[Nr] at hi
    omega
   obtain⟨z,ez⟩:=at_of hi'
   symm
   exists Y6
   refine⟨_,rfl,_,rfl,m,_,_,_,rfl,rfl,SqL.of hm,kaU (v:=.int z) (by rw[NC,ez];rfl),_,_,rfl,rfl,_,rfl,?_⟩
   by_cases hz0:0<z
   ·rw[decide_eq_true hz0]
    refine iteT ?_
    nofun
    exists Y8
    refine⟨_,rfl,rfl,⟨is++[i],by rw[Ny];rfl,by rw[NI];simp;omega,fun l hl=>?_,fun l z' _ _ _=>by simp⟩,_,rfl⟩
    rcases N1.mp hl with h|h
    ·exact his l h
    ·rw[Mt.mp h]
     exists 3
     exact⟨z,ez,hz0⟩
   ·rw[decide_eq_false hz0]
    refine iteF ?_
    exists 3
    exists Y8
    refine⟨rfl,⟨is,rfl,by omega,his,fun l z' h1 h2 h3=>?_⟩,_,rfl⟩
    by_cases e:l=i
    ·subst e
     rw[ez] at h2
     cases h2
     exists 3
     exact absurd h3 hz0
    ·exact hno l z' (by omega) h2 h3
  ·rintro σ ys H' ⟨rfl,⟨is,rfl,hil,his,hno⟩,v,rfl⟩ D hD
   generalize hgH1:upd H' D _=H1
   obtain⟨n1,e1⟩:=kaF hgH1 hD
   nofun
   exists Y6
   refine⟨_,rfl,by decide,fun E fE=>?_⟩
   generalize hgH2:upd H1 E _=H2
   obtain⟨n2,(e2:H2 E=some (.lst ([]:List V)))⟩:=kaF hgH2 fE
   have s2:=n1.trans n2
   have eD2:=n2 _ _ e1
   nofun
   exists Y6
   refine⟨D,E,_,_,rfl,rfl,SqL.of eD2,SqL.of e2,kcY _,rfl,_,rfl,?_⟩
   cases hi0:is with
   |nil=>
    subst hi0
    refine iteT ?_
    nofun
    refine k1 _ s2 fun z hz'=>?_
    obtain⟨l,el⟩:=MB.mp hz'
    rcases Int.lt_or_le 0 z with hp|hp
    ·exact absurd rfl (hno l z (by have:=at_lt el;simpa using this) el hp)
    ·exact hp
   | cons i0 is0=>
    refine iteF ?_
    have hlen:0<is.length:=by rw[hi0];simp
    have hl12:is.length≤12:=by simp at hil;omega
    clear hi0
    nofun
    exists Y8
    refine⟨_,rfl,_,rfl,_,rfl,_,rfl,D,_,rfl, .inl (SqL.of eD2),a,ns,k,3,_,rfl,s2.seq hS,⟨by omega,by omega⟩,⟨by decide,by decide⟩,(by rw[Nr];omega),fun u u0 u1=>?_⟩
    rw[Nr] at u1
    obtain⟨j,rfl⟩:=Int.eq_ofNat_of_zero_le u0
    obtain⟨l,el⟩:=at_of (xs:=is) (i:=j) (by omega)
    obtain⟨z,ez,hz0⟩:=his l (NA el)
    have hzb:=hz z (NA ez)
    exists 3
    exists Y8
    refine⟨D,_,_,_,rfl,rfl,SqL.of eD2,kaU (v:=iV l) (by rw[NC,el];rfl),?_⟩
    exists 3
    exists Y8
    refine⟨_,rfl,_,rfl,a,ns,k,4,4,rfl,s2.seq hS,⟨by omega,by omega⟩,⟨by decide,by decide⟩,by decide,fun hw hw0 hw1=>?_⟩
    have hm2:=SqL.of (K:=K) (s2 _ _ hm)
    have hat:atI (zs.map V.int) ((l:Nat):Int)=some (V.int z):=kaU (v:=V.int z) (by rw[NC,ez];rfl)
    exists 3
    refine⟨_,rfl,rfl,_,rfl,ite2 (fun _=>?_) (fun _=>?_)⟩
    ·exact⟨_,rfl,_,rfl,_,rfl,m,_,_,_,rfl,rfl,hm2,hat,(by show 2≤sizeLine;decide),fun p fp=>k2 _ p l z z (s2.trans (kak fp)) (s2.free fp) kad ez (by omega) (by omega)⟩
    ·refine⟨_,rfl,_,rfl,m,_,_,_,rfl,rfl,hm2,hat,_,_,rfl,rfl,⟨by decide,by decide⟩,_,_,rfl,rfl,?_⟩
     exists 3
     refine⟨_,rfl,rfl,_,rfl,ite2 (fun _=>?_) (fun _=>?_)⟩
     ·exact⟨_,rfl,_,rfl,(by show 2≤sizeLine;decide),fun p fp=>k2 _ p l (1+z/3) z (s2.trans (kak fp)) (s2.free fp) kad ez (by omega) (by omega)⟩
     ·refine⟨_,rfl,_,rfl,_,rfl,_,rfl,_,rfl,_,rfl,m,_,_,_,rfl,rfl,hm2,hat,_,_,rfl,rfl,_,rfl,_,_,rfl,rfl,a,ns,k,5,_,rfl,s2.seq hS,⟨by omega,by omega⟩,⟨by decide,by decide⟩,by omega,fun u u0 u1=>⟨_,_,rfl,rfl,(by show 2≤sizeLine;decide),fun p fp=>k2 _ p l (1+z/3+u) z (s2.trans (kak fp)) (s2.free fp) kad ez (by omega) (by omega)⟩⟩
inductive kiS (K:Nt) (d:D) (vs:List V) (H:Hp) (Q:VK) (E_:XK):Prop
 |ct (a:Addr)(ns:List Int)(bk:Str)(_:vs=[.ref a, .str bk])(_:SqL K H a (ns.map V.int))(_:Tbs d H)(_:∀(H':Hp)(p t b h:Addr)(T:TillD)(B:Bask)(hand:List Int),Same H H'→H' p=some (.tup [.ref t, .ref b, .ref h])→TillIs d H' t T→T.bk=bk→kcp T→0<T.vs.length→BaskIs d.qe d.qg H' b B→Wf T.ps B (stnd0 B)→H' h=some (.lst (hand.map V.int))→hand.length=T.vs.length→Q (.ref p) H'):kiS K d vs H Q E_
theorem QW:kao ["_law_script","_law_back","_law_parents_here","_law_basket_here","_law_till_here"] ["_law_script","_law_back"] (kag kcO):=by ac_rfl
theorem kfR(W:WB K mg d base):FO P w W 8 d.Ze d.Zf ["_law_script","_law_back"] (kiS K d):=by
 exists W.VC.F,QW
 ·obtain⟨a,ns,bk,rfl,hS,htb0,k⟩:=h
  exists Ji,keM,W
  exists Jj,ke7,W
  exists Jk,kgv,W
  exists Jl,kgx,W
  exists hr3,3,hr,0
  exists hr4,4,hr,0
  refine⟨_,kac (psl (i:=2) QW.nd (pcl Ji hr3 W.Vq (kaa (pv 0) kae)))
   (kac (psl (i:=3) QW.nd (pcl Jj hr4 W.Vr (kaa (pv 0) (kaa (kau (r:=ka6 K) kax (by rfl) W.B.len b_len (kaa (pv 2) kae)) kae))))
   (kac (psl (i:=4) QW.nd (pcl Jk hr W.Vx (kaa (pv 0) (kaa (pv 2) (kaa (pv 3) (kaa (pv 1) kae))))))
   (kah (kap (ka0 (kaa (pv 4) (kaa (pv 3) (kaa (pcl Jl hr3 W.Vy (kaa (pv 0) (kaa (kau (r:=ka6 K) kax (by rfl) W.B.len b_len (kaa (kai (K:=K) (pv 4) rfl) kae)) kae))) kae)))))))),?_⟩
  refine⟨_,rfl,a,ns,rfl,hS,fun H1 p ps s1 f1 hp hg hl20 hl0=>?_⟩
  refine⟨_,rfl,_,rfl,p,_,rfl, .inl (SqL.of hp),a,ns,ps.length,(by rw[Nr];rfl),s1.seq hS,hl0,fun H2 b B s2 f2 hb hB12 hBok hBkd hBc hB64=>?_⟩
  have wf0:=Wf.start hg hl20 hBkd hBok hB12 hBc hB64
  have s02:=s1.trans s2
  refine⟨_,rfl,_,rfl,_,rfl,_,rfl,a,p,b,ns,ps,B,bk,rfl,s02.seq hS,s2 _ _ hp,hl0,hb,hB12,hBok,Tbs.same s02 htb0,fun H3 t vs rs s3 f3 hT tok hv0=>?_⟩
  have s03:=s02.trans s3
  obtain⟨dxt,fst,tp,vl,rl,va,ra,ht,t1,t2,t3,t4,htp,hvl,hva,hrl,hra⟩:=id hT
  have lva:=hva.len
  have lvs:vs.length≤8:=tok.nv
  refine⟨_,rfl,_,rfl,_,rfl,_,rfl,t,d.qf,dxt,fst,_,rfl,ht,W.qf.cl,W.qG,t2,vl,_,rfl, .inl (SqL.of hvl),a,ns,vs.length,(by rw[Nr,lva];rfl),s03.seq hS,lvs,fun H4 h hand s4 f4 hh hhl=>?_⟩
  refine⟨(by show 3≤sizeLine;decide),fun u fu=>?_⟩
  have n5:=kak (o:=.tup [.ref t, .ref b, .ref h]) fu
  exact k _ u t b h ⟨ps,vs,rs,bk⟩ B hand ((s03.trans s4).trans n5) kad ((hT.same s4).same n5) rfl tok hv0 (((hb.same s3).same s4).same n5) wf0 (n5 _ _ hh) hhl
structure ToldAt (H:Hp) (p:Addr) (A:AccD):Prop where
 out:∃o f m:Addr,H p=some (.lst [.ref o, .ref f, .ref m, .int A.paid, .int A.owed])∧H o=some (.lst (A.order.map iV))∧H f=some (.lst (A.fallen.map iV))∧H m=some (.lst (A.many.map V.int))
theorem ToldAt.same{H H':Hp}{p:Addr}{A:AccD}(s:Same H H')(h:ToldAt H p A):ToldAt H' p A:=by
 obtain⟨o,f,m,h1,h2,h3,h4⟩:=h.out
 exact⟨o,f,m,s _ _ h1,s _ _ h2,s _ _ h3,s _ _ h4⟩
theorem kf1{K:Nt}{H:Hp}{a b:Addr}{xs:List V}(hf:∀v∈xs,∃z:Int,v=.int z)(ha:H a=some (.lst xs))(hb:H b=some (.lst xs)):DEq K H 32 (.ref a) (.ref b):=
 .lst (SqL.of ha) (SqL.of hb) rfl fun i x y ex ey=>by
  rw[ex] at ey
  cases ey
  obtain⟨z,rfl⟩:=hf x (NA ex)
  exact .int _
theorem ToldAt.deq{K:Nt}{H:Hp}{p q:Addr}{A:AccD}(h:ToldAt H p A)(g:ToldAt H q A):∃xs ys:List V,((SqL K H p xs∧SqL K H q ys)∨(SqT K H p xs∧SqT K H q ys))∧xs.length=ys.length∧∀(i:Nat)(x y:V),xs[i]?=some x→ys[i]?=some y→DEq K H 32 x y:=by
 obtain⟨o,f,m,h1,h2,h3,h4⟩:=h.out
 obtain⟨o',f',m',g1,g2,g3,g4⟩:=g.out
 have nat:∀{xs:List Nat},∀v∈xs.map iV,∃z:Int,v=.int z:=fun v hv=>by
  obtain⟨z,-,rfl⟩:=NQ.mp hv
  exact⟨_,rfl⟩
 have int:∀{xs:List Int},∀v∈xs.map V.int,∃z:Int,v=.int z:=fun v hv=>by
  obtain⟨z,-,rfl⟩:=NQ.mp hv
  exact⟨_,rfl⟩
 refine⟨_,_, .inl ⟨SqL.of h1,SqL.of g1⟩,rfl,fun i x y ex ey=>?_⟩
 match i,ex,ey with
 |0,ex,ey=>cases ex;cases ey;exact kf1 nat h2 g2
 |1,ex,ey=>cases ex;cases ey;exact kf1 nat h3 g3
 |2,ex,ey=>cases ex;cases ey;exact kf1 int h4 g4
 |3,ex,ey=>cases ex;cases ey;exact .int _
 |4,ex,ey=>cases ex;cases ey;exact .int _
 |i+5,ex,ey=>cases ex
inductive kk1 (d:D) (vs:List V) (H:Hp) (Q:VK) (E_:XK):Prop
 |ct (Hs:Hp)(x:Addr)(A:AccD)(_:vs=[.ref x])(_:Same Hs H)(_:AccIn d Hs H x A)(_:A.order.length+A.fallen.length≤8)(_:A.many.length≤12)(_:∀(H':Hp)(p:Addr),Same H H'→H p=none→ToldAt H' p A→Q (.ref p) H'):kk1 d vs H Q E_
theorem kgn:kao ["_law_account"] ["_law_account"] (kag kdi):=by ac_rfl
theorem kd2(W:WB K mg d base):FO P w W 1 d.Zg d.Zh ["_law_account"] (kk1 d):=by
 exists W.Qd.F,kgn
 ·obtain⟨Hs,x,A,rfl,sS,⟨dx,t,b,hd,fp,o',fa',m',fs,hx,F,k⟩,lo,lm,kk⟩:=h
  refine⟨_,kah (kap (kaK (kaa (kaH (r:=kbe K) kaB (by rfl) W.B.list kbD (kaa (kai (K:=K) (pv 0) rfl) kae)) (kaa (kaH (r:=kbe K) kaB (by rfl) W.B.list kbD (kaa (kai (K:=K) (pv 0) rfl) kae)) (kaa (kaH (r:=kbe K) kaB (by rfl) W.B.list kbD (kaa (kai (K:=K) (pv 0) rfl) kae)) (kaa (kai (K:=K) (pv 0) rfl) (kaa (kai (K:=K) (pv 0) rfl) kae))))))),?_⟩
  have ho':=sS _ _ k.o
  have hfa':=sS _ _ k.f
  have hm':=sS _ _ k.m
  refine⟨_,rfl,x,d.qc,dx,fs,_,rfl,hx,W.qc.cl,W.qI,F.l5,o',_,rfl, .inl (SqL.of ho'),fun p1 f1=>?_⟩
  generalize hg1:upd H p1 _=H1
  obtain⟨n1,e1⟩:=kaF hg1 f1
  refine⟨_,rfl,x,d.qc,dx,fs,_,rfl,n1 _ _ hx,W.qc.cl,W.qW,F.l6,fa',_,rfl, .inl (SqL.of (n1 _ _ hfa')),fun p2 f2=>?_⟩
  generalize hg2:upd H1 p2 _=H2
  obtain⟨n2,e2⟩:=kaF hg2 f2
  have s2:=n1.trans n2
  refine⟨_,rfl,x,d.qc,dx,fs,_,rfl,s2 _ _ hx,W.qc.cl,W.qr,F.l7,m',_,rfl, .inl (SqL.of (s2 _ _ hm')),fun p3 f3=>?_⟩
  generalize hg3:upd H2 p3 _=H3
  obtain⟨n3,e3⟩:=kaF hg3 f3
  have s3:=s2.trans n3
  refine⟨_,rfl,x,d.qc,dx,fs,_,rfl,s3 _ _ hx,W.qc.cl,W.Qn,F.l8,_,rfl,x,d.qc,dx,fs,_,rfl,s3 _ _ hx,W.qc.cl,W.Xq,F.l9,(by show 5≤sizeLine;decide),fun p fp=>?_⟩
  generalize hg4:upd H3 p _=H4
  obtain⟨n4,e4⟩:=kaF hg4 fp
  exact kk H4 p (s3.trans n4) (none_of s3 fp) ⟨p1,p2,p3,e4,n4 _ _ (n3 _ _ (n2 _ _ e1)),n4 _ _ (n3 _ _ e2),n4 _ _ e3⟩
inductive kgd (d:D) (vs:List V) (H:Hp) (Q:VK) (E_:XK):Prop
 |ct (Hs:Hp)(x:Addr)(l n:Int)(A:AccD)(_:vs=[.ref x, .int l, .int n])(_:Same Hs H)(_:AccIn d Hs H x A)(_:A.order.length+A.fallen.length≤8)(_:A.many.length≤12)(_:hasM A.many l n=false)(_:∀(H':Hp),Same H H'→Q (.bl true) H'):kgd d vs H Q E_
theorem QA:kao ["_law_account","_law_line","_law_many","_law_ahead","_law_caught","error"] ["_law_account","_law_line","_law_many"] (kag kce):=by ac_rfl
theorem keL(W:WB K mg d base):FO P w W 18 d.Zi d.Zj ["_law_account","_law_line","_law_many"] (kgd d):=by
 exists W.VD.F,QA
 ·obtain⟨Hs,x,l,n,A,rfl,sS,hA,lo,lm,hno,kk⟩:=h
  exists QB,kd2,W
  exists GX_Account_take_back,kbB,W
  exists hr1,1,hr,0
  refine⟨_,kac (psl (i:=3) QA.nd (pcl QB hr1 W.Qd (kaa (pv 0) kae)))
   (kac (psl (i:=4) QA.nd ka1)
   (kac (kmq (n:="error") (i:=5) kiB QA.nd rfl rfl rfl W.UI (kly (klx kiB (fun _ _ z=>z) (pv 0) W.qc.cl W.qS.me GX_Account_take_back hr W.qS.b .nil (kaa (pv 1) (kaa (pv 2) kae)))) (fun _=>kah (psl (i:=4) QA.nd (pv 5))))
   (kac (ps_if (PW.pt (pw_or (kez (ka4 (kau (r:=rIsiX K) kgI (by rfl) W.B.isi b_isi (kaa (pv 4) (kaa (kcw (v:=.ref d.qq) (by rfl) W.VX rfl) kae))))) (ki7 (kez (ka4 (kau (r:=rIsiX K) kgI (by rfl) W.B.isi b_isi (kaa (pv 4) (kaa (klV (v:=.ty "ValueError") (by rfl) W.zVE kgO rfl) kae)))))))) (kah (kap pe_bl)) (kat))
   (kac (ps_if (ka4 (kau (r:=kla K) kiu (by rfl) W.B.isi b_isi (kaa (pv 4) (kaa (ka0 (kaa (kcw (v:=.ref d.q9) (by rfl) W.UH rfl) (kaa (kcw (v:=.ref d.Qa) (by rfl) W.UJ rfl) kae))) kae)))) (kah (kap pe_bl)) (kat))
   (kah (kap (kby (kmD hr.units) (pcl QB hr1 W.Qd (kaa (pv 0) kae)) (pv 3) (kav _)))))))),?_⟩
  refine⟨_,rfl,Hs,x,A,rfl,sS,hA,lo,lm,fun H1 p s1 fp hp=>?_⟩
  obtain⟨dx,t,b,hd,fp',o',fa',m',fs,hx,F,k⟩:=id (hA.same s1)
  refine⟨_,rfl,x,dx,fs,rfl,hx,F.l11 _ (by decide +kernel),_,rfl,_,rfl, .inr ⟨Hs,x,l,n,A,rfl,sS.trans s1,hA.same s1,hno,W.xm_NoPieces_TillError,fun e fe=>?_⟩⟩
  generalize hg2:upd H1 e _=H2
  obtain⟨n2,e2⟩:=kaF hg2 fe
  refine⟨_,rfl,_,rfl,e,d.qq,none,_,true,rfl, .inr ⟨_,rfl⟩,e2,(fun _ z=>by cases z),W.x_NoPieces,kc4 _ _,?_⟩
  refine⟨_,rfl,iteF ⟨_,rfl,e,d.qq,none,_,true,rfl, .inl ⟨_,rfl⟩,e2,(fun _ z=>by cases z),W.x_NoPieces,W.ki_NoPieces_ValueError,_,rfl,iteF ?_⟩⟩
  refine⟨_,rfl,(by show 2≤sizeLine;decide),fun tp ftp=>?_⟩
  generalize hg3:upd H2 tp _=H3
  obtain⟨n3,(e3:H3 tp=some (.tup ([d.q9,d.Qa].map V.ref)))⟩:=kaF hg3 ftp
  refine⟨e,d.qq,tp,none,_,false,rfl,SqT.of e3,n3 _ _ e2,(fun _ z=>by cases z),W.x_NoPieces,?_,_,rfl,iteF ?_⟩
  ·show Ek K _ [.ref d.q9, .ref d.Qa]=some false
   unfold Ek Ek Ek
   rw[W.ki_NoPieces_NotLet,W.ki_NoPieces_LineError]
  have s3:=(s1.trans n2).trans n3
  refine⟨_,rfl,Hs,x,A,rfl,sS.trans s3,hA.same s3,lo,lm,fun H4 q s4 fq hq=>?_⟩
  obtain⟨xs,ys,h1,h2,h3⟩:=hq.deq (K:=K) (hp.same ((n2.trans n3).trans s4))
  exact⟨_,rfl,q,p,xs,ys,rfl,rfl,h1,h2,h3,kk H4 (s3.trans s4)⟩
theorem kfX{many:List Int}{l n:Int}(h:l<0):hasM many l n=false:=by
 unfold hasM
 rw[decide_eq_false (by omega)]
 rfl
theorem kjH{many:List Int}{l n:Int}(h:(many.length:Int)≤l):hasM many l n=false:=by
 unfold hasM
 rw[show decide (l<((many.length:Nat):Int))=false from decide_eq_false (by omega),M9,ML]
theorem kfY{many:List Int}{l n:Int}(h:n<1):hasM many l n=false:=by
 unfold hasM
 rw[decide_eq_false (p:=1≤n) (by omega),M9,ML,ML]
theorem kh3{many:List Int}{l:Nat}{n z:Int}(hz:many[l]?=some z)(h:z<n):hasM many ((l:Nat):Int) n=false:=by
 have e:many.getD ((l:Nat):Int).toNat 0=z:=by rw[Int.toNat_natCast,NR,hz];rfl
 unfold hasM
 rw[e,decide_eq_false (p:=n≤z) (by omega),ML,ML,ML]
structure Odd (many:List Int) (H:Hp) (p:Addr):Prop where
 out:∃l n:Int,H p=some (.tup [.int l, .int n])∧hasM many l n=false
theorem Odd.same{many:List Int}{H H':Hp}{p:Addr}(s:Same H H')(h:Odd many H p):Odd many H' p:=by
 obtain⟨l,n,e,f⟩:=h.out
 exact⟨l,n,s _ _ e,f⟩
theorem Odd.but{many:List Int}{H H':Hp}{p x:Addr}{xs:List V}(b:But x H H')(hx:H x=some (.lst xs))(h:Odd many H p):Odd many H' p:=by
 obtain⟨l,n,e,f⟩:=h.out
 exact⟨l,n,b _ _ (ne_of e hx (by intro z;cases z)) e,f⟩
theorem kbX{many:List Int}{H H':Hp}{p:Addr}{l n:Int}(h:upd H p (.tup [.int l, .int n])=H')(f:H p=none)(g:hasM many l n=false):Same H H'∧Odd many H' p:=by
 obtain⟨s,e⟩:=kaF h f
 exact⟨s,l,n,e,g⟩
inductive khC (K:Nt) (d:D) (vs:List V) (H:Hp) (Q:VK) (E_:XK):Prop
 |ct (Hs:Hp)(a x m:Addr)(ns:List Int)(k:Int)(A:AccD)(_:vs=[.ref a, .int k, .ref x, .ref m])(_:SqL K H a (ns.map V.int))(_:(0≤k∧k≤900))(_:Same Hs H)(_:AccIn d Hs H x A)(_:A.order.length+A.fallen.length≤8)(_:A.many.length≤12)(_:H m=some (.lst (A.many.map V.int)))(_:(∀z∈A.many,0≤z))(_:∀(H':Hp),Same H H'→Q (.bl true) H'):khC K d vs H Q E_
theorem qL:kao ["_law_script","_law_k","_law_account","_law_many","_law_lines","_law_great","_law_strange","_law_line","_law_turn","_law_pieces"] ["_law_script","_law_k","_law_account","_law_many"] (kag kbm):=by ac_rfl
theorem kdn(W:WB K mg d base):FO P w W 19 d.Zk d.Zl ["_law_script","_law_k","_law_account","_law_many"] (khC K d):=by
 exists W.Xd.F,qL
 ·obtain⟨Hs,a,x,m,ns,k,A,rfl,hS,hk,sS,hA,lo,lm,hm,hz,kk⟩:=h
  exists qh,kaI,W
  exists Jm,keL,W
  exists hr2,2,hr,0
  refine⟨_,kac (psl (i:=4) qL.nd (kau (r:=ka6 K) kax (by rfl) W.B.len b_len (kaa (pv 3) kae)))
   (kac (psl (i:=5) qL.nd (pe_op kmA kaf (pcl qh hr2 W.qj (kaa (pv 0) (kaa (pv 1) (kaa kaf (kaa kaf kae)))))))
   (kac (psl (i:=6) qL.nd (kaK (kaa (ka0 (kaa (pe_un kep kaf) (kaa kaf kae))) (kaa (ka0 (kaa (pv 4) (kaa kaf kae))) (kaa (ka0 (kaa (pe_op kcB (pe_un kep kaf) (pv 4)) (kaa kaf kae))) (kaa (ka0 (kaa (pe_op kaz (pv 5) (pv 4)) (kaa kaf kae))) (kaa (ka0 (kaa (pe_un kep (pv 5)) (kaa kaf kae))) kae)))))))
   (kac (kbp PassesOwn.never rfl (kbq rfl W.B.range (kaa (pv 4) kae)) (pgn (i:=7) qL.nd)
   (kac (kaS (pe_bm N4 Dj Dk keP (pv 6) (kaa (kaK (kaa (ka0 (kaa (pv 7) (kaa kaf kae))) (kaa (ka0 (kaa (pv 7) (kaa (pe_un kep kaf) kae))) (kaa (ka0 (kaa (pv 7) (kaa (pe_op kaz (pe_ix (r:=rIxL K) kaC (pv 3) (pv 7) (fun _ _=>rfl)) kaf) kae))) (kaa (ka0 (kaa (pv 7) (kaa (pe_un kep (pv 5)) kae))) (kaa (ka0 (kaa (pv 7) (kaa (pe_op kaz (pe_ix (r:=rIxL K) kaC (pv 3) (pv 7) (fun _ _=>rfl)) (pv 5)) kae))) kae)))))) kae)))
   (kah (kaS (pe_bm N4 Mu Mv ka5 (pv 6) (kaa (ka0 (kaa (pe_op kcB (pv 7) (pv 4)) (kaa (pe_ix (r:=rIxL K) kaC (pv 3) (pv 7) (fun _ _=>rfl)) kae))) kae))))))
   (kac (kbp PassesOwn.never rfl (kbq rfl W.B.range (kaa kaf kae)) (pgn (i:=8) qL.nd)
   (kac (khK (pe_ix (r:=rIxL K) kaC (pv 6) (pcl qh hr2 W.qj (kaa (pv 0) (kaa (pv 1) (kaa (pe_op kaz kaf (pv 8)) (kaa (kau (r:=ka6 K) kax (by rfl) W.B.len b_len (kaa (pv 6) kae)) kae))))) (fun _ _=>rfl)) (kbs (K:=K) (n:=2) rfl (kay (pgn (i:=7) qL.nd) (kay (pgn (i:=9) qL.nd) kbr))))
   (kah (ps_if (kez (ka4 (pcl Jm hr W.VD (kaa (pv 2) (kaa (pv 7) (kaa (pv 9) kae)))))) (kah (kap pe_bl)) (kat)))))
   (kah (kap pe_bl)))))),?_⟩
  refine⟨_,rfl,m,_,rfl, .inl (SqL.of hm),?_⟩
  refine⟨_,rfl,_,rfl,a,ns,k,6,200,rfl,hS,⟨by omega,by omega⟩,⟨by decide,by decide⟩,by decide,fun c c0 c1=>?_⟩
  refine⟨_,_,rfl,rfl,⟨by omega,by omega,by decide⟩,?_⟩
  show gName 5 (V.int (1*2 ^ c.toNat)) _ _ _
  have g1:(1:Int)≤1*2 ^ c.toNat:=by
   rw[Int.one_mul]
   exact Int.pow_pos (by decide)
  generalize (1:Int)*2 ^ c.toNat=g at *
  rw[Nr]
  refine⟨_,rfl,(by show 2≤sizeLine;decide),fun q1 f1=>?_⟩
  generalize hg1:upd H q1 _=H1
  obtain⟨n1,o1⟩:=kbX (many:=A.many) hg1 f1 (kfX (by decide))
  refine⟨_,rfl,(by show 2≤sizeLine;decide),fun q2 f2=>?_⟩
  generalize hg2:upd H1 q2 _=H2
  obtain⟨n2,o2⟩:=kbX (many:=A.many) hg2 f2 (kjH (Int.le_refl _))
  refine⟨_,rfl,_,rfl,_,_,rfl,rfl,(by show 2≤sizeLine;decide),fun q3 f3=>?_⟩
  generalize hg3:upd H2 q3 _=H3
  obtain⟨n3,o3⟩:=kbX (many:=A.many) hg3 f3 (kfX (by omega))
  refine⟨_,rfl,_,rfl,_,_,rfl,rfl,(by show 2≤sizeLine;decide),fun q4 f4=>?_⟩
  generalize hg4:upd H3 q4 _=H4
  obtain⟨n4,o4⟩:=kbX (many:=A.many) hg4 f4 (kjH (by omega))
  refine⟨_,rfl,_,rfl,(by show 2≤sizeLine;decide),fun q5 f5=>?_⟩
  generalize hg5:upd H4 q5 _=H5
  obtain⟨n5,o5⟩:=kbX (many:=A.many) hg5 f5 (kfX (by omega))
  refine⟨(by show 5≤sizeLine;decide),fun D fD=>?_⟩
  generalize hg6:upd H5 D _=H6
  obtain⟨n6,(eD6:H6 D=some (.lst ([q1,q2,q3,q4,q5].map V.ref)))⟩:=kaF hg6 fD
  have s25:=n2.trans (n3.trans (n4.trans (n5.trans n6)))
  have s06:=n1.trans s25
  have fD0:H D=none:=none_of (n1.trans (n2.trans (n3.trans (n4.trans n5)))) fD
  have hodd:∀p∈[q1,q2,q3,q4,q5],Odd A.many H6 p:=by
   intro p hp
   simp only[NO,Mi,or_false] at hp
   rcases hp with rfl|rfl|rfl|rfl|rfl
   ·exact o1.same s25
   ·exact o2.same (n3.trans (n4.trans (n5.trans n6)))
   ·exact o3.same (n4.trans (n5.trans n6))
   ·exact o4.same (n5.trans n6)
   ·exact o5.same n6
  clear s25 o1 o2 o3 o4 o5 n1 n2 n3 n4 n5 n6 hg1 hg2 hg3 hg4 hg5 hg6
  refine⟨_,rfl,_,rfl,by omega,by omega,?_⟩
  refine kbZ (fun i σ H'=>Same H H'∧∃(ps:List Addr)(v7:Option V),H' D=some (.lst (ps.map V.ref))∧ps.length=5+6*i∧(∀p∈ps,Odd A.many H' p)∧σ=[some (.ref a),some (.int k),some (.ref x),some (.ref m),some (iV A.many.length),some (.int g),some (.ref D),v7,none,none])
   ⟨s06,_,none,eD6,rfl,hodd,rfl⟩ ?_ ?_
  ·rintro i σ H' hi ⟨s2,ps,v7,eD,hlen,ho,rfl⟩
   have hi':i<A.many.length:=by omega
   rw[Int.zero_add]
   obtain⟨z,ez⟩:=at_of hi'
   have z0:=hz z (NA ez)
   have hat:atI (A.many.map V.int) ((i:Nat):Int)=some (V.int z):=kaU (v:=V.int z) (by rw[NC,ez];rfl)
   have hm2:=s2 _ _ hm
   clear hodd eD6 s06
   refine⟨_,rfl, .inl ⟨rfl,_,SqL.of eD⟩,?_⟩
   refine⟨_,rfl,(by show 2≤sizeLine;decide),fun q1 f1=>?_⟩
   generalize hg1:upd H' q1 _=H1
   obtain⟨n1,o1⟩:=kbX (many:=A.many) hg1 f1 (kfY (by decide))
   refine⟨_,rfl,_,rfl,(by show 2≤sizeLine;decide),fun q2 f2=>?_⟩
   generalize hg2:upd H1 q2 _=H2
   obtain⟨n2,o2⟩:=kbX (many:=A.many) hg2 f2 (kfY (by decide))
   have s12:=n1.trans n2
   refine⟨_,rfl,_,rfl,_,rfl,m,_,_,_,rfl,rfl,SqL.of (s12 _ _ hm2),hat,_,_,rfl,rfl,(by show 2≤sizeLine;decide),fun q3 f3=>?_⟩
   generalize hg3:upd H2 q3 _=H3
   obtain⟨n3,o3⟩:=kbX (many:=A.many) hg3 f3 (kh3 ez (by omega))
   refine⟨_,rfl,_,rfl,_,rfl,(by show 2≤sizeLine;decide),fun q4 f4=>?_⟩
   generalize hg4:upd H3 q4 _=H4
   obtain⟨n4,o4⟩:=kbX (many:=A.many) hg4 f4 (kfY (by omega))
   have s14:=s12.trans (n3.trans n4)
   refine⟨_,rfl,_,rfl,_,rfl,m,_,_,_,rfl,rfl,SqL.of (s14 _ _ hm2),hat,_,rfl,_,_,rfl,rfl,(by show 2≤sizeLine;decide),fun q5 f5=>?_⟩
   generalize hg5:upd H4 q5 _=H5
   obtain⟨n5,o5⟩:=kbX (many:=A.many) hg5 f5 (kh3 ez (by omega))
   refine⟨(by show 5≤sizeLine;decide),fun L fL=>?_⟩
   generalize hg6:upd H5 L _=H6
   obtain⟨n6,(eL:H6 L=some (.lst ([q1,q2,q3,q4,q5].map V.ref)))⟩:=kaF hg6 fL
   have s16:=s14.trans (n5.trans n6)
   have eD6:=s16 _ _ eD
   refine⟨D,L,_,_,rfl,rfl,eD6,eL,NF (kan (by rw[Nr];show _+5≤1000;omega)),?_⟩
   rw[←Ny]
   have hodd:∀p∈ps++[q1,q2,q3,q4,q5],Odd A.many H6 p:=by
    intro p hp
    rcases N1.mp hp with hp|hp
    ·exact(ho p hp).same s16
    simp only[NO,Mi,or_false] at hp
    rcases hp with rfl|rfl|rfl|rfl|rfl
    ·exact o1.same (n2.trans (n3.trans (n4.trans (n5.trans n6))))
    ·exact o2.same (n3.trans (n4.trans (n5.trans n6)))
    ·exact o3.same (n4.trans (n5.trans n6))
    ·exact o4.same (n5.trans n6)
    ·exact o5.same n6
   have s06:=s2.trans s16
   clear s16 s14 s12 ho o1 o2 o3 o4 o5 n1 n2 n3 n4 n5 n6 hg1 hg2 hg3 hg4 hg5 hg6 eL f1 f2 f3 f4 f5 fL
   have b7:But D H6 (upd H6 D (.lst ((ps++[q1,q2,q3,q4,q5]).map V.ref))):=kar (nx eD6)
   have s7:=kaq (o:=.lst ((ps++[q1,q2,q3,q4,q5]).map V.ref)) fD0 s06 (nx eD6)
   have ho7:∀p∈ps++[q1,q2,q3,q4,q5],Odd A.many (upd H6 D (.lst ((ps++[q1,q2,q3,q4,q5]).map V.ref))) p:=fun p hp=>(hodd p hp).but b7 eD6
   have eD7:(upd H6 D (.lst ((ps++[q1,q2,q3,q4,q5]).map V.ref))) D=some (.lst ((ps++[q1,q2,q3,q4,q5]).map V.ref)):=kad
   generalize upd H6 D (.lst ((ps++[q1,q2,q3,q4,q5]).map V.ref))=H7 at *
   refine⟨_,rfl, .inl ⟨rfl,_,SqL.of eD7⟩,_,rfl,_,rfl,_,_,rfl,rfl,_,rfl,_,rfl,m,_,_,_,rfl,rfl,SqL.of (s7 _ _ hm),hat,(by show 2≤sizeLine;decide),fun q fq=>?_⟩
   generalize hg8:upd H7 q _=H8
   obtain⟨n8,o8⟩:=kbX (many:=A.many) hg8 fq (kfX (by omega))
   have eD8:=n8 _ _ eD7
   refine⟨D,_,_,rfl,rfl,eD8,kan (by rw[Nr,NI];show ps.length+5≤1000;omega),?_⟩
   have b9:But D H8 (upd H8 D (.lst ((ps++[q1,q2,q3,q4,q5]).map V.ref++[V.ref q]))):=kar (nx eD8)
   refine⟨kaq fD0 (s7.trans n8) (nx eD8),ps++[q1,q2,q3,q4,q5]++[q],_,by rw[kad,Ny (l₂:=[q])];rfl,(by rw[NI,NI];show ps.length+5+1=_;omega),fun p hp=>?_,rfl⟩
   rcases N1.mp hp with hp|hp
   ·exact((ho7 p hp).same n8).but b9 eD8
   ·rw[Mt.mp hp]
    exact o8.but b9 eD8
  rintro σ H' ⟨s2,ps,v7,eD,hlen,ho,rfl⟩
  have lps:0<ps.length:=by omega
  refine⟨_,rfl,by decide,by decide,?_⟩
  clear hodd eD6 s06
  refine kbZ (fun i σ H2=>Same H' H2∧∃(v7 v8 v9:Option V),σ=[some (.ref a),some (.int k),some (.ref x),some (.ref m),some (iV A.many.length),some (.int g),some (.ref D),v7,v8,v9])
   ⟨.refl _,_,_,_,rfl⟩ ?_ ?_
  ·rintro i σ H2 hi ⟨s3,v7',v8,v9,rfl⟩
   have hi4:i<4:=by simpa using hi
   rw[Int.zero_add]
   have s03:=s2.trans s3
   have eD2:=s3 _ _ eD
   refine⟨_,rfl,_,rfl,_,rfl,_,rfl,_,_,rfl,rfl,_,rfl,D,_,rfl, .inl (SqL.of eD2),a,ns,k,10+(i:Int),_,rfl,s03.seq hS,⟨by omega,by omega⟩,⟨by omega,by omega⟩,(by rw[Nr];omega),fun u u0 u1=>?_⟩
   rw[Nr] at u1
   obtain⟨j,rfl⟩:=Int.eq_ofNat_of_zero_le u0
   obtain⟨q,eq⟩:=at_of (xs:=ps) (i:=j) (by omega)
   obtain⟨l,n,hq,hno⟩:=((ho q (NA eq)).same s3).out
   refine⟨D,_,_,_,rfl,rfl,SqL.of eD2,kaU (v:=.ref q) (by rw[NC,eq];rfl),q,_,rfl,SqT.of hq,rfl,_,_,rfl,_,_,rfl,rfl,?_⟩
   refine⟨_,rfl,_,rfl,_,rfl,Hs,x,l,n,A,rfl,sS.trans s03,hA.same s03,lo,lm,hno,fun H3 s4=>⟨_,rfl,iteF ?_⟩⟩
   exact⟨s3.trans s4,_,_,_,rfl⟩
  rintro σ H2 ⟨s3,v7',v8,v9,rfl⟩
  exact kk H2 (s2.trans s3)
structure ManyOk (B:Bask) (many:List Int):Prop where
 len:many.length=B.rs.length
 le:∀(i:Nat)(z:Int)(r:Row),many[i]?=some z→B.rs[i]?=some r→0≤z∧z≤r.mn
theorem kju:∀{rs:List Row}{many:List Int},(∀(i:Nat)(z:Int)(r:Row),many[i]?=some z→rs[i]?=some r→0≤z∧z≤r.mn)→(mans (N2 (fun(r:Row)(m:Int)=>{r with mn:=m}) rs many)).sum≤(mans rs).sum
 |[],_,_=>by simp[mans]
 |r::rs,[],_=>by simp[mans]
 |r::rs,z::many,h=>by
  have h0:=h 0 z r rfl rfl
  have h1:=kju (rs:=rs) (many:=many) fun i z r e1 e2=>h (i+1) z r e1 e2
  rw[List.zipWith_cons_cons]
  unfold mans at h1⊢
  rw[NJ,NJ,MR,MR]
  show z.toNat+_≤r.mn.toNat+_
  omega
theorem kga{B:Bask}{many:List Int}{r:Row}(h:r∈(kbJ B many).rs):∃(i:Nat)(q:Row)(z:Int),B.rs[i]?=some q∧many[i]?=some z∧r= {q with mn:=z}:=by
 obtain⟨i,hi⟩:=MB.mp h
 unfold kbJ at hi
 simp only at hi
 rw[M6] at hi
 cases e1:B.rs[i]? with
 |none=>rw[e1] at hi;cases hi
 | some q=>
  cases e2:many[i]? with
  |none=>rw[e1,e2] at hi;cases hi
  |some z=>
   rw[e1,e2] at hi
   exact⟨i,q,z,e1,e2,(Option.some.inj hi).symm⟩
theorem kkd{ps:List (Option Nat)}{B:Bask}{many:List Int}(w:Wf ps B (stnd0 B))(m:ManyOk B many):Wf ps (kbJ B many) (stnd0 (kbJ B many)):=by
 refine Wf.start w.good w.pl (fun r hr=>?_) (fun r hr=>?_) ?_ w.bc ?_
 ·obtain⟨i,q,z,e1,e2,rfl⟩:=kga hr
  exact w.kd q (NA e1)
 ·obtain⟨i,q,z,e1,e2,rfl⟩:=kga hr
  have h:=w.ok q (NA e1)
  have hz:=m.le i z q e2 e1
  exact⟨h.pr0,h.pr1,hz.1,Int.le_trans hz.2 h.mn1,h.ex0⟩
 ·show(N2 _ B.rs many).length≤12
  rw[M5,m.len,MN]
  exact w.nl
 ·rw[kfJ]
  have h1:=kju m.le
  have h2:(ownN B.rs).length<64:=w.n64
  rw[kfJ] at h2
  exact MD h1 h2
theorem ManyOk.set{B:Bask}{many:List Int}{l:Nat}{z k:Int}(m:ManyOk B many)(h:many[l]?=some z)(h0:0≤k)(h1:k≤z):ManyOk B (many.set l k):=by
 refine⟨by rw[M0];exact m.len,fun i y r e1 e2=>?_⟩
 by_cases e:l=i
 ·subst e
  rw[MW (at_lt h)] at e1
  cases e1
  have:=m.le l z r h e2
  omega
 ·rw[MX e] at e1
  exact m.le i y r e1 e2
theorem kfs{T:TillD}{B:Bask}{hand:List Int}:∀{o u:List Nat}{S:Stnd},(∀n∈o,n<T.vs.length)→((thrM T B hand o u S).1++(thrM T B hand o u S).2.1).Perm (u++o)
 |[],u,S,_=>by unfold thrM;exact Mm.refl _
 | n::o,u,S,h=>by
  obtain⟨V,hV⟩:=at_of (h n NW)
  have h':∀m∈o,m<T.vs.length:=fun m hm=>h m (NP _ hm)
  unfold thrM
  rw[hV]
  simp only
  by_cases e:dueM V T B hand u S n=.non
  ·rw[if_pos e]
   have:=kfs (T:=T) (B:=B) (hand:=hand) (u:=u++[n]) (S:=aftM V T.ps (kds B) S) h'
   rw[Mj] at this
   exact this
  ·rw[if_neg e]
   exact Do.trans ((Mm.cons n (kfs h')).trans Do.symm)
theorem keX{l:Nat}:∀{o:List Nat},((o.filter fun m=>decide (m≠l))++Nw (o.count l) l).Perm o
 |[]=>Mm.refl _
 | a::o=>by
  rw[MU,Ej]
  by_cases e:a=l
  ·subst e
   rw[decide_eq_false (fun h=>h rfl),if_neg ND,beq_self_eq_true,if_pos rfl,My]
   exact Do.trans (Mm.cons a keX)
  ·have e1:(a==l)=false:=beq_eq_false_iff_ne.mpr e
   rw[decide_eq_true e,if_pos rfl,e1,if_neg ND,Nat.add_zero]
   exact Mm.cons a keX
theorem kia{T:TillD}{B:Bask}{hand:List Int}:∀{n:Nat}{o:List Nat},o.length<n→(∀m∈o,m<T.vs.length)→((dueA T B hand n o).1++(dueA T B hand n o).2.1).Perm o
 |0,o,h,_=>by omega
 | n+1,o,h,hlt=>by
  have hp:=kfs (T:=T) (B:=B) (hand:=hand) (u:=[]) (S:=stnd0 B) hlt
  have hl:=kfu (T:=T) (B:=B) (hand:=hand) (u:=[]) (S:=stnd0 B) hlt
  have hm:=fun m=>kft (T:=T) (B:=B) (hand:=hand) (o:=o) (u:=[]) (S:=stnd0 B) (m:=m)
  unfold dueA
  generalize thrM T B hand o [] (stnd0 B)=R at *
  simp only[MV,EA,Eg] at hl hp
  cases e:onlyM T.rs R.1 with
  |none=>exact hp
  | some l=>
   have hlt1:=filter_lt (khS e)
   have ih:=kia (T:=T) (B:=B) (hand:=hand) (n:=n) (o:=R.1.filter fun m=>decide (m≠l)) (by omega) fun m h=>hlt m ((hm m (Mo.mp h).1).resolve_left (by simp))
   simp only
   generalize dueA T B hand n (R.1.filter fun m=>decide (m≠l))=Q at *
   have h1:(Q.1++(R.2.1++(Nw (R.1.count l) l++Q.2.1))).Perm ((Q.1++Q.2.1)++Nw (R.1.count l) l++R.2.1):=by
    have a1:(R.2.1++(Nw (R.1.count l) l++Q.2.1)).Perm (Q.2.1++Nw (R.1.count l) l++R.2.1):=DE.trans (Mm.append_right _ DE)
    have a2:=Mm.append_left Q.1 a1
    simp only[Mj] at a2⊢
    exact a2
   exact h1.trans ((Mm.append_right _ ((Mm.append_right _ ih).trans keX)).trans hp)
theorem kj5{T:TillD}{B:Bask}(tok:kcp T):∀{o:List Nat}{S:Stnd},Wf T.ps B S→Wf T.ps B (billM T B o S).2
 |[],S,w=>w
 |n::o,S,w=>by
  unfold billM
  cases e:T.vs[n]? with
  |none=>exact w
  |some V=>exact kj5 tok (w.after (tok.vs V (NA e)))
theorem ManyOk.nn{B:Bask}{many:List Int}(m:ManyOk B many){z:Int}(hz:z∈many):0≤z:=by
 obtain⟨j,ej⟩:=MB.mp hz
 obtain⟨r,er⟩:=at_of (xs:=B.rs) (i:=j) (by rw[←m.len];exact at_lt ej)
 exact(m.le j z r ej er).1
structure Num36 (T:TillD) (B:Bask) (pr:List Int) (A:AccD):Prop where
 eT:A.T=T
 eB:A.B=B
 ep:A.pr=pr
 ok:AccOk A
 mo:ManyOk B A.many
theorem Num36.took{T:TillD}{B:Bask}{pr:List Int}{A:AccD}{l n:Nat}{z:Int}(N:Num36 T B pr A)(hz:A.many[l]?=some z)(hn:(n:Int)≤z):Num36 T B pr (tookB A l (z-n) n):=by
 have mo':=N.mo.set hz (show 0≤z-(n:Int) by omega) (show z-(n:Int)≤z by omega)
 have ml':(A.many.set l (z-n)).length=A.B.rs.length:=by rw[M0];exact N.ok.ml
 by_cases ag:A.T.bk=("again" :Str)
 ·have eA:tookB A l (z-n) n=tookA A l (z-n):=by unfold tookB;rw[if_pos ag]
  have l8:=N.ok.l8
  have wp:=kia (T:=A.T) (B:=kbJ A.B (A.many.set l (z-n))) (hand:=A.hand) (show A.order.length<9 by omega) N.ok.lt
  have edue:due1 A l (z-n)=dueA A.T (kbJ A.B (A.many.set l (z-n))) A.hand 9 A.order:=rfl
  rw[←edue] at wp
  have hl:=wp.length_eq
  rw[NI] at hl
  rw[eA]
  refine⟨N.eT,N.eB,N.ep,⟨N.ok.tok,N.ok.nl,ml',N.ok.hl,fun m hm=>N.ok.lt m (wp.mem_iff.mp (En _ hm)),?_⟩,mo'⟩
  show(due1 A l (z-n)).1.length+(A.fallen++(due1 A l (z-n)).2.1).length≤8
  rw[NI]
  omega
 ·have eA:tookB A l (z-n) n= {A with many:=A.many.set l (z-n),paid:=A.paid-bkS A l (z-n) n}:=by unfold tookB;rw[if_neg ag]
  rw[eA]
  exact⟨N.eT,N.eB,N.ep,⟨N.ok.tok,N.ok.nl,ml',N.ok.hl,N.ok.lt,N.ok.l8⟩,mo'⟩
theorem Num36.mode{T:TillD}{B:Bask}{pr:List Int}{A:AccD}{l n:Nat}{z:Int}(N:Num36 T B pr A)(hb:T.bk=("again" :Str)∨T.bk=("shares" :Str))(wf0:Wf T.ps B (stnd0 B))(hpl:pr.length=(mans B.rs).sum)(hz:A.many[l]?=some z)(hn:(n:Int)≤z):(A.T.bk=("again" :Str)∧Wf A.T.ps (kbJ A.B (A.many.set l (z-n))) (stnd0 (kbJ A.B (A.many.set l (z-n)))))∨(A.T.bk=("shares" :Str)∧(∀r∈A.B.rs,r.Ok)∧(mans (A.B.rs.take l)).sum+z.toNat≤A.pr.length):=by
 have mo':=N.mo.set hz (show 0≤z-(n:Int) by omega) (show z-(n:Int)≤z by omega)
 rw[N.eT,N.eB,N.ep]
 rcases hb with hb|hb
 ·exact .inl ⟨hb,kkd wf0 mo'⟩
 ·refine .inr ⟨hb,wf0.ok,?_⟩
  rw[hpl]
  obtain⟨r,er⟩:=at_of (xs:=B.rs) (i:=l) (by rw[←N.mo.len];exact at_lt hz)
  have h1:=N.mo.le l z r hz er
  have h2:=kjt B.rs (l+1)
  rw[kjs er,M8] at h2
  simp only[MR,List.sum_nil] at h2
  omega
theorem klC(e:Int):∃q:Nat,(if(if e-16<12 then e-16 else 12) > 4 then(if e-16<12 then e-16 else 12) else 4)=(q:Int)∧q≤12:=by
 by_cases c:e-16<12
 ·rw[if_pos c]
  by_cases c2:e-16 > 4
  ·rw[if_pos c2]
   exact⟨(e-16).toNat,by omega,by omega⟩
  ·rw[if_neg c2]
   exact⟨4,rfl,by decide⟩
 ·rw[if_neg c]
  exact⟨12,rfl,by decide⟩
noncomputable def St36(d:D)(H6:Hp)(x y:Addr)(A:AccD)(H':Hp):Prop:=∃Hs,Same H6 H'∧Same Hs H'∧Hs x=none∧Hs y=none∧AccIn d Hs H' x A∧AccIn d Hs H' y A
theorem St36.same{d:D}{H6 H' H'':Hp}{x y:Addr}{A:AccD}(s:Same H' H''):St36 d H6 x y A H'→St36 d H6 x y A H'':=fun⟨Hs,sI,sS,fx,fy,hA,hY⟩=>⟨Hs,sI.trans s,sS.trans s,fx,fy,hA.same s,hY.same s⟩
theorem qx:kao ["_law_script","_law_till_here","_law_basket_here","_law_hand_here","_law_order_here","_law_account","_law_other","_law_k","_law_many","_law_taken"] ["_law_script"] (kag s_law):=by ac_rfl
theorem kmE(W:WB K mg d base):FO P w W 20 d.f_law d.Zm ["_law_script"] (kgf K d.tP_falling_groups):=by
 refine FunD.ok W.d_law.F qx (fun vs H Q E h=>?_) (fun cdv A outer s H vs Q E hr h=>?_)
 ·obtain⟨a,ns,rfl,_⟩:=h
  rfl
 ·obtain⟨a,ns,rfl,hS,hn,htb0,k⟩:=h
  exists Jn,kfR,W
  exists qh,kaI,W
  exists Jo,kfO,W
  exists Ua,keO,W
  exists Ub,kdn,W
  exists Jp,kgw,W
  have Uc:=(kbB (P:=P) (w:=w) (base:=base) W).calm
  exists QB,kd2,W
  exists hr1,1,hr,0
  exists hr2,2,hr,0
  exists hr3,3,hr,0
  exists hr8,8,hr,0
  exists hr10,10,hr,0
  exists hr11,11,hr,0
  exists hr17,17,hr,0
  refine⟨_,kac (khK (pcl Jn hr8 W.VC (kaa (pv 0) (kaa (pe_ix (r:=rIxL K) kaC (kaK (kaa kbu (kaa kbu kae))) (pcl qh hr2 W.qj (kaa (pv 0) (kaa kaf (kaa kaf (kaa kaf kae))))) (fun _ _=>rfl)) kae))) (kbs (K:=K) (n:=3) rfl (kay (pgn (i:=1) qx.nd) (kay (pgn (i:=2) qx.nd) (kay (pgn (i:=3) qx.nd) kbr)))))
   (kac (psl (i:=4) qx.nd (pcl Jo hr10 W.VA (kaa (pv 0) (kaa kaf (kaa (pv 1) (kaa (pv 2) (kaa (pv 3) kae)))))))
   (kac (psl (i:=5) qx.nd (kaT (W.Qo.mk' W.qc) Ua hr11 rfl W.qc.m W.Qo.b .nil pass0 (kaa (pv 1) (kaa (pv 2) (kaa (pv 3) (kaa (pv 4) kae))))))
   (kac (psl (i:=6) qx.nd (kaT (W.Qo.mk' W.qc) Ua hr11 rfl W.qc.m W.Qo.b .nil pass0 (kaa (pv 1) (kaa (pv 2) (kaa (pv 3) (kaa (pv 4) kae))))))
   (kac (kbp PassesOwn.never rfl (kje rfl W.B.range (kaa kaf (kaa (pe_op kaz kaf (kau (kdF rfl) (by rfl) W.B.max b_max (kaa kaf (kaa (kau (kdE rfl) (by rfl) W.B.min b_min (kaa kaf (kaa (pe_op kcB (kau (r:=ka6 K) kax (by rfl) W.B.len b_len (kaa (pv 0) kae)) kaf) kae))) kae)))) kae))) (pgn (i:=7) qx.nd)
   (kac (keA (N:=["_law_line"]) (CompScope.plain rfl (by decide +kernel) (by decide +kernel) (by decide +kernel) (nd1 _)) rfl (kaG (K:=K) (kai (K:=K) (pv 5) rfl)) (fun _ _ _ _=>pgn (i:=0) (nd1 _)) (fun _ _ _ _=>(pv 0)) (pgn (i:=8) qx.nd))
   (kac (ps_if (kez (ka4 (pcl Ub hr W.Xd (kaa (pv 0) (kaa (pv 7) (kaa (pv 5) (kaa (pv 8) kae))))))) (kah (kap pe_bl)) (kat))
   (kac (psl (i:=9) qx.nd (pcl Jp hr3 W.VB (kaa (pv 0) (kaa (pv 7) (kaa (pv 8) kae)))))
   (kac (ps_if (kas kdY (pv 9) ka1 (kav _)) (kah (kki)) (kat))
   (kac (ps_if (kas op_ne (kbi (pv 5) W.qc.cl W.qS.me Uc hr17 W.qS.b .nil pass0 (kaa (pe_ix (r:=rIxT K) keU (pv 9) kaf (fun _ _=>rfl)) (kaa (pe_ix (r:=rIxT K) keU (pv 9) kaf (fun _ _=>rfl)) kae))) (kbi (pv 6) W.qc.cl W.qS.me Uc hr17 W.qS.b .nil pass0 (kaa (pe_ix (r:=rIxT K) keU (pv 9) kaf (fun _ _=>rfl)) (kaa (pe_ix (r:=rIxT K) keU (pv 9) kaf (fun _ _=>rfl)) kae))) (kav _)) (kah (kap pe_bl)) (kat))
   (kah (ps_if (kas (kmB hr.units) (pcl QB hr1 W.Qd (kaa (pv 5) kae)) (pcl QB hr1 W.Qd (kaa (pv 6) kae)) (kav _)) (kah (kap pe_bl)) (kat)))))))))
   (kah (kap (pcl Ub hr W.Xd (kaa (pv 0) (kaa kaf (kaa (pv 5) (kaa (kbf (N:=["_law_line"]) (CompScope.plain rfl (by decide +kernel) (by decide +kernel) (by decide +kernel) (nd1 _)) rfl (kaG (K:=K) (kai (K:=K) (pv 5) rfl)) (fun _ _ _ _=>pgn (i:=0) (nd1 _)) (fun _ _ _ _=>(pv 0))) kae))))))))))),?_⟩
  exists Y4
  refine⟨_,rfl,(by show 2≤sizeLine;decide),fun w0 fw=>?_⟩
  generalize hgw:upd H w0 _=Hw
  obtain⟨nw,ew⟩:=kaF hgw fw
  symm
  exists Y4
  refine⟨_,rfl,a,ns,0,3,2,rfl,nw.seq hS,⟨by decide,by decide⟩,⟨by decide,by decide⟩,by decide,fun c c0 c1=>?_⟩
  obtain⟨bk,eb,hbk⟩:∃bk:Str,atI [V.str "again",V.str "shares"] c=some (.str bk)∧(bk=("again" :Str)∨bk=("shares" :Str)):=by
   obtain⟨j,rfl⟩:=Int.eq_ofNat_of_zero_le c0
   have hj:j<2:=by omega
   match j,hj with
   |0,_=>exact⟨_,rfl, .inl rfl⟩
   |1,_=>exact⟨_,rfl, .inr rfl⟩
  symm
  exists Y4
  refine⟨w0,_,_,_,rfl,rfl,SqL.of ew,eb,a,ns,bk,rfl,nw.seq hS,Tbs.same nw htb0,fun H1 p0 t b h T B hand s1 hp0 hT bT tok hv0 hb wf0 hh hhl=>?_⟩
  symm
  exists Y4
  refine⟨p0,_,rfl,SqT.of hp0,rfl,_,_,rfl,_,_,rfl,_,_,rfl,rfl,?_⟩
  rw[←bT] at hbk
  have s01:=nw.trans s1
  symm
  exists Y4
  refine⟨_,rfl,_,rfl,_,rfl,_,rfl,a,t,b,h,ns,8,T,B,hand,rfl,s01.seq hS,⟨by decide,by decide⟩,hT,tok,hv0,hb,wf0,hh,hhl,fun H6 o order s6 fo eo hlt h8 hfn=>?_⟩
  have s06:=s01.trans s6
  have hT6:=hT.same s6
  have hb6:=hb.same s6
  have hh6:=s6 _ _ hh
  symm
  exists Y4
  refine⟨_,rfl,_,rfl,_,rfl,_,rfl,kli hT6 tok hb6 wf0 hh6 eo hhl hlt (by omega) hfn fun H7 x s7 fx hA _=>?_⟩
  symm
  exists Y4
  refine⟨_,rfl,_,rfl,_,rfl,_,rfl,kli (hT6.same s7) tok (hb6.same s7) wf0 (s7 _ _ hh6) (s7 _ _ eo) hhl hlt (by omega) hfn fun H8 y s8 fy hY _=>?_⟩
  have s68:=s7.trans s8
  have hB12:=wf0.nl
  obtain⟨dxx,fsx,hx7,foex⟩:=hA.obj
  obtain⟨dxy,fsy,hy8,foey⟩:=hY.obj
  have hx8:=s8 _ _ hx7
  have nyx:y≠x:=(kaj hx7 fy).symm
  have hy8':(Vs.rmv x H8) y=some (.ins d.qc dxy fsy):=(kew nyx).trans hy8
  have hAx:=(((hA.same s8).kept s8).rmv hx8 foex).rmv hy8' foey
  have hYy:=(hY.rmv hx8 foex).rmv hy8' foey
  have S0:Same (Vs.rmv y (Vs.rmv x H8)) H8:=rmv_sub.trans rmv_sub
  have fx0:(Vs.rmv y (Vs.rmv x H8)) x=none:=by rw[kew nyx.symm,khH]
  have fy0:(Vs.rmv y (Vs.rmv x H8)) y=none:=khH
  generalize Vs.rmv y (Vs.rmv x H8)=Hs0 at *
  have fy6:=none_of s7 fy
  have wB:=kj5 tok (o:=order) wf0
  have hpl:(kdd T B order).pr.length=(mans B.rs).sum:=wB.lp.trans (by rw[wB.ow,kfJ])
  have mo0:ManyOk B (B.rs.map fun r=>r.mn):=⟨Nr ..,fun i z r e1 e2=>by
   rw[NC,e2] at e1
   have e3:r.mn=z:=Option.some.inj e1
   symm
   exact⟨by rw[←e3];exact(wf0.ok r (NA e2)).mn0,by omega⟩⟩
  have N0:Num36 T B (kdd T B order).pr (acc0 T B hand order):=⟨rfl,rfl,rfl,⟨tok,hB12,Nr ..,hhl,hlt,h8⟩,mo0⟩
  generalize (kdd T B order).pr=pr at *
  have i0:St36 d H6 x y (acc0 T B hand order) H8:=⟨Hs0,s68,S0,fx0,fy0,hAx,hYy⟩
  have z60:∀{A:AccD},Num36 T B pr A→∀z∈A.many,0≤z∧z≤60:=fun N z hz=>by
   obtain⟨j,ej⟩:=MB.mp hz
   obtain⟨r,er⟩:=at_of (xs:=B.rs) (i:=j) (by rw[←N.mo.len];exact at_lt ej)
   have h1:=N.mo.le j z r ej er
   have h2:=(wf0.ok r (NA er)).mn1
   omega
  generalize acc0 T B hand order=A0 at *
  symm
  exists Y4
  refine⟨_,rfl,a,_,rfl, .inl ((s06.trans s68).seq hS),_,_,rfl,rfl,_,_,rfl,_,_,rfl,_,_,rfl,rfl,_,_,rfl,?_⟩
  rw[Nr]
  obtain⟨q,eq,q12⟩:=klC ((ns.length:Nat):Int)
  rw[eq]
  symm
  exists Y4
  refine⟨⟨by decide,by decide,by omega,by omega⟩,?_⟩
  symm
  refine kbZ (fun i σ H'=>∃(A:AccD)(v7 v8 v9:Option V),Num36 T B pr A∧St36 d H6 x y A H'∧σ=[some (.ref a),some (.ref t),some (.ref b),some (.ref h),some (.ref o),some (.ref x),some (.ref y),v7,v8,v9])
   ⟨_,none,none,none,N0,i0,rfl⟩ ?_ ?_
  ·rintro i σ H' hi ⟨A,v7,v8,v9,N,S',rfl⟩
   have hi12:i<12:=by omega
   obtain⟨Hs,sI,sS,fx',fy',hA',hY'⟩:=id S'
   obtain⟨dxa,_,_,_,_,_,_,ma,fsa,hxa,Fa,ka⟩:=id hA'
   have hma:=sS _ _ ka.m
   have lm12:A.many.length≤12:=by rw[N.ok.ml];exact N.ok.nl
   symm
   exists Y6
   refine⟨_,rfl,x,d.qc,dxa,fsa,_,rfl,hxa,W.qc.cl,W.qr,Fa.l7,ma,rfl,⟨_,SqL.of hma⟩,kaO (xs:=A.many.map V.int) (fun i σ ys H2=>H2=H'∧ys=(A.many.take i).map V.int∧∃v,σ=[v]) ⟨rfl,rfl,none,rfl⟩ (by rw[Nr];exact NF (kan (by omega))) ?_ ?_ ?_⟩
   ·rintro i σ ys H2 hi ⟨rfl,rfl,_⟩
    nofun
    exact⟨SqL.of hma,by rw[Nr,NH];rw[Nr] at hi;omega⟩
   ·rintro i v σ ys H2 hv ⟨rfl,rfl,v',rfl⟩
    rw[NC] at hv
    obtain⟨z,ez,rfl⟩:=EN.mp hv
    nofun
    exists Y8
    refine⟨_,rfl,rfl,?_,_,rfl⟩
    rw[take_snoc ez,Ny]
    rfl
   rintro σ ys H2 ⟨rfl,rfl,v',rfl⟩ D fD
   rw[Nr,N3]
   generalize hgD:upd H2 D _=HD
   obtain⟨nD,eD⟩:=kaF hgD fD
   nofun
   exists Y6
   refine⟨_,rfl,_,rfl,_,rfl,_,rfl,Hs,a,x,D,ns,16+(i:Int),A,rfl,((s06.trans sI).trans nD).seq hS,⟨by omega,by omega⟩,sS.trans nD,hA'.same nD,N.ok.l8,lm12,eD,(fun z hz=>(z60 N z hz).1),fun H3 s3=>⟨_,rfl,iteF ?_⟩⟩
   have s13:=nD.trans s3
   have eD3:=s3 _ _ eD
   nofun
   exists Y6
   refine⟨_,rfl,_,rfl,_,rfl,a,D,ns,16+(i:Int),A.many,rfl,((s06.trans sI).trans s13).seq hS,⟨by omega,by omega⟩,eD3,lm12,z60 N,?_,?_⟩
   ·intro H4 s4 _
    nofun
    exists Y8
    refine⟨_,rfl,rfl,_,rfl,?_⟩
    rw[show decide (V.non=V.non)=true by simp]
    refine iteT ?_
    have S':=S'.same (s13.trans s4)
    clear sI sS fx' fy' hA' hY' hxa Fa ka hma eD eD3 s13 s3 nD hgD fD
    obtain⟨Hs,sI,sS,fx',fy',hA',hY'⟩:=id S'
    obtain⟨dxa,_,_,_,_,_,_,ma,fsa,hxa,Fa,ka⟩:=id hA'
    have hma:=sS _ _ ka.m
    have lm12:A.many.length≤12:=by rw[N.ok.ml];exact N.ok.nl
    exists 3
    exists Y8
    refine⟨_,rfl,_,rfl,_,rfl,x,d.qc,dxa,fsa,_,rfl,hxa,W.qc.cl,W.qr,Fa.l7,ma,rfl,⟨_,SqL.of hma⟩,kaO (xs:=A.many.map V.int) (fun i σ ys H2=>H2=H4∧ys=(A.many.take i).map V.int∧∃v,σ=[v]) ⟨rfl,rfl,none,rfl⟩ (by rw[Nr];exact NF (kan (by omega))) ?_ ?_ ?_⟩
    ·rintro i σ ys H2 hi ⟨rfl,rfl,_⟩
     exists 3
     exact⟨SqL.of hma,by rw[Nr,NH];rw[Nr] at hi;omega⟩
    ·rintro i v σ ys H2 hv ⟨rfl,rfl,v',rfl⟩
     rw[NC] at hv
     obtain⟨z,ez,rfl⟩:=EN.mp hv
     exists 3
     exists Y10
     refine⟨_,rfl,rfl,?_,_,rfl⟩
     rw[take_snoc ez,Ny]
     rfl
    rintro σ ys H2 ⟨rfl,rfl,v',rfl⟩ D fD
    rw[Nr,N3]
    generalize hgD:upd H2 D _=HD
    obtain⟨nD,eD⟩:=kaF hgD fD
    exists 3
    exact⟨Hs,a,x,D,ns,15,A,rfl,((s06.trans sI).trans nD).seq hS,⟨by decide,by decide⟩,sS.trans nD,hA'.same nD,N.ok.l8,lm12,eD,(fun z hz=>(z60 N z hz).1),fun H3 s3=>k _⟩
   ·intro H4 p1 l n z s4 fp1 ep1 hz hn1 hn2
    exists 3
    exists Y8
    refine⟨_,rfl,rfl,_,rfl,?_⟩
    rw[show decide (V.ref p1=V.non)=false by simp]
    refine iteF ?_
    obtain⟨m,rfl⟩:=Int.eq_ofNat_of_zero_le (show 0≤n by omega)
    have s14:=s13.trans s4
    obtain⟨Hs,sI,sS,fx',fy',hA',hY'⟩:=S'.same s14
    obtain⟨dxa,_,_,_,_,_,_,ma,fsa,hxa,Fa,ka⟩:=id hA'
    exists 3
    exists Y8
    refine⟨_,rfl,x,dxa,fsa,rfl,hxa,Fa.l11 _ (by decide +kernel),_,rfl,p1,_,_,_,rfl,rfl,SqT.of ep1,rfl,_,rfl,p1,_,_,_,rfl,rfl,SqT.of ep1,rfl, .inl ⟨Hs,x,l,m,z,A,rfl,sS,fx',hA',N.ok,N.mode hbk wf0 hpl hz hn2,hz,by omega,hn2,fun Hs5 H5 v1 v2 v3 v4 hA5=>?_⟩⟩
    have ep5:=v4 _ _ (ne_of ep1 hxa (by intro z;cases z)) ep1
    have hY5:=(hY'.but v4 nyx).kept v1
    obtain⟨dyb,_,_,_,_,_,_,mb,fsb,hyb,Fb,kb⟩:=id hY'
    have fy5:=v3 y (by rw[hyb];intro z;cases z) fy'
    have fx5:=v3 x (by rw[hxa];intro z;cases z) fx'
    have sI5:=kbP sI v4 fx
    obtain⟨dyc,_,_,_,_,_,_,mc,fsc,hyc,Fc,kc⟩:=id hY5
    exists 3
    exists Y8
    refine⟨_,rfl,y,dyc,fsc,rfl,hyc,Fc.l11 _ (by decide +kernel),_,rfl,p1,_,_,_,rfl,rfl,SqT.of ep5,rfl,_,rfl,p1,_,_,_,rfl,rfl,SqT.of ep5,rfl, .inl ⟨Hs5,y,l,m,z,A,rfl,v2,fy5,hY5,N.ok,N.mode hbk wf0 hpl hz hn2,hz,by omega,hn2,fun Hs6 H7' u1 u2 u3 u4 hY6=>?_⟩⟩
    have hA6:=(hA5.but u4 nyx.symm).kept u1
    obtain⟨dxd,_,_,_,_,_,_,md,fsd,hxd,Fd,kd⟩:=id hA5
    have fy6':=u3 y (by rw[hyc];intro z;cases z) fy5
    have fx6':=u3 x (by rw[hxd];intro z;cases z) fx5
    have sI6:=kbP sI5 u4 fy6
    have N':=N.took hz hn2
    have lm12':(tookB A l (z-m) m).many.length≤12:=by rw[N'.ok.ml];exact N'.ok.nl
    generalize tookB A l (z-m) m=A' at *
    exists 3
    exists Y8
    refine⟨rfl,_,rfl,?_⟩
    rw[show(!decide (V.int (backB A l (z-m) m)=V.int (backB A l (z-m) m)))=false by simp]
    refine iteF ?_
    exists 3
    exists Y8
    refine⟨_,rfl,Hs6,x,A',rfl,u2,hA6,N'.ok.l8,lm12',fun H8' p s8' fp hp=>?_⟩
    exists 3
    exists Y8
    refine⟨_,rfl,Hs6,y,A',rfl,u2.trans s8',hY6.same s8',N'.ok.l8,lm12',fun H9 q s9 fq hq=>?_⟩
    obtain⟨xs,ys,h1,h2,h3⟩:=(hp.same s9).deq (K:=K) hq
    exists 3
    exists Y8
    refine⟨p,q,xs,ys,rfl,rfl,h1,h2,h3,_,rfl,iteF ?_⟩
    have s79:=s8'.trans s9
    exists 3
    exact⟨A',_,_,_,N',⟨Hs6,sI6.trans s79,u2.trans s79,fx6',fy6',hA6.same s79,hY6.same s79⟩,rfl⟩
  ·rintro σ H' ⟨A,v7,v8,v9,N,S',rfl⟩
   obtain⟨Hs,sI,sS,fx',fy',hA',hY'⟩:=id S'
   obtain⟨dxa,_,_,_,_,_,_,ma,fsa,hxa,Fa,ka⟩:=id hA'
   have hma:=sS _ _ ka.m
   have lm12:A.many.length≤12:=by rw[N.ok.ml];exact N.ok.nl
   nofun
   exists Y6
   refine⟨_,rfl,_,rfl,_,rfl,x,d.qc,dxa,fsa,_,rfl,hxa,W.qc.cl,W.qr,Fa.l7,ma,rfl,⟨_,SqL.of hma⟩,kaO (xs:=A.many.map V.int) (fun i σ ys H2=>H2=H'∧ys=(A.many.take i).map V.int∧∃v,σ=[v]) ⟨rfl,rfl,none,rfl⟩ (by rw[Nr];exact NF (kan (by omega))) ?_ ?_ ?_⟩
   ·rintro i σ ys H2 hi ⟨rfl,rfl,_⟩
    nofun
    exact⟨SqL.of hma,by rw[Nr,NH];rw[Nr] at hi;omega⟩
   ·rintro i v σ ys H2 hv ⟨rfl,rfl,v',rfl⟩
    rw[NC] at hv
    obtain⟨z,ez,rfl⟩:=EN.mp hv
    nofun
    exists Y8
    refine⟨_,rfl,rfl,?_,_,rfl⟩
    rw[take_snoc ez,Ny]
    rfl
   rintro σ ys H2 ⟨rfl,rfl,v',rfl⟩ D fD
   rw[Nr,N3]
   generalize hgD:upd H2 D _=HD
   obtain⟨nD,eD⟩:=kaF hgD fD
   nofun
   exact⟨Hs,a,x,D,ns,15,A,rfl,((s06.trans sI).trans nD).seq hS,⟨by decide,by decide⟩,sS.trans nD,hA'.same nD,N.ok.l8,lm12,eD,(fun z hz=>(z60 N z hz).1),fun H3 s3=>k _⟩
end
end Vs
namespace Vs
open PySem L2
theorem ln0{C:List Value→Prop}(k:C []):∀us:List Value,us.length=0→C us:=fun us h=>by
 cases us with
 |nil=>exact k
 |cons a us=>cases h
theorem lnS{C:List Value→Prop}{n:Nat}(k:∀(a:Value)(us:List Value),us.length=n→C (a::us)):∀us:List Value,us.length=n+1→C us:=fun us h=>by
 cases us with
 |nil=>cases h
 |cons a us=>exact k a us (Nat.succ.inj h)
def nL1{C:List Value→Prop}(k:∀a0:Value,C [a0]):∀us:List Value,us.length=1→C us:=lnS fun a0=>ln0 (k a0)
def nL2{C:List Value→Prop}(k:∀a0 a1:Value,C [a0,a1]):∀us:List Value,us.length=2→C us:=lnS fun a0=>lnS fun a1=>ln0 (k a0 a1)
def nL3{C:List Value→Prop}(k:∀a0 a1 a2:Value,C [a0,a1,a2]):∀us:List Value,us.length=3→C us:=lnS fun a0=>lnS fun a1=>lnS fun a2=>ln0 (k a0 a1 a2)
def nL4{C:List Value→Prop}(k:∀a0 a1 a2 a3:Value,C [a0,a1,a2,a3]):∀us:List Value,us.length=4→C us:=lnS fun a0=>lnS fun a1=>lnS fun a2=>lnS fun a3=>ln0 (k a0 a1 a2 a3)
def nL5{C:List Value→Prop}(k:∀a0 a1 a2 a3 a4:Value,C [a0,a1,a2,a3,a4]):∀us:List Value,us.length=5→C us:=lnS fun a0=>lnS fun a1=>lnS fun a2=>lnS fun a3=>lnS fun a4=>ln0 (k a0 a1 a2 a3 a4)
def nL6{C:List Value→Prop}(k:∀a0 a1 a2 a3 a4 a5:Value,C [a0,a1,a2,a3,a4,a5]):∀us:List Value,us.length=6→C us:=lnS fun a0=>lnS fun a1=>lnS fun a2=>lnS fun a3=>lnS fun a4=>lnS fun a5=>ln0 (k a0 a1 a2 a3 a4 a5)
def nL7{C:List Value→Prop}(k:∀a0 a1 a2 a3 a4 a5 a6:Value,C [a0,a1,a2,a3,a4,a5,a6]):∀us:List Value,us.length=7→C us:=lnS fun a0=>lnS fun a1=>lnS fun a2=>lnS fun a3=>lnS fun a4=>lnS fun a5=>lnS fun a6=>ln0 (k a0 a1 a2 a3 a4 a5 a6)
def bd_mk{K:Nt}{fd:FuncData}{ps:List Str}{ds:List Value}{n:Nat}(hn:n+ds.length=ps.length)(k:∀s:Shared,K.In s.heap→∀us:List Value,us.length=n→BindsTo s fd ⟨us,[]⟩ (ps.zip (us++ds))):Binds K fd ps ds:=fun s us KX hl=>k s KX us (by rw[NI] at hl;omega)
def dn_mk{K:Nt}{st:Stmt}{ps:List Str}{f:Addr}{oc:Value}{od an:Option Addr}{osl:Array (Option Value)}{kV doc pm cdv ct:Value}{h:Heap}{mg:Str→Option Value}{x:Str}(X:K.In h)(G:h.Ns mainGlobals mg)(a:NK K mainGlobals x=some (some (.ref f)))(l:K.lookup f=some ⟨oc,od, .func (NM x x (kaD st) (kaA st) (kag st) .none kV doc pm an cdv ct),osl⟩)(c:Ma K cdv x=true)(k:NN K (.ref f)=true)(b:∀(kV doc pm:Value)(an:Option Addr)(cdv ct:Value),∀us:List Value,us.length=ps.length→bindArgs (NM x x (kaD st) (kaA st) (kag st) .none kV doc pm an cdv ct) ⟨us,[]⟩=pure (ps.zip us)):Dn K mg x st ps f (NM x x (kaD st) (kaA st) (kag st) .none kV doc pm an cdv ct):=⟨kbt l c k,Binds.all (b _ _ _ _ _ _),NT X G a⟩
def mt_mk{K:Nt}{st:Stmt}{ps:List Str}{f:Addr}{oc:Value}{od an:Option Addr}{osl:Array (Option Value)}{kV doc pm cdv ct:Value}{m qual:Str}{C:Addr}(a:Nu K (.ref C) m=some (some (.ref f)))(i:Mg K (.ref f)=true)(l:K.lookup f=some ⟨oc,od, .func (NM m qual (kaD st) (kaA st) (kag st) .none kV doc pm an cdv ct),osl⟩)(c:Ma K cdv qual=true)(k:NN K (.ref f)=true)(b:∀(kV doc pm:Value)(an:Option Addr)(cdv ct:Value),∀us:List Value,us.length=ps.length→bindArgs (NM m qual (kaD st) (kaA st) (kag st) .none kV doc pm an cdv ct) ⟨us,[]⟩=pure (ps.zip us)):MthT K C m qual st ps f (NM m qual (kaD st) (kaA st) (kag st) .none kV doc pm an cdv ct):=⟨a,i,kbt l c k,Binds.all (b _ _ _ _ _ _)⟩
theorem all_mk{l:PySem.W.OpenLaw}{w:World}{K:Nt}{h:Heap}{mg:Str→Option Value}{fa zgb zfs z38 zg1 zhc z8p zhh zgg z3l z2c z63 z3e zx z46 z88 z4i zc8 zg3 zdx z4a z5c z5l z2e zdw z5g z80 z6y z5j z60 z5r z6k z5h z6r z6w z8w z89 z6t z6z z95 z6h z96 z54 z26 zbs zk z1a z3r zg zs z21 zm z20 z5x zf z19 z3u zb zu z1t zd zz z2t zc zv z1s zq z1i z4o zl zy z2k ze z3x z3b zr zac z4u z74 z3y zn z8r zp z1h z4n za z57 z1v z25 z28 z1g z1p z1x z1o zo zi z9c z4p z4l zj:Addr}{z7g z32 zjs zhe zcg z68 zbx z9s z44 za0 zez z8t ze4 zc4 z5z zca z8j z3c z9b zbe z4w zaf z8l z3m z82 zcx z6i zdc zan z53 zam zdf z76 zdl z6g:Option Addr}{z79 zjm zbg zbp z9q z9t ze9 zeh zbq zc3 z8b z7y zaz zbf z8d z8o zdq zdt zal zb9 zcy zd8 z6c:Array (Option Value)}{z7d z2p z30 z2d zw z2r zje zhb zh9 zhf zew zha zbi z66 z5s z69 z2g z5q zbr z9y z4e z47 z43 z1r z45 za7 zey z86 z85 z8a z4q z8x zf1 zc7 z61 z64 z6b z2l z62 zcc z84 z39 z3h z36 z1l z37 z8k zay z55 z51 z58 z23 z59 zbc z98 z3q z3f z3k z1e z3d z8f zdh z6q z73 z70 z3v z77 zd4 zap z4z z5m z4s z22 z5k zaj zd7 z78 z6x z6j z3t z6n zds z27:Value}{zbn z3i z9x zen zcf z94 zb0 z8z zdp zau z2u zdu z40 z2b z31 z2z:Nat}{zg2 zfj z3j zgc zhg z7x zhd zfn z35 z2j z5u z3p z41 z7v z4d zce zfo zdy z4g z5a z5d z2q ze0 z4t z8e z6m z52 z5w z67 z6o z5f z6v z71 z91 z8h z6p z75 z90 z6s z8i z56 z24 z4j z3o za9 z4v z6u z48 z8n z4y z1y z2a z29 z1k z1n z1w z1q:FuncData}{zh:Array Value}{z2o:Str}{z2y z33:Int}{z2h:Bool}{ts:List Addr}(X:K.In h)(G:h.Ns mainGlobals mg)(hfa:mg "law"=some (.ref fa))
  (zim:Dn K mg "dealt" kg2 ["cut","weights"] zgb zg2)
  (zic:Dn K mg "under" kg0 ["parents","one","other"] zfs zfj)
  (z8g:Dn K mg "price_of_piece" kbF ["line","member"] z38 z3j)
  (zid:Dn K mg "about" kev ["voucher","parents","basket","standing"] zg1 zgc)
  (zja:Dn K mg "fits" ki0 ["marks","parents","kind","marked"] zhc zhg)
  (zfi:Dn K mg "hindrance" kdh ["voucher","parents","basket","standing"] z8p z7x)
  (zjb:Dn K mg "cuts" ki1 ["voucher","parents","basket","standing"] zhh zhd)
  (zit:Dn K mg "after" kg3 ["voucher","parents","basket","standing"] zgg zfn)
  (z8c:Dn K mg "cuts_of_pieces" kbH ["voucher","parents","basket","standing"] z3l z35)
  (z7o:Dn K mg "cut_of_carriage" kbw ["voucher","standing"] z2c z2j)
  (zbu:Dn K mg "wanted_cuts" kbb ["voucher","standing","pieces"] z63 z5u)
  (z8q:Dn K mg "parted_by_line" kbG ["standing","pieces"] z3e z3p)
  (z8m:NK K mainGlobals "falling_groups"=some (some (.ref zx))) (z92:K.lookup zx=some ⟨z7d,z7g, .func (NM "falling_groups" "falling_groups" (kaD kaE) (kaA kaE) (kag kaE) .none z2p z30 z2d z32 zw z2r),z79⟩) (z81:Ma K zw "falling_groups"=true) (z7w:NN K (.ref zx)=true)
  (z9e:Dn K mg "marked_behind" kbS ["voucher","standing","piece_cuts"] z46 z41)
  (ze5:Dn K mg "prices_of" kcq ["standing","pieces"] z88 z7v)
  (z9f:Dn K mg "sum_of_prices" kbR ["standing","pieces"] z4i z4d)
  (zgr:Dn K mg "at_most" keu ["most","number"] zc8 zce)
  (zis:Dn K mg "fault" kg1 ["till","basket","hand","order"] zg3 zfo)
  (zhn:Dn K mg "way_by" kfD ["till","basket","hand","order"] zdx zdy)
  (za1:Dn K mg "word_of_order" kbQ ["till","hand","used","number"] z4a z4g)
  (zag:Dn K mg "breaks_never" kcb ["rules","used","number"] z5c z5a)
  (zb2:Dn K mg "breaks_ahead" kcc ["rules","used","number"] z5l z5d)
  (z7s:Dn K mg "without_company" kbv ["rules","order"] z2e z2q)
  (zhs:Dn K mg "priced" kfE ["till","basket","hand","order"] zdw ze0)
  (zax:Dn K mg "_law_cell_at" kcg ["_law_script","_law_k"] z5g z4t)
  (zev:Dn K mg "_law_some" kdj ["_law_script","_law_k","_law_salt","_law_many"] z80 z8e)
  (zcm:Dn K mg "_law_price" kcK ["_law_script","_law_k","_law_salt"] z6y z6m)
  (zar:Dn K mg "_law_parents" kcf ["_law_script"] z5j z52)
  (zbv:Dn K mg "_law_basket" kcu ["_law_script","_law_kinds"] z60 z5w)
  (zc5:Dn K mg "_law_amount" kcv ["_law_script","_law_k","_law_salt","_law_worth_here"] z5r z67)
  (zcu:Dn K mg "_law_marks" kcM ["_law_script","_law_k","_law_kinds","_law_worth_here"] z6k z6o)
  (zao:Dn K mg "_law_voucher" kcd ["_law_script","_law_k","_law_kinds","_law_worth_here"] z5h z5f)
  (zco:Dn K mg "_law_rules" kcJ ["_law_script","_law_many"] z6r z6v)
  (zdj:Dn K mg "_law_worth" kcI ["_law_basket_here"] z6w z71)
  (zet:Dn K mg "_law_till" kcr ["_law_script","_law_parents_here","_law_basket_here","_law_back"] z8w z91)
  (ze6:Dn K mg "_law_hand" kct ["_law_script","_law_many"] z89 z8h)
  (zde:Dn K mg "_law_going" kcN ["_law_till_here","_law_basket_here","_law_hand_here","_law_order_here"] z6t z6p)
  (zd5:Dn K mg "_law_order" kcL ["_law_script","_law_k","_law_till_here","_law_basket_here","_law_hand_here"] z6z z75)
  (zf7:Dn K mg "_law_take" kcs ["_law_script","_law_k","_law_many"] z95 z90)
  (zcp:Dn K mg "_law_drawn" kcO ["_law_script","_law_back"] z6h z6s)
  (zem:Dn K mg "_law_told" kdi ["_law_account"] z96 z8i)
  (zb8:Dn K mg "_law_refused" kce ["_law_account","_law_line","_law_many"] z54 z56)
  (z6d:Dn K mg "_law_all_refused" kbm ["_law_script","_law_k","_law_account","_law_many"] z26 z24)
  (zil:NK K mainGlobals "law"=some (some (.ref zbs))) (zjv:K.lookup zbs=some ⟨zje,zjs, .func (NM "law" "law" (kaD s_law) (kaA s_law) (kag s_law) .none zhb zh9 zhf zhe zew zha),zjm⟩) (zju:Ma K zew "law"=true) (zjw:NN K (.ref zbs)=true)
  (zir:NK K mainGlobals "Marks"=some (some (.ref zk)))
  (zhm:Nz K zk (.type "object")=some true) (zhy:Nz K zk (.ref zk)=some true) (zhk:N9 K (.ref zk)=some (.type "type"))
  (inX:Ea K (.builtin "object.__class__") "__get__"=some (some (.builtin "getset_descriptor.__get__"))) (itX:EW K (.builtin "object.__class__")=some true)
  (zht:N7 K zk Str.empty=true) (zhv:Mc K zk=true) (zhu:Mf K zk=true) (zhl:Nu K (.ref zk) "__setattr__"=some (some (.builtin "object.__setattr__"))) (zi1:Md K zk=true) (zi0:NN K (.ref zk)=true) (zhi:Nu K (.ref zk) "__class__"=some (some (.builtin "object.__class__")))
  (zcz:Nu K (.ref zk) "kind"=some none)
  (zbl:Nu K (.ref zk) "needs"=some none)
  (zdo:Nu K (.ref zk) "most"=some none)
  (zbd:Nu K (.ref zk) "member"=some none)
  (zcn:Nu K (.ref zk) "once"=some none)
  (zdm:Nu K (.ref zk) "lone"=some none)
  (zd6:Nu K (.ref zk) "__init__"=some (some (.ref z1a))) (zdi:Mg K (.ref z1a)=true) (zdr:K.lookup z1a=some ⟨zbi,zcg, .func (NM "__init__" "Marks.__init__" (kaD kaZ) (kaA kaZ) (kag kaZ) (.ref z3r) z66 z5s z69 z68 z2g z5q),zbg⟩) (zd3:Ma K z2g "Marks.__init__"=true) (zdg:NN K (.ref z1a)=true) (zt:K.lookup z3r=some ⟨zbr,zbx, .seq #[.none, .int 0 z3i, .none, .bool false, .bool false, .bool false] zbn,zbp⟩)
  (zgz:NK K mainGlobals "Voucher"=some (some (.ref zg)))
  (zfx:Nz K zg (.type "object")=some true) (zgj:Nz K zg (.ref zg)=some true) (zfm:N9 K (.ref zg)=some (.type "type"))
  (zg6:N7 K zg Str.empty=true) (zge:Mc K zg=true) (zfq:Mf K zg=true) (zfz:Nu K (.ref zg) "__setattr__"=some (some (.builtin "object.__setattr__"))) (zgn:Md K zg=true) (zgo:NN K (.ref zg)=true) (zfy:Nu K (.ref zg) "__class__"=some (some (.builtin "object.__class__")))
  (zbb:Nu K (.ref zg) "__init__"=some (some (.ref zs))) (zav:Mg K (.ref zs)=true) (zb5:K.lookup zs=some ⟨z9y,z9s, .func (NM "__init__" "Voucher.__init__" (kaD kaP) (kaA kaP) (kag kaP) (.ref z21) z4e z47 z43 z44 z1r z45),z9q⟩) (zas:Ma K z1r "Voucher.__init__"=true) (zaq:NN K (.ref zs)=true) (z5e:K.lookup z21=some ⟨za7,za0, .seq #[.none] z9x,z9t⟩)
  (zj4:NK K mainGlobals "Off"=some (some (.ref zm)))
  (z8y:Nz K zm (.type "object")=some true) (z8s:Nz K zm (.ref zm)=some true) (z97:N9 K (.ref zm)=some (.type "type"))
  (zjo:N7 K zm Str.empty=true) (zj6:Mc K zm=true) (zjk:Mf K zm=true) (zj7:Nu K (.ref zm) "__setattr__"=some (some (.builtin "object.__setattr__"))) (zj5:Md K zm=true) (zjr:NN K (.ref zm)=true) (zjf:Nu K (.ref zm) "__class__"=some (some (.builtin "object.__class__")))
  (zdk:Nu K (.ref zm) "amount"=some none)
  (ze2:Nu K (.ref zm) "marks"=some none)
  (zgm:Nu K (.ref zm) "__init__"=some (some (.ref z20))) (zfv:Mg K (.ref z20)=true) (zgh:K.lookup z20=some ⟨zey,zez, .func (NM "__init__" "Off.__init__" (kaD kbj) (kaA kbj) (kag kbj) (.ref z5x) z86 z85 z8a z8t z4q z8x),ze9⟩) (zgl:Ma K z4q "Off.__init__"=true) (zg8:NN K (.ref z20)=true) (za8:K.lookup z5x=some ⟨zf1,ze4, .seq #[.none] zen,zeh⟩)
  (zgk:NK K mainGlobals "Share"=some (some (.ref zf)))
  (z42:Nz K zf (.type "object")=some true) (z4k:Nz K zf (.ref zf)=some true) (z4h:N9 K (.ref zf)=some (.type "type"))
  (zho:N7 K zf Str.empty=true) (zhr:Mc K zf=true) (zhp:Mf K zf=true) (zhz:Nu K (.ref zf) "__setattr__"=some (some (.builtin "object.__setattr__"))) (zhq:Md K zf=true) (zhw:NN K (.ref zf)=true) (zhx:Nu K (.ref zf) "__class__"=some (some (.builtin "object.__class__")))
  (zbk:Nu K (.ref zf) "share"=some none)
  (za3:Nu K (.ref zf) "by_line"=some none)
  (zbo:Nu K (.ref zf) "marks"=some none)
  (zcv:Nu K (.ref zf) "__init__"=some (some (.ref z19))) (zct:Mg K (.ref z19)=true) (zdd:K.lookup z19=some ⟨zc7,zc4, .func (NM "__init__" "Share.__init__" (kaD kaY) (kaA kaY) (kag kaY) (.ref z3u) z61 z64 z6b z5z z2l z62),zbq⟩) (zcj:Ma K z2l "Share.__init__"=true) (zdn:NN K (.ref z19)=true) (z3w:K.lookup z3u=some ⟨zcc,zca, .seq #[.bool false, .none] zcf,zc3⟩)
  (zaa:NK K mainGlobals "Cheapest"=some (some (.ref zb)))
  (z1d:Nz K zb (.type "object")=some true) (z1j:Nz K zb (.ref zb)=some true) (z1f:N9 K (.ref zb)=some (.type "type"))
  (zf0:N7 K zb Str.empty=true) (zer:Mc K zb=true) (zf5:Mf K zb=true) (zes:Nu K (.ref zb) "__setattr__"=some (some (.builtin "object.__setattr__"))) (zf4:Md K zb=true) (zfh:NN K (.ref zb)=true) (zep:Nu K (.ref zb) "__class__"=some (some (.builtin "object.__class__")))
  (z9i:Nu K (.ref zb) "many"=some none)
  (z7z:Nu K (.ref zb) "marks"=some none)
  (z9n:Nu K (.ref zb) "__init__"=some (some (.ref zu))) (z9z:Mg K (.ref zu)=true) (z9l:K.lookup zu=some ⟨z84,z8j, .func (NM "__init__" "Cheapest.__init__" (kaD kaL) (kaA kaL) (kag kaL) (.ref z1t) z39 z3h z36 z3c z1l z37),z8b⟩) (z9u:Ma K z1l "Cheapest.__init__"=true) (z9v:NN K (.ref zu)=true) (z3z:K.lookup z1t=some ⟨z8k,z9b, .seq #[.none] z94,z7y⟩)
  (zdz:NK K mainGlobals "Bundle"=some (some (.ref zd)))
  (z2s:Nz K zd (.type "object")=some true) (z2i:Nz K zd (.ref zd)=some true) (z2w:N9 K (.ref zd)=some (.type "type"))
  (zh8:N7 K zd Str.empty=true) (zgp:Mc K zd=true) (zgu:Mf K zd=true) (zgv:Nu K (.ref zd) "__setattr__"=some (some (.builtin "object.__setattr__"))) (zh3:Md K zd=true) (zh0:NN K (.ref zd)=true) (zh2:Nu K (.ref zd) "__class__"=some (some (.builtin "object.__class__")))
  (zc1:Nu K (.ref zd) "many"=some none)
  (zai:Nu K (.ref zd) "price"=some none)
  (zak:Nu K (.ref zd) "marks"=some none)
  (zby:Nu K (.ref zd) "__init__"=some (some (.ref zz))) (zbm:Mg K (.ref zz)=true) (zc2:K.lookup zz=some ⟨zay,zbe, .func (NM "__init__" "Bundle.__init__" (kaD kaV) (kaA kaV) (kag kaV) (.ref z2t) z55 z51 z58 z4w z23 z59),zaz⟩) (zc6:Ma K z23 "Bundle.__init__"=true) (zbj:NN K (.ref zz)=true) (z5v:K.lookup z2t=some ⟨zbc,zaf, .seq #[.none] zb0,zbf⟩)
  (zab:NK K mainGlobals "Carriage"=some (some (.ref zc)))
  (z1c:Nz K zc (.type "object")=some true) (z1m:Nz K zc (.ref zc)=some true) (z1b:N9 K (.ref zc)=some (.type "type"))
  (zf9:N7 K zc Str.empty=true) (zee:Mc K zc=true) (ze1:Mf K zc=true) (zfe:Nu K (.ref zc) "__setattr__"=some (some (.builtin "object.__setattr__"))) (zfa:Md K zc=true) (ze7:NN K (.ref zc)=true) (zek:Nu K (.ref zc) "__class__"=some (some (.builtin "object.__class__")))
  (z8u:Nu K (.ref zc) "marks"=some none)
  (za4:Nu K (.ref zc) "__init__"=some (some (.ref zv))) (z9k:Mg K (.ref zv)=true) (z9d:K.lookup zv=some ⟨z98,z8l, .func (NM "__init__" "Carriage.__init__" (kaD kaM) (kaA kaM) (kag kaM) (.ref z1s) z3q z3f z3k z3m z1e z3d),z8d⟩) (z9r:Ma K z1e "Carriage.__init__"=true) (z9m:NN K (.ref zv)=true) (z4b:K.lookup z1s=some ⟨z8f,z82, .seq #[.none] z8z,z8o⟩)
  (zjg:NK K mainGlobals "Line"=some (some (.ref zq)))
  (ziv:Nz K zq (.type "object")=some true) (zin:Nz K zq (.ref zq)=some true) (zie:N9 K (.ref zq)=some (.type "type"))
  (zi5:N7 K zq Str.empty=true) (zi8:Mc K zq=true) (ziq:Mf K zq=true) (zix:Nu K (.ref zq) "__setattr__"=some (some (.builtin "object.__setattr__"))) (zi7:Md K zq=true) (zii:NN K (.ref zq)=true) (zib:Nu K (.ref zq) "__class__"=some (some (.builtin "object.__class__")))
  (zex:Nu K (.ref zq) "kind"=some none)
  (zd1:Nu K (.ref zq) "price"=some none)
  (zfg:Nu K (.ref zq) "many"=some none)
  (zb6:Nu K (.ref zq) "special"=some none)
  (zeu:Nu K (.ref zq) "__init__"=some (some (.ref z1i))) (zea:Mg K (.ref z1i)=true) (zff:K.lookup z1i=some ⟨zdh,zcx, .func (NM "__init__" "Line.__init__" (kaD ka8) (kaA ka8) (kag ka8) (.ref z4o) z6q z73 z70 z6i z3v z77),zdq⟩) (zfd:Ma K z3v "Line.__init__"=true) (zed:NN K (.ref z1i)=true) (z8v:K.lookup z4o=some ⟨zd4,zdc, .seq #[.none] zdp,zdt⟩)
  (zhj:NK K mainGlobals "Basket"=some (some (.ref zl)))
  (zh6:Nz K zl (.type "object")=some true) (zgw:Nz K zl (.ref zl)=some true) (zgs:N9 K (.ref zl)=some (.type "type"))
  (zgx:N7 K zl Str.empty=true) (zgt:Mc K zl=true) (zgy:Mf K zl=true) (zh5:Nu K (.ref zl) "__setattr__"=some (some (.builtin "object.__setattr__"))) (zgq:Md K zl=true) (zh7:NN K (.ref zl)=true) (zh1:Nu K (.ref zl) "__class__"=some (some (.builtin "object.__class__")))
  (zat:Nu K (.ref zl) "lines"=some none)
  (z7i:Nu K (.ref zl) "carriage"=some none)
  (za6:Nu K (.ref zl) "member"=some none)
  (zcb:Nu K (.ref zl) "__init__"=some (some (.ref zy))) (zbw:Mg K (.ref zy)=true) (zbz:K.lookup zy=some ⟨zap,zan, .func (NM "__init__" "Basket.__init__" (kaD kaW) (kaA kaW) (kag kaW) (.ref z2k) z4z z5m z4s z53 z22 z5k),zal⟩) (zc0:Ma K z22 "Basket.__init__"=true) (zbt:NN K (.ref zy)=true) (z2v:K.lookup z2k=some ⟨zaj,zam, .seq #[.int 0 z2u, .bool false] zau,zb9⟩)
  (zfw:NK K mainGlobals "Standing"=some (some (.ref ze)))
  (zei:Nz K ze (.type "object")=some true) (zfc:Nz K ze (.ref ze)=some true) (zeq:N9 K (.ref ze)=some (.type "type"))
  (zfb:N7 K ze Str.empty=true) (zf2:Mc K ze=true) (zeb:Mf K ze=true) (zej:Nu K (.ref ze) "__setattr__"=some (some (.builtin "object.__setattr__"))) (zf8:Md K ze=true) (zeg:NN K (.ref ze)=true) (ze3:Nu K (.ref ze) "__class__"=some (some (.builtin "object.__class__")))
  (z7k:Nu K (.ref ze) "owners"=some none)
  (z7r:Nu K (.ref ze) "prices"=some none)
  (z5y:Nu K (.ref ze) "carriage"=some none)
  (z7m:Nu K (.ref ze) "marked"=some none)
  (z9j:MthT K ze "__init__" "Standing.__init__" kbU ["self","basket"] z3x z4j)
  (z87:MthT K ze "whole" "Standing.whole" kbI ["self"] z3b z3o)
  (zjx:NK K mainGlobals "Way"=some (some (.ref zr)))
  (zjp:Nz K zr (.type "object")=some true) (zjn:Nz K zr (.ref zr)=some true) (zjd:N9 K (.ref zr)=some (.type "type"))
  (zjh:N7 K zr Str.empty=true) (zj9:Mc K zr=true) (zjj:Mf K zr=true) (zjc:Nu K (.ref zr) "__setattr__"=some (some (.builtin "object.__setattr__"))) (zji:Md K zr=true) (zj8:NN K (.ref zr)=true) (zjq:Nu K (.ref zr) "__class__"=some (some (.builtin "object.__class__")))
  (zgi:Nu K (.ref zr) "till"=some none)
  (zck:Nu K (.ref zr) "basket"=some none)
  (zfr:Nu K (.ref zr) "hand"=some none)
  (zga:Nu K (.ref zr) "used"=some none)
  (zb4:Nu K (.ref zr) "standing"=some none)
  (zg9:MthT K zr "__init__" "Way.__init__" kdN ["self","till","basket","hand"] zac za9)
  (zb7:MthT K zr "word_for" "Way.word_for" kch ["self","number"] z4u z4v)
  (zcr:MthT K zr "behind" "Way.behind" kcP ["self","number"] z74 z6u)
  (za5:MthT K zr "is_let_by" "Way.is_let_by" kbT ["self"] z3y z48)
  (zjt:NK K mainGlobals "Bill"=some (some (.ref zn)))
  (zj1:Nz K zn (.type "object")=some true) (zih:Nz K zn (.ref zn)=some true) (ziy:N9 K (.ref zn)=some (.type "type"))
  (zi2:N7 K zn Str.empty=true) (ziz:Mc K zn=true) (zif:Mf K zn=true) (ziu:Nu K (.ref zn) "__setattr__"=some (some (.builtin "object.__setattr__"))) (zi9:Md K zn=true) (zi3:NN K (.ref zn)=true) (zik:Nu K (.ref zn) "__class__"=some (some (.builtin "object.__class__")))
  (zd9:Nu K (.ref zn) "order"=some none)
  (zcs:Nu K (.ref zn) "steps"=some none)
  (zbh:Nu K (.ref zn) "prices"=some none)
  (z9h:Nu K (.ref zn) "carriage"=some none)
  (zcw:Nu K (.ref zn) "total"=some none)
  (zec:MthT K zn "__init__" "Bill.__init__" kdk ["self","order","steps","standing"] z8r z8n)
  (zjl:NK K mainGlobals "Till"=some (some (.ref zp)))
  (zj3:Nz K zp (.type "object")=some true) (zia:Nz K zp (.ref zp)=some true) (ziw:N9 K (.ref zp)=some (.type "type"))
  (zio:N7 K zp Str.empty=true) (zj0:Mc K zp=true) (zi4:Mf K zp=true) (zj2:Nu K (.ref zp) "__setattr__"=some (some (.builtin "object.__setattr__"))) (zig:Md K zp=true) (zij:NN K (.ref zp)=true) (zi6:Nu K (.ref zp) "__class__"=some (some (.builtin "object.__class__")))
  (zah:Nu K (.ref zp) "parents"=some none)
  (z9o:Nu K (.ref zp) "vouchers"=some none)
  (zcq:Nu K (.ref zp) "rules"=some none)
  (zeo:Nu K (.ref zp) "back"=some none)
  (zf6:Nu K (.ref zp) "__init__"=some (some (.ref z1h))) (ze8:Mg K (.ref z1h)=true) (zef:K.lookup z1h=some ⟨zd7,zdf, .func (NM "__init__" "Till.__init__" (kaD ka7) (kaA ka7) (kag ka7) (.ref z4n) z78 z6x z6j z76 z3t z6n),zcy⟩) (zf3:Ma K z3t "Till.__init__"=true) (zel:NN K (.ref z1h)=true) (z83:K.lookup z4n=some ⟨zds,zdl, .seq #[.str "again" z40] zdu,zd8⟩)
  (zh4:NK K mainGlobals "Account"=some (some (.ref za)))
  (zfl:Nz K za (.type "object")=some true) (zfu:Nz K za (.ref za)=some true) (zgd:N9 K (.ref za)=some (.type "type"))
  (zft:N7 K za Str.empty=true) (zfk:Mc K za=true) (zg5:Mf K za=true) (zg4:Nu K (.ref za) "__setattr__"=some (some (.builtin "object.__setattr__"))) (zgf:Md K za=true) (zg7:NN K (.ref za)=true) (zg0:Nu K (.ref za) "__class__"=some (some (.builtin "object.__class__")))
  (zad:Nu K (.ref za) "till"=some none)
  (z93:Nu K (.ref za) "basket"=some none)
  (zaw:Nu K (.ref za) "hand"=some none)
  (z49:Nu K (.ref za) "first_prices"=some none)
  (z9w:Nu K (.ref za) "order"=some none)
  (z9a:Nu K (.ref za) "fallen"=some none)
  (zb1:Nu K (.ref za) "many"=some none)
  (zb3:Nu K (.ref za) "paid"=some none)
  (zba:Nu K (.ref za) "owed"=some none)
  (zae:MthT K za "__init__" "Account.__init__" kci ["self","till","basket","hand","order"] z57 z4y)
  (z6a:MthT K za "take_back" "Account.take_back" kbh ["self","line","many"] z1v z1y)
  (z6f:MthT K za "has_left" "Account.has_left" kbo ["self","line","many"] z25 z2a)
  (z6e:MthT K za "pay_back" "Account.pay_back" kbn ["self","back"] z28 z29)
  (z4m:MthT K za "paid_behind" "Account.paid_behind" ka9 ["self","line","left","many"] z1g z1k)
  (z5p:MthT K za "what_stays" "Account.what_stays" kbc ["self"] z1p z1n)
  (z5t:MthT K za "due_again" "Account.due_again" ka2 ["self","stays"] z1x z1w)
  (z5o:MthT K za "go_through" "Account.go_through" kbd ["self","stays"] z1o z1q)
  (za2:PySem.W.readsIn K zg (.type "type")=true) (z9g:Ea K (.ref zg) "__getattribute__"=some (some (.builtin "type.__getattribute__"))) (z9p:PySem.W.findCls K (.ref zg) (.type "type") "__init__"=some (.val (.ref zs)))
  (z5b:Nz K zm (.ref zc)=some false)
  (z3n:Nz K zf (.ref zc)=some false)
  (z1u:Nz K zb (.ref zc)=some false)
  (z2m:Nz K zd (.ref zc)=some false)
  (z7u:Nz K zf (.ref zm)=some false)
  (z5i:Nz K zb (.ref zm)=some false)
  (z72:Nz K zd (.ref zm)=some false)
  (z5n:Nz K zc (.ref zm)=some false)
  (z99:Nz K zm (.ref zf)=some false)
  (z3g:Nz K zb (.ref zf)=some false)
  (z4r:Nz K zd (.ref zf)=some false)
  (z3a:Nz K zc (.ref zf)=some false)
  (z4x:Nz K zm (.ref zb)=some false)
  (z34:Nz K zf (.ref zb)=some false)
  (z2f:Nz K zd (.ref zb)=some false)
  (z1z:Nz K zc (.ref zb)=some false)
  (z6l:Nz K zm (.ref zd)=some false)
  (z50:Nz K zf (.ref zd)=some false)
  (z2n:Nz K zb (.ref zd)=some false)
  (z2x:Nz K zc (.ref zd)=some false)
  (z7a:zw=.ref zo)
  (z7b:K.lookup zo=some ⟨z27,z6g, .fields zh,z6c⟩)
  (z7c:z27=.type "code")
  (z7q:zh[11]?=some (.ref zi))
  (z7f:zh.getD 11 .none=.ref zi)
  (z7t:zh.getD 18 .none=.str z2o z2b)
  (z7e:zh.getD 7 .none=.int z2y z31)
  (z7l:zh.getD 9 .none=.bool z2h)
  (z7n:zh.getD 10 .none=.int z33 z2z)
  (z7h:zo≠zi)
  (z7j:K.lookup zi=none)
  (z7p:zi∈ts)
  (zfp:NK K mainGlobals "NotLet"=some (some (.ref z9c)))
  (zcd:NK K mainGlobals "TillError"=some (some (.ref z4p)))
  (zc9:NK K mainGlobals "LineError"=some (some (.ref z4l)))
  (zdb:NK K mainGlobals "NoPieces"=some (some (.ref zj)))
  (zch:EE K zj [.type "ValueError", .type "Exception", .type "BaseException", .type "object"] "ValueError.__new__"=true)
  (zd0:Nu K (.ref zj) "__getattribute__"=some (some (.builtin "BaseException.__getattribute__")))
  (zdv:Nu K (.ref zj) "__getattr__"=some none)
  (zcl:Nu K (.ref zj) "__class__"=some (some (.builtin "object.__class__")))
  (zci:PySem.W.subIn K (.ref zj) (.type "BaseException")=some true)
  (zda:Nz K zj (.type "object")=some true)
  (zd2:(PySem.W.clsIn K zj).isSome=true)
  (z4f:Da K (.ref zj) (.ref z4p)=some true)
  (z65:NL K (.ref zj) (.ref z9c)=some false)
  (z4c:NL K (.ref zj) (.ref z4l)=some false)
  (z3s:NL K (.ref zj) (.type "ValueError")=some true)
  (zVE:NK K mainGlobals "ValueError"=some none)
  (z1:NK K mainGlobals "range"=some none)
  (z2:NK K mainGlobals "len"=some none)
  (z3:NK K mainGlobals "min"=some none)
  (z4:NK K mainGlobals "max"=some none)
  (z5:NK K mainGlobals "isinstance"=some none)
  (z6:NK K mainGlobals "bool"=some none)
  (z7:NK K mainGlobals "int"=some none)
  (z8:NK K mainGlobals "list"=some none)
  (z9:NK K mainGlobals "sum"=some none)
  (z10:NK K mainGlobals "enumerate"=some none)
  (z11:NK K mainGlobals "any"=some none)
  (z12:NK K mainGlobals "all"=some none)
  (z13:NK K mainGlobals "reversed"=some none)
  (z14:NK K mainGlobals "zip"=some none)
  (z15:NK K mainGlobals "abs"=some none)
  (z16:NK K mainGlobals "sorted"=some none)
  (z17:NK K mainGlobals "tuple"=some none)
  (z18:NK K mainGlobals "str"=some none)
  :∃(fd:FuncData)(tP c0:Addr),tP∈ts∧CodeK K c0 tP∧K.lookup tP=none∧(∀(s:Shared)(v:Value),BindsTo s fd ⟨[v],[]⟩ [("_law_script",v)])∧∀base:Heap,K.In base→base.Ns mainGlobals mg→BltM mg base→FnOk l.prog w K mg base CX0 20 fa fd ["_law_script"] (kgf K tP):=by
 have e:=hfa.symm.trans (NT X G zil)
 have hf:zbs=fa:=by
  injection e with e
  injection e with e
  exact e.symm
 subst hf
 have B:TxtB mg:=⟨N5 X G z1,N5 X G z2,N5 X G z3,N5 X G z4,N5 X G z5,N5 X G z6,N5 X G z7,N5 X G z8,N5 X G z9,N5 X G z10,N5 X G z11,N5 X G z12,N5 X G z13,N5 X G z14,N5 X G z15,N5 X G z16,N5 X G z17,N5 X G z18⟩
 have W:Wld K mg ⟨(zgb),(zg2),(zfs),(zfj),(z38),(z3j),(zg1),(zgc),(zhc),(zhg),(z8p),(z7x),(zhh),(zhd),(zgg),(zfn),(z3l),(z35),(z2c),(z2j),(z63),(z5u),(z3e),(z3p),(zx),(NM "falling_groups" "falling_groups" (kaD kaE) (kaA kaE) (kag kaE) .none z2p z30 z2d z32 zw z2r),(z46),(z41),(z88),(z7v),(z4i),(z4d),(zc8),(zce),(zg3),(zfo),(zdx),(zdy),(z4a),(z4g),(z5c),(z5a),(z5l),(z5d),(z2e),(z2q),(zdw),(ze0),(z5g),(z4t),(z80),(z8e),(z6y),(z6m),(z5j),(z52),(z60),(z5w),(z5r),(z67),(z6k),(z6o),(z5h),(z5f),(z6r),(z6v),(z6w),(z71),(z8w),(z91),(z89),(z8h),(z6t),(z6p),(z6z),(z75),(z95),(z90),(z6h),(z6s),(z96),(z8i),(z54),(z56),(z26),(z24),(zbs),(NM "law" "law" (kaD s_law) (kaA s_law) (kag s_law) .none zhb zh9 zhf zhe zew zha),(zk),(z1a),(NM "__init__" "Marks.__init__" (kaD kaZ) (kaA kaZ) (kag kaZ) (.ref z3r) z66 z5s z69 z68 z2g z5q),(z3i),(zg),(zs),(NM "__init__" "Voucher.__init__" (kaD kaP) (kaA kaP) (kag kaP) (.ref z21) z4e z47 z43 z44 z1r z45),(zm),(z20),(NM "__init__" "Off.__init__" (kaD kbj) (kaA kbj) (kag kbj) (.ref z5x) z86 z85 z8a z8t z4q z8x),(zf),(z19),(NM "__init__" "Share.__init__" (kaD kaY) (kaA kaY) (kag kaY) (.ref z3u) z61 z64 z6b z5z z2l z62),(zb),(zu),(NM "__init__" "Cheapest.__init__" (kaD kaL) (kaA kaL) (kag kaL) (.ref z1t) z39 z3h z36 z3c z1l z37),(zd),(zz),(NM "__init__" "Bundle.__init__" (kaD kaV) (kaA kaV) (kag kaV) (.ref z2t) z55 z51 z58 z4w z23 z59),(zc),(zv),(NM "__init__" "Carriage.__init__" (kaD kaM) (kaA kaM) (kag kaM) (.ref z1s) z3q z3f z3k z3m z1e z3d),(zq),(z1i),(NM "__init__" "Line.__init__" (kaD ka8) (kaA ka8) (kag ka8) (.ref z4o) z6q z73 z70 z6i z3v z77),(zl),(zy),(NM "__init__" "Basket.__init__" (kaD kaW) (kaA kaW) (kag kaW) (.ref z2k) z4z z5m z4s z53 z22 z5k),(z2u),(ze),(z3x),(z4j),(z3b),(z3o),(zr),(zac),(za9),(z4u),(z4v),(z74),(z6u),(z3y),(z48),(zn),(z8r),(z8n),(zp),(z1h),(NM "__init__" "Till.__init__" (kaD ka7) (kaA ka7) (kag ka7) (.ref z4n) z78 z6x z6j z76 z3t z6n),(z40),(za),(z57),(z4y),(z1v),(z1y),(z25),(z2a),(z28),(z29),(z1g),(z1k),(z1p),(z1n),(z1x),(z1w),(z1o),(z1q),(zo),(zi),(z9c),(z4p),(z4l),(zj)⟩:=⟨B,zim,zic,z8g,zid,zja,zfi,zjb,zit,z8c,z7o,zbu,z8q,⟨(kbt z92 z81 z7w),(Binds.all (nL3 fun _ _ _=>rfl)),NT X G z8m⟩,z9e,ze5,z9f,zgr,zis,zhn,za1,zag,zb2,z7s,zhs,zax,zev,zcm,zar,zbv,zc5,zcu,zao,zco,zdj,zet,ze6,zde,zd5,zf7,zcp,zem,zb8,z6d,⟨(kbt zjv zju zjw),(Binds.all (nL1 fun _=>rfl)),NT X G zil⟩,⟨⟨zht,zhv,zhu,zhl⟩,NT X G zir,⟨zhi,inX,itX,zhm⟩,zhy,zhk,zi1,zi0⟩,zcz,zbl,zdo,zbd,zcn,zdm,⟨zd6,zdi,(kbt zdr zd3 zdg),(bd_mk (n:=7) rfl fun _ KX=>nL7 fun _ _ _ _ _ _ _=>BindsTo.of_defaults rfl (KX _ _ zt) rfl rfl rfl)⟩,(bd_mk (n:=6) rfl fun _ KX=>nL6 fun _ _ _ _ _ _=>BindsTo.of_defaults rfl (KX _ _ zt) rfl rfl rfl),(bd_mk (n:=5) rfl fun _ KX=>nL5 fun _ _ _ _ _=>BindsTo.of_defaults rfl (KX _ _ zt) rfl rfl rfl),(bd_mk (n:=4) rfl fun _ KX=>nL4 fun _ _ _ _=>BindsTo.of_defaults rfl (KX _ _ zt) rfl rfl rfl),(bd_mk (n:=3) rfl fun _ KX=>nL3 fun _ _ _=>BindsTo.of_defaults rfl (KX _ _ zt) rfl rfl rfl),(bd_mk (n:=2) rfl fun _ KX=>nL2 fun _ _=>BindsTo.of_defaults rfl (KX _ _ zt) rfl rfl rfl),(bd_mk (n:=1) rfl fun _ KX=>nL1 fun _=>BindsTo.of_defaults rfl (KX _ _ zt) rfl rfl rfl),⟨⟨zg6,zge,zfq,zfz⟩,NT X G zgz,⟨zfy,inX,itX,zfx⟩,zgj,zfm,zgn,zgo⟩,⟨zbb,zav,(kbt zb5 zas zaq),(bd_mk (n:=2) rfl fun _ KX=>nL2 fun _ _=>BindsTo.of_defaults rfl (KX _ _ z5e) rfl rfl rfl)⟩,(bd_mk (n:=1) rfl fun _ KX=>nL1 fun _=>BindsTo.of_defaults rfl (KX _ _ z5e) rfl rfl rfl),NT X G zj4,⟨⟨zjo,zj6,zjk,zj7⟩,NT X G zj4,⟨zjf,inX,itX,z8y⟩,z8s,z97,zj5,zjr⟩,zdk,ze2,⟨zgm,zfv,(kbt zgh zgl zg8),(bd_mk (n:=3) rfl fun _ KX=>nL3 fun _ _ _=>BindsTo.of_defaults rfl (KX _ _ za8) rfl rfl rfl)⟩,(bd_mk (n:=2) rfl fun _ KX=>nL2 fun _ _=>BindsTo.of_defaults rfl (KX _ _ za8) rfl rfl rfl),NT X G zgk,⟨⟨zho,zhr,zhp,zhz⟩,NT X G zgk,⟨zhx,inX,itX,z42⟩,z4k,z4h,zhq,zhw⟩,zbk,za3,zbo,⟨zcv,zct,(kbt zdd zcj zdn),(bd_mk (n:=4) rfl fun _ KX=>nL4 fun _ _ _ _=>BindsTo.of_defaults rfl (KX _ _ z3w) rfl rfl rfl)⟩,(bd_mk (n:=3) rfl fun _ KX=>nL3 fun _ _ _=>BindsTo.of_defaults rfl (KX _ _ z3w) rfl rfl rfl),(bd_mk (n:=2) rfl fun _ KX=>nL2 fun _ _=>BindsTo.of_defaults rfl (KX _ _ z3w) rfl rfl rfl),NT X G zaa,⟨⟨zf0,zer,zf5,zes⟩,NT X G zaa,⟨zep,inX,itX,z1d⟩,z1j,z1f,zf4,zfh⟩,z9i,z7z,⟨z9n,z9z,(kbt z9l z9u z9v),(bd_mk (n:=3) rfl fun _ KX=>nL3 fun _ _ _=>BindsTo.of_defaults rfl (KX _ _ z3z) rfl rfl rfl)⟩,(bd_mk (n:=2) rfl fun _ KX=>nL2 fun _ _=>BindsTo.of_defaults rfl (KX _ _ z3z) rfl rfl rfl),NT X G zdz,⟨⟨zh8,zgp,zgu,zgv⟩,NT X G zdz,⟨zh2,inX,itX,z2s⟩,z2i,z2w,zh3,zh0⟩,zc1,zai,zak,⟨zby,zbm,(kbt zc2 zc6 zbj),(bd_mk (n:=4) rfl fun _ KX=>nL4 fun _ _ _ _=>BindsTo.of_defaults rfl (KX _ _ z5v) rfl rfl rfl)⟩,(bd_mk (n:=3) rfl fun _ KX=>nL3 fun _ _ _=>BindsTo.of_defaults rfl (KX _ _ z5v) rfl rfl rfl),NT X G zab,⟨⟨zf9,zee,ze1,zfe⟩,NT X G zab,⟨zek,inX,itX,z1c⟩,z1m,z1b,zfa,ze7⟩,z8u,⟨za4,z9k,(kbt z9d z9r z9m),(bd_mk (n:=2) rfl fun _ KX=>nL2 fun _ _=>BindsTo.of_defaults rfl (KX _ _ z4b) rfl rfl rfl)⟩,(bd_mk (n:=1) rfl fun _ KX=>nL1 fun _=>BindsTo.of_defaults rfl (KX _ _ z4b) rfl rfl rfl),⟨⟨zi5,zi8,ziq,zix⟩,NT X G zjg,⟨zib,inX,itX,ziv⟩,zin,zie,zi7,zii⟩,zex,zd1,zfg,zb6,⟨zeu,zea,(kbt zff zfd zed),(bd_mk (n:=5) rfl fun _ KX=>nL5 fun _ _ _ _ _=>BindsTo.of_defaults rfl (KX _ _ z8v) rfl rfl rfl)⟩,(bd_mk (n:=4) rfl fun _ KX=>nL4 fun _ _ _ _=>BindsTo.of_defaults rfl (KX _ _ z8v) rfl rfl rfl),⟨⟨zgx,zgt,zgy,zh5⟩,NT X G zhj,⟨zh1,inX,itX,zh6⟩,zgw,zgs,zgq,zh7⟩,zat,z7i,za6,⟨zcb,zbw,(kbt zbz zc0 zbt),(bd_mk (n:=4) rfl fun _ KX=>nL4 fun _ _ _ _=>BindsTo.of_defaults rfl (KX _ _ z2v) rfl rfl rfl)⟩,(bd_mk (n:=3) rfl fun _ KX=>nL3 fun _ _ _=>BindsTo.of_defaults rfl (KX _ _ z2v) rfl rfl rfl),(bd_mk (n:=2) rfl fun _ KX=>nL2 fun _ _=>BindsTo.of_defaults rfl (KX _ _ z2v) rfl rfl rfl),⟨⟨zfb,zf2,zeb,zej⟩,NT X G zfw,⟨ze3,inX,itX,zei⟩,zfc,zeq,zf8,zeg⟩,z7k,z7r,z5y,z7m,z9j,z87,⟨⟨zjh,zj9,zjj,zjc⟩,NT X G zjx,⟨zjq,inX,itX,zjp⟩,zjn,zjd,zji,zj8⟩,zgi,zck,zfr,zga,zb4,zg9,zb7,zcr,za5,⟨⟨zi2,ziz,zif,ziu⟩,NT X G zjt,⟨zik,inX,itX,zj1⟩,zih,ziy,zi9,zi3⟩,zd9,zcs,zbh,z9h,zcw,zec,⟨⟨zio,zj0,zi4,zj2⟩,NT X G zjl,⟨zi6,inX,itX,zj3⟩,zia,ziw,zig,zij⟩,zah,z9o,zcq,zeo,⟨zf6,ze8,(kbt zef zf3 zel),(bd_mk (n:=5) rfl fun _ KX=>nL5 fun _ _ _ _ _=>BindsTo.of_defaults rfl (KX _ _ z83) rfl rfl rfl)⟩,(bd_mk (n:=4) rfl fun _ KX=>nL4 fun _ _ _ _=>BindsTo.of_defaults rfl (KX _ _ z83) rfl rfl rfl),⟨⟨zft,zfk,zg5,zg4⟩,NT X G zh4,⟨zg0,inX,itX,zfl⟩,zfu,zgd,zgf,zg7⟩,zad,z93,zaw,z49,z9w,z9a,zb1,zb3,zba,zae,z6a,z6f,z6e,z4m,z5p,z5t,z5o,⟨za2,z9g,z9p⟩,kaN z5b z1c z1b (kbk z5b z8s),kaN z3n z1c z1b (kbk z3n z4k),kaN z1u z1c z1b (kbk z1u z1j),kaN z2m z1c z1b (kbk z2m z2i),kaN z7u z8y z97 (kbk z7u z4k),kaN z5i z8y z97 (kbk z5i z1j),kaN z72 z8y z97 (kbk z72 z2i),kaN z5n z8y z97 (kbk z5n z1m),kaN z99 z42 z4h (kbk z99 z8s),kaN z3g z42 z4h (kbk z3g z1j),kaN z4r z42 z4h (kbk z4r z2i),kaN z3a z42 z4h (kbk z3a z1m),kaN z4x z1d z1f (kbk z4x z8s),kaN z34 z1d z1f (kbk z34 z4k),kaN z2f z1d z1f (kbk z2f z2i),kaN z1z z1d z1f (kbk z1z z1m),kaN z6l z2s z2w (kbk z6l z8s),kaN z50 z2s z2w (kbk z50 z4k),kaN z2n z2s z2w (kbk z2n z1j),kaN z2x z2s z2w (kbk z2x z1m),z7a,⟨_,zh,z2o,z2b,z2y,z31,z2h,z33,z2z,z7b,z7c,rfl,z7q,z7f,z7t,z7e,z7l,z7n,z7h⟩,NT X G zfp,NT X G zcd,NT X G zc9,NT X G zdb,zch,⟨zd0,zdv,zcl,zci,zda,zd2⟩,z4f,z65,z4c,z3s,N5 X G zVE⟩
 exact⟨_,zi,zo,z7p,W.ck_falling_groups,z7j,fun s v=>.of_eq rfl,fun base hK _ hB=>kmE ⟨W,hB,hK⟩⟩
end Vs
namespace PySem.W.Fast
def tw1088021563426146337:=0
def tw14932481753832359105:=0
def tw16211392450725205474:=0
def tw3444452596034077378:=0
def tw988198199706190530:=0
def tw16918579729434538978:=0
def tw431899100684536644:=0
def tw7782383255157130629:=0
def tw2737802338367577701:=0
def tw8296231263413676838:=0
def tw6529328025062814566:=0
def tw9148154400968152423:=0
def tw15691611990464674056:=0
def tw13638806775193393768:=0
def tw4777913829719498569:=0
def tw11007672666384107690:=0
def tw15909144508172628522:=0
def tw9481545684191762635:=0
def tw14003090112294519820:=0
def tw16704294682486065964:=0
def tw1365135974477691277:=0
def tw9456566668124838926:=0
def tw9574495194026829966:=0
def tw2268341656866025262:=0
def tw1698270764034517455:=0
def tw10225649977111206289:=0
def tw7439846487781956402:=0
def tw1056604306626202675:=0
def tw468687569916997107:=0
def tw8341795729808607893:=0
def tw2275202205418892791:=0
def tw1370438176645822103:=0
def tw9886420807482636376:=0
def tw2224786102263588921:=0
def tw16030237875052040409:=0
def tw8628552766667213465:=0
def tw16980576152423554969:=0
def tw9728634145946708026:=0
def tw16538533484719646043:=0
def tw16575534412601805723:=0
def tw2060259615336652956:=0
def tw4771793605238612125:=0
def tw10058607320186300957:=0
def tw16549127341456142398:=0
def tw12614591118510754047:=0
def tw14780258911518609119:=0
def tw1114631172334248705:=0
def tw11099867528930106724:=0
def tw10521606552621212642:=0
def tw9549499862341545610:=0
def tw4318312310089977851:=0
def tw11124826658454039514:=0
def tw1141044379336256508:=0
def tw203299931467319802:=0
def tw8114707562303208914:=0
def tw2436301798165209107:=0
def tw32087343339317066:=0
def tw15012508276455670425:=0
def tw6182139133908838919:=0
def tw17513212334708208411:=0
def tw4491188757960762096:=0
def tw7859523812583387955:=0
def tw10113649954765433392:=0
def tw1212703746280952570:=0
def tw3162949491428654681:=0
def tw1008079082011789488:=0
def tw2253982732532035783:=0
def tw17508921932034588661:=0
def tw9334460715941832472:=0
def tw1908591925437212405:=0
def tw15336095861460001790:=0
def tw18061038250719084044:=0
def tw7283772674566071761:=0
def tw8992840187199514200:=0
def tw15177899498922896528:=0
def tw10757431800907021074:=0
def tw6935286692711487244:=0
def tw18259883783415012939:=0
def tw8058893635764979261:=0
def tw5871077509090292447:=0
def tw14445224703361231152:=0
def tw8429134928797225567:=0
def tw6978167600312546560:=0
def tw7551371718356667673:=0
def tw3663182999273227227:=0
def tw9094890726036356665:=0
def tw6418157145308260021:=0
def tw2985847531400326616:=0
def tw7858410225005841185:=0
def tw13966001177594669617:=0
def tw6243854689482087658:=0
def tw6333499844381152622:=0
def tw9860699253945621547:=0
def tw1412131016322015960:=0
def tw591792775785174623:=0
def tw8972819791919475246:=0
def tw4263393433458489913:=0
def tw15062814980176378476:=0
def tw15178841659284007026:=0
def tw324263683356490971:=0
def tw12648639981528017984:=0
def tw5541739414580184389:=0
def tw6877170621310225781:=0
def tw16394213924816097016:=0
def tw1044930798754473136:=0
def tw16877489626013773302:=0
def tw78906812756182346:=0
def tw13174949434531437013:=0
def tw14150845233004303505:=0
def tw9482957046710471888:=0
def tw3813121280967292273:=0
def tw16165888742053465916:=0
def tw14163497376646500237:=0
def tw10111465666354721958:=0
def tw1247142890919187861:=0
def tw245331867888232424:=0
def tw17494852319615292340:=0
def tw8053794351465489037:=0
def tw7070357348481454842:=0
def tw10098385798070483200:=0
def tw7715936456482737546:=0
def tw17826071219105553418:=0
def tw8382435233576885507:=0
def tw7226352558546537967:=0
def tw2508065676023795694:=0
def tw10890806055822037197:=0
def tw10550752906591733442:=0
def tw1752625476772147151:=0
def tw16944671693609721733:=0
def tw1927659654871544988:=0
def tw16334406824888524004:=0
def tw15701559831791466720:=0
def tw4972678815360257397:=0
def tw9237096143382056535:=0
def tw2943542000574872441:=0
def tw5356230002008507775:=0
def tw11608112206168582832:=0
def tw73043508481210499:=0
def tw15817257163662640531:=0
def tw16320293584149649379:=0
def tw4341348534306243399:=0
def tw16103394605674162673:=0
def tw14459209149708344441:=0
def tw17413153554382422344:=0
def tw779623412272451528:=0
def tw12866046568729979304:=0
def tw4689144726694994848:=0
def tw13706623591995456290:=0
def tw12207050877495458241:=0
def tw5403050752071686300:=0
def tw15683882576888045405:=0
def tw13091065063684273348:=0
def tw6791687819336962187:=0
def tw7740946365073405315:=0
def tw14708721980550426635:=0
def tw7075960470913521863:=0
def tw10018141584083067720:=0
def tw13349394316738161287:=0
def tw952277162971897612:=0
def tw15409409461227899013:=0
def tw17751934682914618583:=0
def tw16274083303988080729:=0
def tw5469645864502064725:=0
def tw9089902298264266243:=0
def tw11097113354741947259:=0
def tw17186392419437056596:=0
def tw16085517401702201669:=0
def tw16573141910753927962:=0
def tw16359307820878269063:=0
def tw13247913979946490502:=0
def tw16841934326740420338:=0
def tw16043037522776184189:=0
def tw1114892493068407380:=0
def tw8279878179461621717:=0
def tw17369569367189474885:=0
def tw1296361877219167207:=0
def tw5835437402483210440:=0
def tw17938782168458832913:=0
def tw13870079734849726631:=0
def tw1007340086070433237:=0
def tw9148858178875453830:=0
def tw9902591184216280355:=0
def tw6116621082338438598:=0
def tw11908248306018415779:=0
def tw8682436744310305:=0
def tw2985577481893891817:=0
def tw3403949820664100237:=0
def tw1145680880954125177:=0
def tw3163490594846873095:=0
def tw1417814777325464302:=0
def tw8209993052419820076:=0
def tw188197114732627684:=0
def tw2681123697749212788:=0
def tw11754878772945316714:=0
def tw1526774205768734559:=0
def tw6900815964178965580:=0
def tw13267051381579592434:=0
def tw16419409842677657047:=0
def tw13296896651338138461:=0
def tw14783276993734244818:=0
def tw3922382602610084576:=0
def tw6216586110334708720:=0
def tw12321703013178315172:=0
def tw16656388337687970587:=0
def tw8459385711720079350:=0
def tw37641622136350540:=0
def tw18227119639418198395:=0
def tw15443041366560467107:=0
def tw17563186579328137056:=0
def tw3713616780715273709:=0
def tw1727004851282456947:=0
def tw14624386998675806833:=0
def tw12206637409660477953:=0
def tw7350212439892147343:=0
def tw7783131810832768539:=0
def tw13979982182484662839:=0
def tw4281416907685442282:=0
def tw3674675090185753551:=0
def tw8742529122380355220:=0
def tw3368141741847167373:=0
def tw5362490107058172320:=0
def tw3900832646948142396:=0
def tw3015699209317040740:=0
def tw14447673079253677054:=0
def tw4958190442528174306:=0
def tw14329944597477818536:=0
def tw5068932819286747381:=0
def tw13285926257219039024:=0
def tw3933383646517859424:=0
def tw5292491200679381973:=0
def tw3049552359641543512:=0
def tw10452972766121871474:=0
def tw12938913395011321012:=0
def tw15217363257044839358:=0
def tw12358382468171230740:=0
def tw18352188654069494082:=0
def tw7639942097714426789:=0
def tw5891076688001206299:=0
def tw17909072099317779671:=0
def tw13550593843457405818:=0
def tw15000669514891468329:=0
def tw12559735119468752826:=0
def tw16466022969534892897:=0
def tw1169589027038021207:=0
def tw1322807857254353080:=0
def tw13207365749597172736:=0
def tw13363504117391402434:=0
def tw12011734974938677611:=0
def tw6938785014255197046:=0
def tw2453882427512573274:=0
def tw7710300399544641345:=0
def tw5079824279439908307:=0
def tw17652030820297011200:=0
def tw4671177744810125408:=0
def tw16415779322406987086:=0
def tw16537517916884401335:=0
def tw15050303075616518382:=0
def tw14243849134238654946:=0
def tw5832428834964015351:=0
def tw12448331968452435459:=0
def tw10384329612690339289:=0
def tw16184509349614701229:=0
def tw7702326431772518482:=0
def tw9719336967201892798:=0
def tw1734685977227444612:=0
def tw4730821025688259918:=0
def tw18110002308180711294:=0
def tw16608937109488785205:=0
def tw14651273630263686949:=0
def tw4727693674511285591:=0
def tw13578575954182268523:=0
def tw15091846701562983137:=0
def tw17561919939828488566:=0
def tw7187443639238011661:=0
def tw6249120473941685607:=0
end PySem.W.Fast
open PySem PySem.W PyProof.Rows
set_option maxRecDepth 100000 in
set_option maxHeartbeats 0 in
theorem PySem.Challenge.cw_voucherstack_k36_pieces_that_are_not_the_holds : PySem.Challenge.rw_voucherstack_k36_pieces_that_are_not_the.Holds := by
 w_on;o_law;k_head;(case hw=>w_witness2)
 k_fill
 refine L2.walkT_of (l:=PySem.Challenge.rw_voucherstack_k36_pieces_that_are_not_the) (k:=20) (x:="_law_script") rfl rfl ⟨rfl,by decide,by decide⟩ (fun w h Y=>PySem.W.km_in_of Y) (fun w h Y=>PySem.W.km_tabs_of Y) ?F
 case F=>
  intro w mg fa h KX G hmg
  refine' Vs.all_mk KX G hmg ?Nm ?Nl ?JA ?Ni ?Np ?J8 ?Nq ?Nj ?JC ?Jy ?JR ?JB ?afalling_groups ?lfalling_groups ?cfalling_groups ?kfalling_groups ?JI ?Na ?JE ?Nf ?Nk ?Ng ?JG ?JL ?JO ?Jz ?Nh ?JQ ?J5 ?JY ?JK ?JT ?JS ?J4 ?JP ?JZ ?J0 ?Nb ?J9 ?JW ?JU ?J7 ?JX ?Nc ?JJ ?Jv ?alaw ?llaw ?claw ?klaw ?aMarks ?imMarks ?isMarks ?iyMarks ?inX ?itX ?pgMarks ?hdMarks ?poMarks ?saMarks ?mkMarks ?kcMarks ?iaMarks ?nMarks_kind ?nMarks_needs ?nMarks_most ?nMarks_member ?nMarks_once ?nMarks_lone ?hMarks_init ?iMarks_init ?lMarks_init ?cMarks_init ?kMarks_init ?tMarks_init ?aVoucher ?imVoucher ?isVoucher ?iyVoucher ?pgVoucher ?hdVoucher ?poVoucher ?saVoucher ?mkVoucher ?kcVoucher ?iaVoucher ?hVoucher_init ?iVoucher_init ?lVoucher_init ?cVoucher_init ?kVoucher_init ?tVoucher_init ?aOff ?imOff ?isOff ?iyOff ?pgOff ?hdOff ?poOff ?saOff ?mkOff ?kcOff ?iaOff ?nOff_amount ?nOff_marks ?hOff_init ?iOff_init ?lOff_init ?cOff_init ?kOff_init ?tOff_init ?aShare ?imShare ?isShare ?iyShare ?pgShare ?hdShare ?poShare ?saShare ?mkShare ?kcShare ?iaShare ?nShare_share ?nShare_by_line ?nShare_marks ?hShare_init ?iShare_init ?lShare_init ?cShare_init ?kShare_init ?tShare_init ?aCheapest ?imCheapest ?isCheapest ?iyCheapest ?pgCheapest ?hdCheapest ?poCheapest ?saCheapest ?mkCheapest ?kcCheapest ?iaCheapest ?nCheapest_many ?nCheapest_marks ?hCheapest_init ?iCheapest_init ?lCheapest_init ?cCheapest_init ?kCheapest_init ?tCheapest_init ?aBundle ?imBundle ?isBundle ?iyBundle ?pgBundle ?hdBundle ?poBundle ?saBundle ?mkBundle ?kcBundle ?iaBundle ?nBundle_many ?nBundle_price ?nBundle_marks ?hBundle_init ?iBundle_init ?lBundle_init ?cBundle_init ?kBundle_init ?tBundle_init ?aCarriage ?imCarriage ?isCarriage ?iyCarriage ?pgCarriage ?hdCarriage ?poCarriage ?saCarriage ?mkCarriage ?kcCarriage ?iaCarriage ?nCarriage_marks ?hCarriage_init ?iCarriage_init ?lCarriage_init ?cCarriage_init ?kCarriage_init ?tCarriage_init ?aLine ?imLine ?isLine ?iyLine ?pgLine ?hdLine ?poLine ?saLine ?mkLine ?kcLine ?iaLine ?nLine_kind ?nLine_price ?nLine_many ?nLine_special ?hLine_init ?iLine_init ?lLine_init ?cLine_init ?kLine_init ?tLine_init ?aBasket ?imBasket ?isBasket ?iyBasket ?pgBasket ?hdBasket ?poBasket ?saBasket ?mkBasket ?kcBasket ?iaBasket ?nBasket_lines ?nBasket_carriage ?nBasket_member ?hBasket_init ?iBasket_init ?lBasket_init ?cBasket_init ?kBasket_init ?tBasket_init ?aStanding ?imStanding ?isStanding ?iyStanding ?pgStanding ?hdStanding ?poStanding ?saStanding ?mkStanding ?kcStanding ?iaStanding ?nStanding_owners ?nStanding_prices ?nStanding_carriage ?nStanding_marked ?JF ?JD ?aWay ?imWay ?isWay ?iyWay ?pgWay ?hdWay ?poWay ?saWay ?mkWay ?kcWay ?iaWay ?nWay_till ?nWay_basket ?nWay_hand ?nWay_used ?nWay_standing ?Nd ?JM ?JV ?JH ?aBill ?imBill ?isBill ?iyBill ?pgBill ?hdBill ?poBill ?saBill ?mkBill ?kcBill ?iaBill ?nBill_order ?nBill_steps ?nBill_prices ?nBill_carriage ?nBill_total ?J6 ?aTill ?imTill ?isTill ?iyTill ?pgTill ?hdTill ?poTill ?saTill ?mkTill ?kcTill ?iaTill ?nTill_parents ?nTill_vouchers ?nTill_rules ?nTill_back ?hTill_init ?iTill_init ?lTill_init ?cTill_init ?kTill_init ?tTill_init ?aAccount ?imAccount ?isAccount ?iyAccount ?pgAccount ?hdAccount ?poAccount ?saAccount ?mkAccount ?kcAccount ?iaAccount ?nAccount_till ?nAccount_basket ?nAccount_hand ?nAccount_first_prices ?nAccount_order ?nAccount_fallen ?nAccount_many ?nAccount_paid ?nAccount_owed ?JN ?Ju ?Jw ?Jx ?Jq ?Js ?Jt ?Jr ?rdVoucher_init ?gaVoucher_init ?fcVoucher_init ?qOff_Carriage ?qShare_Carriage ?qCheapest_Carriage ?qBundle_Carriage ?qShare_Off ?qCheapest_Off ?qBundle_Off ?qCarriage_Off ?qOff_Share ?qCheapest_Share ?qBundle_Share ?qCarriage_Share ?qOff_Cheapest ?qShare_Cheapest ?qBundle_Cheapest ?qCarriage_Cheapest ?qOff_Bundle ?qShare_Bundle ?qCheapest_Bundle ?qCarriage_Bundle ?qafalling_groups ?qbfalling_groups ?qcfalling_groups ?qdfalling_groups ?qefalling_groups ?qffalling_groups ?qgfalling_groups ?qhfalling_groups ?qifalling_groups ?qjfalling_groups ?qkfalling_groups ?qlfalling_groups ?qaeNotLet ?qaeTillError ?qaeLineError ?qaeNoPieces ?qeeNoPieces ?qxaNoPieces ?qxbNoPieces ?qxcNoPieces ?qxdNoPieces ?qxeNoPieces ?qxfNoPieces ?qxmNoPieces_TillError ?qkiNoPieces_NotLet ?qkiNoPieces_LineError ?qkiNoPieces_ValueError ?zVE ?z1 ?z2 ?z3 ?z4 ?z5 ?z6 ?z7 ?z8 ?z9 ?z10 ?z11 ?z12 ?z13 ?z14 ?z15 ?z16 ?z17 ?z18
  any_goals k_is
  exists Nm,Vs.nL2 fun _ _=>rfl,0,0,0
  exists Nl,Vs.nL3 fun _ _ _=>rfl,0,0,0
  exists JA,Vs.nL2 fun _ _=>rfl,0,0,0
  exists Ni,Vs.nL4 fun _ _ _ _=>rfl,0,0,0
  exists Np,Vs.nL4 fun _ _ _ _=>rfl,0,0,0
  exists J8,Vs.nL4 fun _ _ _ _=>rfl,0,0,0
  exists Nq,Vs.nL4 fun _ _ _ _=>rfl,0,0,0
  exists Nj,Vs.nL4 fun _ _ _ _=>rfl,0,0,0
  exists JC,Vs.nL4 fun _ _ _ _=>rfl,0,0,0
  exists Jy,Vs.nL2 fun _ _=>rfl,0,0,0
  exists JR,Vs.nL3 fun _ _ _=>rfl,0,0,0
  exists JB,Vs.nL2 fun _ _=>rfl,0,0,0
  exists JI,Vs.nL3 fun _ _ _=>rfl,0,0,0
  exists Na,Vs.nL2 fun _ _=>rfl,0,0,0
  exists JE,Vs.nL2 fun _ _=>rfl,0,0,0
  exists Nf,Vs.nL2 fun _ _=>rfl,0,0,0
  exists Nk,Vs.nL4 fun _ _ _ _=>rfl,0,0,0
  exists Ng,Vs.nL4 fun _ _ _ _=>rfl,0,0,0
  exists JG,Vs.nL4 fun _ _ _ _=>rfl,0,0,0
  exists JL,Vs.nL3 fun _ _ _=>rfl,0,0,0
  exists JO,Vs.nL3 fun _ _ _=>rfl,0,0,0
  exists Jz,Vs.nL2 fun _ _=>rfl,0,0,0
  exists Nh,Vs.nL4 fun _ _ _ _=>rfl,0,0,0
  exists JQ,Vs.nL2 fun _ _=>rfl,0,0,0
  exists J5,Vs.nL4 fun _ _ _ _=>rfl,0,0,0
  exists JY,Vs.nL3 fun _ _ _=>rfl,0,0,0
  exists JK,Vs.nL1 fun _=>rfl,0,0,0
  exists JT,Vs.nL2 fun _ _=>rfl,0,0,0
  exists JS,Vs.nL4 fun _ _ _ _=>rfl,0,0,0
  exists J4,Vs.nL4 fun _ _ _ _=>rfl,0,0,0
  exists JP,Vs.nL4 fun _ _ _ _=>rfl,0,0,0
  exists JZ,Vs.nL2 fun _ _=>rfl,0,0,0
  exists J0,Vs.nL1 fun _=>rfl,0,0,0
  exists Nb,Vs.nL4 fun _ _ _ _=>rfl,0,0,0
  exists J9,Vs.nL2 fun _ _=>rfl,0,0,0
  exists JW,Vs.nL4 fun _ _ _ _=>rfl,0,0,0
  exists JU,Vs.nL5 fun _ _ _ _ _=>rfl,0,0,0
  exists J7,Vs.nL3 fun _ _ _=>rfl,0,0,0
  exists JX,Vs.nL2 fun _ _=>rfl,0,0,0
  exists Nc,Vs.nL1 fun _=>rfl,0,0,0
  exists JJ,Vs.nL3 fun _ _ _=>rfl,0,0,0
  exists Jv,Vs.nL4 fun _ _ _ _=>rfl,0,0,0
  exists JF,Vs.nL2 fun _ _=>rfl,0,0,0,0,0
  exists JD,Vs.nL1 fun _=>rfl,0,0,0,0,0
  exists Nd,Vs.nL4 fun _ _ _ _=>rfl,0,0,0,0,0
  exists JM,Vs.nL2 fun _ _=>rfl,0,0,0,0,0
  exists JV,Vs.nL2 fun _ _=>rfl,0,0,0,0,0
  exists JH,Vs.nL1 fun _=>rfl,0,0,0,0,0
  exists J6,Vs.nL4 fun _ _ _ _=>rfl,0,0,0,0,0
  exists JN,Vs.nL5 fun _ _ _ _ _=>rfl,0,0,0,0,0
  exists Ju,Vs.nL3 fun _ _ _=>rfl,0,0,0,0,0
  exists Jw,Vs.nL3 fun _ _ _=>rfl,0,0,0,0,0
  exists Jx,Vs.nL2 fun _ _=>rfl,0,0,0,0,0
  exists Jq,Vs.nL4 fun _ _ _ _=>rfl,0,0,0,0,0
  exists Js,Vs.nL1 fun _=>rfl,0,0,0,0,0
  exists Jt,Vs.nL2 fun _ _=>rfl,0,0,0,0,0
  exists Jr,Vs.nL2 fun _ _=>rfl,0,0,0,0,0
  (try case qafalling_groups=>first|rfl|decide|k_is)
  (try case qbfalling_groups=>k_is)
  (try case qcfalling_groups=>first|rfl|decide|k_is)
  (try case qdfalling_groups=>first|rfl|decide|k_is)
  (try case qefalling_groups=>first|rfl|decide|k_is)
  (try case qffalling_groups=>first|rfl|decide|k_is)
  (try case qgfalling_groups=>first|rfl|decide|k_is)
  (try case qhfalling_groups=>first|rfl|decide|k_is)
  (try case qifalling_groups=>first|rfl|decide|k_is)
  (try case qjfalling_groups=>first|rfl|decide|k_is)
  (try case qkfalling_groups=>first|k_is|rfl|decide|decide +kernel)
  (try case qlfalling_groups=>decide)
  (try case qeeNoPieces=>first|k_is|(k_exc;done)|(kts_exm;done)|(kit_is;done)|rfl|decide +kernel)
  (try case qxaNoPieces=>first|k_is|(k_exc;done)|(kts_exm;done)|(kit_is;done)|rfl|decide +kernel)
  (try case qxbNoPieces=>first|k_is|(k_exc;done)|(kts_exm;done)|(kit_is;done)|rfl|decide +kernel)
  (try case qxcNoPieces=>first|k_is|(k_exc;done)|(kts_exm;done)|(kit_is;done)|rfl|decide +kernel)
  (try case qxdNoPieces=>first|k_is|(k_exc;done)|(kts_exm;done)|(kit_is;done)|rfl|decide +kernel)
  (try case qxeNoPieces=>first|k_is|(k_exc;done)|(kts_exm;done)|(kit_is;done)|rfl|decide +kernel)
  (try case qxfNoPieces=>first|k_is|(k_exc;done)|(kts_exm;done)|(kit_is;done)|rfl|decide +kernel)
  (try case qxmNoPieces_TillError=>first|k_is|(k_exc;done)|(kts_exm;done)|(kit_is;done)|rfl|decide +kernel)
  (try case qkiNoPieces_NotLet=>first|k_is|(k_exc;done)|(kts_exm;done)|(kit_is;done)|rfl|decide +kernel)
  (try case qkiNoPieces_LineError=>first|k_is|(k_exc;done)|(kts_exm;done)|(kit_is;done)|rfl|decide +kernel)
  (try case qkiNoPieces_ValueError=>first|k_is|(k_exc;done)|(kts_exm;done)|(kit_is;done)|rfl|decide +kernel)
