import PyProof.Rows.All
import Wide.All
import OpenK.AllK
import Wide.FinOn
import Lean
import PyProof.EqAt
import PyProof.EqKinds
import PyProof.TupleCall
import PySem.Challenge.RW_voucherstack_k54_whole_taken_back_any_ti
set_option Elab.async false
set_option linter.all false
set_option compiler.extract_closed false
set_option maxRecDepth 100000
open Array renaming getElem?_eq_some_iff → M7, length_toList → Ek, size_zip → EV, getElem?_eq_getElem → Dr
open Bool renaming false_ne_true → NP, and_eq_true → Mz, false_eq_true → MF, eq_iff_iff → EK, false_and → Dd, or_eq_true → Dq
open List renaming length_map → ND, replicate → NI, range → NK, map_append → NL, mem_of_getElem? → NM, getElem?_map → NO, length_append → NQ, length_take → NS, getElem?_eq_some_iff → NT, map_cons → NW, getD_eq_getElem?_getD → N1, mem_cons_of_mem → N2, mem_map → N3, mem_cons_self → N4, mem_cons → N5, size_toArray → N6, map_map → N7, take_length → Ma, sum_cons → Mb, length_cons → Md, flatten_cons → Me, zipWith → Mg, mem_filter → Mi, mem_append → Mj, mem_append_right → Ml, append_assoc → Mr, lookup_cons → Ms, Perm → Mv, range_succ → Mx, map_congr_left → My, lookup → MB, length_set → MD, replicate_succ → ME, getElem?_eq_getElem → MG, sum_append → MJ, nodup_cons → MK, length_replicate → ML, length_singleton → MM, take_of_length_le → MN, mem_singleton → MO, append_nil → MQ, map_take → MS, take_add_one → MT, map_set → MU, length_nil → MV, ext_getElem → MY, mem_iff_getElem? → MZ, mem_flatten → M0, getElem?_set_self → M3, of_mem_zip → M4, drop_zero → M5, not_mem_nil → M6, filter_append → M8, filterMap_cons → M9, getElem?_set_ne → Ea, map_nil → Ec, any_cons → Ed, pairwise_iff_getElem → Ef, length_filter_le → Eg, length_zipWith → Eh, mem_of_mem_take → Ei, filter_cons → Ej, length → El, getElem?_append_right → Em, getElem?_append_left → En, length_drop → Eo, nil_append → Ep, Pairwise → Er, all_eq_true → Es, map_drop → Et, getElem_map → Ew, pairwise_cons → Ex, getElem?_zipWith → Ey, Sublist → Ez, getElem?_take → EA, sum_nil → EB, find?_cons → EF, count_cons → EG, getElem_range → EH, getElem?_range → EI, drop_eq_getElem_cons → EJ, all_cons → EO, reverse_cons → ER, drop_of_length_le → ES, nodup_nil → EU, cons_append → EY, flatten_append → E2, nodup_range → E3, take_append_drop → E4, nodup_append → E5, replicate_succ' → E6, drop_length → E7, getElem?_eq_none_iff → E8, mem_range → Da, mem_append_left → Dc, getElem?_replicate → Dl, getElem_mem → Do, zipIdx_cons → Du, getElem_set → Dv, pairwise_lt_range → Dw, getElem?_eq_none → Dx, sublist_append_left → Dy, take_add → Dz, pairwise_map → DA, mem_of_mem_drop → DB, getLastD_eq_getLast? → DC, length_range → DD, set_cons_succ → DE, mem_replicate → DF, filter_nil → DG, flatMap_nil → DJ, mem_or_eq_of_mem_set → DK, perm_middle → DL, perm_append_comm → DM, getElem?_take_of_lt → DP, take_eq_take_iff → DQ, getElem_cons_drop → DV, getLast?_eq_some_getLast → DW
open Nat renaming le_refl → NG, le_trans → NJ, le_of_lt → NR, lt_of_lt_of_le → N9, ne_of_lt → Mc, zero_le → Mf, ne_of_gt → MA, lt_irrefl → MP, lt_of_le_of_lt → MR, min_self → MX, le_succ → Eb, min_eq_left → Ee, zero_add → Eu, not_lt → EE, le_of_eq → EM, lt_succ_self → Dh
open Option renaming map_some → ET, isSome_iff_exists → Dk, getD_none → Dm
open PySem.F renaming plainAttrs_list → Mt, slot_list_append → MH, type_list_append → MI, slot_list_extend → DH, type_list_extend → DI, slot_dict_setdefault → DR, plainAttrs_dict → DS, slot_dict_values → DT, attrBase_ValueError → DU, slot_list_count → DX, type_list_count → DY
open PySem.W renaming Frag → NF, findIn → NH, mroIn → NN, kitOne → NU, nsIn → NV, fnOf → NY, keepIn → NZ, mg_of → N8, mg_none_of → Mh, plainGet → Mm, typeIn → Mn, codeIn → Mo, hasDictIn → Mp, makesIn → Mq, plainOver → Mu, isFn → Mw, kia_one → MC, emptyDict → MW, instObj → M1, specialIn → EC, callWith_K → ED, lookIn → EL, methodCall_KW → EN, kla_obj → EW, tabObj → EZ, excIn → E1, methodObj → E9, plainGet_of → De, takerIn → Df, Looks → Dg, takesIn → Dj, subIn → Dp, exmOne → Dt, callWith_K0 → DN, cellsFrom_some → DO
set_option hygiene false
noncomputable section
local macro_rules|`(tactic|exists $a,$b)=>`(tactic|refine FunD.ok $a $b (by intro _ _ _ _ h;cases h;subst_vars;rfl) (fun cdv A outer s H vs Q E hr h=>?_))
local macro_rules|`(tactic|ac_rfl)=>`(tactic|exact⟨rfl,rfl,rfl,by decide +kernel,rfl,by decide +kernel,by decide +kernel⟩)
local macro_rules|`(tactic|exists $a:ident,$b,$c)=>`(tactic|have $a:ident:=$b (P:=P) (w:=w) $c)
local macro_rules|`(tactic|exists $a:ident)=>`(tactic|try refine sN fun _ $a=>?_)
local macro_rules|`(tactic|ac_nf)=>`(tactic|(repeat (first|rw[kac,if_pos rfl]|rw[kac,if_neg (by decide +kernel)])))
local macro_rules|`(tactic|symm)=>`(tactic|try apply Y4)
local macro_rules|`(tactic|nofun)=>`(tactic|try first|apply Y6|apply Y4)
local macro_rules|`(tactic|exists 3)=>`(tactic|try first|apply Y8|apply Y6|apply Y4)
local macro_rules|`(tactic|exists $a:ident,$b,$_,$_,$_)=>`(tactic|(case $a:ident=>refine' Vs.dn_mk KX G ?_ ?_ ?_ ?_ (fun _ _ _ _ _ _=>$b);any_goals k_is))
local macro_rules|`($a>>$b)=>`($a=some $b)
local macro_rules|`(tactic|rwa[$[$t:term],*])=>do let u←`(_);let r←`(rfl);let d←`(⟨by decide,by decide⟩);let x:=t.flatMap fun y:Lean.Term=>match y with|`(6)=>#[r]|`(7)=>#[u,u,r,r,d]|`(8)=>#[u,r]|`(9)=>#[u,u,r,r]|_=>#[y];`(tactic|refine⟨$x,*⟩)
local macro_rules|`(tactic|nomatch $[$t],*)=>`(tactic|(symm;exists Y4;rwa[8,$[$t:term],*]))
local macro_rules|`(tactic|lia)=>`(tactic|omega)
local macro_rules|`(tactic|cutsat)=>`(tactic|decide +kernel)
theorem Zjz(h:0=0:=by rfl):0=0:=rfl
def jz:Lean.Syntax:=Zjz._auto_1
theorem ZjQ(h:0=0:=by decide):0=0:=rfl
def jQ:Lean.Syntax:=ZjQ._auto_1
theorem ZjJ(h:∀x:Nat,x=x:=by intro _;rfl):0=0:=rfl
def jJ:Lean.Syntax:=ZjJ._auto_1
theorem ZjX(h:0=0∨0=1:=by first|exact .inl rfl|exact .inr rfl|assumption):0=0:=rfl
def jX:Lean.Syntax:=ZjX._auto_1
theorem ZjZ(h:0=0∨0=1:=by first|exact Or.inl rfl|exact Or.inr rfl):0=0:=rfl
def jZ:Lean.Syntax:=ZjZ._auto_1
namespace Lake
namespace L2
open PySem PySem.Spec PyProof.Rows
abbrev Key:=Sum Int Str
noncomputable def keyIs:Key→Value→Bool
 | .inl k,v=>Value.isInt k v
 | .inr x,v=>Value.isStrOf x v
noncomputable def keyH(w:World):Key→Int
 | .inl k=>hashInt k
 | .inr x=>hashStr w x
theorem ka6:∀{k:Key}{v:Value},keyIs k v=true→(∃i t,k=Sum.inl i∧v=Value.int i t)∨(∃x t,k=Sum.inr x∧v=Value.str x t)
 | .inl i,v,h=>by
  obtain⟨t,e⟩:=Value.isInt_shape (k:=i) (v:=v) h
  exact .inl ⟨i,t,rfl,e⟩
 | .inr x,v,h=>by
  obtain⟨t,e⟩:=Value.isStrOf_shape (x:=x) (v:=v) h
  exact .inr ⟨x,t,rfl,e⟩
def kkf(i:Int)(t:Tok):keyIs (.inl i) (.int i t)=true:=by simp[keyIs,Value.isInt]
def kni(a b:Int):decide ((Sum.inl a:Key)=Sum.inl b)=(a==b):=by
 by_cases e:a=b
 ·subst e;simp
 ·have h:¬(Sum.inl a:Key)=Sum.inl b:=fun q=>e (Sum.inl.inj q)
  rw[decide_eq_false h]
  exact(beq_eq_false_iff_ne.mpr e).symm
def knf(a b:Str):decide ((Sum.inr a:Key)=Sum.inr b)=decide (a=b):=by
 by_cases e:a=b
 ·subst e;simp
 ·have h:¬(Sum.inr a:Key)=Sum.inr b:=fun q=>e (Sum.inr.inj q)
  rw[decide_eq_false h,decide_eq_false e]
def knh(a:Int)(b:Str):decide ((Sum.inl a:Key)=Sum.inr b)=false:=decide_eq_false (fun q=>nomatch q)
def kng(a:Str)(b:Int):decide ((Sum.inr a:Key)=Sum.inl b)=false:=decide_eq_false (fun q=>nomatch q)
noncomputable def kdw(prog:Program)(w:World):PySem.KeyKind prog w Key where
 is:=keyIs
 hash:=keyH w
 inj:=fun v a b ha hb=>by
  rcases ka6 ha with⟨i,t,rfl,rfl⟩|⟨x,t,rfl,rfl⟩
  ·rcases ka6 hb with⟨j,u,rfl,e⟩|⟨y,u,rfl,e⟩
   ·injection e with e1 _;rw[e1]
   ·exact nomatch e
  ·rcases ka6 hb with⟨j,u,rfl,e⟩|⟨y,u,rfl,e⟩
   ·exact nomatch e
   ·injection e with e1 _;rw[e1]
 byValue:=fun k v h=>by
  rcases ka6 h with⟨i,t,rfl,rfl⟩|⟨x,t,rfl,rfl⟩ <;> rfl
 pyHash:=fun hv h=>by
  rcases ka6 hv with⟨i,t,rfl,rfl⟩|⟨x,t,rfl,rfl⟩
  ·exact wpAny_pyHash_int h
  ·exact wpAny_pyHash_str h
 eqBool:=fun hu hv h=>by
  rcases ka6 hu with⟨i,t,rfl,rfl⟩|⟨x,t,rfl,rfl⟩
  ·rcases ka6 hv with⟨j,u,rfl,rfl⟩|⟨y,u,rfl,rfl⟩
   ·rw[kni] at h;exact wpAny_eqBool_int h
   ·rw[knh] at h;exact SeqAt.EqAt.int_str i t y u _ _ _ _ h
  ·rcases ka6 hv with⟨j,u,rfl,rfl⟩|⟨y,u,rfl,rfl⟩
   ·rw[kng] at h;exact SeqAt.EqAt.str_int x t j u _ _ _ _ h
   ·rw[knf] at h;exact wpAny_eqBool_str h
 «strs» :=fun k x t v h=>by
  rcases ka6 h with⟨i,u,rfl,e⟩|⟨y,u,rfl,e⟩
  ·exact nomatch e
  ·injection e with e1 _
   subst e1
   cases v <;> rfl
def khG(prog:Program)(w:World)(i:Int)(t:Tok):(kdw prog w).is (.inl i) (.int i t)=true:=kkf i t
inductive V where
 |non|bl (b:Bool)|int (i:Int)|str (x:Str)|byt (b:Array UInt8)|flt (b:UInt64)|ref (a:Addr)|ty (n:String)
 deriving DecidableEq
def RelV:V→Value→Prop
 | .non,u=>u=Value.none
 | .bl b,u=>u=Value.bool b
 | .int i,u=>∃t,u=Value.int i t
 | .str x,u=>∃t,u=Value.str x t
 | .byt b,u=>∃t,u=Value.bytes b t
 | .flt b,u=>∃t,u=Value.float b t
 | .ref a,u=>u=Value.ref a
 | .ty n,u=>u=Value.type n
abbrev Vals:List V→List Value→Prop:=Paired RelV
def Vals.length{xs:List V}{us:List Value}(r:Vals xs us):xs.length=us.length:=Paired.length r
theorem Vals.get:∀{xs:List V}{us:List Value}{i:Nat}{x:V},Vals xs us→xs[i]?>>x→∃u,us[i]?>>u∧RelV x u
 |_,_,_,_, .nil,e=>by simp at e
 |_,_,0,_, .cons r _,e=>by simp at e;subst e;exact⟨_,rfl,r⟩
 |_,_,i+1,x, .cons _ t,e=>by
  obtain⟨u,h1,h2⟩:=Vals.get (i:=i) (x:=x) t (by simpa using e)
  rwa[u,by simpa using h1,h2]
theorem Vals.set{x:V}{u:Value}(r:RelV x u):∀{xs:List V}{us:List Value}(i:Nat),Vals xs us→Vals (xs.set i x) (us.set i u)
 |_,_,_, .nil=>.nil
 |_,_,0, .cons _ t=>.cons r t
 |_,_,i+1, .cons q t=>.cons q (Vals.set r i t)
theorem Vals.append:∀{xs ys:List V}{us ws:List Value},Vals xs us→Vals ys ws→Vals (xs++ys) (us++ws)
 |_,_,_,_, .nil,s=>s
 |_,_,_,_, .cons r t,s=>.cons r (Vals.append t s)
theorem Vals.take:∀{xs:List V}{us:List Value}(n:Nat),Vals xs us→Vals (xs.take n) (us.take n)
 |_,_,0,_=>.nil
 |_,_,_+1, .nil=>.nil
 |_,_,n+1, .cons r t=>.cons r (Vals.take n t)
theorem Vals.drop:∀{xs:List V}{us:List Value}(n:Nat),Vals xs us→Vals (xs.drop n) (us.drop n)
 |_,_,0,r=>r
 |_,_,_+1, .nil=>.nil
 |_,_,n+1, .cons _ t=>Vals.drop n t
def Vals.none_of:∀{xs:List V}{us:List Value}{i:Nat},Vals xs us→xs[i]?=none→us[i]?=none:=fun {xs us i} r e=>by
 have h1:=r.length
 have h2:xs.length≤i:=E8.mp e
 exact E8.mpr (by lia)
def RelO:Option V→Option Value→Prop
 |some v,some u=>RelV v u
 |none,none=>True
 |_,_=>False
def KV{κ:Type}:List (κ×V)→List (κ×Value)→Prop:=Paired fun(p: κ×V)(q: κ×Value)=>p.1=q.1∧RelV p.2 q.2
noncomputable def kV:Key→V
 | .inl i=>.int i
 | .inr x=>.str x
inductive HO where
 |lst (xs:List V)
 |tup (xs:List V)
 |dK (kvs:List (Key×V))|dT (kvs:List (List Key×V))
 |set (S:Int→Bool) (n:Nat)
 |ins (C dx:Addr) (fs:List (Str×V))
 |own (x:Addr)
 |xd (fs:List (Str×V))
 |met (f x:Addr)
 |rng (lo hi:Int)
 |frz (o:Obj) (u:HO)
 |tbl (ps:Array Value)
 |ext (φ:Heap→Prop)
abbrev Hp:=Addr→Option HO
noncomputable def upd(H:Hp)(a:Addr)(o:HO):Hp:=fun b=>if b=a then some o else H b
def kad{H:Hp}{a:Addr}{o:HO}:upd H a o a>>o:=by unfold upd;rw[if_pos rfl]
def kak{H:Hp}{a b:Addr}{o:HO}(h:b≠a):upd H a o b=H b:=by unfold upd;rw[if_neg h]
def kmg{H:Hp}{a:Addr}{o u:HO}:upd (upd H a o) a u=upd H a u:=by
 funext b;unfold upd;split <;> rfl
def ne_of{H:Hp}{a b:Addr}{o u:HO}(h:H a>>o)(h':H b>>u)(d:o≠u):a≠b:=by
 intro e;subst e;rw[h] at h';exact d (Option.some.inj h')
def kaj{H:Hp}{a b:Addr}{o:HO}(h:H a>>o)(h':H b=none):a≠b:=by
 intro e;subst e;rw[h] at h';cases h'
section
variable(P:Program)(w:World)
def ObjOk(H:Hp)(h:Heap)(a:Addr):HO→Prop
 | .lst xs=>xs.length≤sizeLine∧∃(its:List Value)(n:Nat),Vals xs its∧h.get? a>>{cls:=.type "list",data:=.seq its.toArray n}
 | .tup xs=>xs.length≤sizeLine∧∃its:List Value,Vals xs its∧IsTup h a its.toArray
 | .dK kvs=>kvs.length≤sizeLine∧(a==sysModules)=false∧∃vs,KV kvs vs∧h.DictOf (kdw P w) a vs
 | .dT kvs=>kvs.length≤sizeLine∧(a==sysModules)=false∧∃xs:List (List Key×Addr×Value),
   Paired (fun(p:List Key×V)(q:List Key×Addr×Value)=>p.1=q.1∧H q.2.1>>(.tup (p.1.map kV))∧RelV p.2 q.2.2) kvs xs∧
   ∃o es ep,h.get? a>>o∧o.ExactDict∧o.data=.dict es ep∧es.toList=xs.map (entryOfKey (tupleKind (kdw P w)))∧(xs.map (·.1)).Nodup
 | .set S n=>h.SetOf (intKind P w) a S n
 | .ins C dx fs=>H dx>>(.own a)∧fs.length≤1000∧dx≠a∧h.get? a>>(M1 C dx)∧
   ∃mA,h.Ns1 dx mA∧(∀f,RelO (fs.lookup f) (mA f))∧PySem.Within mA (fs.map (·.1))
 | .own _=>∃o,h.get? a>>o
 | .xd fs=>∃mA,h.Ns1 a mA∧∀f,RelO (fs.lookup f) (mA f)
 | .rng lo hi=>∃t u v,h.get? a>>{cls:=.type "range",data:=.fields #[.int lo t, .int hi u, .int 1 v]}
 | .frz o u=>h.get? a>>o∧ObjOk H h a u
 | .tbl ps=>h.get? a>>{cls:=.none,data:=.fields ps}
 | .met f x=>h.get? a>>(E9 (.ref f) (.ref x))
 | .ext φ=>φ h∧(∃o,h.get? a>>o)∧∀h1 h2:Heap,φ h1→(∀o,h1.get? a>>o→h2.get? a>>o)→φ h2
def HOk(H:Hp)(h:Heap):Prop:=∀a o,H a>>o→ObjOk P w H h a o
end
section
variable{P:Program}{w:World}{H H':Hp}{h h':Heap}{a:Addr}{o:HO}
theorem ObjOk.lt(x:ObjOk P w H h a o):a<h.objs.size:=by
 cases o with
 |lst xs=>obtain⟨_,_,_,_,e⟩:=x;exact Heap.lt_size e
 |tup xs=>obtain⟨_,_,_,p⟩:=x;exact p.lt
 |dK kvs=>obtain⟨_,_,_,_,o,_,_,e,_⟩:=x;exact Heap.lt_size e
 |dT kvs=>obtain⟨_,_,_,_,o,_,_,e,_⟩:=x;exact Heap.lt_size e
 |set S n=>obtain⟨o,_,_,_,e,_⟩:=x;exact Heap.lt_size e
 |ins C dx fs=>obtain⟨_,_,_,e,_⟩:=x;exact Heap.lt_size e
 |own y=>obtain⟨_,e⟩:=x;exact Heap.lt_size e
 |xd fs=>obtain⟨_,⟨_,_,_,e,_⟩,_⟩:=x;exact Heap.lt_size e
 |rng lo hi=>obtain⟨_,_,_,e⟩:=x;exact Heap.lt_size e
 |frz ob u=>obtain⟨e,_⟩:=x;exact Heap.lt_size e
 |tbl ps=>exact Heap.lt_size (show h.get? a>>_ from x)
 |met f y=>exact Heap.lt_size (show h.get? a>>_ from x)
 |ext φ=>obtain⟨_,⟨_,e⟩,_⟩:=x;exact Heap.lt_size e
theorem Paired.mapP{α β:Type}{F G: α→β→Prop}:∀{l₁:List α}{l₂:List β},Paired F l₁ l₂→(∀a b,F a b→G a b)→Paired G l₁ l₂
 |_,_, .nil,_=>.nil
 |_,_, .cons r t,f=>.cons (f _ _ r) (Paired.mapP t f)
theorem ObjOk.stay(x:ObjOk P w H h a o)(k:∀b u,(b=a∨H b>>(.own a))→h.get? b>>u→h'.get? b>>u)
  (ho:∀b,H b>>(.own a)→H' b>>(.own a))(ht:∀b xs,H b>>(.tup xs)→H' b>>(.tup xs)):ObjOk P w H' h' a o:=by
 induction o with
 |lst xs=>obtain⟨z,its,n,r,e⟩:=x;exact⟨z,its,n,r,k _ _ (.inl rfl) e⟩
 |tup xs=>obtain⟨z,its,r,ob,e,c⟩:=x;exact⟨z,its,r,ob,k _ _ (.inl rfl) e,c⟩
 |dK kvs=>obtain⟨z,y,vs,r,ob,es,ep,e,c⟩:=x;exact⟨z,y,vs,r,ob,es,ep,k _ _ (.inl rfl) e,c⟩
 |dT kvs=>
  obtain⟨z,y,xs,r,ob,es,ep,e,c⟩:=x
  rwa[z,y,xs,Paired.mapP r fun p q z=>⟨z.1,ht _ _ z.2.1,z.2.2⟩,ob,es,ep,k _ _ (.inl rfl) e,c]
 |set S n=>obtain⟨ob,es,ep,t,e,c⟩:=x;exact⟨ob,es,ep,t,k _ _ (.inl rfl) e,c⟩
 |ins C dx fs=>
  obtain⟨d,z,ne,e,mA,⟨od,es,ep,e2,c⟩,r⟩:=x
  rwa[ho _ d,z,ne,k _ _ (.inl rfl) e,mA,⟨od,es,ep,k _ _ (.inr d) e2,c⟩,r]
 |own y=>obtain⟨ob,e⟩:=x;exact⟨ob,k _ _ (.inl rfl) e⟩
 |xd fs=>obtain⟨mA,⟨od,es,ep,e,c⟩,r⟩:=x;exact⟨mA,⟨od,es,ep,k _ _ (.inl rfl) e,c⟩,r⟩
 |rng lo hi=>obtain⟨t,u,v,e⟩:=x;exact⟨t,u,v,k _ _ (.inl rfl) e⟩
 |frz ob u ih=>obtain⟨e,q⟩:=x;exact⟨k _ _ (.inl rfl) e,ih q⟩
 |tbl ps=>
  have e:h.get? a>>{cls:=.none,data:=.fields ps}:=x
  show h'.get? a>>{cls:=.none,data:=.fields ps}
  exact k a _ (.inl rfl) e
 |met f y=>
  have e:h.get? a>>(E9 (.ref f) (.ref y)):=x
  show h'.get? a>>(E9 (.ref f) (.ref y))
  exact k a _ (.inl rfl) e
 |ext φ=>obtain⟨p,⟨o,e⟩,st⟩:=x;exact⟨st _ _ p fun o q=>k _ _ (.inl rfl) q,⟨o,k _ _ (.inl rfl) e⟩,st⟩
theorem HOk.lt(x:HOk P w H h)(e:H a>>o):a<h.objs.size:=(x a o e).lt
theorem HOk.fresh(x:HOk P w H h)(e:h.objs.size≤a):H a=none:=by
 cases q:H a with
 |none=>rfl
 |some u=>exact absurd (N9 (x.lt q) e) (MP _)
theorem HOk.kept(x:HOk P w H h)(k:∀b u,h.get? b>>u→h'.get? b>>u):HOk P w H h':=fun a o e=>
 (x a o e).stay (fun b u _ q=>k b u q) (fun _ q=>q) fun _ _ q=>q
theorem HOk.laid(x:HOk P w H h)(k:∀b u,h.get? b>>u→h'.get? b>>u)(hp:h.objs.size≤a)(new:ObjOk P w (upd H a o) h' a o):HOk P w (upd H a o) h':=fun b u e=>by
 have hn:=x.fresh hp
 by_cases hb:b=a
 ·subst hb;rw[kad] at e;cases e;exact new
 ·rw[kak hb] at e
  exact(x b u e).stay (fun c v _ q=>k c v q) (fun c q=>by rw[kak (kaj q hn)];exact q) fun c xs q=>by rw[kak (kaj q hn)];exact q
end
def Rd(H:Hp)(a:Addr)(u:HO):Prop:=H a>>u∨∃o,H a>>(.frz o u)
def Rd.of{H:Hp}{a:Addr}{u:HO}(h:H a>>u):Rd H a u:=.inl h
def Rd.ok{P:Program}{w:World}{H:Hp}{h:Heap}{a:Addr}{u:HO}(r:Rd H a u)(x:HOk P w H h):ObjOk P w H h a u:=by
 rcases r with r|⟨o,r⟩
 ·exact x a u r
 ·obtain⟨_,q⟩:=x a _ r
  exact q
def Mut:Option HO→Prop
 |some (.lst _)=>True
 |some (.dK _)=>True
 |some (.dT _)=>True
 |some (.set _ _)=>True
 |some (.ins _ _ _)=>True
 |some (.ext _)=>True
 |_=>False
section
variable{P:Program}{w:World}{H:Hp}{h h':Heap}{x e:Addr}{o':HO}
theorem HOk.write(ok:HOk P w H h)(mu:Mut (H x))(he:e=x∨H e>>(.own x))(k:∀b u,b≠e→h.get? b>>u→h'.get? b>>u)(heo:∃u,h'.get? e>>u)
  (new:ObjOk P w (upd H x o') h' x o'):HOk P w (upd H x o') h':=fun b u q=>by
 have nown:∀c y,H c>>(.own y)→c≠x:=fun c y r z=>by subst z;rw[r] at mu;exact mu
 have ntup:∀c xs,H c>>(.tup xs)→c≠x:=fun c xs r z=>by subst z;rw[r] at mu;exact mu
 by_cases hb:b=x
 ·subst hb;rw[kad] at q;cases q;exact new
 ·rw[kak hb] at q
  by_cases hbe:b=e
  ·have q':H b>>(.own x):=by
    rcases he with z|z
    ·exact absurd (hbe.trans z) hb
    ·rw[hbe];exact z
   rw[q] at q';cases q'
   obtain⟨v,hv⟩:=heo
   rwa[v,by rw[hbe];exact hv]
  ·refine(ok b u q).stay (fun c v hc r=>k c v ?_ r) (fun c r=>by rw[kak (nown c b r)];exact r) fun c xs r=>by rw[kak (ntup c xs r)];exact r
   rcases hc with rfl|hc
   ·exact hbe
   ·rintro rfl
    rcases he with z|z
    ·exact nown c b hc z
    ·rw[hc] at z;cases z;exact hb rfl
end
structure Un(fs ex:List Addr)(H H':Hp)(h h':Heap):Prop where
 keep:∀b o,h.get? b>>o→H b=none→b∉fs→b∉ex→h'.get? b>>o
 slot:∀b o,h.get? b>>o→H b=none→b∈fs→b∉ex→∃sl,h'.get? b>>{o with slots:=sl}
 free:∀b o,h.get? b>>o→H b=none→b∉ex→H' b=none
 there:∀b o,h.get? b>>o→b∉ex→∃o',h'.get? b>>o'
 tups:∀b xs,H b>>(.tup xs)→H' b>>(.tup xs)
 frzs:∀b o u,H b>>(.frz o u)→H' b>>(.frz o u)
 tbls:∀b ps,H b>>(.tbl ps)→∃more,H' b>>(.tbl (ps++more))
section
variable{fs fs' ex ex':List Addr}{H H1 H2:Hp}{h h1 h2 h':Heap}{a x e:Addr}{o:HO}
theorem Un.any(u:Un fs ex H H1 h h1){b:Addr}{ob:Obj}(q:h.get? b>>ob)(n:H b=none)(hx:b∉ex):∃sl,h1.get? b>>{ob with slots:=sl}:=by
 by_cases hb:b∈fs
 ·exact u.slot b ob q n hb hx
 ·rwa[ob.slots,u.keep b ob q n hb hx]
theorem Un.kept(k:∀b u,h.get? b>>u→h'.get? b>>u):Un fs ex H H h h':=
 ⟨fun b ob q _ _ _=>k b ob q,fun b ob q _ _ _=>⟨ob.slots,k b ob q⟩,fun _ _ _ n _=>n,fun b ob q _=>⟨ob,k b ob q⟩,fun _ _ q=>q,fun _ _ _ q=>q,fun _ ps q=>⟨#[],by rw[q];simp⟩⟩
theorem Un.refl:Un fs ex H H h h:=Un.kept fun _ _ q=>q
theorem Un.laid(k:∀b u,h.get? b>>u→h'.get? b>>u)(hp:h.objs.size≤a)(hn:H a=none):Un fs ex H (upd H a o) h h' where
 keep:=fun b u q _ _ _=>k b u q
 slot:=fun b u q _ _ _=>⟨u.slots,k b u q⟩
 free:=fun b u q n _=>by rw[kak (Mc (N9 (Heap.lt_size q) hp))];exact n
 there:=fun b u q _=>⟨u,k b u q⟩
 tups:=fun b xs q=>by rw[kak (kaj q hn)];exact q
 frzs:=fun b u xs q=>by rw[kak (kaj q hn)];exact q
 tbls:=fun b ps q=>⟨#[],by rw[kak (kaj q hn),q];simp⟩
theorem Un.write(mu:Mut (H x))(he:e=x∨H e>>(.own x))(k:∀b u,b≠e→h.get? b>>u→h'.get? b>>u)(heo:∃u,h'.get? e>>u):Un fs ex H (upd H x o) h h':=by
 have hx:∀b,H b=none→b≠x:=fun b n z=>by subst z;rw[n] at mu;exact mu
 have hb:∀b,H b=none→b≠e:=fun b n z=>by
  subst z
  rcases he with r|r
  ·exact hx b n r
  ·rw[n] at r;cases r
 have hm:∀b u,H b>>u→¬Mut (some u)→b≠x:=fun b u q nm z=>by subst z;rw[q] at mu;exact nm mu
 refine⟨fun b u q n _ _=>k b u (hb b n) q,fun b u q n _ _=>⟨u.slots,k b u (hb b n) q⟩,fun b u q n _=>by rw[kak (hx b n)];exact n,fun b u q _=>?_,
  fun b xs q=>by rw[kak (hm b _ q fun z=>z)];exact q,fun b u xs q=>by rw[kak (hm b _ q fun z=>z)];exact q,fun b ps q=>⟨#[],by rw[kak (hm b _ q fun z=>z),q];simp⟩⟩
 by_cases hbe:b=e
 ·subst hbe;exact heo
 ·rwa[u,k b u hbe q]
end
noncomputable def trk(h:Heap)(H:Hp):List Addr:=(NK h.objs.size).filter fun a=>(H a).isSome
noncomputable def hidT(h:Heap)(H:Hp):Heap:=PySem.W.hideAll h (trk h H)
def kkm(h:Heap)(H:Hp):(hidT h H).objs.size=h.objs.size:=PySem.W.hideAll_size _ _
def klo{h:Heap}{H:Hp}{b:Addr}{o:Obj}(e:h.get? b>>o)(n:H b=none):(hidT h H).get? b>>o:=
 PySem.W.hideAll_get _ e fun hm=>by
  have q:(H b).isSome=true:=(Mi.mp hm).2
  rw[n] at q;simp at q
theorem kmF{h:Heap}{H:Hp}{b:Addr}{o:Obj}(e:(hidT h H).get? b>>o):h.get? b>>o∧H b=none:=by
 have e':h.get? b>>o:=PySem.W.of_hideAll (trk h H) e
 rwa[e',?_]
 cases q:H b with
 |none=>rfl
 |some x=>
  have hm:b∈trk h H:=Mi.mpr ⟨Da.mpr (Heap.lt_size e'),by simp[q]⟩
  have z:(hidT h H).get? b=none:=PySem.W.hideAll_none (trk h H) hm
  rw[z] at e;cases e
noncomputable def kmW(g h:Heap)(L:Addr):List (Addr×Obj):=(NK h.objs.size).filterMap fun a=>if a=L∨(g.get? a).isSome=true then none else(h.get? a).map fun o=>(a,o)
noncomputable def rest(g h:Heap)(L d:Addr):List (Addr×Obj):=(kmW g h L).filter fun p=>decide (p.1≠d)
structure Mod(K:NF)(mg:Str→Option Value)(base:Heap):Prop where
 kin:K.In base
 glob:base.Ns mainGlobals mg
 blt:∃mb,base.Ns builtinsNs mb∧∀x:Str,x≠"__name__"→mb x=bootBuiltins x
 nolimit:base.NoLimit
structure Cx where
 prog:Program
 w:World
 K:NF
 mg:Str→Option Value
 base:Heap
 A:Around
 N:List Str
 s₀:Shared
 H₀:Hp
 env:Env
 outer:List Env
 stack:List Env
 ex:List Addr
 fn:Str→Bool
 calm:Bool
 pn:List (Addr×Obj)
 xe:Value→Shared→Prop
noncomputable def frs(l:List Env):List Addr:=l.filterMap (·.frame)
abbrev Cx.fs(X:Cx):List Addr:=frs X.outer
def Vis(sc:Scope)(x:Str):Prop:=sc.names.lookup x>>.local∨sc.names.lookup x>>.cell∨sc.names.lookup x>>.free
def Loc(sc:Scope)(x:Str):Prop:=sc.names.lookup x>>.local∨sc.names.lookup x>>.cell
def Look(env:Env)(h:Heap)(m:Str→Option Value)(x:Str)(u:Value):Prop:=
 (env.kindOf x>>.local∧m x>>u)∨((env.kindOf x>>.cell∨env.kindOf x>>.free)∧∃c,env.cells.lookup x>>c∧h.IsCell c (some u))
structure Cx.Ok(X:Cx):Prop where
 mod:Mod X.K X.mg X.base
 kind:X.env.scope.kind=.function
 glob:X.env.globals=mainGlobals
 blt:X.env.builtins=builtinsNs
 above:X.s₀.heap.objs.size≤X.env.locals
 inj:∀x y c,X.env.cells.lookup x>>c→X.env.cells.lookup y>>c→x=y
 has:∀x,(X.env.kindOf x>>.cell∨X.env.kindOf x>>.free)→∃c,X.env.cells.lookup x>>c
 cab:∀x c,X.fn x=true→X.env.cells.lookup x>>c→X.s₀.heap.objs.size≤c
 hd:X.calm=true→X.A.handled=none
 frames:X.A.frames>>X.stack
 stk:X.stack=X.outer∨(X.stack=X.env::X.outer∧X.env.frame>>X.env.locals)
 exf:∀b∈X.ex,b≠X.env.locals∧∀x c,X.env.cells.lookup x>>c→c≠b
 bs:∀b o,X.base.get? b>>o→X.s₀.heap.get? b>>o∧X.H₀ b=none
 bsz:X.base.objs.size≤X.s₀.heap.objs.size
 noex:∀b o,X.base.get? b>>o→b∉X.ex
 exfs:∀b∈X.ex,b∉X.fs
 funs:X.s₀.heap.FunFrames X.base X.outer
 frf:∀b∈X.fs,X.H₀ b=none
structure Inv(X:Cx)(pins:List (Addr×Obj))(σ:List (Option V))(H:Hp)(s:Shared):Prop where
 ok:X.Ok
 os:s.os=X.s₀.os
 bare:AllBare s.gens
 base:Un X.fs X.ex X.H₀ H X.s₀.heap s.heap
 loc:∃m,s.heap.Ns X.env.locals m∧∀(i:Nat)(x:Str)(v:V),X.N[i]?>>x→σ[i]?>>(some v)→Vis X.env.scope x→∃u,RelV v u∧Look X.env s.heap m x u
 cell:∀x c,X.env.cells.lookup x>>c→∃v,s.heap.IsCell c v
 free:H X.env.locals=none
 freeC:∀x c,X.env.cells.lookup x>>c→H c=none
 pin:∀p∈X.pn++pins,s.heap.get? p.1>>p.2∧H p.1=none∧p.1≠X.env.locals∧p.1∉X.fs∧∀v,p.2.data≠.cell v
 hok:HOk X.prog X.w H s.heap
 len: σ.length=X.N.length
section
variable{X:Cx}{pins:List (Addr×Obj)}{σ:List (Option V)}{H H':Hp}{s:Shared}{h':Heap}
theorem Cx.Ok.nofr(ok:X.Ok){b:Addr}{o:Obj}(e:X.base.get? b>>o):b∉X.fs:=fun hb=>by
 have:=(ok.funs.mem hb).1
 rw[e] at this;cases this
theorem Inv.bs(I:Inv X pins σ H s):∀b o,X.base.get? b>>o→s.heap.get? b>>o∧H b=none:=fun b o e=>
 ⟨I.base.keep b o (I.ok.bs b o e).1 (I.ok.bs b o e).2 (I.ok.nofr e) (I.ok.noex b o e),I.base.free b o (I.ok.bs b o e).1 (I.ok.bs b o e).2 (I.ok.noex b o e)⟩
theorem Inv.bk(I:Inv X pins σ H s):∀b o,X.base.get? b>>o→s.heap.get? b>>o:=fun b o e=>(I.bs b o e).1
theorem Inv.mod(I:Inv X pins σ H s):Mod X.K X.mg X.base:=I.ok.mod
theorem Inv.kIn(I:Inv X pins σ H s):X.K.In s.heap:=I.ok.mod.kin.keeps I.bk
theorem Inv.nolimit(I:Inv X pins σ H s):s.heap.NoLimit:=I.ok.mod.nolimit.keeps I.bk
theorem Inv.lt(I:Inv X pins σ H s):X.env.locals<s.heap.objs.size:=let⟨_,hn,_⟩:=I.loc;hn.lt
theorem Inv.sz(I:Inv X pins σ H s):X.s₀.heap.objs.size≤s.heap.objs.size:=NJ I.ok.above (NR I.lt)
theorem Inv.nofs(I:Inv X pins σ H s){a:Addr}(h:s.heap.objs.size≤a):a∉X.fs:=fun hb=>by
 obtain⟨_,o,ho,_⟩:=I.ok.funs.mem hb
 exact absurd (N9 (Heap.lt_size ho) (NJ I.sz h)) (MP _)
theorem Inv.cne(I:Inv X pins σ H s):∀x c,X.env.cells.lookup x>>c→c≠X.env.locals:=fun x c e z=>by
 obtain⟨v,o,ho,hd⟩:=I.cell x c e
 obtain⟨m,⟨o',es,ep,ho',hd',_⟩,_⟩:=I.loc
 rw[z,ho'] at ho;cases ho;rw[hd'] at hd;cases hd
theorem Inv.funs(I:Inv X pins σ H s):s.heap.FunFrames X.base X.outer:=by
 have all:∀(l:List Env),(∀b∈frs l,b∈X.fs)→X.s₀.heap.FunFrames X.base l→s.heap.FunFrames X.base l:=by
  intro l
  induction l with
  |nil=>intro _ _;trivial
  |cons env r ih=>
   intro hs hl
   obtain⟨hk,⟨L,o,hf,hn,ho,hd⟩,hr⟩:=hl
   have hL:L∈X.fs:=hs L (by unfold frs;rw[M9,hf];exact N4)
   obtain⟨sl,e⟩:=I.base.slot L o ho (I.ok.frf L hL) hL fun z=>I.ok.exfs L z hL
   rwa[hk,⟨L,_,hf,hn,e,hd⟩,ih (fun b hb=>hs b (by unfold frs;rw[M9,hf];exact N2 _ hb)) hr]
 exact all X.outer (fun _ hb=>hb) I.ok.funs
theorem Inv.stack(I:Inv X pins σ H s):s.heap.FunFrames X.base X.stack:=by
 rcases I.ok.stk with e|⟨e,hf⟩
 ·rw[e];exact I.funs
 ·rw[e]
  obtain⟨m,hn,_⟩:=I.loc
  refine .cons (by rw[I.ok.kind];decide) hf hn ?_ I.funs
  exact Heap.get?_none_of_le (NJ I.ok.bsz I.ok.above)
theorem Inv.stkSub(I:Inv X pins σ H s):∀b∈frs X.stack,b∈X.env.locals::X.fs:=fun b hb=>by
 rcases I.ok.stk with e|⟨e,hf⟩
 ·rw[e] at hb;exact N2 _ hb
 ·rw[e] at hb
  unfold frs at hb
  rw[M9,hf] at hb
  exact hb
theorem Inv.stkFree(I:Inv X pins σ H s):∀b∈frs X.stack,H b=none:=fun b hb=>by
 rcases N5.mp (I.stkSub b hb) with e|hb
 ·rw[e];exact I.free
 ·obtain⟨_,o,ho,_⟩:=I.ok.funs.mem hb
  exact I.base.free b o ho (I.ok.frf b hb) fun z=>I.ok.exfs b z hb
theorem Inv.step{g':Array GenState}{t':Nat}{d':Drawn}{ch:List Addr}(I:Inv X pins σ H s)
  (hch:∀b∈ch,(b∈X.ex∨X.s₀.heap.objs.size≤b)∧b≠X.env.locals∧(∀x c,X.env.cells.lookup x>>c→c≠b)∧∀p∈X.pn++pins,p.1≠b)
  (keep:∀b o,b≠X.env.locals→b∉X.fs→b∉ch→s.heap.get? b>>o→H b=none→h'.get? b>>o)
  (slot:∀b o,b≠X.env.locals→b∈X.fs→b∉ch→s.heap.get? b>>o→H b=none→∃sl,h'.get? b>>{o with slots:=sl})(free:∀b o,b∉ch→s.heap.get? b>>o→H b=none→H' b=none)
  (there:∀b o,b∉ch→s.heap.get? b>>o→∃o',h'.get? b>>o')
  (tups:∀b xs,H b>>(.tup xs)→H' b>>(.tup xs))(frzs:∀b o u,H b>>(.frz o u)→H' b>>(.frz o u))(tbls:∀b ps,H b>>(.tbl ps)→∃more,H' b>>(.tbl (ps++more)))
  (ns:∀m,s.heap.Ns X.env.locals m→h'.Ns X.env.locals m)(hok:HOk X.prog X.w H' h')(hg:AllBare g'):
  Inv X pins σ H' {s with heap:=h',gens:=g',drawn:=d',toks:=t'}:=by
 have neL:∀b o,X.s₀.heap.get? b>>o→b≠X.env.locals:=fun b o e=>Mc (N9 (Heap.lt_size e) I.ok.above)
 have neC:∀b o,X.s₀.heap.get? b>>o→b∉X.ex→b∉ch:=fun b o e hx hb=>by
  rcases(hch b hb).1 with z|z
  ·exact hx z
  ·exact absurd (N9 (Heap.lt_size e) z) (MP _)
 have cellK:∀x c,X.env.cells.lookup x>>c→∀v,s.heap.IsCell c v→h'.IsCell c v:=fun x c e v ⟨o,ho,hd⟩=>by
  have nch:c∉ch:=fun z=>(hch c z).2.2.1 x c e rfl
  by_cases hc:c∈X.fs
  ·obtain⟨sl,q⟩:=slot c o (I.cne x c e) hc nch ho (I.freeC x c e)
   rwa[_,q,hd]
  ·rwa[o,keep c o (I.cne x c e) hc nch ho (I.freeC x c e),hd]
 rwa[I.ok,I.os,hg,⟨fun b o e n hb hx=>?_,fun b o e n hb hx=>?_,fun b o e n hx=>?_,fun b o e hx=>?_,fun b xs e=>tups b xs (I.base.tups b xs e),fun b o xs e=>frzs b o xs (I.base.frzs b o xs e),fun b ps e=>?_⟩,?_,fun x c e=>?_,?_,fun x c e=>?_,fun p hp=>?_,hok,I.len]
 ·exact keep b o (neL b o e) hb (neC b o e hx) (I.base.keep b o e n hb hx) (I.base.free b o e n hx)
 ·obtain⟨sl,e1⟩:=I.base.slot b o e n hb hx
  obtain⟨sl',e2⟩:=slot b _ (neL b o e) hb (neC b o e hx) e1 (I.base.free b o e n hx)
  rwa[sl',e2]
 ·obtain⟨o',e1⟩:=I.base.there b o e hx
  exact free b o' (neC b o e hx) e1 (I.base.free b o e n hx)
 ·obtain⟨o',e1⟩:=I.base.there b o e hx
  exact there b o' (neC b o e hx) e1
 ·obtain⟨m1,e1⟩:=I.base.tbls b ps e
  obtain⟨m2,e2⟩:=tbls b _ e1
  rwa[m1++m2,by rw[e2,Array.append_assoc]]
 ·obtain⟨m,hn,hl⟩:=I.loc
  rwa[m,ns m hn,fun i x v e1 e2 e3=>?_]
  obtain⟨u,r,l⟩:=hl i x v e1 e2 e3
  rwa[u,r,?_]
  rcases l with l|⟨k,c,e,z⟩
  ·exact .inl l
  ·exact .inr ⟨k,c,e,cellK x c e _ z⟩
 ·obtain⟨v,z⟩:=I.cell x c e
  rwa[v,cellK x c e v z]
 ·obtain⟨m,⟨o,_,_,ho,_⟩,_⟩:=I.loc
  exact free _ o (fun z=>(hch _ z).2.1 rfl) ho I.free
 ·obtain⟨v,o,ho,hd⟩:=I.cell x c e
  exact free c o (fun z=>(hch c z).2.2.1 x c e rfl) ho (I.freeC x c e)
 ·obtain⟨e,n,ne,nf,d⟩:=I.pin p hp
  have nch:p.1∉ch:=fun z=>(hch p.1 z).2.2.2 p hp rfl
  rwa[keep p.1 p.2 ne nf nch e n,free p.1 p.2 nch e n,ne,nf,d]
theorem Inv.un{t':Nat}(I:Inv X pins σ H s)(u:Un X.fs [] H H' s.heap h')(hok:HOk X.prog X.w H' h'):Inv X pins σ H' {s with heap:=h',toks:=t'}:=by
 obtain⟨m,⟨o,es,ep,ho,r⟩,_⟩:=id I.loc
 obtain⟨sl,hL⟩:=u.any ho I.free (by simp)
 exact I.step (g':=s.gens) (d':=s.drawn) (ch:=[]) (fun _ z=>nomatch z) (fun b o _ hb _ e n=>u.keep b o e n hb (by simp)) (fun b o _ hb _ e n=>u.slot b o e n hb (by simp)) (fun b o _ e n=>u.free b o e n (by simp)) (fun b o _ e=>u.there b o e (by simp)) u.tups u.frzs u.tbls (fun m' hm=>by
  obtain⟨o',es',ep',ho',r'⟩:=hm
  rw[ho] at ho';cases ho'
  exact⟨_,es',ep',hL,r'⟩) hok I.bare
theorem Inv.call{g':Array GenState}{t':Nat}{d':Drawn}{ch:List Addr}(I:Inv X pins σ H s)(u:Un (frs X.stack) ch H H' s.heap h')(hok:HOk X.prog X.w H' h')(hg:AllBare g')
  (hch:∀b∈ch,(b∈X.ex∨X.s₀.heap.objs.size≤b)∧b≠X.env.locals∧(∀x c,X.env.cells.lookup x>>c→c≠b)∧∀p∈X.pn++pins,p.1≠b):
  Inv X pins σ H' {s with heap:=h',gens:=g',drawn:=d',toks:=t'}:=by
 obtain⟨m,⟨o,es,ep,ho,r⟩,_⟩:=id I.loc
 obtain⟨sl,hL⟩:=u.any ho I.free fun z=>(hch _ z).2.1 rfl
 exact I.step (ch:=ch) hch (fun b o hL hb hc e n=>u.keep b o e n (fun z=>(N5.mp (I.stkSub b z)).elim hL hb) hc) (fun b o _ _ hc e n=>u.any e n hc) (fun b o hc e n=>u.free b o e n hc) (fun b o hc e=>u.there b o e hc) u.tups u.frzs u.tbls (fun m' hm=>by
  obtain⟨o',es',ep',ho',r'⟩:=hm
  rw[ho] at ho';cases ho'
  exact⟨_,es',ep',hL,r'⟩) hok hg
theorem Inv.turned{t':Nat}{it:Addr}(I:Inv X pins σ H s)(k:∀b o,b≠it→s.heap.get? b>>o→h'.get? b>>o)(hn:H it=none)(hL:it≠X.env.locals)
  (h1:it∈X.ex∨X.s₀.heap.objs.size≤it)(h2:∀x c,X.env.cells.lookup x>>c→c≠it)(h3:∀p∈X.pn++pins,p.1≠it):Inv X pins σ H {s with heap:=h',toks:=t'}:=by
 have nit:∀b u,H b>>u→b≠it:=fun b u e z=>by rw[z,hn] at e;cases e
 refine I.step (g':=s.gens) (d':=s.drawn) (ch:=[it]) (fun b hb=>?_) (fun b o _ _ hc e _=>k b o (fun z=>hc (by simp[z])) e) (fun b o _ _ hc e _=>⟨o.slots,k b o (fun z=>hc (by simp[z])) e⟩) (fun _ _ _ _ n=>n)
  (fun b o hc e=>⟨o,k b o (fun z=>hc (by simp[z])) e⟩) (fun _ _ e=>e) (fun _ _ _ e=>e) (fun b ps e=>⟨#[],by rw[e];simp⟩) (fun m hm=>?_) (fun b u e=>?_) I.bare
 ·have e:b=it:=by simpa using hb
  subst e
  rwa[h1,hL,h2,h3]
 ·obtain⟨o,es,ep,ho,r⟩:=hm
  rwa[o,es,ep,k _ o (Ne.symm hL) ho,r]
 ·refine(I.hok b u e).stay (fun c v hc q=>k c v ?_ q) (fun _ q=>q) fun _ _ q=>q
  rcases hc with z|z
  ·rw[z];exact nit b u e
  ·exact nit c _ z
theorem Inv.tok(I:Inv X pins σ H s)(t:Nat):Inv X pins σ H {s with toks:=t}:=I.un (h':=s.heap) (t':=t) Un.refl I.hok
theorem Inv.kept{t':Nat}(I:Inv X pins σ H s)(k:∀b u,s.heap.get? b>>u→h'.get? b>>u):Inv X pins σ H {s with heap:=h',toks:=t'}:=I.un (Un.kept k) (I.hok.kept k)
theorem Inv.laid{a:Addr}{o:HO}{t':Nat}(I:Inv X pins σ H s)(k:∀b u,s.heap.get? b>>u→h'.get? b>>u)(hp:s.heap.objs.size≤a)(new:ObjOk X.prog X.w (upd H a o) h' a o):
  Inv X pins σ (upd H a o) {s with heap:=h',toks:=t'}:=I.un (Un.laid k hp (I.hok.fresh hp)) (I.hok.laid k hp new)
theorem Inv.write{x e:Addr}{o:HO}{t':Nat}(I:Inv X pins σ H s)(mu:Mut (H x))(he:e=x∨H e>>(.own x))(k:∀b u,b≠e→s.heap.get? b>>u→h'.get? b>>u)(heo:∃u,h'.get? e>>u)
  (new:ObjOk X.prog X.w (upd H x o) h' x o):Inv X pins σ (upd H x o) {s with heap:=h',toks:=t'}:=I.un (Un.write mu he k heo) (I.hok.write mu he k heo new)
theorem Inv.pins_of{pins':List (Addr×Obj)}(I:Inv X pins σ H s)(h:∀p∈pins',s.heap.get? p.1>>p.2∧H p.1=none∧p.1≠X.env.locals∧p.1∉X.fs∧∀v,p.2.data≠.cell v):Inv X pins' σ H s:=
 ⟨I.ok,I.os,I.bare,I.base,I.loc,I.cell,I.free,I.freeC,fun p hp=>(Mj.mp hp).elim (fun z=>I.pin p (Dc _ z)) (h p),I.hok,I.len⟩
theorem kir{N:List Str}(hN:N.Nodup){i j:Nat}{x:Str}(a:N[i]?>>x)(b:N[j]?>>x):i=j:=by
 obtain⟨h1,e1⟩:=NT.mp a
 obtain⟨h2,e2⟩:=NT.mp b
 exact(List.getElem_inj hN).mp (e1.trans e2.symm)
theorem kjf{M:Model}{A:Around}{E:Value→Shared→Prop}{i:Nat}{x:Str}{v:V}{u:Value}{Q:Unit→Shared→Prop}(I:Inv X pins σ H s)(hN:X.N.Nodup)(hi:X.N[i]?>>x)(hx:Loc X.env.scope x)(r:RelV v u)
  (h:∀s',Inv X pins (σ.set i (some v)) H s'→(∃a,Heap.SameBut a s.heap s'.heap∧(a=X.env.locals∨X.env.cells.lookup x>>a))→Q () s')(hf:autoParam (X.fn x=true∨X.env.scope.names.lookup x>>.local) jX):wpAny M A (storeName X.env x u) Q E s:=by
 obtain⟨m,hn,hl⟩:=id I.loc
 have hcls:(X.env.scope.kind== .class||(X.env.scope.kind== .module&&X.env.locals !=X.env.globals))=false:=by rw[I.ok.kind];rfl
 have hiσ:i< σ.length:=by rw[I.len];exact(NT.mp hi).1
 have cne:=I.cne
 have tracked:∀{a:Addr}{h':Heap},(∃o,s.heap.get? a>>o∧H a=none)→Heap.SameBut a s.heap h'→HOk X.prog X.w H h':=fun {a h'} ha hs b ob e=>by
  obtain⟨_,_,hfree⟩:=ha
  refine(I.hok b ob e).stay (fun c w' hc q=>(hs.2 c ?_).trans q) (fun _ q=>q) fun _ _ q=>q
  rintro rfl
  rcases hc with rfl|hc
  ·rw[hfree] at e;cases e
  ·rw[hfree] at hc;cases hc
 rcases hx with hk|hk
 ·refine wpAny_storeName_local hk hn (fun h' hn' hs=>?_) hcls
  obtain⟨oL,_,_,hoL,_⟩:=id hn
  refine h _ ⟨I.ok,I.os,I.bare,⟨fun b o e n hb hx=>?_,fun b o e n hb hx=>?_,I.base.free,fun b o e hx=>?_,I.base.tups,I.base.frzs,I.base.tbls⟩,⟨_,hn',fun j y v' e1 e2 e3=>?_⟩,fun y c e=>?_,I.free,I.freeC,fun p hp=>?_,tracked ⟨oL,hoL,I.free⟩ hs,by simpa using I.len⟩ ⟨_,hs, .inl rfl⟩
  ·exact(hs.2 b (Mc (N9 (Heap.lt_size e) I.ok.above))).trans (I.base.keep b o e n hb hx)
  ·obtain⟨sl,e1⟩:=I.base.slot b o e n hb hx
   rwa[sl,(hs.2 b (Mc (N9 (Heap.lt_size e) I.ok.above))).trans e1]
  ·obtain⟨o',e1⟩:=I.base.there b o e hx
   rwa[o',(hs.2 b (Mc (N9 (Heap.lt_size e) I.ok.above))).trans e1]
  ·by_cases hj:j=i
   ·subst hj
    rw[hi] at e1;cases e1
    rw[M3 hiσ] at e2
    cases e2
    rwa[u,r, .inl ⟨hk,by simp⟩]
   ·rw[Ea (Ne.symm hj)] at e2
    obtain⟨u',r',q⟩:=hl j y v' e1 e2 e3
    rwa[u',r',?_]
    rcases q with⟨k,e⟩|⟨k,c,e,z⟩
    ·refine .inl ⟨k,?_⟩
     have:y≠x:=fun e=>hj (kir hN e1 (e▸hi))
     simp[this,e]
    ·exact .inr ⟨k,c,e,z.sameBut hs (cne y c e)⟩
  ·obtain⟨w',z⟩:=I.cell y c e
   rwa[w',z.sameBut hs (cne y c e)]
  ·obtain⟨e,n,ne,nf,d⟩:=I.pin p hp
   rwa[(hs.2 p.1 ne).trans e,n,ne,nf,d]
 ·have hfn:X.fn x=true:=by
   rcases hf with z|z
   ·exact z
   ·rw[z] at hk;cases hk
  obtain⟨c,hc⟩:=I.ok.has x (.inl hk)
  obtain⟨w',z⟩:=I.cell x c hc
  refine wpAny_storeName_cell I.ok.kind hk hc z (fun h' hc' hs=>?_)
  obtain⟨oc,hoc,hocd⟩:=id z
  refine h {s with heap:=h'} ⟨I.ok,I.os,I.bare,⟨fun b o e n hb hx=>?_,fun b o e n hb hx=>?_,I.base.free,fun b o e hx=>?_,I.base.tups,I.base.frzs,I.base.tbls⟩,⟨m,hn.sameBut hs (Ne.symm (cne x c hc)),fun j y v' e1 e2 e3=>?_⟩,fun y c' e=>?_,I.free,I.freeC,fun p hp=>?_,tracked ⟨oc,hoc,I.freeC x c hc⟩ hs,by simpa using I.len⟩ ⟨c,hs, .inr hc⟩
  ·exact(hs.2 b (Mc (N9 (Heap.lt_size e) (I.ok.cab x c hfn hc)))).trans (I.base.keep b o e n hb hx)
  ·obtain⟨sl,e1⟩:=I.base.slot b o e n hb hx
   rwa[sl,(hs.2 b (Mc (N9 (Heap.lt_size e) (I.ok.cab x c hfn hc)))).trans e1]
  ·obtain⟨o',e1⟩:=I.base.there b o e hx
   rwa[o',(hs.2 b (Mc (N9 (Heap.lt_size e) (I.ok.cab x c hfn hc)))).trans e1]
  ·by_cases hj:j=i
   ·subst hj
    rw[hi] at e1;cases e1
    rw[M3 hiσ] at e2
    cases e2
    rwa[u,r, .inr ⟨.inl hk,c,hc,hc'⟩]
   ·rw[Ea (Ne.symm hj)] at e2
    obtain⟨u',r',q⟩:=hl j y v' e1 e2 e3
    rwa[u',r',?_]
    rcases q with q|⟨k,c',e,z'⟩
    ·exact .inl q
    ·refine .inr ⟨k,c',e,z'.sameBut hs ?_⟩
     rintro rfl
     exact hj (kir hN e1 (I.ok.inj _ _ _ e hc▸hi))
  ·by_cases hcc:c'=c
   ·subst hcc;exact⟨_,hc'⟩
   ·obtain⟨w2,z2⟩:=I.cell y c' e
    rwa[w2,z2.sameBut hs hcc]
  ·obtain⟨e,n,ne,nf,d⟩:=I.pin p hp
   rwa[(hs.2 p.1 ?_).trans e,n,ne,nf,d]
   intro q
   rw[q,hoc] at e
   have q':oc=p.2:=Option.some.inj e
   exact d w' (by rw[←q'];exact hocd)
theorem kew{M:Model}{A:Around}{E:Value→Shared→Prop}{i:Nat}{x:Str}{v:V}{u:Value}{Q:Unit→Shared→Prop}(I:Inv X pins σ H s)(hN:X.N.Nodup)(hi:X.N[i]?>>x)(hx:Loc X.env.scope x)(r:RelV v u)
  (h:∀s',Inv X pins (σ.set i (some v)) H s'→Q () s')(hf:autoParam (X.fn x=true∨X.env.scope.names.lookup x>>.local) jX):wpAny M A (storeName X.env x u) Q E s:=
 kjf I hN hi hx r (fun s' I' _=>h s' I') hf
theorem Inv.call'{s':Shared}{ch:List Addr}(I:Inv X pins σ H s)(ho:s'.os=s.os)(u:Un (frs X.stack) ch H H' s.heap s'.heap)(hok:HOk X.prog X.w H' s'.heap)(hg:AllBare s'.gens)
  (hch:∀b∈ch,(b∈X.ex∨X.s₀.heap.objs.size≤b)∧b≠X.env.locals∧(∀x c,X.env.cells.lookup x>>c→c≠b)∧∀p∈X.pn++pins,p.1≠b):Inv X pins σ H' s':=by
 obtain⟨h',g',d',t',o'⟩:=s'
 have e:o'=s.os:=ho
 subst e
 exact I.call (g':=g') (t':=t') (d':=d') u hok hg hch
end
abbrev XK:=Value→Option Addr→Hp→Prop
abbrev St:=List (Option V)
abbrev VK:=V→Hp→Prop
abbrev TE:=St→Hp→VK→Prop
abbrev TT:=St→Hp→(Bool→Hp→Prop)→Prop
abbrev TA:=St→Hp→(List V→Hp→Prop)→Prop
structure Ends where
 nx:St→Hp→Prop
 rt:VK
 bk:St→Hp→Prop:=fun _ _=>False
 ct:St→Hp→Prop:=fun _ _=>False
abbrev TS:=Ends→St→Hp→Prop
def EP(X:Cx)(pins:List (Addr×Obj))(σ:St)(Q:VK)(u:Value)(s':Shared):Prop:=∃v H',Inv X pins σ H' s'∧RelV v u∧Q v H'
def TP(X:Cx)(pins:List (Addr×Obj))(σ:St)(Q:Bool→Hp→Prop)(b:Bool)(s':Shared):Prop:=∃H',Inv X pins σ H' s'∧Q b H'
def AP(X:Cx)(pins:List (Addr×Obj))(σ:St)(Q:List V→Hp→Prop)(us:List Value)(s':Shared):Prop:=∃vs H',Inv X pins σ H' s'∧Vals vs us∧Q vs H'
def SP(X:Cx)(pins:List (Addr×Obj))(D:Ends)(f:Flow)(s':Shared):Prop:=
 match f with
 | .next=>∃σ' H',Inv X pins σ' H' s'∧D.nx σ' H'
 | .brk=>∃σ' H',Inv X pins σ' H' s'∧D.bk σ' H'
 | .cont=>∃σ' H',Inv X pins σ' H' s'∧D.ct σ' H'
 | .ret u=>∃v σ' H',Inv X pins σ' H' s'∧RelV v u∧D.rt v H'
def PE(X:Cx)(e:Expr)(t:TE):Prop:=
 ∀(pins:List (Addr×Obj))(s:Shared)(σ:St)(H:Hp)(Q:VK),Inv X pins σ H s→t σ H Q→wpAny (model X.prog X.w) X.A (eval e X.env) (EP X pins σ Q) X.xe s
def PT(X:Cx)(e:Expr)(t:TT):Prop:=
 ∀(pins:List (Addr×Obj))(s:Shared)(σ:St)(H:Hp)(Q:Bool→Hp→Prop),Inv X pins σ H s→t σ H Q→wpAny (model X.prog X.w) X.A (isTrue e X.env (eval e X.env)) (TP X pins σ Q) X.xe s
def PW(X:Cx)(e:Expr)(t:TT):Prop:=
 ∀(whole:Sem Value)(pins:List (Addr×Obj))(s:Shared)(σ:St)(H:Hp)(Q:Bool→Hp→Prop),Inv X pins σ H s→t σ H Q→wpAny (model X.prog X.w) X.A (isTrue e X.env whole) (TP X pins σ Q) X.xe s
def PW.pt{X:Cx}{e:Expr}{t:TT}(h:PW X e t):PT X e t:=h _
def PA(X:Cx)(es:List Expr)(t:TA):Prop:=
 ∀(pos:Pos)(pins:List (Addr×Obj))(s:Shared)(σ:St)(H:Hp)(Q:List V→Hp→Prop),Inv X pins σ H s→t σ H Q→wpAny (model X.prog X.w) X.A (spliced (backTo pos (starEach es X.env))) (AP X pins σ Q) X.xe s
def PS(X:Cx)(st:Stmt)(t:TS):Prop:=
 ∀(pins:List (Addr×Obj))(s:Shared)(σ:St)(H:Hp)(D:Ends),Inv X pins σ H s→t D σ H→wpAny (model X.prog X.w) X.A (exec st X.env) (SP X pins D) X.xe s
def PSs(X:Cx)(st:List Stmt)(t:TS):Prop:=
 ∀(pins:List (Addr×Obj))(s:Shared)(σ:St)(H:Hp)(D:Ends),Inv X pins σ H s→t D σ H→wpAny (model X.prog X.w) X.A (execs st X.env) (SP X pins D) X.xe s
def thn{α:Type}{t:Sem α}{Q Q': α→Shared→Prop}{M:Model}{A:Around}{E:Value→Shared→Prop}{s:Shared}(h:wpAny M A t Q E s)(hQ:∀a s,Q a s→Q' a s):wpAny M A t Q' E s:=wpAny_mono h hQ fun _ _ x=>x
section
variable{X:Cx}
def tVar(i:Nat):TE:=fun σ H Q=>∃v,σ[i]?>>(some v)∧Q v H
def tC(v:V):TE:=fun _ H Q=>Q v H
theorem km6{i:Nat}{x:Str}{pos:Pos}(hN:X.N[i]?>>x)(hv:Vis X.env.scope x)(hd:autoParam ((x==("__debug__" :Str))=false) jQ)(hcd:autoParam ((x==("__classdict__" :Str))=false) jQ):PE X (.Name x pos) (tVar i):=by
 intro pins s σ H Q I h
 obtain⟨v,e,h⟩:=h
 obtain⟨m,hn,hl⟩:=I.loc
 obtain⟨u,r,l⟩:=hl i x v hN e hv
 have fin:EP X pins σ Q u s:=⟨v,H,I,r,h⟩
 rcases l with⟨hk,hm⟩|⟨hk,c,hc,hcell⟩
 ·exact wpAny_Name (wpAny_loadName_local I.ok.kind hk hn hm fin) hd
 ·rcases hk with hk|hk
  ·exact wpAny_Name (wpAny_loadName_cell I.ok.kind hk hc hcell fin) hd
  ·exact wpAny_Name (wpAny_loadName_free I.ok.kind hk hc hcell fin hcd) hd
theorem kaf{i j pos}:PE X (.Constant (.int i) j pos) (tC (.int i)):=fun _ _ _ H _ I h=>wpAny_Constant_int ⟨.int i,H,I.tok _,⟨_,rfl⟩,h⟩
theorem pe_bl{b j pos}:PE X (.Constant (.bool b) j pos) (tC (.bl b)):=fun _ _ _ H _ I h=>Constant_bool ⟨.bl b,H,I,rfl,h⟩
theorem kbf{j pos}:PE X (.Constant .none j pos) (tC .non):=fun _ _ _ H _ I h=>Constant_none ⟨.non,H,I,rfl,h⟩
theorem kbD{x j pos}:PE X (.Constant (.str x) j pos) (tC (.str x)):=fun _ _ _ H _ I h=>Calls.Constant_str ⟨.str x,H,I.tok _,⟨_,rfl⟩,h⟩
def Gl(X:Cx)(x:Str):Prop:=X.env.kindOf x>>.globalImplicit
theorem kd4{E:Value→Shared→Prop}{pins:List (Addr×Obj)}{s:Shared}{σ:St}{H:Hp}{x:Str}{u:Value}{pos:Pos}{Q:Value→Shared→Prop}(I:Inv X pins σ H s)(hg:Gl X x)(hm:X.mg x>>u)(h:Q u s)
  (hd:autoParam ((x==("__debug__" :Str))=false) jQ):wpAny (model X.prog X.w) X.A (eval (.Name x pos) X.env) Q E s:=
 Calls.Name_function_global I.ok.kind hg (Calls.loadGlobal_global (by rw[I.ok.glob];exact I.mod.glob.keeps I.bk) hm h) hd
theorem kdK{E:Value→Shared→Prop}{pins:List (Addr×Obj)}{s:Shared}{σ:St}{H:Hp}{x:Str}{u:Value}{pos:Pos}{Q:Value→Shared→Prop}(I:Inv X pins σ H s)(hg:Gl X x)(hm:X.mg x=none)(hv:bootBuiltins x>>u)(h:Q u s)
  (hn:autoParam (x≠"__name__") jQ)(hd:autoParam ((x==("__debug__" :Str))=false) jQ):wpAny (model X.prog X.w) X.A (eval (.Name x pos) X.env) Q E s:=by
 obtain⟨mb,h1,h2⟩:=I.mod.blt
 exact Calls.Name_function_global I.ok.kind hg (Calls.loadGlobal_builtin (by rw[I.ok.glob];exact I.mod.glob.keeps I.bk) hm (by rw[I.ok.blt];exact h1.keeps I.bk) ((h2 x hn).trans hv) h) hd
theorem kcG{x:Str}{v:V}{u:Value}{pos:Pos}(hg:Gl X x)(hm:X.mg x>>u)(r:RelV v u)(hd:autoParam ((x==("__debug__" :Str))=false) jQ):PE X (.Name x pos) (tC v):=
 fun _ _ _ H _ I h=>kd4 I hg hm ⟨v,H,I,r,h⟩ hd
theorem khD{x:Str}{v:V}{u:Value}{pos:Pos}(hg:Gl X x)(hm:X.mg x=none)(hv:bootBuiltins x>>u)(r:RelV v u)(hn:autoParam (x≠"__name__") jQ)(hd:autoParam ((x==("__debug__" :Str))=false) jQ):PE X (.Name x pos) (tC v):=
 fun _ _ _ H _ I h=>kdK I hg hm hv ⟨v,H,I,r,h⟩ hn hd
variable{a b:Expr}{ta tb:TE}{pos:Pos}
def tB(t:TE):TT:=fun σ H Q=>t σ H fun x H1=>∃c,x=.bl c∧Q c H1
theorem ka0{e:Expr}{t:TE}(h:PE X e t)(he:autoParam (∀whole,isTrue e X.env whole=(do let v ←whole;standAt e.pos;holding [v] (truthy v))) jJ):PT X e (tB t):=by
 intro pins s σ H Q I hw
 refine isTrue_plain (thn (h pins s σ H _ I hw) fun v s1 zz=>?_) (he _)
 obtain⟨x,H1,I1,r1,q1⟩:=zz
 obtain⟨d,rfl,q⟩:=q1
 cases r1
 exact wpAny_truthy_bool ⟨H1,I1,q⟩
variable{tA tB':TT}{rest:List Expr}
def tAnd(t u:TT):TT:=fun σ H Q=>t σ H fun c H1=>if c=true then u σ H1 Q else Q false H1
def tOr(t u:TT):TT:=fun σ H Q=>t σ H fun c H1=>if c=true then Q true H1 else u σ H1 Q
def tNot(t:TT):TT:=fun σ H Q=>t σ H fun c H1=>Q (!c) H1
theorem kba(ha:PT X a tA):PW X (.BoolOp .And [a] pos) tA:=by
 intro wh pins s σ H Q I h
 refine isTrue_and (thn (ha pins s σ H Q I h) fun c s1 e=>?_)
 cases c with
 |true=>exact isTrue_and_nil e
 |false=>exact e
theorem kea(ha:PT X a tA):PW X (.BoolOp .Or [a] pos) tA:=by
 intro wh pins s σ H Q I h
 refine isTrue_or (thn (ha pins s σ H Q I h) fun c s1 e=>?_)
 cases c with
 |false=>exact isTrue_or_nil e
 |true=>exact e
theorem kbn(ha:PT X a tA)(hb:PW X (.BoolOp .And (b::rest) pos) tB'):PW X (.BoolOp .And (a::b::rest) pos) (tAnd tA tB'):=by
 intro wh pins s σ H Q I h
 refine isTrue_and (thn (ha pins s σ H _ I h) fun c s1 zz=>?_)
 obtain⟨H1,I1,q1⟩:=zz
 cases c with
 |true=>exact hb wh pins s1 σ H1 Q I1 q1
 |false=>exact⟨H1,I1,q1⟩
theorem pw_or(ha:PT X a tA)(hb:PW X (.BoolOp .Or (b::rest) pos) tB'):PW X (.BoolOp .Or (a::b::rest) pos) (tOr tA tB'):=by
 intro wh pins s σ H Q I h
 refine isTrue_or (thn (ha pins s σ H _ I h) fun c s1 zz=>?_)
 obtain⟨H1,I1,q1⟩:=zz
 cases c with
 |true=>exact⟨H1,I1,q1⟩
 |false=>exact hb wh pins s1 σ H1 Q I1 q1
theorem kdB(ha:PT X a tA):PT X (.UnaryOp .Not a pos) (tNot tA):=by
 intro pins s σ H Q I h
 exact isTrue_not (ha pins s σ H (fun c H1=>Q (!c) H1) I h)
def tAndV(ta tb:TE):TE:=fun σ H Q=>ta σ H fun x H1=>∃c,x=.bl c∧if c=true then tb σ H1 Q else Q (.bl false) H1
def tOrV(ta tb:TE):TE:=fun σ H Q=>ta σ H fun x H1=>∃c,x=.bl c∧if c=true then Q (.bl true) H1 else tb σ H1 Q
def tNotV(ta:TE):TE:=fun σ H Q=>ta σ H fun x H1=>∃c,x=.bl c∧Q (.bl (!c)) H1
theorem kik{op}{t:TE}(h:PE X a t):PE X (.BoolOp op [a] pos) t:=fun pins s σ H Q I hw=>BoolOp_one (h pins s σ H Q I hw)
theorem kim(ha:PE X a ta)(hb:PE X (.BoolOp .And (b::rest) pos) tb):PE X (.BoolOp .And (a::b::rest) pos) (tAndV ta tb):=by
 intro pins s σ H Q I h
 refine BoolOp_and (thn (ha pins s σ H _ I h) fun v s1 zz=>?_)
 obtain⟨x,H1,I1,r1,q1⟩:=zz
 obtain⟨c,rfl,q1⟩:=q1
 cases r1
 refine wpAny_truthy_bool ?_
 cases c with
 |true=>exact hb pins s1 σ H1 Q I1 q1
 |false=>exact⟨.bl false,H1,I1,rfl,q1⟩
theorem pe_or(ha:PE X a ta)(hb:PE X (.BoolOp .Or (b::rest) pos) tb):PE X (.BoolOp .Or (a::b::rest) pos) (tOrV ta tb):=by
 intro pins s σ H Q I h
 refine BoolOp_or (thn (ha pins s σ H _ I h) fun v s1 zz=>?_)
 obtain⟨x,H1,I1,r1,q1⟩:=zz
 obtain⟨c,rfl,q1⟩:=q1
 cases r1
 refine wpAny_truthy_bool ?_
 cases c with
 |false=>exact hb pins s1 σ H1 Q I1 q1
 |true=>exact⟨.bl true,H1,I1,rfl,q1⟩
theorem km7(ha:PE X a ta):PE X (.UnaryOp .Not a pos) (tNotV ta):=by
 intro pins s σ H Q I h
 refine UnaryOp_ (thn (ha pins s σ H _ I h) fun v s1 zz=>?_)
 obtain⟨x,H1,I1,r1,q1⟩:=zz
 obtain⟨c,rfl,q1⟩:=q1
 cases r1
 exact not_of (wpAny_truthy_bool ⟨.bl (!c),H1,I1,rfl,q1⟩)
def tIf(t:TT)(ta tb:TE):TE:=fun σ H Q=>t σ H fun c H1=>if c=true then ta σ H1 Q else tb σ H1 Q
theorem keA{c:Expr}(hc:PT X c tA)(ha:PE X a ta)(hb:PE X b tb):PE X (.IfExp c a b pos) (tIf tA ta tb):=by
 intro pins s σ H Q I h
 refine wpAny_IfExp (thn (hc pins s σ H _ I h) fun d s1 zz=>?_)
 obtain⟨H1,I1,q1⟩:=zz
 cases d with
 |true=>exact ha pins s1 σ H1 Q I1 q1
 |false=>exact hb pins s1 σ H1 Q I1 q1
end
def SqL(K:NF)(H:Hp)(a:Addr)(xs:List V):Prop:=
 Rd H a (.lst xs)∨
  ∃(o:Obj)(its:Array Value)(n:Nat),K.lookup a>>o∧o.cls=.type "list"∧o.dict=none∧o.data=.seq its n∧its.size≤sizeLine∧Vals xs its.toList
def SqT(K:NF)(H:Hp)(a:Addr)(xs:List V):Prop:=
 Rd H a (.tup xs)∨
  ∃(o:Obj)(its:Array Value)(n:Nat),K.lookup a>>o∧o.cls=.type "tuple"∧o.data=.seq its n∧its.size≤sizeLine∧Vals xs its.toList
noncomputable def absV:Value→Option V
 | .none=>some .non
 | .bool b=>some (.bl b)
 | .int i _=>some (.int i)
 | .str x _=>some (.str x)
 | .bytes b _=>some (.byt b)
 | .float b _=>some (.flt b)
 | .ref a=>some (.ref a)
 | .type n=>some (.ty n)
 |_=>none
theorem RelV.abs{x:V}{u:Value}(r:RelV x u):absV u>>x:=by
 cases x with
 |non=>cases r;rfl
 |bl _=>cases r;rfl
 |int _=>obtain⟨t,rfl⟩:=r;rfl
 |str _=>obtain⟨t,rfl⟩:=r;rfl
 |byt _=>obtain⟨t,rfl⟩:=r;rfl
 |flt _=>obtain⟨t,rfl⟩:=r;rfl
 |ref _=>cases r;rfl
 |ty _=>cases r;rfl
def RelV.inj{x y:V}{u:Value}(r:RelV x u)(q:RelV y u):x=y:=Option.some.inj (r.abs.symm.trans q.abs)
theorem Vals.inj:∀{xs ys:List V}{us:List Value},Vals xs us→Vals ys us→xs=ys
 |_,_,_, .nil, .nil=>rfl
 |_,_,_, .cons r t, .cons r' t'=>by rw[r.inj r',Vals.inj t t']
section
variable{X:Cx}{pins:List (Addr×Obj)}{σ:St}{H:Hp}{s:Shared}{a:Addr}{xs ys:List V}
theorem SqL.of{K:NF}(h:H a>>(.lst xs)):SqL K H a xs:=.inl (.inl h)
theorem SqT.of{K:NF}(h:H a>>(.tup xs)):SqT K H a xs:=.inl (.inl h)
theorem Inv.list(I:Inv X pins σ H s)(h:SqL X.K H a xs):∃its:List Value,Vals xs its∧PlainL s.heap a its.toArray∧xs.length≤sizeLine:=by
 rcases h with h|⟨o,its,n,hk,hc,hd,hs,hz,r⟩
 ·obtain⟨z,its,n,r,e⟩:=h.ok I.hok
  rwa[its,r,⟨_,n,e,rfl,rfl,rfl⟩,z]
 ·rwa[its.toList,r,⟨o,n,I.kIn a o hk,hc,hd,by simpa using hs⟩,?_]
  have e:=r.length
  simp only[Ek] at e
  lia
theorem Inv.tuple(I:Inv X pins σ H s)(h:SqT X.K H a xs):∃its:List Value,Vals xs its∧IsTup s.heap a its.toArray∧xs.length≤sizeLine:=by
 rcases h with h|⟨o,its,n,hk,hc,hs,hz,r⟩
 ·obtain⟨z,its,r,p⟩:=h.ok I.hok
  rwa[its,r,p,z]
 ·rwa[its.toList,r,⟨o,I.kIn a o hk,hc,n,by simpa using hs⟩,?_]
  have e:=r.length
  simp only[Ek] at e
  lia
theorem Inv.list_inj(I:Inv X pins σ H s)(h:SqL X.K H a xs)(h':SqL X.K H a ys):xs=ys:=by
 obtain⟨its,r,⟨o,n,e,_,_,d⟩,_⟩:=I.list h
 obtain⟨its',r',⟨o',n',e',_,_,d'⟩,_⟩:=I.list h'
 rw[e] at e';cases e'
 rw[d] at d'
 injection d' with d1 _
 have:its=its':=by simpa using congrArg Array.toList d1
 subst this
 exact r.inj r'
end
abbrev Cx.wish(X:Cx)(E:Value→Shared→Prop):Cx:={X with xe:=E}
abbrev Cx.nox(X:Cx):Cx:=X.wish fun _ _=>False
def Cx.Ok.wish{X:Cx}(ok:X.Ok)(E:Value→Shared→Prop):(X.wish E).Ok:=
 ⟨ok.mod,ok.kind,ok.glob,ok.blt,ok.above,ok.inj,ok.has,ok.cab,ok.hd,ok.frames,ok.stk,ok.exf,ok.bs,ok.bsz,ok.noex,ok.exfs,ok.funs,ok.frf⟩
def Cx.Ok.unwish{X:Cx}{E:Value→Shared→Prop}(ok:(X.wish E).Ok):X.Ok:=
 ⟨ok.mod,ok.kind,ok.glob,ok.blt,ok.above,ok.inj,ok.has,ok.cab,ok.hd,ok.frames,ok.stk,ok.exf,ok.bs,ok.bsz,ok.noex,ok.exfs,ok.funs,ok.frf⟩
section
variable{X:Cx}{pins:List (Addr×Obj)}{σ:St}{H:Hp}{s:Shared}{E:Value→Shared→Prop}
theorem Inv.wish(I:Inv X pins σ H s)(E:Value→Shared→Prop):Inv (X.wish E) pins σ H s:=⟨I.ok.wish E,I.os,I.bare,I.base,I.loc,I.cell,I.free,I.freeC,I.pin,I.hok,I.len⟩
theorem Inv.unwish(I:Inv (X.wish E) pins σ H s):Inv X pins σ H s:=⟨I.ok.unwish,I.os,I.bare,I.base,I.loc,I.cell,I.free,I.freeC,I.pin,I.hok,I.len⟩
theorem SP.unwish{D:Ends}{f:Flow}{s':Shared}(h:SP (X.wish E) pins D f s'):SP X pins D f s':=by
 cases f with
 |next=>obtain⟨σ',H',I,q⟩:=h;exact⟨σ',H',I.unwish,q⟩
 |brk=>obtain⟨σ',H',I,q⟩:=h;exact⟨σ',H',I.unwish,q⟩
 |cont=>obtain⟨σ',H',I,q⟩:=h;exact⟨σ',H',I.unwish,q⟩
 |ret u=>obtain⟨v,σ',H',I,r,q⟩:=h;exact⟨v,σ',H',I.unwish,r,q⟩
theorem PSs.nox{st:List Stmt}{t:TS}(h:PSs X.nox st t):PSs X st t:=fun pins s σ H D I hw=>
 wpAny_mono (h pins s σ H D (I.wish _) hw) (fun _ _ q=>q.unwish) fun _ _ z=>False.elim z
end
section
variable{X:Cx}{st:Stmt}{rest:List Stmt}{t u:TS}{e:Expr}{te:TE}{pos:Pos}
def tNext:TS:=fun D σ H=>D.nx σ H
def tSeq(t u:TS):TS:=fun D σ H=>t {D with nx:=u D} σ H
theorem kav:PSs X [] tNext:=fun _ _ σ H _ I h=>wpAny_execs_nil ⟨σ,H,I,h⟩
theorem kab(h1:PS X st t)(h2:PSs X rest u):PSs X (st::rest) (tSeq t u):=by
 intro pins s σ H D I h
 refine wpAny_execs_cons (thn (h1 pins s σ H {D with nx:=u D} I h) fun f s1 q=>?_)
 cases f with
 |next=>
  obtain⟨σ',H',I',q⟩:=q
  exact h2 pins s1 σ' H' D I' q
 |ret v=>exact q
 |brk=>exact q
 |cont=>exact q
theorem kag(h1:PS X st t):PSs X [st] t:=by
 intro pins s σ H D I h
 refine wpAny_execs_cons (thn (h1 pins s σ H D I h) fun f s1 q=>?_)
 cases f with
 |next=>exact wpAny_execs_nil q
 |ret v=>exact q
 |brk=>exact q
 |cont=>exact q
theorem Inv.quiet{pins:List (Addr×Obj)}{σ:St}{H:Hp}{s:Shared}(I:Inv X pins σ H s):interactive X.env=false:=by simp[interactive,I.ok.kind]
def tDrop(te:TE):TS:=fun D σ H=>te σ H fun _ H1=>D.nx σ H1
theorem ka1(he:PE X e te)(hs:autoParam (swapsWith e none pos.line X.env=pure false) jz):PS X (.Expr e pos) (tDrop te):=by
 intro pins s σ H D I h
 exact wpAny_Expr_any (thn (he pins s σ H _ I h) fun v s1 ⟨x,H1,I1,r1,q1⟩=>⟨σ,H1,I1,q1⟩) I.quiet hs
def tRet(te:TE):TS:=fun D σ H=>te σ H D.rt
theorem kap(he:PE X e te):PS X (.Return (some e) pos) (tRet te):=by
 intro pins s σ H D I h
 exact wpAny_Return_some (thn (he pins s σ H _ I h) fun v s1 ⟨x,H1,I1,r1,q1⟩=>⟨x,σ,H1,I1,r1,q1⟩)
def tIfS(c:TT)(t u:TS):TS:=fun D σ H=>c σ H fun b H1=>if b=true then t D σ H1 else u D σ H1
theorem ps_if{c:Expr}{a b:List Stmt}{tc:TT}(hc:PT X c tc)(ha:PSs X a t)(hb:PSs X b u):PS X (.If c a b pos) (tIfS tc t u):=by
 intro pins s σ H D I h
 refine wpAny_If (thn (hc pins s σ H _ I h) fun d s1 zz=>?_)
 obtain⟨H1,I1,q1⟩:=zz
 cases d with
 |true=>exact ha pins s1 σ H1 D I1 q1
 |false=>exact hb pins s1 σ H1 D I1 q1
end
abbrev TG:=V→St→Hp→(St→Hp→Prop)→Prop
abbrev TGs:=List V→St→Hp→(St→Hp→Prop)→Prop
def PG(X:Cx)(target:Expr)(t:TG):Prop:=
 ∀(pins:List (Addr×Obj))(s:Shared)(σ:St)(H:Hp)(v:V)(u:Value)(Q:St→Hp→Prop),Inv X pins σ H s→RelV v u→t v σ H Q→
  wpAny (model X.prog X.w) X.A (assign target X.env u) (fun _ s'=>∃σ' H',Inv X pins σ' H' s'∧Q σ' H') X.xe s
def PGs(X:Cx)(ts:List Expr)(t:TGs):Prop:=
 ∀(pins:List (Addr×Obj))(s:Shared)(σ:St)(H:Hp)(vs:List V)(us:List Value)(Q:St→Hp→Prop),Inv X pins σ H s→Vals vs us→t vs σ H Q→
  wpAny (model X.prog X.w) X.A (assignInOrder ((assignEach ts X.env).map (·.2)) us) (fun _ s'=>∃σ' H',Inv X pins σ' H' s'∧Q σ' H') X.xe s
abbrev TSet:=V→V→V→Hp→(Hp→Prop)→Prop
def PSet(X:Cx)(t:TSet):Prop:=
 ∀(pins:List (Addr×Obj))(s:Shared)(σ:St)(H:Hp)(o i v:V)(ov iv u:Value)(Q:Hp→Prop),Inv X pins σ H s→RelV o ov→RelV i iv→RelV v u→t o i v H Q→
  wpAny (model X.prog X.w) X.A (setItem ov iv u) (fun _ s'=>∃H',Inv X pins σ H' s'∧Q H') X.xe s
abbrev TIp:=V→V→Hp→VK→Prop
def PIp(X:Cx)(op:Operator)(t:TIp):Prop:=
 ∀(pins:List (Addr×Obj))(s:Shared)(σ:St)(H:Hp)(x y:V)(v u:Value)(Q:VK),Inv X pins σ H s→RelV x v→RelV y u→t x y H Q→
  wpAny (model X.prog X.w) X.A (inplaceOp op v u) (EP X pins σ Q) X.xe s
section
variable{X:Cx}{pos:Pos}
def gName(i:Nat):TG:=fun v σ H Q=>Q (σ.set i (some v)) H
theorem kmz{i:Nat}{x:Str}(hN:X.N.Nodup)(hi:X.N[i]?>>x)(hx:Loc X.env.scope x)(hf:autoParam (X.fn x=true∨X.env.scope.names.lookup x>>.local) jX):PG X (.Name x pos) (gName i):=by
 intro pins s σ H v u Q I r h
 exact wpAny_assign_Name (kew I hN hi hx r (fun s' I'=>⟨_,H,I',h⟩) hf)
def gNil:TGs:=fun vs σ H Q=>vs=[]∧Q σ H
def gCons(t:TG)(u:TGs):TGs:=fun vs σ H Q=>∃v r,vs=v::r∧t v σ H fun σ' H'=>u r σ' H' Q
theorem kbI:PGs X [] gNil:=by
 intro pins s σ H vs us Q I r h
 obtain⟨e,h⟩:=h
 subst e
 cases r
 exact assignInOrder_nil ⟨σ,H,I,h⟩
theorem kaD{e:Expr}{es:List Expr}{t:TG}{u:TGs}(h1:PG X e t)(h2:PGs X es u)
  (hs:autoParam ((assignEach (e::es) X.env).map (·.2)=assign e X.env::(assignEach es X.env).map (·.2)) jz):PGs X (e::es) (gCons t u):=by
 intro pins s σ H vs us Q I r h
 obtain⟨v,vr,e1,h⟩:=h
 subst e1
 cases r with
 |cons r rr=>
  rw[hs]
  refine assignInOrder_cons (thn (h1 pins s σ H _ _ _ I r h) fun _ s1 zz=>?_)
  obtain⟨σ1,H1,I1,q1⟩:=zz
  exact h2 pins s1 σ1 H1 _ _ Q I1 rr q1
def gTup(K:NF)(n:Nat)(t:TGs):TG:=fun v σ H Q=>∃a xs,v=.ref a∧SqT K H a xs∧xs.length=n∧t xs σ H Q
theorem km5{es:List Expr}{k:Nat}{t:TGs}{n:Nat}(hc:X.calm=true)(h:PGs X es t)
  (hn:autoParam ((assignEach es X.env).length=n) jz) (hst:autoParam ((assignEach es X.env).findIdx? (·.1)=none) jz):PG X (.Tuple es k pos) (gTup X.K n t):=by
 intro pins s σ H v u Q I r hw
 obtain⟨a,xs,e1,hq,hl,hw⟩:=hw
 subst e1
 cases r
 obtain⟨its,rv,ht,hz⟩:=I.tuple hq
 refine assign_Tuple_tuple (I.ok.hd hc) ht (by simp[hn,←hl,rv.length]) hst fun h' hx=>?_
 have I1:Inv X pins σ H {s with heap:=h'}:=I.kept (t':=s.toks) fun b o e=>hx b o (Mc (Heap.lt_size e)) e
 exact h pins _ σ H xs _ Q I1 (by simpa using rv) hw
def gSub(to ti:TE)(t:TSet):TG:=fun v σ H Q=>to σ H fun o H1=>ti σ H1 fun i H2=>t o i v H2 fun H3=>Q σ H3
theorem kfD{o i:Expr}{to ti:TE}{t:TSet}(ho:PE X o to)(hi:PE X i ti)(hs:PSet X t)
  (ha:autoParam (∀v,assign (.Subscript o i pos) X.env v=(do
   let ov ←holding [v] (eval o X.env)
   let iv ←holding [v,ov] (eval i X.env)
   standAt pos
   holding [v,ov,iv] (setItem ov iv v)
   release [v,ov,iv] [])) jJ):PG X (.Subscript o i pos) (gSub to ti t):=by
 intro pins s σ H v u Q I r h
 rw[ha]
 refine wpAny_bind (wpAny_holding (thn (ho pins s σ H _ I h) fun ov s1 zz=>?_))
 obtain⟨x,H1,I1,r1,q1⟩:=zz
 refine wpAny_bind (wpAny_holding (thn (hi pins s1 σ H1 _ I1 q1) fun iv s2 zz=>?_))
 obtain⟨y,H2,I2,r2,q2⟩:=zz
 refine wpAny_bind (wpAny_standAt (wpAny_bind (wpAny_holding (thn (hs pins s2 σ H2 x y v ov iv u _ I2 r1 r2 r q2) fun _ s3 zz=>?_))))
 obtain⟨H3,I3,q3⟩:=zz
 exact wpAny_release ⟨σ,H3,I3,q3⟩
def tAsg(te:TE)(g:TG):TS:=fun D σ H=>te σ H fun x H1=>g x σ H1 D.nx
theorem keT{tg e:Expr}{te:TE}{g:TG}(he:PE X e te)(hg:PG X tg g)(hs:autoParam (swapsWithSole [tg] e pos.line X.env=pure false) jz)(hw:autoParam (swappedStores [tg] e X.env=pure none) jz)
  (h1:autoParam ((assignEach [tg] X.env).map (·.2)=[assign tg X.env]) jz):PS X (.Assign [tg] e pos) (tAsg te g):=by
 intro pins s σ H D I h
 refine wpAny_Assign_stores (thn (he pins s σ H _ I h) fun v s1 zz=>?_) hs hw
 obtain⟨x,H1,I1,r1,q1⟩:=zz
 rw[h1]
 exact thn (hg pins s1 σ H1 x v _ I1 r1 q1) fun _ s2 q=>q
theorem km4{i:Nat}{x:Str}{e:Expr}{te:TE}{pos':Pos}(hN:X.N.Nodup)(hi:X.N[i]?>>x)(hx:Loc X.env.scope x)(he:PE X e te)(hs:autoParam (swapsWith e (some (.Name x pos')) pos.line X.env=pure false) jz)(hf:autoParam (X.fn x=true∨X.env.scope.names.lookup x>>.local) jX):
  PS X (.Assign [.Name x pos'] e pos) (tAsg te (gName i)):=by
 intro pins s σ H D I h
 refine wpAny_Assign_Name (thn (he pins s σ H _ I h) fun v s1 zz=>?_) hs
 obtain⟨y,H1,I1,r1,q1⟩:=zz
 exact kew I1 hN hi hx r1 (fun s2 I2=>⟨_,H1,I2,q1⟩) hf
def tAug(i:Nat)(te:TE)(ti:TIp):TS:=fun D σ H=>∃x,σ[i]?>>(some x)∧te σ H fun y H1=>ti x y H1 fun z H2=>D.nx (σ.set i (some z)) H2
theorem klT{i:Nat}{x:Str}{e:Expr}{te:TE}{op:Operator}{ti:TIp}{pos':Pos}(hN:X.N.Nodup)(hi:X.N[i]?>>x)(hx:Loc X.env.scope x)(he:PE X e te)(ho:PIp X op ti)(hf:autoParam (X.fn x=true∨X.env.scope.names.lookup x>>.local) jX):
  PS X (.AugAssign (.Name x pos') op e pos) (tAug i te ti):=by
 intro pins s σ H D I h
 obtain⟨v,e1,h⟩:=h
 obtain⟨m,hn,hl⟩:=I.loc
 have vis:Vis X.env.scope x:=by rcases hx with k|k;exact .inl k;exact .inr (.inl k)
 obtain⟨u,r,l⟩:=hl i x v hi e1 vis
 refine wpAny_AugAssign_Name ?_
 have go:wpAny (model X.prog X.w) X.A (eval e X.env) (fun w s₂=>wpAny (model X.prog X.w) X.A (inplaceOp op u w) (fun r s₃=>wpAny (model X.prog X.w) X.A (storeName X.env x r) (fun _=>SP X pins D .next) X.xe s₃) X.xe s₂) X.xe s:=by
  refine thn (he pins s σ H _ I h) fun w s1 zz=>?_
  obtain⟨y,H1,I1,r1,q1⟩:=zz
  refine thn (ho pins s1 σ H1 v y u w _ I1 r r1 q1) fun z s2 zz=>?_
  obtain⟨zv,H2,I2,r2,q2⟩:=zz
  exact kew I2 hN hi hx r2 (fun s3 I3=>⟨_,H2,I3,q2⟩) hf
 rcases l with⟨hk,hm⟩|⟨hk,c,hc,hcell⟩
 ·exact wpAny_loadName_local I.ok.kind hk hn hm go
 ·rcases hk with hk|hk
  ·exact wpAny_loadName_cell I.ok.kind hk hc hcell go
  ·rcases hx with k|k
   ·have:X.env.scope.names.lookup x>>.free:=hk
    rw[k] at this;cases this
   ·have:X.env.scope.names.lookup x>>.free:=hk
    rw[k] at this;cases this
def tAugS(to ti te:TE)(tget:V→V→Hp→VK→Prop)(tip:TIp)(tset:TSet):TS:=fun D σ H=>to σ H fun o H1=>ti σ H1 fun i H2=>tget o i H2 fun x H3=>te σ H3 fun y H4=>tip x y H4 fun z H5=>tset o i z H5 fun H6=>D.nx σ H6
def PGet(X:Cx)(t:V→V→Hp→VK→Prop):Prop:=
 ∀(pins:List (Addr×Obj))(s:Shared)(σ:St)(H:Hp)(o i:V)(ov iv:Value)(Q:VK),Inv X pins σ H s→RelV o ov→RelV i iv→t o i H Q→
  wpAny (model X.prog X.w) X.A (getItem ov iv) (EP X pins σ Q) X.xe s
theorem kjS{o i e:Expr}{to ti te:TE}{tget:V→V→Hp→VK→Prop}{tip:TIp}{tset:TSet}{op:Operator}{tpos:Pos}(ho:PE X o to)(hi:PE X i ti)(hg:PGet X tget)(he:PE X e te)(hp:PIp X op tip)(hs:PSet X tset)
  (ha:∀ov iv new,augStore i ov iv new=(do holding [new,ov,iv] (setItem ov iv new);release [new,ov,iv] [];pure .next):=by intros;rfl):PS X (.AugAssign (.Subscript o i tpos) op e pos) (tAugS to ti te tget tip tset):=by
 intro pins s σ H D I h
 refine wpAny_AugAssign_SubscriptAny (thn (ho pins s σ H _ I h) fun ov s1 zz=>?_) ha
 obtain⟨x1,H1,I1,r1,q1⟩:=zz
 refine thn (hi pins s1 σ H1 _ I1 q1) fun iv s2 zz=>?_
 obtain⟨x2,H2,I2,r2,q2⟩:=zz
 refine thn (hg pins s2 σ H2 x1 x2 ov iv _ I2 r1 r2 q2) fun old s3 zz=>?_
 obtain⟨x3,H3,I3,r3,q3⟩:=zz
 refine thn (he pins s3 σ H3 _ I3 q3) fun v s4 zz=>?_
 obtain⟨x4,H4,I4,r4,q4⟩:=zz
 refine thn (hp pins s4 σ H4 x3 x4 old v _ I4 r3 r4 q4) fun new s5 zz=>?_
 obtain⟨x5,H5,I5,r5,q5⟩:=zz
 exact thn (hs pins s5 σ H5 x1 x2 x5 ov iv new _ I5 r1 r2 r5 q5) fun _ s6 ⟨H6,I6,q6⟩=>⟨σ,H6,I6,q6⟩
def ipI(f:Int→Int→Int):TIp:=fun x y H Q=>∃i j,x=.int i∧y=.int j∧Q (.int (f i j)) H
theorem kki:PIp X .Add (ipI fun i j=>i+j):=by
 intro pins s σ H x y v u Q I r1 r2 h
 obtain⟨i,j,e1,e2,q⟩:=h
 subst e1;subst e2
 obtain⟨t,rfl⟩:=r1
 obtain⟨t',rfl⟩:=r2
 exact iadd_int ⟨.int _,H,I.tok _,⟨_,rfl⟩,q⟩
theorem knk:PIp X .Sub (ipI fun i j=>i-j):=by
 intro pins s σ H x y v u Q I r1 r2 h
 obtain⟨i,j,e1,e2,q⟩:=h
 subst e1;subst e2
 obtain⟨t,rfl⟩:=r1
 obtain⟨t',rfl⟩:=r2
 exact isub_int ⟨.int _,H,I.tok _,⟨_,rfl⟩,q⟩
end
section
variable{X:Cx}{pos:Pos}
def klJ(c:TT)(tb:TS):TS:=fun D σ H=>∃W:Nat→St→Hp→Prop,(∃m,W m σ H)∧∀m σ H,W m σ H→
 c σ H fun b H1=>if b=true then ∃N:St→Hp→Prop,(∀σ' H',N σ' H'→∃m',m'<m∧W m' σ' H')∧tb {D with nx:=N,ct:=N,bk:=D.nx} σ H1 else D.nx σ H1
theorem kk0{c:Expr}{body:List Stmt}{tc:TT}{tb:TS}(hp:PassesOwn (model X.prog X.w) X.A X.env X.xe)(hc:PT X c tc)(hb:PSs X body tb):PS X (.While c body [] pos) (klJ tc tb):=by
 intro pins s σ H D I h
 obtain⟨W,⟨m0,w0⟩,turn⟩:=h
 refine wpAny_While (codeAny_whileLoop (fun n s'=>∃σ' H',Inv X pins σ' H' s'∧W n σ' H') ?_ m0 ⟨σ,H,I,w0⟩)
 rintro n s1 ⟨σ1,H1,I1,w1⟩
 refine wpAny_passesOwn hp (thn (hc pins s1 σ1 H1 _ I1 (turn n σ1 H1 w1)) fun b s2 zz=>?_)
 obtain⟨H2,I2,q2⟩:=zz
 cases b with
 | true=>
  obtain⟨N,hN,q2⟩:=q2
  rw[if_pos rfl]
  refine wpAny_passesOwn hp (thn (hb pins s2 σ1 H2 _ I2 q2) fun f s3 q3=>?_)
  cases f with
  |next=>
   obtain⟨σ3,H3,I3,n3⟩:=q3
   obtain⟨m',hm,w3⟩:=hN σ3 H3 n3
   rwa[m',hm,σ3,H3,I3,w3]
  |cont=>
   obtain⟨σ3,H3,I3,n3⟩:=q3
   obtain⟨m',hm,w3⟩:=hN σ3 H3 n3
   rwa[m',hm,σ3,H3,I3,w3]
  |brk=>exact q3
  |ret v=>exact q3
 |false=>
  rw[if_neg NP]
  exact wpAny_execs_nil ⟨σ1,H2,I2,q2⟩
end
structure It where
 go:Nat→Hp→Prop
 yld:Nat→Hp→V→Hp→Prop
 stop:Nat→Hp→Prop
def FpOk(X:Cx)(pins:List (Addr×Obj))(H:Hp)(b:Addr):Prop:=
 H b=none∧b≠X.env.locals∧b∉X.fs∧(b∈X.ex∨X.s₀.heap.objs.size≤b)∧(∀x c,X.env.cells.lookup x>>c→c≠b)∧∀p∈X.pn++pins,p.1≠b
def Inv.fpOk{X:Cx}{pins:List (Addr×Obj)}{σ:St}{H H':Hp}{s:Shared}{b:Addr}(I:Inv X pins σ H s)(hb:s.heap.objs.size≤b)(hn:H' b=none):FpOk X pins H' b:=by
 rwa[hn,MA (N9 I.lt hb),I.nofs hb, .inr (NJ I.sz hb),fun x c e z=>?_,fun p hp z=>?_]
 ·obtain⟨v,q⟩:=I.cell x c e
  exact absurd (N9 q.lt (by rw[z];exact hb)) (MP _)
 ·exact absurd (N9 (Heap.lt_size (I.pin p hp).1) (by rw[z];exact hb)) (MP _)
structure Turn(P:Program)(w:World)(K:NF)(tg:Expr)(J:It)(fp:List Addr)(it:Addr)(tn:Nat→Heap→Prop):Prop where
 mem:it∈fp
 obj:∀i h,tn i h→∀b∈fp,∃o,h.get? b>>o∧∀v,o.data≠.cell v
 keep:∀i h h',tn i h→(∀b∈fp,∀o,h.get? b>>o→h'.get? b>>o)→tn i h'
 item:∀(X:Cx),X.prog=P→X.w=w→X.K=K→X.calm=true→∀(i:Nat)(pins:List (Addr×Obj))(s:Shared)(σ:St)(H:Hp)(E:Value→Shared→Prop),Inv X pins σ H s→(∀b∈fp,FpOk X pins H b)→tn i s.heap→J.go i H→
  wpAny (model P w) X.A (pyNext (.ref it)) (fun r s1=>∃u,r>>u∧
   wpAny (model P w) X.A (letOwnedTupleGo tg (.ref it) u) (fun _ s2=>∃x H',Inv X pins σ H' s2∧RelV x u∧J.yld i H x H'∧tn (i+1) s2.heap∧∀b∈fp,H' b=none) E s1) E s
 done:∀(X:Cx),X.prog=P→X.w=w→X.K=K→X.calm=true→∀(i:Nat)(pins:List (Addr×Obj))(s:Shared)(σ:St)(H:Hp)(E:Value→Shared→Prop),Inv X pins σ H s→(∀b∈fp,FpOk X pins H b)→tn i s.heap→J.stop i H→
  wpAny (model P w) X.A (pyNext (.ref it)) (fun r s1=>r=none∧Inv X pins σ H s1) E s
 self:∀(A:Around)(i:Nat)(s:Shared)(Q:Value→Shared→Prop)(E:Value→Shared→Prop),tn i s.heap→Q (.ref it) s→wpAny (model P w) A (pyIter (.ref it)) Q E s
abbrev TI:=St→Hp→(It→Hp→Prop)→Prop
def PIE(X:Cx)(pins:List (Addr×Obj))(σ:St)(tg:Expr)(R:It→Hp→Prop)(itv:Value)(s2:Shared):Prop:=
 ∃(it:Addr)(fp:List Addr)(tn:Nat→Heap→Prop)(J:It)(H':Hp),itv=.ref it∧Inv X pins σ H' s2∧Turn X.prog X.w X.K tg J fp it tn∧tn 0 s2.heap∧(∀b∈fp,FpOk X pins H' b)∧R J H'
def PI(X:Cx)(tg iter:Expr)(wi:TI):Prop:=
 ∀(pins:List (Addr×Obj))(s:Shared)(σ:St)(H:Hp)(R:It→Hp→Prop),Inv X pins σ H s→wi σ H R→
  wpAny (model X.prog X.w) X.A (eval iter X.env) (fun v s1=>wpAny (model X.prog X.w) X.A (pyIter v) (PIE X pins σ tg R) X.xe s1) X.xe s
theorem go_of{M:Model}{A:Around}{E:Value→Shared→Prop}{s:Shared}{tg:Expr}{it:Addr}{u:Value}{o:Obj}{n:String}{vs:Array Value}{Q:Unit→Shared→Prop}(ho:s.heap.get? it>>o)(hc:o.cls=.type n)(hd:o.data=.fields vs)
    (hn:["enumerate","zip","dict_itemiterator","dict_reverseitemiterator","odict_iterator","itertools.zip_longest","itertools.pairwise"].contains n=false)(hQ:Q () s):wpAny M A (letOwnedTupleGo tg (.ref it) u) Q E s:=by
  unfold letOwnedTupleGo
  cases tg <;> first
    |exact wpAny_pure hQ
    |(cases u <;> first
        |exact wpAny_pure hQ
        | (refine wpAny_bind (wpAny_load ho ?_)
           rw[hc,hd]
           show wpAny M A (if(["enumerate","zip","dict_itemiterator","dict_reverseitemiterator","odict_iterator","itertools.zip_longest","itertools.pairwise"].contains n&&vs[0]? ==some (rawInt _))=true then _ else _) Q E s
           rw[if_neg (by intro h;rw[hn,Dd] at h;cases h)]
           exact wpAny_pure hQ))
noncomputable def Itl(K:NF)(a:Addr):It:=
 ⟨fun i H=>∃xs x,SqL K H a xs∧xs[i]?>>x,fun i H x H'=>H'=H∧∀xs,SqL K H a xs→xs[i]?>>x,fun i H=>∃xs,SqL K H a xs∧xs.length≤i⟩
noncomputable def Itr(lo:Int)(n:Nat):It:=⟨fun i _=>i<n,fun i H x H'=>H'=H∧x=.int (lo+i),fun i _=>n≤i⟩
theorem ki9{P:Program}{w:World}{K:NF}{tg:Expr}(a it:Addr):Turn P w K tg (Itl K a) [it] it (fun i h=>h.IsListIter it a i) where
 mem:=by simp
 obj:=fun i h st b hb=>by
  have e:b=it:=by simpa using hb
  subst e
  obtain⟨o,e,c,d⟩:=st
  rwa[o,e,fun v z=>by rw[d] at z;cases z]
 keep:=fun i h h' st k=>st.at fun o e=>k it (by simp) o e
 item:=by
  intro X hP hw hK hc i pins s σ H E I hf st hg
  subst hP hw hK
  obtain⟨xs,x,hq,hx⟩:=hg
  obtain⟨its,rv,p,hz⟩:=I.list hq
  obtain⟨u,hu,ru⟩:=rv.get hx
  obtain⟨f0,f1,f2,f3,f4,f5⟩:=hf it (by simp)
  refine wpAny_pyNext_list_item st p.isList (x:=u) (by simpa using hu) fun h' st' sb=>?_
  have I1:Inv X pins σ H {s with heap:=h'}:=I.turned (t':=s.toks) (fun b o hb e=>(sb.2 b hb).trans e) f0 f1 f3 f4 f5
  obtain⟨o,e,c,d⟩:=id st'
  rwa[u,6,go_of (s:={s with heap:=h'}) e c d (by decide) ⟨x,H,I1,ru,⟨rfl,fun ys hy=>by rw[I.list_inj hy hq];exact hx⟩,st',fun b hb=>(hf b hb).1⟩]
 done:=by
  intro X hP hw hK hc i pins s σ H E I hf st hg
  subst hP hw hK
  obtain⟨xs,hq,hx⟩:=hg
  obtain⟨its,rv,p,hz⟩:=I.list hq
  obtain⟨f0,f1,f2,f3,f4,f5⟩:=hf it (by simp)
  have hl:=rv.length
  exact wpAny_pyNext_list_end (I.ok.hd hc) st p.isList (by simp;lia) fun h' eb=>⟨rfl,I.turned (t':=s.toks) (fun b o hb e=>eb b o hb e) f0 f1 f3 f4 f5⟩
 self:=fun _ _ _ _ _ st h=>wpAny_pyIter_listiter st h
theorem kiN{P:Program}{w:World}{K:NF}{tg:Expr}(it:Addr)(lo:Int)(n:Nat):Turn P w K tg (Itr lo n) [it] it (fun i h=>IsRangeIter h it (lo+(i:Nat)*1) ((n:Int)-(i:Nat)) 1) where
 mem:=by simp
 obj:=fun i h st b hb=>by
  have e:b=it:=by simpa using hb
  subst e
  exact⟨_,st,fun v z=>by
   have z':Data.fields _=Data.cell v:=z
   cases z'⟩
 keep:=fun i h h' st k=>k it (by simp) _ st
 item:=by
  intro X hP hw hK hc i pins s σ H E I hf st hg
  subst hP hw hK
  obtain⟨f0,f1,f2,f3,f4,f5⟩:=hf it (by simp)
  have W:=Walks.range (prog:=X.prog) (w:=X.w) (I.ok.hd hc) it lo 1 n
  refine W.item i s _ _ hg st fun v h' tk hv st' kk=>?_
  obtain⟨t,rfl⟩:=hv
  have I1:Inv X pins σ H {s with heap:=h',toks:=tk}:=I.turned (fun b o hb e=>kk b o (by simpa using hb) e) f0 f1 f3 f4 f5
  rwa[8,go_of (s:={s with heap:=h',toks:=tk}) (n:="range_iterator") st' rfl rfl (by decide) ⟨.int (lo+i),H,I1,⟨t,?_⟩,⟨rfl,rfl⟩,st',fun b hb=>(hf b hb).1⟩]
  rw[Int.mul_one]
 done:=by
  intro X hP hw hK hc i pins s σ H E I hf st hg
  subst hP hw hK
  obtain⟨f0,f1,f2,f3,f4,f5⟩:=hf it (by simp)
  exact wpAny_pyNext_range_end (I.ok.hd hc) st (by have:n≤i:=hg;lia) fun h' eb=>⟨rfl,I.turned (t':=s.toks) (fun b o hb e=>eb b o hb e) f0 f1 f3 f4 f5⟩
 self:=fun _ _ _ _ _ st h=>wpAny_pyIter_rangeiter st h
section
variable{X:Cx}{tg:Expr}
def iList(K:NF)(tl:TE):TI:=fun σ H R=>tl σ H fun x H1=>∃a,x=.ref a∧(∃xs,SqL K H1 a xs)∧R (Itl K a) H1
theorem kmy{l:Expr}{tl:TE}(hl:PE X l tl):PI X tg l (iList X.K tl):=by
 intro pins s σ H R I h
 refine thn (hl pins s σ H _ I h) fun v s1 zz=>?_
 obtain⟨x,H1,I1,r1,q1⟩:=zz
 obtain⟨a,e,⟨xs,hq⟩,q⟩:=q1
 subst e
 cases r1
 obtain⟨its,rv,p,hz⟩:=I1.list hq
 refine wpAny_pyIter_list p.isList ?_
 rwa[s1.heap.objs.size,[s1.heap.objs.size],_,_,H1,6,I1.kept (t':=s1.toks) fun b o e=>Heap.get?_push_of_some _ e,ki9 a _,⟨_,Heap.get?_push_size _ rfl,rfl,rfl⟩,fun b hb=>?_,q]
 have e:b=s1.heap.objs.size:=by simpa using hb
 subst e
 exact I1.fpOk (NG _) (I1.hok.fresh (NG _))
theorem kkZ{pins:List (Addr×Obj)}{σ:St}{H:Hp}{s:Shared}{R:It→Hp→Prop}{E:Value→Shared→Prop}{lo hi:Int}{t u v:Tok}{tk:Nat}(I:Inv X pins σ H s)(h1: -(2 ^ 62)≤lo)(h2:lo<2 ^ 62)(h3: -(2 ^ 62)≤hi)(h4:hi<2 ^ 62)
  (q:R (Itr lo (hi-lo).toNat) H):wpAny (model X.prog X.w) X.A (pyIter (.ref s.heap.objs.size)) (PIE X pins σ tg R) E {s with heap:=s.heap.push {cls:=.type "range",data:=.fields #[.int lo t, .int hi u, .int 1 v]},toks:=tk}:=by
 refine wpAny_pyIter_range (IsRange.new ..) (small_one h1 h2 h3 h4) ?_
 have I1:Inv X pins σ H {s with heap:=s.heap.push {cls:=.type "range",data:=.fields #[.int lo t, .int hi u, .int 1 v]},toks:=tk}:=I.kept fun b o e=>Heap.get?_push_of_some _ e
 refine⟨(s.heap.push {cls:=.type "range",data:=.fields #[.int lo t, .int hi u, .int 1 v]}).objs.size,[(s.heap.push {cls:=.type "range",data:=.fields #[.int lo t, .int hi u, .int 1 v]}).objs.size],_,_,H,rfl,
  I1.kept (t':=tk) fun b o e=>Heap.get?_push_of_some _ e,kiN _ lo (hi-lo).toNat,?_,fun b hb=>?_,q⟩
 ·have e1:lo+((0:Nat):Int)*1=lo:=by simp
  have e2:(((hi-lo).toNat:Nat):Int)-((0:Nat):Int)=Builtin.Range.rangeSize lo hi 1:=by rw[rangeSize_one];split <;> lia
  show IsRangeIter _ _ (lo+((0:Nat):Int)*1) ((((hi-lo).toNat:Nat):Int)-((0:Nat):Int)) 1
  rw[e1,e2]
  exact Heap.get?_push_size _ rfl
 ·have e:b=(s.heap.push {cls:=.type "range",data:=.fields #[.int lo t, .int hi u, .int 1 v]}).objs.size:=by simpa using hb
  subst e
  exact I1.fpOk (NG _) (I1.hok.fresh (NG _))
def iRng1(ta:TA):TI:=fun σ H R=>ta σ H fun vs H1=>∃j:Int,vs=[.int j]∧-(2 ^ 62)≤j∧j<2 ^ 62∧R (Itr 0 j.toNat) H1
theorem kcZ{a:Expr}{ta:TA}{p pos:Pos}(hg:Gl X "range")(hm:X.mg "range"=none)(ha:PA X [a] ta)(hs:autoParam (starEach [a] X.env=[(false,eval a X.env)]) jz):PI X tg (.Call (.Name "range" p) [a] [] pos) (iRng1 ta):=by
 intro pins s σ H R I h
 refine Call_ (kdK I hg hm boot_range (PyProof.Rows.callWith_type1 (thn (ha pos pins s σ H _ I h) fun us s1 zz=>?_) hs rfl))
 obtain⟨vs,H1,I1,r1,q1⟩:=zz
 obtain⟨j,e,q1,q2,q⟩:=q1
 subst e
 cases r1 with
 |cons r rr=>
  cases rr
  obtain⟨t,rfl⟩:=r
  exact call_range_1 (kkZ I1 (by lia) (by lia) q1 q2 (by simpa using q))
def tFor(wi:TI)(g:TG)(tb:TS):TS:=fun D σ H=>wi σ H fun J H1=>∃W:Nat→Nat→St→Hp→Prop,(∃m,W 0 m σ H1)∧∀i m σ H,W i m σ H→
 (J.stop i H∧D.nx σ H)∨(J.go i H∧∃N:St→Hp→Prop,(∀σ' H',N σ' H'→∃m',m'<m∧W (i+1) m' σ' H')∧∀x H',J.yld i H x H'→g x σ H' fun σ2 H2=>tb {D with nx:=N,ct:=N,bk:=D.nx} σ2 H2)
noncomputable def kij(fp:List Addr)(h:Heap):List (Addr×Obj):=fp.filterMap fun b=>(h.get? b).map fun o=>(b,o)
theorem kdf{fp:List Addr}{h:Heap}{b:Addr}{o:Obj}(hb:b∈fp)(e:h.get? b>>o):(b,o)∈kij fp h:=List.mem_filterMap.mpr ⟨b,hb,by rw[e];rfl⟩
theorem kj5{fp:List Addr}{h:Heap}{p:Addr×Obj}(hp:p∈kij fp h):p.1∈fp∧h.get? p.1>>p.2:=by
 obtain⟨b,hb,e⟩:=List.mem_filterMap.mp hp
 cases q:h.get? b with
 |none=>rw[q] at e;cases e
 |some o=>
  rw[q] at e
  have e':(b,o)=p:=Option.some.inj e
  subst e'
  rwa[hb,q]
theorem Inv.pinned{pins:List (Addr×Obj)}{σ:St}{H:Hp}{s:Shared}{fp:List Addr}(I:Inv X pins σ H s)(hf:∀b∈fp,FpOk X pins H b)(ho:∀b∈fp,∃o,s.heap.get? b>>o∧∀v,o.data≠.cell v):Inv X (pins++kij fp s.heap) σ H s:=
 I.pins_of fun p hp=>(Mj.mp hp).elim (fun z=>I.pin p (Ml _ z)) fun z=>by
  obtain⟨hb,e⟩:=kj5 z
  obtain⟨f0,f1,f2,_⟩:=hf p.1 hb
  obtain⟨o,e',d⟩:=ho p.1 hb
  rw[e] at e';cases e'
  rwa[e,f0,f1,f2,d]
theorem Inv.unpinned{pins pl:List (Addr×Obj)}{σ:St}{H:Hp}{s:Shared}(I:Inv X (pins++pl) σ H s):Inv X pins σ H s:=I.pins_of fun p hp=>I.pin p (Ml _ (Dc _ hp))
theorem kbo{iter:Expr}{body:List Stmt}{wi:TI}{g:TG}{tb:TS}{pos:Pos}(hp:PassesOwn (model X.prog X.w) X.A X.env X.xe)(hc:X.calm=true)(hi:PI X tg iter wi)(hg:PG X tg g)(hb:PSs X body tb)
  (hs:autoParam (∀x,foldedSetIterable iter X.env x=pure x) jJ):PS X (.For tg iter body [] pos) (tFor wi g tb):=by
 intro pins s σ H D I h
 refine wpAny_For (thn (hi pins s σ H _ I h) fun v s1 h1=>thn h1 fun itv s2 h2=>?_) hs
 obtain⟨it,fp,tn,J,H2,e,I2,T,st2,f2,W,⟨m0,w0⟩,turn⟩:=h2
 subst e
 have stat:∀{H':Hp},(∀b∈fp,H' b=none)→∀b∈fp,FpOk X pins H' b:=fun hn b hb=>⟨hn b hb,(f2 b hb).2⟩
 refine codeAny_forLoop_any (fun n s'=>∃i σ' H',Inv X pins σ' H' s'∧tn i s'.heap∧(∀b∈fp,H' b=none)∧W i n σ' H') ?_ m0 ⟨0,σ,H2,I2,st2,fun b hb=>(f2 b hb).1,w0⟩
 rintro n s3 ⟨i,σ3,H3,I3,st3,fr3,w3⟩
 rcases turn i n σ3 H3 w3 with⟨stop,qn⟩|⟨go,N,hN,step⟩
 ·refine wpAny_passesOwn hp (thn (T.done X rfl rfl rfl hc i pins s3 σ3 H3 X.xe I3 (stat fr3) st3 stop) fun r s4 zz=>?_)
  obtain⟨hr,I4⟩:=zz
  subst hr
  exact wpAny_execs_nil ⟨σ3,H3,I4,qn⟩
 ·refine wpAny_passesOwn hp (thn (T.item X rfl rfl rfl hc i pins s3 σ3 H3 X.xe I3 (stat fr3) st3 go) fun r s4 zz=>?_)
  obtain⟨u,hr,h4⟩:=zz
  subst hr
  refine wpAny_passesOwn hp (thn h4 fun _ s5 zz=>?_)
  obtain⟨x,H5,I5,r5,y5,st5,fr5⟩:=zz
  have I5':=I5.pinned (stat fr5) (T.obj _ _ st5)
  refine wpAny_passesOwn hp (thn (hg _ s5 σ3 H5 x u _ I5' r5 (step x H5 y5)) fun _ s6 zz=>?_)
  obtain⟨σ6,H6,I6,q6⟩:=zz
  refine wpAny_passesOwn hp (thn (hb _ s6 σ6 H6 _ I6 q6) fun f s7 q7=>?_)
  have again:∀{σ7:St}{H7:Hp},Inv X (pins++kij fp s5.heap) σ7 H7 s7→N σ7 H7→∃m,m<n∧∃i σ' H',Inv X pins σ' H' s7∧tn i s7.heap∧(∀b∈fp,H' b=none)∧W i m σ' H':=fun {σ7 H7} I7 n7=>by
   obtain⟨m',hm,w7⟩:=hN σ7 H7 n7
   rwa[m',hm,i+1,σ7,H7,I7.unpinned,T.keep _ _ _ st5 fun b hb o e=>(I7.pin (b,o) (Ml _ (Ml _ (kdf hb e)))).1,fun b hb=>?_,w7]
   obtain⟨o,e,d⟩:=T.obj _ _ st5 b hb
   exact(I7.pin (b,o) (Ml _ (Ml _ (kdf hb e)))).2.1
  cases f with
  |next=>obtain⟨σ7,H7,I7,n7⟩:=q7;exact again I7 n7
  |cont=>obtain⟨σ7,H7,I7,n7⟩:=q7;exact again I7 n7
  |brk=>obtain⟨σ7,H7,I7,q7⟩:=q7;exact⟨σ7,H7,I7.unpinned,q7⟩
  |ret v=>obtain⟨x7,σ7,H7,I7,r7,q7⟩:=q7;exact⟨x7,σ7,H7,I7.unpinned,r7,q7⟩
end
theorem ka7{K:NF}{a:Addr}{xs:List V}{g:TG}{tb:TS}{D:Ends}{σ:St}{H:Hp}(Pv:Nat→St→Hp→Prop)(h0:Pv 0 σ H)(hl:∀i σ H,i≤xs.length→Pv i σ H→SqL K H a xs)
  (hs:∀i x σ H,xs[i]?>>x→Pv i σ H→g x σ H fun σ2 H2=>tb {D with nx:=Pv (i+1),ct:=Pv (i+1),bk:=D.nx} σ2 H2)(hd:∀σ H,Pv xs.length σ H→D.nx σ H):
  ∃W:Nat→Nat→St→Hp→Prop,(∃m,W 0 m σ H)∧∀i m σ H,W i m σ H→
   ((Itl K a).stop i H∧D.nx σ H)∨((Itl K a).go i H∧∃N:St→Hp→Prop,(∀σ' H',N σ' H'→∃m',m'<m∧W (i+1) m' σ' H')∧∀x H',(Itl K a).yld i H x H'→g x σ H' fun σ2 H2=>tb {D with nx:=N,ct:=N,bk:=D.nx} σ2 H2):=by
 rwa[fun i m σ H=>m=xs.length-i∧i≤xs.length∧Pv i σ H,⟨xs.length,by simp,Mf _,h0⟩,?_]
 rintro i m σ H ⟨rfl,hi,p⟩
 have q:=hl i σ H hi p
 by_cases hlt:i<xs.length
 ·refine .inr ⟨⟨xs,xs[i],q,by simp[hlt]⟩,Pv (i+1),fun σ' H' p'=>⟨xs.length-(i+1),by lia,rfl,hlt,p'⟩,fun x H' y=>?_⟩
  obtain⟨e,y⟩:=y
  subst e
  exact hs i x σ _ (y xs q) p
 ·have e:i=xs.length:=by lia
  subst e
  exact .inl ⟨⟨xs,q,NG _⟩,hd σ H p⟩
theorem kfe{lo:Int}{n:Nat}{g:TG}{tb:TS}{D:Ends}{σ:St}{H:Hp}(Pv:Nat→St→Hp→Prop)(h0:Pv 0 σ H)
  (hs:∀i σ H,i<n→Pv i σ H→g (.int (lo+i)) σ H fun σ2 H2=>tb {D with nx:=Pv (i+1),ct:=Pv (i+1),bk:=D.nx} σ2 H2)(hd:∀σ H,Pv n σ H→D.nx σ H):
  ∃W:Nat→Nat→St→Hp→Prop,(∃m,W 0 m σ H)∧∀i m σ H,W i m σ H→
   ((Itr lo n).stop i H∧D.nx σ H)∨((Itr lo n).go i H∧∃N:St→Hp→Prop,(∀σ' H',N σ' H'→∃m',m'<m∧W (i+1) m' σ' H')∧∀x H',(Itr lo n).yld i H x H'→g x σ H' fun σ2 H2=>tb {D with nx:=N,ct:=N,bk:=D.nx} σ2 H2):=by
 rwa[fun i m σ H=>m=n-i∧i≤n∧Pv i σ H,⟨n,by simp,Mf _,h0⟩,?_]
 rintro i m σ H ⟨rfl,hi,p⟩
 by_cases hlt:i<n
 ·refine .inr ⟨hlt,Pv (i+1),fun σ' H' p'=>⟨n-(i+1),by lia,rfl,hlt,p'⟩,fun x H' y=>?_⟩
  obtain⟨e,y⟩:=y
  subst e y
  exact hs i σ _ hlt p
 ·have e:i=n:=by lia
  subst e
  exact .inl ⟨NG _,hd σ H p⟩
theorem kkT{c:TT}{tb:TS}{D:Ends}{σ:St}{H:Hp}(Pv:St→Hp→Prop)(μ:St→Hp→Nat)(h0:Pv σ H)
  (hs:∀σ H,Pv σ H→c σ H fun b H1=>if b=true then tb {D with nx:=fun σ' H'=>Pv σ' H'∧μ σ' H'< μ σ H,ct:=fun σ' H'=>Pv σ' H'∧μ σ' H'< μ σ H,bk:=D.nx} σ H1 else D.nx σ H1)
  (mono:∀σ H Q Q',(∀b H1,Q b H1→Q' b H1)→c σ H Q→c σ H Q'):klJ c tb D σ H:=by
 rwa[fun m σ H=>m= μ σ H∧Pv σ H,⟨_,rfl,h0⟩,?_]
 rintro m σ H ⟨rfl,p⟩
 refine mono σ H _ _ (fun b H1 q=>?_) (hs σ H p)
 cases b with
 |true=>exact⟨_,fun σ' H' ⟨p',l⟩=>⟨_,l,rfl,p'⟩,q⟩
 |false=>exact q
abbrev R2:=V→V→Hp→VK→Prop
def OpR(X:Cx)(f:Value→Value→Sem Value)(r:R2):Prop:=
 ∀(pins:List (Addr×Obj))(s:Shared)(σ:St)(H:Hp)(x y:V)(v u:Value)(Q:VK),Inv X pins σ H s→RelV x v→RelV y u→r x y H Q→
  wpAny (model X.prog X.w) X.A (f v u) (EP X pins σ Q) X.xe s
def UnR(X:Cx)(f:Value→Sem Value)(r:V→Hp→VK→Prop):Prop:=
 ∀(pins:List (Addr×Obj))(s:Shared)(σ:St)(H:Hp)(x:V)(v:Value)(Q:VK),Inv X pins σ H s→RelV x v→r x H Q→
  wpAny (model X.prog X.w) X.A (f v) (EP X pins σ Q) X.xe s
def CallR(X:Cx)(f:Value)(r:List V→Hp→VK→Prop):Prop:=
 ∀(pins:List (Addr×Obj))(s:Shared)(σ:St)(H:Hp)(xs:List V)(us:List Value)(Q:VK),Inv X pins σ H s→Vals xs us→r xs H Q→
  wpAny (model X.prog X.w) X.A (call f us) (EP X pins σ Q) X.xe s
def tOp(r:R2)(ta tb:TE):TE:=fun σ H Q=>ta σ H fun x H1=>tb σ H1 fun y H2=>r x y H2 Q
def tUn(r:V→Hp→VK→Prop)(ta:TE):TE:=fun σ H Q=>ta σ H fun x H1=>r x H1 Q
def rI(C:Int→Int→Prop)(g:Int→Int→V):R2:=fun x y H Q=>∃i j,x=.int i∧y=.int j∧C i j∧Q (g i j) H
def rI0(g:Int→Int→V):R2:=fun x y H Q=>∃i j,x=.int i∧y=.int j∧Q (g i j) H
def rU(g:Int→V):V→Hp→VK→Prop:=fun x H Q=>∃i,x=.int i∧Q (g i) H
section
variable{X:Cx}{a b c:Expr}{ta tb tc:TE}{pos:Pos}
theorem binT(ha:PE X a ta)(hb:PE X b tb){pins:List (Addr×Obj)}{s:Shared}{σ:St}{H:Hp}{R:V→V→Hp→Prop}(I:Inv X pins σ H s)
  (h:ta σ H fun x H1=>tb σ H1 fun y H2=>R x y H2){Q:Value→Shared→Prop}{f:Value→Value→Sem Value}
  (hf:∀v u s2 x y H2,Inv X pins σ H2 s2→RelV x v→RelV y u→R x y H2→wpAny (model X.prog X.w) X.A (f v u) Q X.xe s2):
  wpAny (model X.prog X.w) X.A (eval a X.env) (fun v s₁=>wpAny (model X.prog X.w) X.A (eval b X.env) (fun u s₂=>wpAny (model X.prog X.w) X.A (f v u) Q X.xe s₂) X.xe s₁) X.xe s:=by
 refine thn (ha pins s σ H _ I h) fun v s1 zz=>?_
 obtain⟨x,H1,I1,r1,q1⟩:=zz
 refine thn (hb pins s1 σ H1 _ I1 q1) fun u s2 zz=>?_
 obtain⟨y,H2,I2,r2,q2⟩:=zz
 exact hf v u s2 x y H2 I2 r1 r2 q2
theorem pe_op{op:Operator}{r:R2}(ho:OpR X (binaryOp op) r)(ha:PE X a ta)(hb:PE X b tb):PE X (.BinOp a op b pos) (tOp r ta tb):=by
 intro pins s σ H Q I h
 exact wpAny_BinOp (binT ha hb I h fun v u s2 x y H2 I2 rx ry q=>ho pins s2 σ H2 x y v u Q I2 rx ry q)
theorem pe_un{op:UnaryOp}{r:V→Hp→VK→Prop}(ho:UnR X (unaryOp op) r)(ha:PE X a ta):PE X (.UnaryOp op a pos) (tUn r ta):=by
 intro pins s σ H Q I h
 exact UnaryOp_ (thn (ha pins s σ H _ I h) fun v s1 ⟨x,H1,I1,r1,q1⟩=>ho pins s1 σ H1 x v Q I1 r1 q1)
theorem opI{f:Value→Value→Sem Value}{C:Int→Int→Prop}{g:Int→Int→Int}
  (rule:∀(i j:Int)(t u:Tok)(s:Shared)(Q:Value→Shared→Prop)(E:Value→Shared→Prop),C i j→Q (.int (g i j) s.toks) {s with toks:=s.toks+1}→wpAny (model X.prog X.w) X.A (f (.int i t) (.int j u)) Q E s):
  OpR X f (rI C fun i j=>.int (g i j)):=by
 intro pins s σ H x y v u Q I rx ry h
 obtain⟨i,j,rfl,rfl,hc,q⟩:=h
 obtain⟨t,rfl⟩:=rx
 obtain⟨t',rfl⟩:=ry
 exact rule i j t t' s _ _ hc ⟨.int (g i j),H,I.tok _,⟨_,rfl⟩,q⟩
theorem opI0{f:Value→Value→Sem Value}{g:Int→Int→Int}
  (rule:∀(i j:Int)(t u:Tok)(s:Shared)(Q:Value→Shared→Prop)(E:Value→Shared→Prop),Q (.int (g i j) s.toks) {s with toks:=s.toks+1}→wpAny (model X.prog X.w) X.A (f (.int i t) (.int j u)) Q E s):
  OpR X f (rI0 fun i j=>.int (g i j)):=by
 intro pins s σ H x y v u Q I rx ry h
 obtain⟨i,j,rfl,rfl,q⟩:=h
 obtain⟨t,rfl⟩:=rx
 obtain⟨t',rfl⟩:=ry
 exact rule i j t t' s _ _ ⟨.int (g i j),H,I.tok _,⟨_,rfl⟩,q⟩
theorem opB0{f:Value→Value→Sem Value}{g:Int→Int→Bool}
  (rule:∀(i j:Int)(t u:Tok)(s:Shared)(Q:Value→Shared→Prop)(E:Value→Shared→Prop),Q (.bool (g i j)) s→wpAny (model X.prog X.w) X.A (f (.int i t) (.int j u)) Q E s):
  OpR X f (rI0 fun i j=>.bl (g i j)):=by
 intro pins s σ H x y v u Q I rx ry h
 obtain⟨i,j,rfl,rfl,q⟩:=h
 obtain⟨t,rfl⟩:=rx
 obtain⟨t',rfl⟩:=ry
 exact rule i j t t' s _ _ ⟨.bl (g i j),H,I,rfl,q⟩
def CDiv(i j:Int):Prop:=0<j∧j<1073741824
def CMul(i j:Int):Prop:=(-(2 ^ 64)<i∧i<2 ^ 64)∨(-(2 ^ 64)<j∧j<2 ^ 64)
theorem CMul.ok{i j:Int}(h:CMul i j):IntMulOk i j:=by
 rcases h with⟨h1,h2⟩|⟨h1,h2⟩
 ·exact .of_left (intBits_le_64 h1 h2)
 ·exact .of_right (intBits_le_64 h1 h2)
theorem kbu:OpR X (binaryOp .Add) (rI0 fun i j=>.int (i+j)):=opI0 fun _ _ _ _ _ _ _ q=>add_int q
theorem kcy:OpR X (binaryOp .Sub) (rI0 fun i j=>.int (i-j)):=opI0 fun _ _ _ _ _ _ _ q=>sub_int q
theorem kdD:OpR X (binaryOp .Mult) (rI CMul fun i j=>.int (i*j)):=opI fun _ _ _ _ _ _ _ hc q=>mul_int q hc.ok
theorem kaB:OpR X (binaryOp .FloorDiv) (rI CDiv fun i j=>.int (i/j)):=opI fun i j _ _ _ _ _ hc q=>by
 have h1:(0:Int)<j:=hc.1
 have h2:j<1073741824:=hc.2
 exact floordiv_int (by lia) (by rw[Int.fdiv_eq_ediv_of_nonneg i (by lia)];exact q) (.inl (PyProof.noPylong_small (by lia)))
theorem kaA:OpR X (binaryOp .Mod) (rI (fun _ j=>0<j) fun i j=>.int (i%j)):=opI fun i j _ _ _ _ _ hc q=>by
 have h1:(0:Int)<j:=hc
 exact mod_int' (by lia) (by rw[Int.fmod_eq_emod_of_nonneg i (by lia)];exact q)
theorem unI{f:Value→Sem Value}{g:Int→Int}
  (rule:∀(i:Int)(t:Tok)(s:Shared)(Q:Value→Shared→Prop)(E:Value→Shared→Prop),Q (.int (g i) s.toks) {s with toks:=s.toks+1}→wpAny (model X.prog X.w) X.A (f (.int i t)) Q E s):
  UnR X f (rU fun i=>.int (g i)):=by
 intro pins s σ H x v Q I rx h
 obtain⟨i,rfl,q⟩:=h
 obtain⟨t,rfl⟩:=rx
 exact rule i t s _ _ ⟨.int (g i),H,I.tok _,⟨_,rfl⟩,q⟩
theorem ki7:UnR X (unaryOp .USub) (rU fun i=>.int (-i)):=unI fun _ _ _ _ _ q=>neg_int q
end
noncomputable def scal:V→V→Bool
 | .non, .non=>true| .non, .int _=>true| .int _, .non=>true| .non, .bl _=>true| .bl _, .non=>true| .non, .str _=>true| .str _, .non=>true
 | .int _, .int _=>true| .bl _, .bl _=>true| .str _, .str _=>true| .byt _, .byt _=>true
 | .int _, .str _=>true| .str _, .int _=>true| .bl _, .str _=>true| .str _, .bl _=>true
 |_,_=>false
def rEq:R2:=fun x y H Q=>scal x y=true∧Q (.bl (decide (x=y))) H
def rNe:R2:=fun x y H Q=>scal x y=true∧Q (.bl (!decide (x=y))) H
def kkF{i j:Int}:decide (V.int i=V.int j)=(i==j):=by
 rw[EK]
 simp
def kl7{i j:Bool}:decide (V.bl i=V.bl j)=(i==j):=by
 rw[EK]
 simp
def kkE{i j:Str}:decide (V.str i=V.str j)=(i==j):=by
 rw[EK]
 simp
def kkG{i j:Array UInt8}:decide (V.byt i=V.byt j)=(i.toList==j.toList):=by
 rw[EK]
 cases i
 cases j
 simp
section
variable{X:Cx}{a b c:Expr}{ta tb tc:TE}{pos:Pos}
theorem kaV{pins:List (Addr×Obj)}{σ:St}{H:Hp}{s:Shared}{Q:VK}{k k':Bool}(I:Inv X pins σ H s)(q:Q (.bl k) H)(e:k=k'):EP X pins σ Q (.bool k') s:=by
 subst e
 rwa[.bl k,H,I,6,q]
theorem op_eq:OpR X (compareOp .Eq) rEq:=by
 intro pins s σ H x y v u Q I rx ry h
 obtain⟨hs,q⟩:=h
 cases x with
 |non=>
  cases rx
  cases y with
  |non=>cases ry;exact PySem.EqNone.eq_none_none (kaV I q (by simp))
  |bl j=>cases ry;exact PySem.EqNone.eq_none_bool (kaV I q (by simp))
  |int j=>obtain⟨t',rfl⟩:=ry;exact PySem.EqNone.eq_none_int (kaV I q (by simp))
  |str j=>obtain⟨t',rfl⟩:=ry;exact PySem.EqNone.eq_none_str (kaV I q (by simp))
  |_=>exact absurd (show false=true from hs) NP
 |bl i=>
  cases rx
  cases y with
  |non=>cases ry;exact PySem.EqNone.eq_bool_none (kaV I q (by simp))
  |bl j=>cases ry;exact eq_bool (kaV I q kl7)
  |str j=>obtain⟨t',rfl⟩:=ry;exact PySem.EqMixed.eq_bool_str (kaV I q (by simp))
  |_=>exact absurd (show false=true from hs) NP
 |int i=>
  obtain⟨t,rfl⟩:=rx
  cases y with
  |non=>cases ry;exact PySem.EqNone.eq_int_none (kaV I q (by simp))
  |int j=>obtain⟨t',rfl⟩:=ry;exact eq_int (kaV I q kkF)
  |str j=>obtain⟨t',rfl⟩:=ry;exact PySem.EqMixed.eq_int_str (kaV I q (by simp))
  |_=>exact absurd (show false=true from hs) NP
 |str i=>
  obtain⟨t,rfl⟩:=rx
  cases y with
  |non=>cases ry;exact PySem.EqNone.eq_str_none (kaV I q (by simp))
  |bl j=>cases ry;exact PySem.EqMixed.eq_str_bool (kaV I q (by simp))
  |int j=>obtain⟨t',rfl⟩:=ry;exact PySem.EqMixed.eq_str_int (kaV I q (by simp))
  |str j=>obtain⟨t',rfl⟩:=ry;exact eq_str (kaV I q kkE)
  |_=>exact absurd (show false=true from hs) NP
 |byt i=>
  obtain⟨t,rfl⟩:=rx
  cases y with
  |byt j=>obtain⟨t',rfl⟩:=ry;exact PySem.W.eq_bytes (kaV I q kkG)
  |_=>exact absurd (show false=true from hs) NP
 |_=>cases y <;> exact absurd (show false=true from hs) NP
theorem op_ne:OpR X (compareOp .NotEq) rNe:=by
 intro pins s σ H x y v u Q I rx ry h
 obtain⟨hs,q⟩:=h
 cases x with
 |non=>
  cases rx
  cases y with
  |non=>cases ry;exact PySem.EqNone.ne_none_none (kaV I q (by simp))
  |bl j=>cases ry;exact PySem.EqNone.ne_none_bool (kaV I q (by simp))
  |int j=>obtain⟨t',rfl⟩:=ry;exact PySem.EqNone.ne_none_int (kaV I q (by simp))
  |str j=>obtain⟨t',rfl⟩:=ry;exact PySem.EqNone.ne_none_str (kaV I q (by simp))
  |_=>exact absurd (show false=true from hs) NP
 |bl i=>
  cases rx
  cases y with
  |non=>cases ry;exact PySem.EqNone.ne_bool_none (kaV I q (by simp))
  |bl j=>cases ry;exact ne_bool (kaV I q (congrArg not kl7))
  |str j=>obtain⟨t',rfl⟩:=ry;exact PySem.EqMixed.ne_bool_str (kaV I q (by simp))
  |_=>exact absurd (show false=true from hs) NP
 |int i=>
  obtain⟨t,rfl⟩:=rx
  cases y with
  |non=>cases ry;exact PySem.EqNone.ne_int_none (kaV I q (by simp))
  |int j=>obtain⟨t',rfl⟩:=ry;exact ne_int (kaV I q (congrArg not kkF))
  |str j=>obtain⟨t',rfl⟩:=ry;exact PySem.EqMixed.ne_int_str (kaV I q (by simp))
  |_=>exact absurd (show false=true from hs) NP
 |str i=>
  obtain⟨t,rfl⟩:=rx
  cases y with
  |non=>cases ry;exact PySem.EqNone.ne_str_none (kaV I q (by simp))
  |bl j=>cases ry;exact PySem.EqMixed.ne_str_bool (kaV I q (by simp))
  |int j=>obtain⟨t',rfl⟩:=ry;exact PySem.EqMixed.ne_str_int (kaV I q (by simp))
  |str j=>obtain⟨t',rfl⟩:=ry;exact ne_str (kaV I q (congrArg not kkE))
  |_=>exact absurd (show false=true from hs) NP
 |byt i=>
  obtain⟨t,rfl⟩:=rx
  cases y with
  |byt j=>obtain⟨t',rfl⟩:=ry;exact PySem.W.ne_bytes (kaV I q (congrArg not kkG))
  |_=>exact absurd (show false=true from hs) NP
 |_=>cases y <;> exact absurd (show false=true from hs) NP
theorem op_lt:OpR X (compareOp .Lt) (rI0 fun i j=>.bl (decide (i<j))):=opB0 fun _ _ _ _ _ _ _ q=>lt_int q
theorem op_le:OpR X (compareOp .LtE) (rI0 fun i j=>.bl (decide (i≤j))):=opB0 fun _ _ _ _ _ _ _ q=>le_int q
theorem op_gt:OpR X (compareOp .Gt) (rI0 fun i j=>.bl (decide (j<i))):=opB0 fun _ _ _ _ _ _ _ q=>gt_int q
theorem keb:OpR X (compareOp .Is) (fun x y H Q=>y=.non∧Q (.bl (decide (x=.non))) H):=by
 intro pins s σ H x y v u Q I rx ry h
 obtain⟨rfl,q⟩:=h
 cases ry
 refine is_none_gen (kaV I q ?_)
 cases x <;> first
  |(cases rx;rfl)
  |(obtain⟨t,rfl⟩:=rx;rfl)
theorem kdZ:OpR X (compareOp .IsNot) (fun x y H Q=>y=.non∧Q (.bl (!decide (x=.non))) H):=by
 intro pins s σ H x y v u Q I rx ry h
 obtain⟨rfl,q⟩:=h
 cases ry
 refine isnot_none_gen (kaV I q ?_)
 cases x <;> first
  |(cases rx;rfl)
  |(obtain⟨t,rfl⟩:=rx;rfl)
theorem kau(b:Expr){op:CmpOp}(h:autoParam (op≠.In) jQ)(h2:autoParam (op≠.NotIn) jQ):behindInMarks op b=false:=by
 have e1:(op==CmpOp.In)=false:=by cases op <;> first|rfl|exact absurd rfl h
 have e2:(op==CmpOp.NotIn)=false:=by cases op <;> first|rfl|exact absurd rfl h2
 cases b <;> simp[behindInMarks,e1,e2]
theorem kbY{op:CmpOp}{r:R2}(ho:OpR X (compareOp op) r)(ha:PE X a ta)(hb:PE X b tb)(hm:behindInMarks op b=false):PE X (.Compare a [op] [b] pos) (tOp r ta tb):=by
 intro pins s σ H Q I h
 exact wpAny_Compare1 (binT ha hb I h fun v u s2 x y H2 I2 rx ry q=>ho pins s2 σ H2 x y v u Q I2 rx ry q) hm
def tTest(t:TE):TT:=fun σ H Q=>t σ H fun x H'=>∃k,x=.bl k∧Q k H'
theorem kan{op:CmpOp}{r:R2}(ho:OpR X (compareOp op) r)(ha:PE X a ta)(hb:PE X b tb)(hm:behindInMarks op b=false):PT X (.Compare a [op] [b] pos) (tTest (tOp r ta tb)):=by
 intro pins s σ H Q I h
 refine wpAny_isTrue_Compare1 (thn (ha pins s σ H _ I h) fun v s1 ⟨x,H1,I1,r1,q1⟩=>thn (hb pins s1 σ H1 _ I1 q1) fun u s2 ⟨y,H2,I2,r2,q2⟩=>
  thn (ho pins s2 σ H2 x y v u _ I2 r1 r2 q2) fun c s3 ⟨z,H3,I3,r3,k,e,q3⟩=>?_) hm
 subst e
 cases r3
 exact wpAny_truthy_bool ⟨H3,I3,q3⟩
def kmZ(r r':R2)(ta tb tc:TE):TE:=fun σ H Q=>ta σ H fun x H1=>tb σ H1 fun y H2=>r x y H2 fun z H3=>∃k,z=.bl k∧
 (if k=true then tc σ H3 fun w' H4=>r' y w' H4 Q else Q (.bl false) H3)
theorem kil{op op':CmpOp}{r r':R2}(ho:OpR X (compareOp op) r)(ho':OpR X (compareOp op') r')(ha:PE X a ta)(hb:PE X b tb)(hc:PE X c tc)
  (hm:lastMarks [op,op'] [b,c]=false:=by with_unfolding_all rfl):PE X (.Compare a [op,op'] [b,c] pos) (kmZ r r' ta tb tc):=by
 intro pins s σ H Q I h
 refine Compare_chain (thn (ha pins s σ H _ I h) fun v s1 ⟨x,H1,I1,r1,q1⟩=>chain_link (thn (hb pins s1 σ H1 _ I1 q1) fun u s2 ⟨y,H2,I2,r2,q2⟩=>
  thn (ho pins s2 σ H2 x y v u _ I2 r1 r2 q2) fun d s3 ⟨z,H3,I3,r3,k,e,q3⟩=>?_)) hm
 subst e
 cases r3
 refine wpAny_truthy_bool ?_
 cases k with
 |false=>exact ite_ff ⟨.bl false,H3,I3,rfl,q3⟩
 |true=>exact ite_tt (chain_last (thn (hc pins s3 σ H3 _ I3 q3) fun w' s4 ⟨z',H4,I4,r4,q4⟩=>ho' pins s4 σ H4 y z' u w' Q I4 r2 r4 q4))
theorem kg4:(sizeLine:Nat)<2 ^ 63:=by rw[sizeLine_eq];decide
theorem vals1{x:V}{us:List Value}(r:Vals [x] us):∃u,us=[u]∧RelV x u:=by
 cases r with
 |cons r1 r2=>cases r2;exact⟨_,rfl,r1⟩
theorem vals2{x y:V}{us:List Value}(r:Vals [x,y] us):∃u w',us=[u,w']∧RelV x u∧RelV y w':=by
 cases r with
 |cons r1 r2=>
  cases r2 with
  |cons r3 r4=>cases r4;exact⟨_,_,rfl,r1,r3⟩
theorem kcC(hc:X.calm=true):CallR X (.builtin "max") (fun xs H Q=>∃i j,xs=[.int i, .int j]∧Q (.int (if j > i then j else i)) H):=by
 intro pins s σ H xs us Q I r h
 obtain⟨i,j,rfl,q⟩:=h
 obtain⟨u,w',rfl,⟨t,rfl⟩,⟨t',rfl⟩⟩:=vals2 r
 refine max_two_ints (I.ok.hd hc) fun h' tk k=>⟨_,H,I.kept k,?_,q⟩
 by_cases hj:j > i
 ·rw[if_pos hj,if_pos hj];exact⟨_,rfl⟩
 ·rw[if_neg hj,if_neg hj];exact⟨_,rfl⟩
theorem kdc(hc:X.calm=true):CallR X (.builtin "min") (fun xs H Q=>∃i j,xs=[.int i, .int j]∧Q (.int (if j<i then j else i)) H):=by
 intro pins s σ H xs us Q I r h
 obtain⟨i,j,rfl,q⟩:=h
 obtain⟨u,w',rfl,⟨t,rfl⟩,⟨t',rfl⟩⟩:=vals2 r
 refine min_two_ints (I.ok.hd hc) fun h' tk k=>⟨_,H,I.kept k,?_,q⟩
 by_cases hj:j<i
 ·rw[if_pos hj,if_pos hj];exact⟨_,rfl⟩
 ·rw[if_neg hj,if_neg hj];exact⟨_,rfl⟩
end
structure ObjM(h:Heap)(x dx C:Addr)(mA:Str→Option Value):Prop where
 obj:h.get? x>>(M1 C dx)
 ns:h.Ns1 dx mA
 ne:dx≠x
def kka{h:Heap}{dx:Addr}{mA:Str→Option Value}(n:h.Ns1 dx mA):∃od,h.get? dx>>od∧∀name,EL name od>>(mA name):=by
 obtain⟨o,es,ep,ho,hd,hk,_,hm⟩:=n
 rwa[o,ho,fun name=>?_]
 have e:=hm name
 unfold nsFind findBy at e
 rw[←Array.find?_toList] at e
 unfold EL
 rw[hd]
 dsimp only
 split
 ·rename_i y q
  rw[q] at e
  exact congrArg some e
 ·rename_i q
  rw[q] at e
  have a:es.toList.any (·.refKey)=false:=by
   rw[List.any_eq_false]
   intro y hy
   obtain⟨z,t,hkey⟩:=hk y (Array.mem_toList_iff.mp hy)
   simp[DictEntry.refKey,hkey]
  have a':¬es.toList.any (·.refKey)=true:=by rw[a];exact NP
  rw[if_neg a']
  exact congrArg some e
def ObjM.look{h:Heap}{x dx C:Addr}{mA:Str→Option Value}(I:ObjM h x dx C mA):∃od,PySem.W.InstAt h x (M1 C dx) C (some od)∧∀name,EL name od>>(mA name):=
 let⟨od,ho,hl⟩:=kka I.ns
 ⟨od,⟨I.obj,rfl,rfl,ho⟩,hl⟩
section
variable{prog:Program}{w:World}{A:Around}{E:Value→Shared→Prop}{s:Shared}{K:NF}{x dx C f:Addr}{mA:Str→Option Value}{name:Str}{v:Value}
theorem get_map{expr:Bool}{Q:Value→Shared→Prop}(X:K.In s.heap)(I:ObjM s.heap x dx C mA)(hg:Mm K C name=true)(hh:Mp K C=true)
  (ha:NH K (.ref C) name>>none)(hv:mA name>>v)(hv':PySem.W.handedIn v=true)(h:Q v {s with toks:=s.toks+1}):
  wpAny (model prog w) A (getAttr (.ref x) name expr) Q E s:=by
 obtain⟨od,J,hl⟩:=I.look
 exact PySem.W.get_value X J (De hg).1 (PySem.W.findObj_own hh ha rfl (by rw[hl,hv])) hv' h
theorem kls{pl:Sem Bool}{Q:Value×List Value→Shared→Prop}(X:K.In s.heap)(I:ObjM s.heap x dx C mA)(hg:Mm K C name=true)
  (hf:NH K (.ref C) name>>(some (.ref f)))(ht:Mw K (.ref f)=true)(hv:mA name=none)(h:Q (.ref f,[.ref x]) s):
  wpAny (model prog w) A (getMethod (.ref x) name pl) Q E s:=by
 obtain⟨od,J,hl⟩:=I.look
 exact PySem.W.method_fn X J (De hg).1 (De hg).2 hf (beq_iff_eq.mp ht) (by show(EL name od).map (·.isSome)>>false;rw[hl,hv];rfl) h
theorem kmo{ns:List Str}{Q:Unit→Shared→Prop}(X:K.In s.heap)(I:ObjM s.heap x dx C mA)
  (hs:NH K (.ref C) "__setattr__">>(some (.builtin "object.__setattr__")))(hp:Mu K C=true)(ht:Df K C name>>none)(hh:Mp K C=true)
  (hw:PySem.Within mA ns)(hsz:ns.length≤sizeLine)
  (h:∀h',ObjM h' x dx C (fun y=>if y=name then some v else mA y)→Heap.SameBut dx s.heap h'→Q () {s with heap:=h',toks:=s.toks+2}):
  wpAny (model prog w) A (setAttr (.ref x) name v) Q E s:=by
 obtain⟨od,J,hl⟩:=I.look
 refine PySem.W.set_plain X J hs (PySem.W.osa_open (s:={s with toks:=s.toks+1}) (r:=none) X J hp ht fun b=>?_)
 obtain⟨cd,hc,hd'⟩:=PySem.W.any_some hh
 have hx:s.heap.get? x>>⟨.ref C,some dx, .plain,#[]⟩:=I.obj
 refine wpAny_bind (wpAny_pure (wpAny_bind (wpAny_bind (wpAny_loadPart hx (wpAny_bind (Dg.here (s:={s with toks:=s.toks+1}) (PySem.W.looks_clsIn X hc) ?_))))))
 rw[hd']
 refine wpAny_pure (a:=some dx) (wpAny_bind (wpAny_pure (wpAny_bind ?_)))
 refine wpAny_nsSet1 (s:={s with toks:=s.toks+1}) I.ns fun h' hn2 hs2=>?_
 obtain⟨oD,esD,epD,hoD,hdD,hcD⟩:=hn2.count (PySem.Within.cons name v hw)
 refine wpAny_bind (wpAny_lookBehind hoD (by rw[hdD];exact pastItsLine_dict (NJ hcD (by rw[Md];lia))) ?_)
 exact wpAny_pure (h _ ⟨(hs2.2 _ (Ne.symm I.ne)).trans I.obj,hn2,I.ne⟩ hs2)
theorem klh{R:Result→Shared→Prop}{vs:List Value}{kw:List (Str×Value)}(X:K.In s.heap)(hm:Mq K C=true)
  (hi:NH K (.ref C) "__init__">>(some (.ref f)))(hf:Mn K (.ref f)>>(.type "function"))
  (h:codeAny (model prog w) (A.under (.builtin "type.__call__" ⟨.ref C::vs,kw⟩)) (.call (.ref f) ⟨.ref (s.heap.objs.size+1)::vs,kw⟩) (PySem.W.InitBack (s.heap.objs.size+1) R)
   {s with heap:=(s.heap.push MW).push (M1 C s.heap.objs.size)}):
  codeAny (model prog w) A (.call (.ref C) ⟨vs,kw⟩) R s:=by
 obtain⟨hh,g,d,t,os⟩:=s
 exact PySem.W.make_core (PySem.W.makes_of X hm) (PySem.W.looks_findIn X hi) (fun self=>PySem.W.bind_fn X self hf) (.inl rfl) h
end
noncomputable def putF(f:Str)(v:V):List (Str×V)→List (Str×V)
 |[]=>[(f,v)]
 |(g,x)::r=>if g=f then(g,v)::r else(g,x)::putF f v r
theorem kac(f g:Str)(v:V):∀fs:List (Str×V),(putF f v fs).lookup g=if g=f then some v else fs.lookup g
 | []=>by
  show MB g [(f,v)]=_
  by_cases h:g=f
  ·have hb:(g==f)=true:=beq_iff_eq.mpr h
   simp only[MB,hb,if_pos h]
  ·have hb:(g==f)=false:=beq_eq_false_iff_ne.mpr h
   simp only[MB,hb,if_neg h]
 | (k,x)::r=>by
  have ih:=kac f g v r
  rw[show putF f v ((k,x)::r)=(if k=f then(k,v)::r else(k,x)::putF f v r) from rfl]
  by_cases hk:k=f
  ·rw[if_pos hk]
   by_cases h:g=k
   ·have hb:(g==k)=true:=beq_iff_eq.mpr h
    simp only[MB,hb,if_pos (h.trans hk)]
   ·have hb:(g==k)=false:=beq_eq_false_iff_ne.mpr h
    simp only[MB,hb,if_neg (fun e:g=f=>h (e.trans hk.symm))]
  ·rw[if_neg hk]
   by_cases h:g=k
   ·have hb:(g==k)=true:=beq_iff_eq.mpr h
    simp only[MB,hb,if_neg (fun e:g=f=>hk (h.symm.trans e))]
   ·have hb:(g==k)=false:=beq_eq_false_iff_ne.mpr h
    simp only[MB,hb]
    exact ih
theorem kfc(f:Str)(v:V):∀fs:List (Str×V),f∈(putF f v fs).map (·.1)∧∀g,g∈fs.map (·.1)→g∈(putF f v fs).map (·.1)
 |[]=>⟨by simp[putF],fun g h=>by simp at h⟩
 | (k,x)::r=>by
  obtain⟨i1,i2⟩:=kfc f v r
  rw[show putF f v ((k,x)::r)=(if k=f then(k,v)::r else(k,x)::putF f v r) from rfl]
  by_cases hk:k=f
  ·rw[if_pos hk]
   subst hk
   rwa[by simp,fun g h=>by simpa using h]
  ·rw[if_neg hk]
   rwa[?_,fun g h=>?_]
   ·rw[NW]
    exact N2 _ i1
   ·rw[NW] at h⊢
    rcases N5.mp h with e|e
    ·exact N5.mpr (.inl e)
    ·exact N2 _ (i2 g e)
theorem kfb(f:Str)(v:V):∀fs:List (Str×V),(putF f v fs).length≤fs.length+1
 |[]=>by simp[putF]
 |(k,x)::r=>by
  have ih:=kfb f v r
  rw[show putF f v ((k,x)::r)=(if k=f then(k,v)::r else(k,x)::putF f v r) from rfl]
  by_cases hk:k=f
  ·rw[if_pos hk,Md,Md];lia
  ·rw[if_neg hk,Md,Md];lia
theorem RelO.some_of{v:V}{o:Option Value}(r:RelO (some v) o):∃u,o>>u∧RelV v u:=by
 cases o with
 |none=>exact(show False from r).elim
 |some u=>exact⟨u,rfl,r⟩
theorem RelO.none_of{o:Option Value}(r:RelO none o):o=none:=by
 cases o with
 |none=>rfl
 |some u=>exact(show False from r).elim
theorem kkn{v:V}{u:Value}(r:RelV v u):PySem.W.handedIn u=true:=by
 cases v with
 |non=>cases(show u=Value.none from r);rfl
 |bl b=>cases(show u=Value.bool b from r);rfl
 |int i=>obtain⟨t,e⟩:=(show ∃t,u=Value.int i t from r);cases e;rfl
 |str x=>obtain⟨t,e⟩:=(show ∃t,u=Value.str x t from r);cases e;rfl
 |byt b=>obtain⟨t,e⟩:=(show ∃t,u=Value.bytes b t from r);cases e;rfl
 |flt b=>obtain⟨t,e⟩:=(show ∃t,u=Value.float b t from r);cases e;rfl
 |ref a=>cases(show u=Value.ref a from r);rfl
 |ty n=>cases(show u=Value.type n from r);rfl
section
variable{P:Program}{w:World}{H H':Hp}{h h':Heap}{a C dx:Addr}{fs fs':List (Str×V)}
theorem kgn(hok:HOk P w H h)(e:H a>>(.ins C dx fs)):∃mA,ObjM h a dx C mA∧(∀f,RelO (fs.lookup f) (mA f))∧PySem.Within mA (fs.map (·.1))∧fs.length≤1000∧H dx>>(.own a):=by
 obtain⟨d,z,ne,ob,mA,n,r,q⟩:=(show ObjOk P w H h a (.ins C dx fs) from hok a _ e)
 rwa[mA,⟨ob,n,ne⟩,r,q,z,d]
end
structure Cls(K:NF)(C:Addr):Prop where
 pg:Mm K C Str.empty=true
 hd:Mp K C=true
 po:Mu K C=true
 sa:NH K (.ref C) "__setattr__">>(some (.builtin "object.__setattr__"))
def Cls.get{K:NF}{C:Addr}(c:Cls K C)(f:Str):Mm K C f=true:=c.pg
def NoAttr(K:NF)(C:Addr)(f:Str):Prop:=NH K (.ref C) f>>none
def NoAttr.taker{K:NF}{C:Addr}{f:Str}(n:NoAttr K C f):Df K C f>>none:=by
 unfold Df
 rw[show NH K (.ref C) f>>none from n]
 rfl
structure Meth(K:NF)(C:Addr)(m:Str)(f:Addr):Prop where
 at_:NH K (.ref C) m>>(some (.ref f))
 fn:Mw K (.ref f)=true
 kp:NZ K (.ref f)=true
section
variable{X:Cx}{pins:List (Addr×Obj)}{σ:St}{H:Hp}{s:Shared}{a C dx:Addr}{fs:List (Str×V)}{f:Str}{v:V}{A:Around}{E:Value→Shared→Prop}
theorem kfJ{b:Bool}{Q:Value→Shared→Prop}(I:Inv X pins σ H s)(e:H a>>(.ins C dx fs))(c:Cls X.K C)(n:NoAttr X.K C f)(l:fs.lookup f>>v)
  (h:∀u s',Inv X pins σ H s'→RelV v u→Q u s'):wpAny (model X.prog X.w) A (getAttr (.ref a) f b) Q E s:=by
 obtain⟨mA,O,r,_,_,_⟩:=kgn I.hok e
 obtain⟨u,hu,ru⟩:=RelO.some_of (v:=v) (o:=mA f) (by rw[←l];exact r f)
 exact get_map I.kIn O (c.get f) c.hd n hu (kkn ru) (h u _ (I.tok _) ru)
theorem kd6{m:Str}{g:Addr}{pl:Sem Bool}{Q:Value×List Value→Shared→Prop}(I:Inv X pins σ H s)(e:H a>>(.ins C dx fs))(c:Cls X.K C)(k:Meth X.K C m g)(l:fs.lookup m=none)
  (h:Q (.ref g,[.ref a]) s):wpAny (model X.prog X.w) A (getMethod (.ref a) m pl) Q E s:=by
 obtain⟨mA,O,r,_,_,_⟩:=kgn I.hok e
 have hn:mA m=none:=RelO.none_of (by rw[←l];exact r m)
 exact kls I.kIn O (c.get m) k.at_ k.fn hn h
theorem kfA{y:V}{u:Value}{Q:Unit→Shared→Prop}(I:Inv X pins σ H s)(e:H a>>(.ins C dx fs))(c:Cls X.K C)(n:NoAttr X.K C f)(hl:fs.length<1000)(ry:RelV y u)
  (h:∀s',Inv X pins σ (upd H a (.ins C dx (putF f y fs))) s'→Q () s'):wpAny (model X.prog X.w) A (setAttr (.ref a) f u) Q E s:=by
 obtain⟨mA,O,r,wi,_,ho⟩:=kgn I.hok e
 have hz:(fs.map (·.1)).length≤sizeLine:=by rw[ND,sizeLine_eq];lia
 refine kmo I.kIn O c.sa c.po n.taker c.hd wi hz fun h' O' sb=>h _ ?_
 have hd:∃o,h'.get? dx>>o:=let⟨o,_,_,e',_⟩:=O'.ns;⟨o,e'⟩
 refine I.write (x:=a) (e:=dx) (by rw[e];exact True.intro) (.inr ho) (fun b q hb z=>(sb.2 b hb).trans z) hd ?_
 rwa[by rw[kak O.ne];exact ho,?_,O.ne,O'.obj,_,O'.ns,fun g=>?_,fun g hg=>?_]
 ·have:=kfb f y fs;lia
 ·show RelO ((putF f y fs).lookup g) (if g=f then some u else mA g)
  rw[kac]
  by_cases q:g=f
  ·rw[if_pos q,if_pos q];exact ry
  ·rw[if_neg q,if_neg q];exact r g
 ·by_cases q:g=f
  ·rw[q];exact(kfc f y fs).1
  ·refine(kfc f y fs).2 g (wi g fun z=>hg ?_)
   show(if g=f then some u else mA g)=none
   rw[if_neg q];exact z
theorem Inv.made(I:Inv X pins σ H s):Inv X pins σ (upd (upd H s.heap.objs.size (.own (s.heap.objs.size+1))) (s.heap.objs.size+1) (.ins C s.heap.objs.size []))
  {s with heap:=(s.heap.push MW).push (M1 C s.heap.objs.size)}:=by
 have e1:(s.heap.push MW).get? s.heap.objs.size>>MW:=Heap.get?_push_size s.heap rfl
 have e2:((s.heap.push MW).push (M1 C s.heap.objs.size)).get? (s.heap.objs.size+1)>>(M1 C s.heap.objs.size):=by
  have:=Heap.get?_push_size (s.heap.push MW) (o:=M1 C s.heap.objs.size) rfl
  rwa [Heap.size_push] at this
 have e3:(s.heap.push MW).Ns s.heap.objs.size (fun _=>none):=⟨MW,#[],_,e1,rfl,(fun e he=>absurd he (by simp)),fun _=>rfl⟩
 have I1:=I.laid (a:=s.heap.objs.size) (o:=.own (s.heap.objs.size+1)) (h':=s.heap.push MW) (t':=s.toks) (fun b u q=>Heap.get?_push_of_some _ q) (NG _) ⟨_,e1⟩
 refine I1.laid (a:=s.heap.objs.size+1) (o:=.ins C s.heap.objs.size []) (t':=s.toks) (fun b u q=>Heap.get?_push_of_some _ q) (EM (Heap.size_push _ _)) ?_
 have ne:s.heap.objs.size≠s.heap.objs.size+1:=Mc (Dh _)
 rwa[by rw[kak ne,kad],Mf _,ne,e2,fun _=>none,(Heap.Ns1.of_empty e3).at fun o q=>Heap.get?_push_of_some _ q,fun _=>True.intro,fun y hy=>absurd rfl hy]
theorem kmU{prog:Program}{w:World}{env:Env}{e:Expr}{f:Str}{pos:Pos}{s:Shared}{Q:Value→Shared→Prop}(hb:attributeBase e f env (eval e env)=eval e env)
  (h:wpAny (model prog w) A (eval e env) (fun o s₁=>wpAny (model prog w) A (getAttr o f true) Q E s₁) E s):wpAny (model prog w) A (eval (.Attribute e f pos) env) Q E s:=
 Attribute_any_ h (by rw[arm_eval_Attribute,hb])
end
def tFld(K:NF)(ta:TE)(f:Str):TE:=fun σ H Q=>ta σ H fun x H1=>∃a C dx fs v,x=.ref a∧H1 a>>(.ins C dx fs)∧Cls K C∧NoAttr K C f∧fs.lookup f>>v∧Q v H1
def sFld(K:NF)(ta tv:TE)(f:Str):TS:=fun D σ H=>tv σ H fun y H1=>ta σ H1 fun x H2=>∃a C dx fs,x=.ref a∧H2 a>>(.ins C dx fs)∧Cls K C∧NoAttr K C f∧fs.length<1000∧
 D.nx σ (upd H2 a (.ins C dx (putF f y fs)))
def InOp(X:Cx)(op:Operator)(rd:V→V→Hp→VK→Prop):Prop:=
 ∀(pins:List (Addr×Obj))(s:Shared)(σ:St)(H:Hp)(x y:V)(u v:Value)(Q:VK),Inv X pins σ H s→RelV x u→RelV y v→rd x y H Q→wpAny (model X.prog X.w) X.A (inplaceOp op u v) (EP X pins σ Q) X.xe s
def kmr(K:NF)(ta tv:TE)(rd:V→V→Hp→VK→Prop)(f:Str):TS:=fun D σ H=>ta σ H fun x H1=>∃a C dx fs v,x=.ref a∧H1 a>>(.ins C dx fs)∧Cls K C∧NoAttr K C f∧fs.lookup f>>v∧
 tv σ H1 fun y H2=>rd v y H2 fun z H3=>∃dx' fs',H3 a>>(.ins C dx' fs')∧fs'.length<1000∧D.nx σ (upd H3 a (.ins C dx' (putF f z fs')))
section
variable{X:Cx}{o e value:Expr}{f:Str}{pos pos' tpos:Pos}{ta tv:TE}
theorem km8(he:PE X e ta)(hb:attributeBase e f X.env (eval e X.env)=eval e X.env):PE X (.Attribute e f pos) (tFld X.K ta f):=by
 intro pins s σ H Q I h
 refine kmU hb (thn (he pins s σ H _ I h) fun u s1 zz=>?_)
 obtain⟨x,H1,I1,rx,a,C,dx,fs,v,ex,ea,c,n,l,q⟩:=zz
 subst ex
 obtain rfl:u=Value.ref a:=rx
 exact kfJ I1 ea c n l fun u' s2 I2 ru=>⟨v,H1,I2,ru,q⟩
theorem kaz(ha:PE X o ta)(hv:PE X value tv)(hs:swapsWith value (some (.Attribute o f pos')) pos.line X.env=pure false):PS X (.Assign [.Attribute o f pos'] value pos) (sFld X.K ta tv f):=by
 intro pins s σ H D I h
 refine plainObj_wpAny_Assign_Attribute (thn (hv pins s σ H _ I h) fun u s1 ⟨y,H1,I1,ry,q⟩=>thn (ha pins s1 σ H1 _ I1 q) fun ov s2 zz=>?_) hs
 obtain⟨x,H2,I2,rx,a,C,dx,fs,ex,ea,c,n,l,q2⟩:=zz
 subst ex
 obtain rfl:ov=Value.ref a:=rx
 exact kfA I2 ea c n l ry fun s3 I3=>⟨σ,_,I3,q2⟩
theorem kjR{op:Operator}{rd:V→V→Hp→VK→Prop}(ha:PE X o ta)(hv:PE X value tv)(hop:InOp X op rd):PS X (.AugAssign (.Attribute o f tpos) op value pos) (kmr X.K ta tv rd f):=by
 intro pins s σ H D I h
 refine wpAny_AugAssign_AttributeAny (thn (ha pins s σ H _ I h) fun ov s1 zz=>?_)
 obtain⟨x,H1,I1,rx,a,C,dx,fs,v,ex,ea,c,n,l,q⟩:=zz
 subst ex
 obtain rfl:ov=Value.ref a:=rx
 refine kfJ I1 ea c n l fun u s2 I2 ru=>thn (hv pins s2 σ H1 _ I2 q) fun w3 s3 ⟨y,H2,I3,ry,q3⟩=>thn (hop pins s3 σ H2 v y u w3 _ I3 ru ry q3) fun w4 s4 zz=>?_
 obtain⟨z,H3,I4,rz,dx',fs',ea',l',q4⟩:=zz
 exact kfA I4 ea' c n l' rz fun s5 I5=>⟨σ,_,I5,q4⟩
def rSub:V→V→Hp→VK→Prop:=fun x y H Q=>∃i j,x=.int i∧y=.int j∧Q (.int (i-j)) H
theorem knl:InOp X .Sub rSub:=by
 rintro pins s σ H x y u v Q I rx ry ⟨i,j,rfl,rfl,q⟩
 obtain⟨t,rfl⟩:=(show ∃t,u=Value.int i t from rx)
 obtain⟨t',rfl⟩:=(show ∃t',v=Value.int j t' from ry)
 exact PyProof.Rows.isub_int ⟨.int (i-j),H,I.tok _,⟨_,rfl⟩,q⟩
end
section
variable{X:Cx}{pins:List (Addr×Obj)}{σ:St}{H:Hp}{s:Shared}{A:Around}{E:Value→Shared→Prop}{Q:Value→Shared→Prop}{c:Value}{b:Bool}
inductive TyOf(K:NF)(H:Hp):V→Value→Prop where
 |non:TyOf K H .non (.type "NoneType")
 |bl (x:Bool):TyOf K H (.bl x) (.type "bool")
 |int (i:Int):TyOf K H (.int i) (.type "int")
 |str (x:Str):TyOf K H (.str x) (.type "str")
 |flt (x:UInt64):TyOf K H (.flt x) (.type "float")
 |lst {a:Addr} {xs:List V} (e:H a>>(.lst xs)):TyOf K H (.ref a) (.type "list")
 |frz {a:Addr} {o:Obj} {xs:List V} (e:H a>>(.frz o (.lst xs))):TyOf K H (.ref a) (.type "list")
 |tup {a:Addr} {xs:List V} (e:H a>>(.tup xs)):TyOf K H (.ref a) (.type "tuple")
 |dK {a:Addr} {kvs:List (Key×V)} (e:H a>>(.dK kvs)):TyOf K H (.ref a) (.type "dict")
 |dT {a:Addr} {kvs:List (List Key×V)} (e:H a>>(.dT kvs)):TyOf K H (.ref a) (.type "dict")
 | ins {a C dx:Addr} {fs:List (Str×V)} (e:H a>>(.ins C dx fs)) (cl:Cls K C) (ha:NH K (.ref C) "__class__">>(some (.builtin "object.__class__")))
   (hn:EC K (.builtin "object.__class__") "__get__">>(some (.builtin "getset_descriptor.__get__")))(htk:Dj K (.builtin "object.__class__")>>true)
   (hm:NN K C (.type "object")>>true):TyOf K H (.ref a) (.ref C)
theorem kkh{x:V}{u t:Value}(I:Inv X pins σ H s)(rx:RelV x u)(ty:TyOf X.K H x t)(e:NU X.K t c>>b)(h:∀tk,Q (.bool b) {s with toks:=tk}):
  wpAny (model X.prog X.w) A (call (.builtin "isinstance") [u,c]) Q E s:=by
 cases ty with
 |non=>cases(show u=Value.none from rx);exact MC PySem.W.kitx_none I.kIn True.intro e (fun z=>nomatch z) h
 |bl y=>cases(show u=Value.bool y from rx);exact MC PySem.W.kitx_bool I.kIn True.intro e (fun z=>nomatch z) h
 |int i=>obtain⟨t,q⟩:=(show ∃t,u=Value.int i t from rx);cases q;exact MC PySem.W.kitx_int I.kIn True.intro e (fun z=>nomatch z) h
 |str y=>obtain⟨t,q⟩:=(show ∃t,u=Value.str y t from rx);cases q;exact MC PySem.W.kitx_str I.kIn True.intro e (fun z=>nomatch z) h
 |flt y=>obtain⟨t,q⟩:=(show ∃t,u=Value.float y t from rx);cases q;exact MC PySem.W.kitx_float I.kIn True.intro e (fun z=>nomatch z) h
 | @lst a xs ea=>
  cases(show u=Value.ref a from rx)
  obtain⟨_,_,n,_,h1⟩:=(show ObjOk X.prog X.w H s.heap a (.lst xs) from I.hok a _ ea)
  exact MC PySem.W.kitx_list I.kIn ⟨_,h1,rfl⟩ e (fun z=>nomatch z) h
 | @frz a ob xs ea=>
  cases(show u=Value.ref a from rx)
  obtain⟨_,_,_,n,_,h1⟩:=(show ObjOk X.prog X.w H s.heap a (.frz ob (.lst xs)) from I.hok a _ ea)
  exact MC PySem.W.kitx_list I.kIn ⟨_,h1,rfl⟩ e (fun z=>nomatch z) h
 | @tup a xs ea=>
  cases(show u=Value.ref a from rx)
  obtain⟨_,_,_,p⟩:=(show ObjOk X.prog X.w H s.heap a (.tup xs) from I.hok a _ ea)
  obtain⟨o,h1,h2,_⟩:=p
  exact MC PySem.W.kitx_tuple I.kIn ⟨o,h1,h2⟩ e (fun z=>nomatch z) h
 | @dK a kvs ea=>
  cases(show u=Value.ref a from rx)
  obtain⟨_,_,vs,_,p⟩:=(show ObjOk X.prog X.w H s.heap a (.dK kvs) from I.hok a _ ea)
  obtain⟨o,es,ep,h1,h2,_⟩:=p
  exact MC PySem.W.kitx_dict I.kIn ⟨o,h1,h2.1⟩ e (fun z=>nomatch z) h
 | @dT a kvs ea=>
  cases(show u=Value.ref a from rx)
  obtain⟨_,_,xs,_,o,es,ep,h1,h2,_⟩:=(show ObjOk X.prog X.w H s.heap a (.dT kvs) from I.hok a _ ea)
  exact MC PySem.W.kitx_dict I.kIn ⟨o,h1,h2.1⟩ e (fun z=>nomatch z) h
 | @ins a C dx fs ea cl ha hn htk hm=>
  cases(show u=Value.ref a from rx)
  obtain⟨mA,O,_⟩:=kgn I.hok ea
  obtain⟨od,J,_⟩:=O.look
  exact MC (PySem.W.kitx_own (cl.get _) cl.hd ha hn htk hm) I.kIn J e (fun z=>nomatch z) h
end
structure Room(k:Nat)(A:Around):Prop where
 hd:A.handled=none
 dp:A.depth+3*k+5<recursionLimit
 un:A.units+16*k+200<cLine
def Room.mono{j k:Nat}{A:Around}(r:Room k A)(h:j≤k):Room j A:=⟨r.hd,by have:=r.dp;lia,by have:=r.un;lia⟩
def Room.deeper{k:Nat}{A:Around}(r:Room (k+1) A)(env:Env):Room k (A.deeper env):=
 ⟨r.hd,by have:=r.dp;show A.depth+1+3*k+5<_;lia,by have:=r.un;show A.units+3+16*k+200<_;lia⟩
def Room.in1{k:Nat}{A:Around}(r:Room (k+1) A):Room k A.in1:=
 ⟨r.hd,by have:=r.dp;show A.depth+3*k+5<_;lia,by have:=r.un;show A.units+1+16*k+200<_;lia⟩
def kiY{A:Around}{C:Addr}{us:List Value}{kw:List (Str×Value)}:(A.under (.builtin "type.__call__" ⟨.ref C::us,kw⟩)).depth=A.depth+1:=by
 first|rfl|simp[Around.under,Code.weight,Code.isCreation,Code.isGuard,Code.isCaller,Code.frames,Code.isFrame,guardIds]
def kiX{A:Around}{C:Addr}{us:List Value}{kw:List (Str×Value)}:(A.under (.builtin "type.__call__" ⟨.ref C::us,kw⟩)).units=A.units+1:=by
 first|rfl|simp[Around.under,Code.cUnits,Code.frames,Code.isFrame]
def Room.make{k:Nat}{A:Around}(r:Room (k+1) A)(C:Addr)(us:List Value)(kw:List (Str×Value)):Room k (A.under (.builtin "type.__call__" ⟨.ref C::us,kw⟩)):=
 ⟨r.hd,by have:=r.dp;rw[kiY];lia,by have:=r.un;rw[kiX];lia⟩
def Room.depth{k:Nat}{A:Around}(r:Room k A):A.depth<recursionLimit:=by have:=r.dp;lia
def Room.units{k:Nat}{A:Around}(r:Room k A):A.units+64<cLine:=by have:=r.un;lia
def Room.units0{k:Nat}{A:Around}(r:Room k A):A.units<cLine:=by have:=r.un;lia
def tNil:TA:=fun _ H Q=>Q [] H
def tCons(ta:TE)(tr:TA):TA:=fun σ H Q=>ta σ H fun x H1=>tr σ H1 fun xs H2=>Q (x::xs) H2
section
variable{X:Cx}{e:Expr}{es:List Expr}{te:TE}{t:TA}{pos:Pos}
theorem kae:PA X [] tNil:=fun _ _ _ _ H Q I h=>Calls.spliced_nil ⟨[],H,I, .nil,h⟩
theorem kaa(ha:PE X e te)(hr:PA X es t)(hs:autoParam (starEach (e::es) X.env=(false,eval e X.env)::starEach es X.env) jz):PA X (e::es) (tCons te t):=by
 intro pos pins s σ H Q I h
 rw[hs]
 show wpAny _ _ (spliced ((false,eval e X.env)::backTo pos (starEach es X.env))) _ _ s
 refine Calls.spliced_cons (thn (ha pins s σ H _ I h) fun u s1 zz=>?_)
 obtain⟨x,H1,I1,r1,q1⟩:=zz
 exact thn (hr pos pins s1 σ H1 _ I1 q1) fun us s2 ⟨xs,H2,I2,r2,q2⟩=>⟨x::xs,H2,I2, .cons r1 r2,q2⟩
def tTup(t:TA):TE:=fun σ H Q=>t σ H fun xs H1=>xs.length≤sizeLine∧∀p,H1 p=none→Q (.ref p) (upd H1 p (.tup xs))
def tLst(t:TA):TE:=fun σ H Q=>t σ H fun xs H1=>xs.length≤sizeLine∧∀p,H1 p=none→Q (.ref p) (upd H1 p (.lst xs))
theorem kce{x1}(h:PA X es t):PE X (.Tuple es x1 pos) (tTup t):=by
 intro pins s σ H Q I hq
 refine wpAny_Tuple_spliced (thn (h pos pins s σ H _ I hq) fun us s1 ⟨xs,H1,I1,r,z,q⟩=>⟨by rw[←r.length];exact z,?_⟩)
 have hf:H1 s1.heap.objs.size=none:=I1.hok.fresh (NG _)
 rwa[.ref s1.heap.objs.size,upd H1 s1.heap.objs.size (.tup xs),I1.laid (t':=s1.toks) (fun b u e=>Heap.get?_push_of_some _ e) (NG _) ?_,6,q _ hf]
 rwa[z,us,r,⟨_,Heap.get?_push_size _ rfl,rfl,_,rfl⟩]
theorem kaM(h:PA X es t):PE X (.List es pos) (tLst t):=by
 intro pins s σ H Q I hq
 refine wpAny_List_spliced (thn (h pos pins s σ H _ I hq) fun us s1 ⟨xs,H1,I1,r,z,q⟩=>⟨by rw[←r.length];exact z,?_⟩)
 have hf:H1 s1.heap.objs.size=none:=I1.hok.fresh (NG _)
 rwa[.ref s1.heap.objs.size,upd H1 s1.heap.objs.size (.lst xs),I1.laid (t':=s1.toks) (fun b u e=>Heap.get?_push_of_some _ e) (NG _) ?_,6,q _ hf]
 rwa[z,us,0,r,Heap.get?_push_size _ rfl]
end
abbrev Sp:=List V→Hp→VK→XK→Prop
abbrev CXT:=List Env→Hp→Shared→XK→Value→Shared→Prop
structure Env0(P:Program)(w:World)(K:NF)(mg:Str→Option Value)(base:Heap)(A:Around)(outer:List Env)(s:Shared)(H:Hp):Prop where
 frames:A.frames>>outer
 mod:Mod K mg base
 bs:∀b o,base.get? b>>o→s.heap.get? b>>o∧H b=none
 bsz:base.objs.size≤s.heap.objs.size
 funs:s.heap.FunFrames base outer
 frf:∀b∈frs outer,H b=none
 hok:HOk P w H s.heap
 bare:AllBare s.gens
def CE(outer:List Env)(P:Program)(w:World)(H:Hp)(s:Shared)(Q:VK)(u:Value)(s':Shared):Prop:=
 ∃v H',s'.os=s.os∧AllBare s'.gens∧Un (frs outer) [] H H' s.heap s'.heap∧HOk P w H' s'.heap∧RelV v u∧Q v H'
def CR(CX:CXT)(outer:List Env)(P:Program)(w:World)(H:Hp)(s:Shared)(Q:VK)(E:XK)(r:Result)(s':Shared):Prop:=
 match r with
 | .ok (.ret u)=>CE outer P w H s Q u s'
 | .ok _=>False
 | .error e=>CX outer H s E e s'
structure FnOk(P:Program)(w:World)(K:NF)(mg:Str→Option Value)(base:Heap)(CX:CXT)(k:Nat)(f:Addr)(fd:FuncData)(ps:List Str)(sp:Sp):Prop where
 len:∀vs H Q E,sp vs H Q E→vs.length=ps.length
 run:∀(A:Around)(outer:List Env)(s:Shared)(H:Hp)(args:Args)(us:List Value)(vs:List V)(Q:VK)(E:XK),Room k A→Env0 P w K mg base A outer s H→BindsTo s fd args (ps.zip us)→Vals vs us→sp vs H Q E→
  codeAny (model P w) A (.call (.ref f) args) (CR CX outer P w H s Q E) s
theorem Env0.make{P:Program}{w:World}{K:NF}{mg:Str→Option Value}{base:Heap}{A:Around}{outer:List Env}{s:Shared}{H:Hp}(e:Env0 P w K mg base A outer s H)(C:Addr)(us:List Value)(kw:List (Str×Value)):
  Env0 P w K mg base (A.under (.builtin "type.__call__" ⟨.ref C::us,kw⟩)) outer s H:=⟨by first|exact e.frames|(simpa[Around.under,Code.envs,Code.isFrame,pushEnvs] using e.frames),e.mod,e.bs,e.bsz,e.funs,e.frf,e.hok,e.bare⟩
section
variable{X:Cx}{pins:List (Addr×Obj)}{σ:St}{H:Hp}{s s':Shared}
theorem Inv.env0(I:Inv X pins σ H s):Env0 X.prog X.w X.K X.mg X.base X.A X.stack s H:=
 ⟨I.ok.frames,I.ok.mod,I.bs,NJ I.ok.bsz I.sz,I.stack,I.stkFree,I.hok,I.bare⟩
theorem Inv.after{Q:VK}{u:Value}(I:Inv X pins σ H s)(h:CE X.stack X.prog X.w H s Q u s'):EP X pins σ Q u s':=by
 obtain⟨v,H',os,bare,un,hok,r,q⟩:=h
 obtain⟨hh,g,d,t,os'⟩:=s'
 obtain rfl:os'=s.os:=os
 rwa[v,H',I.call (h':=hh) (g':=g) (d':=d) (t':=t) (ch:=[]) un hok bare (fun b z=>absurd z (by simp)),r,q]
end
def tCall(sp:Sp)(dvs:List V)(E:XK)(t:TA):TE:=fun σ H Q=>t σ H fun vs H1=>sp (vs++dvs) H1 Q E
def tMeth(C:Addr)(m:Str)(sp:Sp)(dvs:List V)(E:XK)(ta:TE)(t:TA):TE:=fun σ H Q=>ta σ H fun x H1=>∃a dx fs,x=.ref a∧H1 a>>(.ins C dx fs)∧fs.lookup m=none∧
 t σ H1 fun vs H2=>sp (x::(vs++dvs)) H2 Q E
def tMake(C:Addr)(sp:Sp)(dvs:List V)(E:XK)(t:TA):TE:=fun σ H Q=>t σ H fun vs H1=>∀x dx,H1 x=none→H1 dx=none→dx≠x→
 sp (.ref x::(vs++dvs)) (upd (upd H1 dx (.own x)) x (.ins C dx [])) (fun v H2=>v=.non∧Q (.ref x) H2) E
def Binds(K:NF)(fd:FuncData)(ps:List Str)(ds:List Value):Prop:=
 ∀(s:Shared)(us:List Value),K.In s.heap→(us++ds).length=ps.length→BindsTo s fd ⟨us,[]⟩ (ps.zip (us++ds))
def Binds.all{K:NF}{fd:FuncData}{ps:List Str}(h:∀us:List Value,us.length=ps.length→bindArgs fd ⟨us,[]⟩=pure (ps.zip us)):Binds K fd ps []:=fun s us _ hl=>by
 rw[MQ] at hl⊢
 exact .of_eq (h us hl)
def kdP(CX:CXT)(X:Cx)(E:XK):Prop:=∀(pins:List (Addr×Obj))(σ:St)(H:Hp)(s:Shared)(e:Value)(s':Shared),Inv X pins σ H s→CX X.stack H s E e s'→X.xe e s'
section
variable{X:Cx}{CX:CXT}{k:Nat}{f C:Addr}{fd:FuncData}{ps:List Str}{sp:Sp}{dvs:List V}{ds:List Value}{E:XK}{x m:Str}{p pos apos:Pos}{e o:Expr}{es:List Expr}{ta:TE}{t:TA}
theorem kih{pins:List (Addr×Obj)}{σ:St}{H:Hp}{s:Shared}{Q:VK}{us:List Value}{vs:List V}(F:FnOk X.prog X.w X.K X.mg X.base CX k f fd ps sp)(hr:Room k X.A)(hb:Binds X.K fd ps ds)(hd:Vals dvs ds)(hx:kdP CX X E)
  (I:Inv X pins σ H s) (r:Vals vs us) (h:sp (vs++dvs) H Q E):wpAny (model X.prog X.w) X.A (call (.ref f) us) (EP X pins σ Q) X.xe s:=by
 have r2:Vals (vs++dvs) (us++ds):=r.append hd
 have hl:(us++ds).length=ps.length:=by rw[←r2.length];exact F.len _ _ _ _ h
 refine wpAny_call (codeAny_mono (F.run X.A X.stack s H ⟨us,[]⟩ (us++ds) (vs++dvs) Q E hr I.env0 (hb s us I.kIn hl) r2 h) fun r s' hq=>?_)
 cases r with
 |error e=>exact hx pins σ H s e s' I hq
 |ok fl=>
  cases fl with
  |ret u=>exact I.after hq
  |next=>exact False.elim hq
  |brk=>exact False.elim hq
  |cont=>exact False.elim hq
theorem kjZ(F:FnOk X.prog X.w X.K X.mg X.base CX k f fd ps sp)(hr:Room k X.A)(hg:Gl X x)(hm:X.mg x>>(.ref f))(hk:NZ X.K (.ref f)=true)(hb:Binds X.K fd ps ds)(hd:Vals dvs ds)(hx:kdP CX X E)
  (ha:PA X (e::es) t)(hdb:autoParam ((x==("__debug__" :Str))=false) jQ)(he:autoParam (starEach (e::es) X.env=(false,eval e X.env)::starEach es X.env) jz)(hpl:autoParam ((backTo pos (starEach es X.env)).any (·.1)=false) jz):
  PE X (.Call (.Name x p) (e::es) [] pos) (tCall sp dvs E t):=by
 intro pins s σ H Q I h
 refine wpAny_Call_Name_kw (kd4 I hg hm ?_ hdb)
 refine ED (h₀:=X.base) I.ok.mod.kin hk (thn (ha pos pins s σ H _ I h) fun us s1 ⟨vs,H1,I1,r,q⟩=>⟨I1.kIn,?_⟩) he hpl
 exact kih F hr hb hd hx I1 r q
theorem kbm{pl:Sem Bool}(he:PE X o ta)(c:Cls X.K C)(hm:Meth X.K C m f)(F:FnOk X.prog X.w X.K X.mg X.base CX k f fd ps sp)(hr:Room k X.A)(hb:Binds X.K fd ps ds)(hd:Vals dvs ds)(hx:kdP CX X E)(ha:PA X (e::es) t)
  (hst:autoParam (starEach (e::es) X.env=(false,eval e X.env)::starEach es X.env) jz)(hpl:autoParam ((backTo pos (starEach es X.env)).any (·.1)=false) jz)
  (ht:autoParam (eval (.Call (.Attribute o m apos) (e::es) [] pos) X.env=(do
   let ov ←eval o X.env
   standAt apos.atName
   let(f,first) ←holding [ov] (getMethod ov m pl)
   callWith pos f first (backTo pos (starEach (e::es) X.env)) (backToKw pos (keywordEach [] X.env)))) jz):
  PE X (.Call (.Attribute o m apos) (e::es) [] pos) (tMeth C m sp dvs E ta t):=by
 intro pins s σ H Q I h
 refine EN (pl:=pl) (thn (he pins s σ H _ I h) fun u s1 zz=>?_) ht
 obtain⟨x,H1,I1,rx,a,dx,fs,ex,ea,l,q⟩:=zz
 subst ex
 obtain rfl:u=Value.ref a:=rx
 refine kd6 I1 ea c hm l ?_
 refine ED (first:=[.ref a]) (h₀:=X.base) I.ok.mod.kin hm.kp (thn (ha pos pins s1 σ H1 _ I1 q) fun us s2 ⟨vs,H2,I2,r,q2⟩=>⟨I2.kIn,?_⟩) hst hpl
 exact kih (us:=.ref a::us) (vs:=.ref a::vs) F hr hb hd hx I2 (.cons rfl r) q2
theorem kde{pl:Sem Bool}(he:PE X o ta)(c:Cls X.K C)(hm:Meth X.K C m f)(F:FnOk X.prog X.w X.K X.mg X.base CX k f fd ps sp)(hr:Room k X.A)(hb:Binds X.K fd ps ds)(hd:Vals dvs ds)(hx:kdP CX X E)
  (ht:autoParam (eval (.Call (.Attribute o m apos) [] [] pos) X.env=(do
   let ov ←eval o X.env
   standAt apos.atName
   let(f,first) ←holding [ov] (getMethod ov m pl)
   callWith pos f first (backTo pos (starEach [] X.env)) (backToKw pos (keywordEach [] X.env)))) jz):
  PE X (.Call (.Attribute o m apos) [] [] pos) (tMeth C m sp dvs E ta tNil):=by
 intro pins s σ H Q I h
 refine EN (pl:=pl) (thn (he pins s σ H _ I h) fun u s1 zz=>?_) ht
 obtain⟨x,H1,I1,rx,a,dx,fs,ex,ea,l,q⟩:=zz
 subst ex
 obtain rfl:u=Value.ref a:=rx
 refine kd6 I1 ea c hm l ?_
 exact DN (first:=[.ref a]) I1.kIn hm.kp (kih (us:=[.ref a]) (vs:=[.ref a]) F hr hb hd hx I1 (.cons rfl .nil) q)
structure Mk(K:NF)(C f:Addr):Prop where
 makes:Mq K C=true
 init:NH K (.ref C) "__init__">>(some (.ref f))
 fn:Mw K (.ref f)=true
 kp:NZ K (.ref C)=true
theorem kig{pins:List (Addr×Obj)}{σ:St}{H:Hp}{s:Shared}{Q:VK}{us:List Value}{vs:List V}(M:Mk X.K C f)(F:FnOk X.prog X.w X.K X.mg X.base CX k f fd ps sp)(hr:Room (k+1) X.A)(hb:Binds X.K fd ps ds)(hd:Vals dvs ds)
  (hx:kdP CX X E)(I:Inv X pins σ H s)(r:Vals vs us)
  (h:∀x dx,H x=none→H dx=none→dx≠x→sp (.ref x::(vs++dvs)) (upd (upd H dx (.own x)) x (.ins C dx [])) (fun v H2=>v=.non∧Q (.ref x) H2) E):
  wpAny (model X.prog X.w) X.A (call (.ref C) us) (EP X pins σ Q) X.xe s:=by
 have hq:=h (s.heap.objs.size+1) s.heap.objs.size (I.hok.fresh (Eb _)) (I.hok.fresh (NG _)) (Mc (Dh _))
 have I2:=Inv.made (C:=C) I
 have r2:Vals (V.ref (s.heap.objs.size+1)::(vs++dvs)) (Value.ref (s.heap.objs.size+1)::(us++ds)):=.cons rfl (r.append hd)
 have hl:(Value.ref (s.heap.objs.size+1)::us++ds).length=ps.length:=by
  have e:=r2.length
  rw[F.len _ _ _ _ hq] at e
  exact e.symm
 refine wpAny_call (klh (f:=f) I.kIn M.makes M.init (beq_iff_eq.mp M.fn) (codeAny_mono (F.run _ X.stack _ _ ⟨Value.ref (s.heap.objs.size+1)::us,[]⟩ (Value.ref (s.heap.objs.size+1)::(us++ds)) _ _ E (hr.make C us [])
  (I2.env0.make C us []) (hb _ (Value.ref (s.heap.objs.size+1)::us) I2.kIn hl) r2 hq) fun r s' hq'=>?_))
 cases r with
 |error e=>exact hx pins σ _ _ e s' I2 hq'
 | ok fl=>
  cases fl with
  |ret u=>
   obtain⟨v,H',I3,rv,ev,q3⟩:=I2.after hq'
   subst ev
   rwa[rv,⟨V.ref (s.heap.objs.size+1),H',I3,rfl,q3⟩]
  |next=>exact False.elim hq'
  |brk=>exact False.elim hq'
  |cont=>exact False.elim hq'
theorem kaT(M:Mk X.K C f)(F:FnOk X.prog X.w X.K X.mg X.base CX k f fd ps sp)(hr:Room (k+1) X.A)(hg:Gl X x)(hm:X.mg x>>(.ref C))(hb:Binds X.K fd ps ds)(hd:Vals dvs ds)(hx:kdP CX X E)
  (ha:PA X (e::es) t)(hdb:autoParam ((x==("__debug__" :Str))=false) jQ)(he:autoParam (starEach (e::es) X.env=(false,eval e X.env)::starEach es X.env) jz)(hpl:autoParam ((backTo pos (starEach es X.env)).any (·.1)=false) jz):
  PE X (.Call (.Name x p) (e::es) [] pos) (tMake C sp dvs E t):=by
 intro pins s σ H Q I h
 refine wpAny_Call_Name_kw (kd4 I hg hm ?_ hdb)
 refine ED (h₀:=X.base) I.ok.mod.kin M.kp (thn (ha pos pins s σ H _ I h) fun us s1 ⟨vs,H1,I1,r,q⟩=>⟨I1.kIn,?_⟩) he hpl
 exact kig M F hr hb hd hx I1 r q
theorem kk4(M:Mk X.K C f)(F:FnOk X.prog X.w X.K X.mg X.base CX k f fd ps sp)(hr:Room (k+1) X.A)(hg:Gl X x)(hm:X.mg x>>(.ref C))(hb:Binds X.K fd ps ds)(hd:Vals dvs ds)(hx:kdP CX X E)
  (hdb:autoParam ((x==("__debug__" :Str))=false) jQ):PE X (.Call (.Name x p) [] [] pos) (tMake C sp dvs E tNil):=by
 intro pins s σ H Q I h
 refine wpAny_Call_Name_kw (kd4 I hg hm ?_ hdb)
 exact DN I.kIn M.kp (kig (us:=[]) M F hr hb hd hx I .nil h)
end
section
variable{X:Cx}{CX:CXT}{k:Nat}{f C:Addr}{fd:FuncData}{ps ks:List Str}{sp:Sp}{E:XK}{x m:Str}{p pos apos kpos:Pos}{e o:Expr}{es:List Expr}{kws:List Keyword}{te ta:TE}{t tk:TA}{nm:Option Str}
variable{g:List Value→List Value→List Value}{gV:List V→List V→List V}
end
structure kar(N P:List Str)(sc:Scope):Prop where
 kind:sc.kind=.function
 co:sc.isCoroutine=false
 gen:sc.isGenerator=false
 nd:N.Nodup
 pre:N.take P.length=P
 par:∀x∈P,sc.names.lookup x>>.local∨sc.names.lookup x>>.cell
 nofree:∀y∈sc.names,y.2≠.free
theorem khe{kindOf:Str→Option NameKind}{x:Str}:∀{binds:List (Str×Value)}{m:Str→Option Value},(∀v,(x,v)∉binds)→bindL kindOf binds m x=m x
 |[],_,_=>rfl
 | (n,v)::r,m,h=>by
  unfold bindL
  rw[khe fun w hw=>h w (N2 _ hw)]
  split
  ·have:x≠n:=by rintro rfl;exact h v N4
   simp[this]
  ·rfl
theorem khg{kindOf:Str→Option NameKind}{x:Str}:∀{binds:List (Str×Value)}{m:Str→Option Value},(∀v,(x,v)∉binds)→bindC kindOf binds m x=m x
 |[],_,_=>rfl
 | (n,v)::r,m,h=>by
  unfold bindC
  rw[khg fun w hw=>h w (N2 _ hw)]
  split
  ·rfl
  ·have:x≠n:=by rintro rfl;exact h v N4
   simp[this]
theorem khf{kindOf:Str→Option NameKind}{x:Str}{v:Value}:∀{P:List Str}{vs:List Value}{i:Nat}{m:Str→Option Value},P.Nodup→P[i]?>>x→vs[i]?>>v→kindOf x>>.local→
  bindL kindOf (P.zip vs) m x>>v
 |[],_,_,_,_,h,_,_=>by simp at h
 |_::_,[],_,_,_,_,h,_=>by simp at h
 |p::P,w::vs,0,m,nd,h1,h2,hk=>by
  simp at h1 h2;subst h1;subst h2
  show bindL kindOf ((p,w)::P.zip vs) m p=_
  unfold bindL
  rw[khe fun v hv=>(MK.mp nd).1 (M4 hv).1,if_pos hk]
  simp
 |p::P,w::vs,i+1,m,nd,h1,h2,hk=>by
  show bindL kindOf ((p,w)::P.zip vs) m x=_
  unfold bindL
  exact khf (i:=i) (MK.mp nd).2 (by simpa using h1) (by simpa using h2) hk
theorem khh{kindOf:Str→Option NameKind}{x:Str}{v:Value}:∀{P:List Str}{vs:List Value}{i:Nat}{m:Str→Option Value},P.Nodup→P[i]?>>x→vs[i]?>>v→kindOf x≠some .local→
  bindC kindOf (P.zip vs) m x>>v
 |[],_,_,_,_,h,_,_=>by simp at h
 |_::_,[],_,_,_,_,h,_=>by simp at h
 |p::P,w::vs,0,m,nd,h1,h2,hk=>by
  simp at h1 h2;subst h1;subst h2
  show bindC kindOf ((p,w)::P.zip vs) m p=_
  unfold bindC
  rw[khg fun v hv=>(MK.mp nd).1 (M4 hv).1,if_neg hk]
  simp
 |p::P,w::vs,i+1,m,nd,h1,h2,hk=>by
  show bindC kindOf ((p,w)::P.zip vs) m x=_
  unfold bindC
  exact khh (i:=i) (MK.mp nd).2 (by simpa using h1) (by simpa using h2) hk
noncomputable def start(N:List Str)(vs:List V):St:=vs.map some++NI (N.length-vs.length) none
noncomputable def cxOf(CX:CXT)(P:Program)(w:World)(K:NF)(mg:Str→Option Value)(base:Heap)(N:List Str)(qual:Str)(scope:Scope)(f:Addr)(cd:Value)(A:Around)(outer:List Env)(s:Shared)(H:Hp)(E:XK):Cx where
 prog:=P
 w:=w
 K:=K
 mg:=mg
 base:=base
 A:=A.deeper (envOfC qual scope s.heap.objs.size f cd)
 N:=N
 s₀:=s
 H₀:=H
 env:=envOfC qual scope s.heap.objs.size f cd
 outer:=outer
 stack:=envOfC qual scope s.heap.objs.size f cd::outer
 ex:=[]
 calm:=true
 fn:=fun _=>true
 pn:=[]
 xe:=fun e s'=>wpAny (model P w) (A.deeper (envOfC qual scope s.heap.objs.size f cd)) (leaving (envOfC qual scope s.heap.objs.size f cd) e) (fun _ s''=>CX outer H s E e s'') (fun e' s''=>CX outer H s E e' s'') s'
def keF{sc:Scope}{n:Nat}{x:Str}(h:sc.names.lookup x>>.cell):∃c,(cellsFrom n sc.names []).lookup x>>c:=by
 have q:=DO sc.names n [] (.inl h)
 exact Dk.mp q
theorem kkj{CX:CXT}{P:Program}{w:World}{K:NF}{mg:Str→Option Value}{base:Heap}{N ps:List Str}{qual:Str}{scope:Scope}{f:Addr}{cd:Value}{A:Around}{outer:List Env}{s s1:Shared}{H:Hp}{E:XK}{us:List Value}{vs:List V}
  (S:kar N ps scope)(hd:A.handled=none)(e0:Env0 P w K mg base A outer s H)(hl:vs.length=ps.length)(r:Vals vs us)
  (x:InCallC s s.heap.objs.size (bindL (envOfC qual scope s.heap.objs.size f cd).kindOf (ps.zip us) fun _=>none) (cellsFrom (s.heap.objs.size+1) scope.names []) (bindC (envOfC qual scope s.heap.objs.size f cd).kindOf (ps.zip us) fun _=>none) s1):
  Inv (cxOf CX P w K mg base N qual scope f cd A outer s H E) [] (start N vs) H s1:=by
 have hpl:ps.length≤N.length:=by have:=congrArg El S.pre;rw[NS] at this;lia
 obtain⟨h1,tk,rfl,hk⟩:=x.done
 have noA:∀b:Addr,b∉(cxOf CX P w K mg base N qual scope f cd A outer s H E).ex:=fun b z=>absurd (show b∈([]:List Addr) from z) (by simp)
 refine⟨⟨e0.mod,S.kind,rfl,rfl,NG _,fun y z c h1 h2=>?_,fun y hy=>?_,fun y c _ h=>?_,fun _=>hd,Around.frames_deeper e0.frames, .inr ⟨rfl,rfl⟩,fun b z=>absurd z (noA b),e0.bs,e0.bsz,fun b _ _=>noA b,fun b z=>absurd z (noA b),e0.funs,e0.frf⟩,
  rfl,e0.bare,Un.kept hk,⟨_,x.toInCall.ns,fun i y v h1 h2 h3=>?_⟩,fun y c h=>⟨_,x.cell y c h⟩,e0.hok.fresh (NG _),fun y c h=>?_,fun p hp=>absurd (show p∈([]:List (Addr×Obj)) from hp) (by simp),e0.hok.kept hk,?_⟩
 ·exact name_of_addr x.apart (PySem.mem_of_lookup h1) (PySem.mem_of_lookup h2)
 ·have hy:scope.names.lookup y>>.cell∨scope.names.lookup y>>.free:=hy
  rcases hy with hy|hy
  ·exact keF hy
  ·exact absurd rfl (S.nofree _ (PySem.mem_of_lookup hy))
 ·exact NR (x.above y c (PySem.mem_of_lookup h))
 ·have hi:i<vs.length:=by
   unfold start at h2
   by_cases hi:i<vs.length
   ·exact hi
   ·rw[Em (by simpa using hi)] at h2
    rw[Dl] at h2
    split at h2 <;> cases h2
  have ha:vs[i]?>>v:=by
   unfold start at h2
   rw[En (by simpa using hi),NO] at h2
   cases e:vs[i]? with
   |none=>rw[e] at h2;cases h2
   |some a=>rw[e] at h2;cases h2;rfl
  obtain⟨u,hu,rv⟩:=r.get ha
  have hp:ps[i]?>>y:=by
   rw[←S.pre,DP (by lia)];exact h1
  have ndP:ps.Nodup:=by rw[←S.pre];exact S.nd.sublist (List.take_sublist _ _)
  rwa[u,rv,?_]
  rcases S.par y (NM hp) with k|k
  ·exact .inl ⟨k,khf ndP hp hu k⟩
  ·obtain⟨c,e⟩:=keF (n:=s.heap.objs.size+1) k
   refine .inr ⟨.inl k,c,e,?_⟩
   have q:=x.cell y c e
   rw[khh ndP hp hu (by show scope.names.lookup y≠_;rw[k];decide)] at q
   exact q
 ·exact e0.hok.fresh (NR (x.above y c (PySem.mem_of_lookup h)))
 ·unfold start
  show _=N.length
  rw[NQ,ND,ML]
  lia
theorem fn_of{CX:CXT}{P:Program}{w:World}{K:NF}{mg:Str→Option Value}{base:Heap}{k:Nat}{f:Addr}{name qual:Str}{params:Arguments}{body:List Stmt}{scope:Scope}{dV kV doc pm cdv ct oc:Value}{an od:Option Addr}
  {osl:Array (Option Value)}{N ps:List Str}{sp:Sp}(lk:K.lookup f>>⟨oc,od, .func (NY name qual params body scope dV kV doc pm an cdv ct),osl⟩)(hcd:Mo K cdv qual=true)(S:kar N ps scope)
  (len:∀vs H Q E,sp vs H Q E→vs.length=ps.length)
  (hbody:∀(A:Around)(outer:List Env)(s:Shared)(H:Hp)(vs:List V)(Q:VK)(E:XK),Room k (A.deeper (envOfC qual scope s.heap.objs.size f cdv))→sp vs H Q E→
   ∃t,PSs (cxOf CX P w K mg base N qual scope f cdv A outer s H E) body t∧t {nx:=fun _ H'=>Q .non H',rt:=Q} (start N vs) H):
  FnOk P w K mg base CX (k+1) f (NY name qual params body scope dV kV doc pm an cdv ct) ps sp:=by
 rwa[len,fun A outer s H args us vs Q E hr e0 hb r hsp=>?_]
 have hl:=len _ _ _ _ hsp
 have KX:K.In s.heap:=e0.mod.kin.keeps fun b o e=>(e0.bs b o e).1
 have lim:s.heap.NoLimit:=e0.mod.nolimit.keeps fun b o e=>(e0.bs b o e).1
 have hkind:∀y∈ps.zip us,scope.names.lookup y.1>>.local∨(scope.names.lookup y.1>>.cell∧((cellsFrom (s.heap.objs.size+1) scope.names []).lookup y.1).isSome=true):=fun⟨n,v⟩ hy=>by
  rcases S.par n (M4 hy).1 with q|q
  ·exact .inl q
  ·exact .inr ⟨q,DO _ _ _ (.inl q)⟩
 refine codeAny_call_function hr.depth (KX _ _ lk) rfl S.co S.gen rfl (PySem.W.codeRec_of KX hcd) (hb _ _ _ _ ?_)
 refine wpAny_newFunctionEnv_cells S.kind hkind fun env he s1 x=>?_
 subst he
 rwa[lim.keeps x.toInCall.keep,codeAny_func ?_]
 obtain⟨t,ht,hq⟩:=hbody A outer s H vs Q E (hr.deeper _) hsp
 have I:Inv (cxOf CX P w K mg base N qual scope f cdv A outer s H E) [] (start N vs) H s1:=kkj S hr.hd e0 hl r x
 refine wpAny_mono (ht [] s1 (start N vs) H _ I hq) (fun fl s' hs=>?_) fun e s' hs=>hs
 have fin:∀{σ':St}{H':Hp}{v:V}{u:Value},Inv (cxOf CX P w K mg base N qual scope f cdv A outer s H E) [] σ' H' s'→RelV v u→Q v H'→CE outer P w H s Q u s':=
  fun {σ' H' v u} J rv q=>⟨v,H',J.os,J.bare,J.base,J.hok,rv,q⟩
 cases fl with
 |ret u=>
  obtain⟨v,σ',H',J,rv,q⟩:=hs
  exact fin J rv q
 |next=>
  obtain⟨σ',H',J,q⟩:=hs
  exact fin (v:=V.non) (u:=Value.none) J rfl q
 |brk=>
  obtain⟨_,_,_,q⟩:=hs
  exact False.elim q
 |cont=>
  obtain⟨_,_,_,q⟩:=hs
  exact False.elim q
section
variable{X:Cx}{x:Str}{p pos:Pos}{e:Expr}{es:List Expr}{t:TA}{id T:String}{r:List V→Hp→VK→Prop}
def tCB(r:List V→Hp→VK→Prop)(t:TA):TE:=fun σ H Q=>t σ H fun vs H1=>r vs H1 Q
theorem kao(hc:CallR X (.builtin id) r)(hg:Gl X x)(hm:X.mg x=none)(hv:bootBuiltins x>>(.builtin id))(ha:PA X (e::es) t)(hn:autoParam (x≠"__name__") jQ)(hdb:autoParam ((x==("__debug__" :Str))=false) jQ)
  (he:autoParam (starEach (e::es) X.env=(false,eval e X.env)::starEach es X.env) jz) (hpl:autoParam ((backTo pos (starEach es X.env)).any (·.1)=false) jz):PE X (.Call (.Name x p) (e::es) [] pos) (tCB r t):=by
 intro pins s σ H Q I h
 refine wpAny_Call_Name_kw (kdK I hg hm hv ?_ hn hdb)
 exact PyProof.Rows.callWith_builtin1 (thn (ha pos pins s σ H _ I h) fun us s1 ⟨vs,H1,I1,r1,q1⟩=>hc pins s1 σ H1 vs us Q I1 r1 q1) he hpl
theorem kaF(hc:CallR X (.type T) r)(hg:Gl X x)(hm:X.mg x=none)(hv:bootBuiltins x>>(.type T))(ha:PA X (e::es) t)(hn:autoParam (x≠"__name__") jQ)(hdb:autoParam ((x==("__debug__" :Str))=false) jQ)
  (he:autoParam (starEach (e::es) X.env=(false,eval e X.env)::starEach es X.env) jz) (hpl:autoParam ((backTo pos (starEach es X.env)).any (·.1)=false) jz):PE X (.Call (.Name x p) (e::es) [] pos) (tCB r t):=by
 intro pins s σ H Q I h
 refine wpAny_Call_Name_kw (kdK I hg hm hv ?_ hn hdb)
 exact PyProof.Rows.callWith_type1 (thn (ha pos pins s σ H _ I h) fun us s1 ⟨vs,H1,I1,r1,q1⟩=>hc pins s1 σ H1 vs us Q I1 r1 q1) he hpl
end
end L2
namespace HT
open PySem PyProof.Rows
section
open PySem.SeqAt
open PySem.AutoSeq1 (wpAny_loadPart')
open PySem.MeetsSeq PySem.MeetsSeq2 PySem.MeetsSeq3
end
section
variable{prog:Program}{w:World}{A:Around}{E:Value→Shared→Prop}{s:Shared}
def sIx(n d:Nat):Option Int→Nat
 |none=>d
 |some v=>if v<0 then(v+(n:Int)).toNat else min v.toNat n
theorem sIx_none(n d:Nat):sIx n d none=d:=rfl
theorem sIx_nat(n d k:Nat):sIx n d (some (k:Int))=min k n:=by
 show(if(k:Int)<0 then((k:Int)+(n:Int)).toNat else min (k:Int).toNat n)=min k n
 rw[if_neg (by lia),Int.toNat_natCast]
end
end HT
namespace L2
open PySem PySem.Spec PyProof.Rows
abbrev TO:=St→Hp→(Option Int→Hp→Prop)→Prop
def PO(X:Cx)(e:Option Expr)(t:TO):Prop:=
 ∀(pins:List (Addr×Obj))(s:Shared)(σ:St)(H:Hp)(Q:Option Int→Hp→Prop),Inv X pins σ H s→t σ H Q→
  wpAny (model X.prog X.w) X.A (evalPart e X.env) (fun u s'=>∃o H',Inv X pins σ H' s'∧IsPart u o∧Q o H') X.xe s
def kmk:TO:=fun _ H Q=>Q none H
def tPart(t:TE):TO:=fun σ H Q=>t σ H fun x H1=>∃i,x=.int i∧Q (some i) H1
theorem intsAre_of{ns:List Int}:∀{us:List Value},Vals (ns.map V.int) us→IntsAre us ns:=by
 induction ns with
 |nil=>intro us r;rw[Ec] at r;cases r;exact .nil
 | cons n ns ih=>
  intro us r
  rw[NW] at r
  cases r with
  |cons r1 r2=>
   obtain⟨t,e⟩:=r1
   subst e
   exact .cons n t (ih r2)
section
variable{X:Cx}{e:Expr}{te:TE}{lo hi:Option Expr}{tl th:TO}{pos p2:Pos}
theorem kdY:PO X none kmk:=by
 intro pins s σ H Q I h
 rw[evalPart_none]
 exact wpAny_pure ⟨none,H,I, .none,h⟩
theorem kbX(h:PE X e te):PO X (some e) (tPart te):=by
 intro pins s σ H Q I hw
 rw[evalPart_some]
 refine thn (h pins s σ H _ I hw) fun u s1 zz=>?_
 obtain⟨x,H1,I1,r1,q1⟩:=zz
 obtain⟨i,rfl,q⟩:=q1
 obtain⟨t,rfl⟩:=r1
 rwa[some i,H1,I1, .int i t,q]
def SlR(X:Cx)(r:V→Option Int→Option Int→Hp→VK→Prop):Prop:=
 ∀(pins:List (Addr×Obj))(s:Shared)(σ:St)(H:Hp)(x:V)(v vl vu:Value)(lo hi:Option Int)(sl:Addr)(Q:VK),Inv X pins σ H s→RelV x v→s.heap.IsSliceOf sl vl vu .none→IsPart vl lo→IsPart vu hi→r x lo hi H Q→
  ∃T id,typeLookup (.type T) "__getitem__"=pure (some (.builtin id))∧s.TypeIs v T∧wpAny (model X.prog X.w) X.A (getItem v (.ref sl)) (EP X pins σ Q) X.xe s
def tSl(r:V→Option Int→Option Int→Hp→VK→Prop)(te:TE)(tl th:TO):TE:=fun σ H Q=>te σ H fun x H1=>tl σ H1 fun l H2=>th σ H2 fun u H3=>r x l u H3 Q
theorem kb3{r:V→Option Int→Option Int→Hp→VK→Prop}(hr:SlR X r)(he:PE X e te)(hl:PO X lo tl)(hu:PO X hi th):PE X (.Subscript e (.Slice lo hi none p2) pos) (tSl r te tl th):=by
 intro pins s σ H Q I h
 refine Subscript_ (thn (he pins s σ H _ I h) fun v s1 zz=>?_)
 obtain⟨x,H1,I1,r1,q1⟩:=zz
 refine wpAny_Slice (thn (hl pins s1 σ H1 _ I1 q1) fun vl s2 ⟨l,H2,I2,pl,q2⟩=>thn (hu pins s2 σ H2 _ I2 q2) fun vu s3 zz=>?_)
 obtain⟨u,H3,I3,pu,q3⟩:=zz
 rw[evalPart_none]
 refine wpAny_pure ?_
 have I4:Inv X pins σ H3 {s3 with heap:=s3.heap.push {cls:=.type "slice",data:=.fields #[vl,vu, .none]}}:=I3.kept (t':=s3.toks) fun b ob q=>Heap.get?_push_of_some _ q
 obtain⟨T,id,hT,ht,hg⟩:=hr pins {s3 with heap:=s3.heap.push {cls:=.type "slice",data:=.fields #[vl,vu, .none]}} σ H3 x v vl vu l u s3.heap.objs.size Q I4 r1 (Heap.IsSliceOf.new ..) pl pu q3
 show wpAny (model X.prog X.w) X.A (subscriptTail e (.Slice lo hi none p2) v (.ref s3.heap.objs.size)) (EP X pins σ Q) X.xe {s3 with heap:=s3.heap.push {cls:=.type "slice",data:=.fields #[vl,vu, .none]}}
 exact tail_any (ops:=[.ref s3.heap.objs.size,v]) ht hT hg (by with_unfolding_all rfl)
noncomputable def cutV(xs:List V)(lo hi:Option Int):List V:=(xs.drop (HT.sIx xs.length 0 lo)).take (HT.sIx xs.length xs.length hi-HT.sIx xs.length 0 lo)
theorem khQ(xs:List V)(lo hi:Option Int):(cutV xs lo hi).length≤xs.length:=by
 unfold cutV
 rw[NS,Eo]
 lia
end
noncomputable def ixN(n:Nat)(i:Int):Option Nat:=if 0≤i then(if i<n then some i.toNat else none) else if -(n:Int)≤i then some (i+n).toNat else none
noncomputable def atI{α:Type}(xs:List α)(i:Int):Option α:=(ixN xs.length i).bind fun j=>xs[j]?
def kkg{n:Nat}{i:Int}{j:Nat}(h:ixN n i>>j):seqIndex? i n>>j∧j<n∧-(n:Int)≤i∧i<n:=by
 unfold ixN at h
 by_cases h0:0≤i
 ·rw[if_pos h0] at h
  by_cases h1:i<n
  ·rw[if_pos h1] at h
   have e:i.toNat=j:=Option.some.inj h
   rwa[by rw[seqIndex_of h0 h1,e],by lia,by lia,h1]
  ·rw[if_neg h1] at h;cases h
 ·rw[if_neg h0] at h
  by_cases h1: -(n:Int)≤i
  ·rw[if_pos h1] at h
   have e:(i+n).toNat=j:=Option.some.inj h
   rwa[by rw[seqIndex_neg (by lia) h1,e],by lia,h1,by lia]
  ·rw[if_neg h1] at h;cases h
theorem khU{α:Type}{xs:List α}{i:Int}{v: α}(h:atI xs i>>v):∃j,seqIndex? i xs.length>>j∧xs[j]?>>v∧j<xs.length∧-(xs.length:Int)≤i∧i<xs.length:=by
 unfold atI at h
 cases e:ixN xs.length i with
 |none=>rw[e] at h;cases h
 |some j=>
  rw[e] at h
  obtain⟨h1,h2,h3,h4⟩:=kkg e
  rwa[j,h1,h,h2,h3,h4]
def kaL{α:Type}{xs:List α}{j:Nat}{v: α}(h:xs[j]?>>v):atI xs (j:Int)>>v:=by
 have hj:j<xs.length:=(NT.mp h).1
 have e:ixN xs.length (j:Int)>>j:=by
  unfold ixN
  rw[if_pos (by lia),if_pos (by lia)];simp
 unfold atI;rw[e];exact h
def kmX(b:Expr):Prop:=∀o i,subscripted b false o i=operate [o,i] (getItem o i)
def IxR(X:Cx)(r:R2):Prop:=
 ∀(value slice:Expr)(pins:List (Addr×Obj))(s:Shared)(σ:St)(H:Hp)(x y:V)(v u:Value)(Q:VK),Inv X pins σ H s→RelV x v→RelV y u→r x y H Q→
  subscripted slice false v u=operate [v,u] (getItem v u)→wpAny (model X.prog X.w) X.A (subscriptTail value slice v u) (EP X pins σ Q) X.xe s
def MtR(X:Cx)(id:String)(r:V→List V→Hp→VK→Prop):Prop:=
 ∀(pins:List (Addr×Obj))(s:Shared)(σ:St)(H:Hp)(x:V)(xs:List V)(v:Value)(us:List Value)(Q:VK),Inv X pins σ H s→RelV x v→Vals xs us→r x xs H Q→
  wpAny (model X.prog X.w) X.A (call (.builtin id) (v::us)) (EP X pins σ Q) X.xe s
section
variable{X:Cx}{a b:Expr}{ta tb:TE}{pos:Pos}
theorem pe_ix{r:R2}(hr:IxR X r)(ha:PE X a ta)(hb:PE X b tb)(hs:kmX b):PE X (.Subscript a b pos) (tOp r ta tb):=by
 intro pins s σ H Q I h
 exact Subscript_ (binT ha hb I h fun v u s2 x y H2 I2 rx ry q=>hr a b pins s2 σ H2 x y v u Q I2 rx ry q (hs _ _))
def rIxL(K:NF):R2:=fun x y H Q=>∃p xs i v,x=.ref p∧y=.int i∧SqL K H p xs∧atI xs i>>v∧Q v H
def rIxT(K:NF):R2:=fun x y H Q=>∃p xs i v,x=.ref p∧y=.int i∧SqT K H p xs∧atI xs i>>v∧Q v H
theorem kaG:IxR X (rIxL X.K):=by
 intro value slice pins s σ H x y v u Q I rx ry h hs
 obtain⟨p,xs,i,z,rfl,rfl,hq,he,q⟩:=h
 cases rx
 obtain⟨t,rfl⟩:=ry
 obtain⟨its,r,pl,hz⟩:=I.list hq
 obtain⟨j,h1,h2,h3,h4,h5⟩:=khU he
 obtain⟨w,ew,rw'⟩:=r.get h2
 have hl:=r.length
 have hn:=kg4
 have fin:EP X pins σ Q w s:=⟨z,H,I,rw',q⟩
 by_cases h0:0≤i
 ·have hj:i.toNat=j:=by
   rw[seqIndex_of h0 h5] at h1
   exact Option.some.inj h1
  exact item_listR pl.isList h0 (by lia) (by rw[hj];simpa using ew) fin hs
 ·have hj:(i+(its.toArray.size:Int)).toNat=j:=by
   rw[seqIndex_neg (by lia) h4] at h1
   rw[N6,←hl]
   exact Option.some.inj h1
  exact subscriptTail_builtinR (x:=w) pl.isList.typeIs slot_list_getitem.lookup
   (wpAny_getItem_list_neg (Q:=fun r s'=>r=w∧EP X pins σ Q r s') pl.isList (by lia) (by rw[N6] <;> lia) (by lia) (by rw[hj];simpa using ew) ⟨rfl,fin⟩) hs
theorem kix:IxR X (rIxT X.K):=by
 intro value slice pins s σ H x y v u Q I rx ry h hs
 obtain⟨p,xs,i,z,rfl,rfl,hq,he,q⟩:=h
 cases rx
 obtain⟨t,rfl⟩:=ry
 obtain⟨its,r,pl,hz⟩:=I.tuple hq
 obtain⟨j,h1,h2,h3,h4,h5⟩:=khU he
 obtain⟨w,ew,rw'⟩:=r.get h2
 have hl:=r.length
 have hn:=kg4
 have fin:EP X pins σ Q w s:=⟨z,H,I,rw',q⟩
 exact subscriptTail_builtinR (x:=w) pl.typeIs slot_tuple_getitem.lookup
  (getItem_tuple (j:=j) (Q:=fun r s'=>r=w∧EP X pins σ Q r s') pl (by lia) (by lia) (by rw[N6,←hl];exact h1) (by simpa using ew) ⟨rfl,fin⟩) hs
theorem kiW(its:List Value)(n j:Nat)(u:Value):Obj.mapSeq (·.setIfInBounds j u) {cls:=.type "list",data:=.seq its.toArray n}= {cls:=.type "list",data:=.seq (its.set j u).toArray n}:=by
 simp[Obj.mapSeq]
theorem Inv.lst{pins:List (Addr×Obj)}{σ:St}{H:Hp}{s:Shared}{p:Addr}{xs:List V}(I:Inv X pins σ H s)(h:H p>>(.lst xs)):
  ∃(its:List Value)(n:Nat),Vals xs its∧s.heap.get? p>>{cls:=.type "list",data:=.seq its.toArray n}∧xs.length≤sizeLine:=by
 obtain⟨z,its,n,r,e⟩:=I.hok p _ h
 rwa[its,n,r,e,z]
theorem Inv.lstUpd{pins:List (Addr×Obj)}{σ:St}{H:Hp}{s:Shared}{p:Addr}{xs ys:List V}{its its':List Value}{n n':Nat}{f:Obj→Obj}(I:Inv X pins σ H s)(h:H p>>(.lst xs))
  (ho:s.heap.get? p>>{cls:=.type "list",data:=.seq its.toArray n})(hf:f {cls:=.type "list",data:=.seq its.toArray n}= {cls:=.type "list",data:=.seq its'.toArray n'})(r:Vals ys its')(hz:ys.length≤sizeLine)(t:Nat):
  Inv X pins σ (upd H p (.lst ys)) {s with heap:=s.heap.update p f,toks:=t}:=by
 have e:(s.heap.update p f).get? p>>{cls:=.type "list",data:=.seq its'.toArray n'}:=by
  rw[Heap.get?_update_self f ho (by rw[hf] <;> rfl),hf]
 refine I.write (x:=p) (e:=p) (by rw[h];trivial) (.inl rfl) (fun b u hb q=>(Heap.get?_update_other _ _ (Ne.symm hb)).trans q) ⟨_,e⟩ ?_
 rwa[hz,its',n',r,e]
def rSetL:V→V→V→Hp→(Hp→Prop)→Prop:=fun o i v H Q=>∃p xs k j,o=.ref p∧i=.int k∧H p>>(.lst xs)∧ixN xs.length k>>j∧Q (upd H p (.lst (xs.set j v)))
theorem set_list:PSet X rSetL:=by
 intro pins s σ H o i v ov iv u Q I ro ri rv h
 obtain⟨p,xs,k,j,rfl,rfl,hp,hj,q⟩:=h
 cases ro
 obtain⟨t,rfl⟩:=ri
 obtain⟨its,n,r,ho,hz⟩:=I.lst hp
 obtain⟨h1,h2,h3,h4⟩:=kkg hj
 have hl:=r.length
 have hn:=kg4
 have I':Inv X pins σ (upd H p (.lst (xs.set j v))) {s with heap:=s.heap.update p (Obj.mapSeq (·.setIfInBounds j u))}:=
  I.lstUpd hp ho (kiW its n j u) (r.set rv j) (by rw[MD];exact hz) s.toks
 by_cases h0:0≤k
 ·have hk:k.toNat=j:=by
   rw[seqIndex_of h0 h4] at h1
   exact Option.some.inj h1
  exact PySem.W.ki_setAt ho h0 (by lia) (by rw[N6,←hl];exact h4) (by rw[hk];exact⟨_,I',q⟩)
 ·have hk:(k+(its.toArray.size:Int)).toNat=j:=by
   rw[seqIndex_neg (by lia) h3] at h1
   rw[N6,←hl]
   exact Option.some.inj h1
  exact PySem.W.ki_setBack ho (by lia) (by rw[N6,←hl];exact h3) (by lia) (by rw[hk];exact⟨_,I',q⟩)
theorem kgP(lo hi:Option Int)(n:Nat):(sliceBounds lo hi none n).1=((HT.sIx n 0 lo:Nat):Int)∧(sliceBounds lo hi none n).2.1=((HT.sIx n n hi:Nat):Int)∧(sliceBounds lo hi none n).2.2=1:=by
 rwa[?_,?_,6]
 ·cases lo with
  |none=>simp[sliceBounds,HT.sIx]
  |some i=>
   simp only[sliceBounds,HT.sIx,Dm,show(1:Int) > 0 by decide,if_true]
   by_cases h:i<0
   ·simp only[h,if_true] <;> lia
   ·simp only[h,if_false] <;> lia
 ·cases hi with
  |none=>simp[sliceBounds,HT.sIx]
  |some i=>
   simp only[sliceBounds,HT.sIx,Dm,show(1:Int) > 0 by decide,if_true]
   by_cases h:i<0
   ·simp only[h,if_true] <;> lia
   ·simp only[h,if_false] <;> lia
theorem kfV(its:List Value)(lo hi:Option Int):slicePick its.toArray lo hi none=((its.drop (HT.sIx its.length 0 lo)).take (HT.sIx its.length its.length hi-HT.sIx its.length 0 lo)).toArray:=by
 obtain⟨h1,h2,h3⟩:=kgP lo hi its.toArray.size
 unfold slicePick
 rw[h1,h2,h3]
 simp only[sliceRange_one,pick_run,N6] <;> rfl
def rSlL(K:NF):V→Option Int→Option Int→Hp→VK→Prop:=fun x lo hi H Q=>∃a xs,x=.ref a∧SqL K H a xs∧∀p,H p=none→Q (.ref p) (upd H p (.lst (cutV xs lo hi)))
theorem kcD:SlR X (rSlL X.K):=by
 intro pins s σ H x v vl vu lo hi sl Q I rx hs pl pu h
 obtain⟨a,xs,rfl,hx,q⟩:=h
 cases rx
 obtain⟨its,r,ht,hz⟩:=I.list hx
 have hlen:=r.length
 rwa["list",_,slot_list_getitem.lookup,ht.isList.typeIs,?_]
 refine wpAny_getItem_list_slice ht.isList hs pl pu .none (by simp) ?_ (by rw[N6] <;> lia)
 rw[kfV,←hlen]
 rwa[.ref s.heap.objs.size,_,I.laid (t':=s.toks) (o:=.lst (cutV xs lo hi)) (fun b ob q=>Heap.get?_push_of_some _ q) (NG _) ?_,6,q _ (I.hok.fresh (NG _))]
 rwa[NJ (khQ xs lo hi) hz,_,0,(r.drop (HT.sIx xs.length 0 lo)).take (HT.sIx xs.length xs.length hi-HT.sIx xs.length 0 lo),Heap.get?_push_size _ rfl]
noncomputable def flatV:V→Bool
 | .non=>true
 | .bl _=>true
 | .int _=>true
 | .str _=>true
 |_=>false
noncomputable def eqV:V→V→Bool
 | .non, .non=>true
 | .bl a, .bl b=>a==b
 | .bl a, .int b=>(if a then 1 else 0)==b
 | .int a, .bl b=>a==(if b then 1 else 0)
 | .int a, .int b=>a==b
 | .str a, .str b=>a==b
 |_,_=>false
theorem kkA{A:Around}{s:Shared}{y x:V}{u v:Value}(ry:RelV y u)(rx:RelV x v)(fy:flatV y=true)(fx:flatV x=true):SeqAt.EqAt A s u v (eqV y x):=by
 cases y with
 |non=>
  cases ry
  cases x with
  |non=>cases rx;exact SeqAt.EqAt.same _
  |bl b=>cases rx;exact SeqAt.EqAt.none_bool b
  |int b=>obtain⟨t,rfl⟩:=rx;exact SeqAt.EqAt.none_int b t
  |str b=>obtain⟨t,rfl⟩:=rx;exact SeqAt.EqAt.none_str b t
  |_=>exact absurd (show false=true from fx) NP
 |bl a=>
  cases ry
  cases x with
  |non=>cases rx;exact SeqAt.EqAt.bool_none a
  |bl b=>cases rx;exact SeqAt.EqAt.bool_bool a b
  |int b=>obtain⟨t,rfl⟩:=rx;exact SeqAt.EqAt.bool_int a b t
  |str b=>obtain⟨t,rfl⟩:=rx;exact SeqAt.EqAt.bool_str a b t
  |_=>exact absurd (show false=true from fx) NP
 |int a=>
  obtain⟨t',rfl⟩:=ry
  cases x with
  |non=>cases rx;exact SeqAt.EqAt.int_none a t'
  |bl b=>cases rx;exact SeqAt.EqAt.int_bool a t' b
  |int b=>obtain⟨t,rfl⟩:=rx;exact SeqAt.EqAt.int_int a t' b t
  |str b=>obtain⟨t,rfl⟩:=rx;exact SeqAt.EqAt.int_str a t' b t
  |_=>exact absurd (show false=true from fx) NP
 |str a=>
  obtain⟨t',rfl⟩:=ry
  cases x with
  |non=>cases rx;exact SeqAt.EqAt.str_none a t'
  |bl b=>cases rx;exact SeqAt.EqAt.str_bool a t' b
  |int b=>obtain⟨t,rfl⟩:=rx;exact SeqAt.EqAt.str_int a t' b t
  |str b=>obtain⟨t,rfl⟩:=rx;exact SeqAt.EqAt.str_str a t' b t
  |_=>exact absurd (show false=true from fx) NP
 |_=>exact absurd (show false=true from fy) NP
noncomputable def eqU(x:V)(u:Value):Bool:=match u with
 | .none=>eqV .non x
 | .bool b=>eqV (.bl b) x
 | .int i _=>eqV (.int i) x
 | .str z _=>eqV (.str z) x
 |_=>false
theorem kl5{x y:V}{u:Value}(r:RelV y u)(f:flatV y=true):eqU x u=eqV y x:=by
 cases y with
 |non=>cases r;rfl
 |bl b=>cases r;rfl
 |int i=>obtain⟨t,rfl⟩:=r;rfl
 |str z=>obtain⟨t,rfl⟩:=r;rfl
 |_=>exact absurd (show false=true from f) NP
theorem kfn{x:V}:∀{xs:List V}{us:List Value},Vals xs us→xs.all flatV=true→us.any (eqU x)=xs.any fun y=>eqV y x
 |_,_, .nil,_=>rfl
 |y::xs,u::us, .cons r t,f=>by
  rw[EO,Mz] at f
  rw[Ed,Ed,kl5 r f.1,kfn t f.2]
theorem kdI{A:Around}{s:Shared}{x:V}{v:Value}(rx:RelV x v)(fx:flatV x=true):∀{xs:List V}{us:List Value},Vals xs us→xs.all flatV=true→∀u∈us,SeqAt.EqAt A s u v (eqU x u)
 |_,_, .nil,_=>fun u hu=>by cases hu
 |y::xs,u::us, .cons r t,f=>fun u' hu=>by
  rw[EO,Mz] at f
  rcases N5.mp hu with rfl|hu
  ·rw[kl5 r f.1];exact kkA r rx f.1 fx
  ·exact kdI rx fx t f.2 u' hu
noncomputable def inV(x:V)(xs:List V):Bool:=xs.any fun y=>eqV y x
def rIn(K:NF)(neg:Bool):R2:=fun x y H Q=>∃p xs,y=.ref p∧(SqL K H p xs∨SqT K H p xs)∧flatV x=true∧xs.all flatV=true∧Q (.bl (if neg then !inV x xs else inV x xs)) H
theorem kc1:OpR X (compareOp .In) (rIn X.K false):=by
 intro pins s σ H x y v u Q I rx ry h
 obtain⟨p,xs,rfl,hq,fx,fs,q⟩:=h
 cases ry
 rcases hq with hq|hq
 ·obtain⟨its,r,pl,hz⟩:=I.list hq
  refine SeqAt.in_listAt (eqU x) pl.isList (fun w hw=>kdI rx fx r fs w (by simpa using hw)) ⟨.bl _,H,I,rfl,?_⟩
  rw[show its.toArray.any (eqU x)=its.any (eqU x) by simp,kfn r fs]
  exact q
 ·obtain⟨its,r,pl,hz⟩:=I.tuple hq
  refine SeqAt.in_tupleAt (eqU x) pl (fun w hw=>kdI rx fx r fs w (by simpa using hw)) ⟨.bl _,H,I,rfl,?_⟩
  rw[show its.toArray.any (eqU x)=its.any (eqU x) by simp,kfn r fs]
  exact q
theorem kgW:OpR X (compareOp .NotIn) (rIn X.K true):=by
 intro pins s σ H x y v u Q I rx ry h
 obtain⟨p,xs,rfl,hq,fx,fs,q⟩:=h
 cases ry
 rcases hq with hq|hq
 ·obtain⟨its,r,pl,hz⟩:=I.list hq
  refine SeqAt.notIn_listAt (eqU x) pl.isList (fun w hw=>kdI rx fx r fs w (by simpa using hw)) ⟨.bl _,H,I,rfl,?_⟩
  rw[show its.toArray.any (eqU x)=its.any (eqU x) by simp,kfn r fs]
  exact q
 ·obtain⟨its,r,pl,hz⟩:=I.tuple hq
  refine SeqAt.notIn_tupleAt (eqU x) pl (fun w hw=>kdI rx fx r fs w (by simpa using hw)) ⟨.bl _,H,I,rfl,?_⟩
  rw[show its.toArray.any (eqU x)=its.any (eqU x) by simp,kfn r fs]
  exact q
theorem kaq:CallR X (.builtin "len") (fun xs H Q=>∃p ys,xs=[.ref p]∧(SqL X.K H p ys∨SqT X.K H p ys)∧Q (.int ys.length) H):=by
 intro pins s σ H xs us Q I r h
 obtain⟨p,ys,rfl,hq,q⟩:=h
 obtain⟨u,rfl,rx⟩:=vals1 r
 cases rx
 have hn:=kg4
 rcases hq with hq|hq
 ·obtain⟨its,r',pl,hz⟩:=I.list hq
  have hlen:=r'.length
  exact Calls.call_len_list pl.isList (by simp only[N6] <;> lia) ⟨.int ys.length,H,I.tok _,⟨s.toks+1,by rw[N6,hlen]⟩,q⟩
 ·obtain⟨its,r',pl,hz⟩:=I.tuple hq
  have hlen:=r'.length
  exact len_tuple pl (by simp only[N6] <;> lia) ⟨.int ys.length,H,I.tok _,⟨s.toks+1,by rw[N6,hlen]⟩,q⟩
theorem kax:CallR X (.type "list") (fun xs H Q=>∃p ys,xs=[.ref p]∧(SqL X.K H p ys∨SqT X.K H p ys)∧∀l,H l=none→Q (.ref l) (upd H l (.lst ys))):=by
 intro pins s σ H xs us Q I r h
 obtain⟨p,ys,rfl,hq,q⟩:=h
 obtain⟨u,rfl,rx⟩:=vals1 r
 cases rx
 have fin:∀(its:List Value),Vals ys its→ys.length≤sizeLine→∀(h':Heap)(c':Nat),(∀b o',s.heap.get? b>>o'→h'.get? b>>o')→
   h'.get? s.heap.objs.size>>{cls:=.type "list",dict:=none,data:=.seq its.toArray c',slots:=#[]}→EP X pins σ Q (.ref s.heap.objs.size) {s with heap:=h'}:=fun its r' hz h' c' kp e=>
  ⟨.ref s.heap.objs.size,_,I.laid (t':=s.toks) kp (NG _) (show ObjOk X.prog X.w _ h' _ (.lst ys) from⟨hz,its,c',r',e⟩),rfl,q _ (I.hok.fresh (NG _))⟩
 rcases hq with hq|hq
 ·obtain⟨its,r',pl,hz⟩:=I.list hq
  have hlen:=r'.length
  obtain⟨o,ho,hc,n,hd⟩:=pl.isList
  exact call_list_seq p (.inl rfl) ho hc hd (fun h' c' kp e=>fin its r' hz h' c' kp e) (by simp only[N6] <;> lia)
 ·obtain⟨its,r',pl,hz⟩:=I.tuple hq
  have hlen:=r'.length
  obtain⟨o,ho,hc,n,hd⟩:=pl
  exact call_list_seq p (.inr rfl) ho hc hd (fun h' c' kp e=>fin its r' hz h' c' kp e) (by simp only[N6] <;> lia)
def tyV(K:NF)(T:String)(x:V)(H:Hp):Prop:=match x with
 | .str _=>T="str"
 | .int _=>T="int"
 | .ref p=>(T="list"∧∃xs,SqL K H p xs)∨(T="tuple"∧∃o,K.lookup p>>o∧o.cls=.type "tuple"∧o.dict=none)∨
   (T="dict"∧((∃kvs,H p>>(.dK kvs))∨∃kvs,H p>>(.dT kvs)))∨(T="set"∧∃S n,H p>>(.set S n))
 |_=>False
theorem klI{pins:List (Addr×Obj)}{σ:St}{H:Hp}{s:Shared}{T:String}{x:V}{v:Value}(I:Inv X pins σ H s)(r:RelV x v)(ty:tyV X.K T x H):
  s.TypeIs v T∧∀a,v=.ref a→∃ob,s.heap.get? a>>ob∧ob.dict=none:=by
 cases x with
 |str z=>
  obtain⟨t,rfl⟩:=r
  cases(show T="str" from ty)
  rwa[typeIs_str s z t,fun _ e=>nomatch e]
 |int i=>
  obtain⟨t,rfl⟩:=r
  cases(show T="int" from ty)
  rwa[typeIs_int s i t,fun _ e=>nomatch e]
 | ref p=>
  cases r
  rcases ty with⟨rfl,xs,hq⟩|⟨rfl,o,hk,hc,hd⟩|⟨rfl,hk⟩|⟨rfl,S,n,hk⟩
  ·obtain⟨its,_,pl,_⟩:=I.list hq
   rwa[pl.isList.typeIs,fun a e=>?_]
   cases e
   obtain⟨o,n,e,c,hd,_⟩:=pl
   rwa[o,e,hd]
  ·rwa[⟨o,I.kIn p o hk,hc⟩,fun a e=>?_]
   cases e
   rwa[o,I.kIn _ o hk,hd]
  ·have z:∃o,s.heap.get? p>>o∧o.ExactDict:=by
    rcases hk with⟨kvs,hk⟩|⟨kvs,hk⟩
    ·obtain⟨_,_,_,_,o,_,_,e,ex,_⟩:=I.hok p _ hk
     rwa[o,e,ex]
    ·obtain⟨_,_,_,_,o,_,_,e,ex,_⟩:=I.hok p _ hk
     rwa[o,e,ex]
   obtain⟨o,e,ex⟩:=z
   rwa[⟨o,e,ex.1⟩,fun a e2=>?_]
   cases e2
   rwa[o,e,ex.2.1]
  ·obtain⟨o,_,_,_,e,ex,_⟩:=I.hok p _ hk
   rwa[⟨o,e,ex.1⟩,fun a e2=>?_]
   cases e2
   rwa[o,e,ex.2.1]
 |_=>exact False.elim ty
def tBM(K:NF)(T:String)(r:V→List V→Hp→VK→Prop)(to:TE)(t:TA):TE:=fun σ H Q=>to σ H fun x H1=>tyV K T x H1∧t σ H1 fun xs H2=>r x xs H2 Q
variable{o e:Expr}{es:List Expr}{to:TE}{t:TA}{name:Str}{apos cpos:Pos}{T id:String}{r:V→List V→Hp→VK→Prop}
theorem pe_bm(pa:PlainAttrs T)(slot:Slot T name id)(hty:typeOf (.builtin id)=pure (.type "method_descriptor"))(hm:MtR X id r)(ho:PE X o to)(ha:PA X (e::es) t)
  (hbase:autoParam (attributeBase o name X.env (eval o X.env)=eval o X.env) jz)
  (hfew:autoParam (((backTo cpos (starEach (e::es) X.env)).all (fun x=>!x.1)&&(backToKw cpos (keywordEach [] X.env)).all (fun x=>x.1.isSome)
   &&decide ((e::es).length+([]:List Keyword).length+(if([]:List Keyword).isEmpty then 0 else 1)<30))=true) jz)
  (hline:autoParam ((apos.endLine==cpos.line)=true) jz)(hs:autoParam (starEach (e::es) X.env=(false,eval e X.env)::starEach es X.env) jz)(hplain:autoParam ((backTo cpos (starEach es X.env)).any (·.1)=false) jz):
  PE X (.Call (.Attribute o name apos) (e::es) [] cpos) (tBM X.K T r to t):=by
 intro pins s σ H Q I h
 refine wpAny_Call_method_late hbase hfew hline rfl (thn (ho pins s σ H _ I h) fun v s1 zz=>?_)
 obtain⟨x,H1,I1,r1,ty,q1⟩:=zz
 obtain⟨h1,h2⟩:=klI I1 r1 ty
 rwa[T,id,pa,slot,hty,h1,h2,?_]
 have hA:=ha cpos pins s1 σ H1 _ I1 q1
 rw[hs] at hA⊢
 refine Calls.callWith_builtin (by show(false||(backTo cpos (starEach es X.env)).any (·.1))=false;rw[hplain] <;> rfl) (Calls.evalArgs_plain ?_)
 exact thn hA fun us s2 ⟨vs,H2,I2,r2,q2⟩=>hm pins s2 σ H2 x vs v us Q I2 r1 r2 q2
end
def MtM(X:Cx)(id:String)(r:V→List V→Hp→VK→Prop):Prop:=
 ∀(pins:List (Addr×Obj))(s:Shared)(σ:St)(H:Hp)(x:V)(xs:List V)(v:Value)(us:List Value)(Q:VK),Inv X pins σ H s→RelV x v→Vals xs us→r x xs H Q→
  wpAny (model X.prog X.w) X.A (call (.builtin id) (v::us)) (EP X pins σ Q) X.xe s
theorem Vals.one{x:V}{us:List Value}(h:Vals [x] us):∃u,us=[u]∧RelV x u:=by
 cases h with|cons r h=>cases h;exact⟨_,rfl,r⟩
theorem Vals.rep{xs:List V}{us:List Value}(h:Vals xs us):∀k:Nat,Vals (NI k xs).flatten (NI k us).flatten
 |0=>.nil
 |k+1=>by
  rw[ME,ME,Me,Me]
  exact Vals.append h (Vals.rep h k)
theorem foldl_rep(its:List Value):∀(k:Nat)(acc:List Value),
  List.foldl (fun x1 x2=>x1++x2) acc.toArray (NI k its.toArray)=(acc++(NI k its).flatten).toArray
 |0,acc=>by simp
 | k+1,acc=>by
  have e:acc.toArray++its.toArray=(acc++its).toArray:=by simp
  have e2:(acc++its)++(NI k its).flatten=acc++(NI (k+1) its).flatten:=by
   rw[ME,Me,Mr]
  rw[←e2,←foldl_rep its k (acc++its),←e,ME,List.foldl_cons]
section
variable{X:Cx}{pins:List (Addr×Obj)}{σ:St}{H:Hp}{s:Shared}{l b:Addr}{xs ys zs:List V}
theorem Inv.lset{its its':List Value}{n:Nat}{f:Array Value→Array Value}{t':Nat}(I:Inv X pins σ H s)(hH:H l>>(.lst xs))
  (e:s.heap.get? l>>{cls:=.type "list",data:=.seq its.toArray n})(hf:f its.toArray=its'.toArray)(hv:Vals ys its')(hz:ys.length≤sizeLine):
  Inv X pins σ (upd H l (.lst ys)) {s with heap:=s.heap.update l (Obj.mapSeq f),toks:=t'}:=by
 have q:=PySem.IsL.update e f
 rw[hf] at q
 refine I.write (x:=l) (e:=l) (by rw[hH];exact trivial) (.inl rfl) (fun b' u hb hu=>(Heap.get?_update_other s.heap (Obj.mapSeq f) (Ne.symm hb)).trans hu) ⟨_,q⟩ ?_
 rwa[hz,its',_,hv,q]
theorem Inv.lnew{its:List Value}{t':Nat}(I:Inv X pins σ H s)(hv:Vals ys its)(hz:ys.length≤sizeLine):
  Inv X pins σ (upd H s.heap.objs.size (.lst ys)) {s with heap:=s.heap.push {cls:=.type "list",data:=.seq its.toArray},toks:=t'}:=
 I.laid (fun _ _ q=>Heap.get?_push_of_some _ q) (NG _) ⟨hz,its,0,hv,Heap.get?_push_size _ rfl⟩
theorem Inv.fresh(I:Inv X pins σ H s):H s.heap.objs.size=none:=I.hok.fresh (NG _)
theorem Inv.lstM(I:Inv X pins σ H s)(hH:H l>>(.lst xs)):xs.length≤sizeLine∧∃(its:List Value)(n:Nat),Vals xs its∧xs.length=its.length∧s.heap.get? l>>{cls:=.type "list",data:=.seq its.toArray n}:=by
 obtain⟨z,its,n,r,e⟩:=I.hok l _ hH
 rwa[z,its,n,r,r.length,e]
theorem kiq{n:Nat}(h:n≤sizeLine):Builtin.List.listTooLong n=false:=by
 unfold Builtin.List.listTooLong
 exact decide_eq_false (by lia)
end
section
variable{X:Cx}
def kmw:V→List V→Hp→VK→Prop:=fun x vs H Q=>∃l xs y,x=.ref l∧vs=[y]∧H l>>(.lst xs)∧xs.length<sizeLine∧Q .non (upd H l (.lst (xs++[y])))
theorem ka8:MtM X "list.append" kmw:=by
 intro pins s σ H x vs v us Q I rx rv h
 obtain⟨l,xs,y,rfl,rfl,hH,hz,q⟩:=h
 cases rx
 obtain⟨u,rfl,ru⟩:=rv.one
 obtain⟨z,its,n,r,hl,e⟩:=I.lstM hH
 refine call_meets F.slot_list_append ⟨_,e,rfl⟩ F.entry_list_append (F.args_list_append_2 _ _) (PySem.list_append l its.toArray n u (by rw[N6];lia)) ⟨e,?_⟩
 rwa[.non,_,I.lset (its':=its++[u]) hH e (by simp) (r.append (.cons ru .nil)) ?_,6,q]
 rw[NQ,MM]
 lia
def kmv:V→List V→Hp→VK→Prop:=fun x vs H Q=>∃l b xs zs,x=.ref l∧vs=[.ref b]∧H l>>(.lst xs)∧H b>>(.lst zs)∧xs.length+zs.length≤sizeLine∧Q .non (upd H l (.lst (xs++zs)))
theorem ke9:MtM X "list.extend" kmv:=by
 intro pins s σ H x vs v us Q I rx rv h
 obtain⟨l,b,xs,zs,rfl,rfl,hH,hB,hz,q⟩:=h
 cases rx
 obtain⟨u,rfl,ru⟩:=rv.one
 cases ru
 obtain⟨z,its,n,r,hl,e⟩:=I.lstM hH
 obtain⟨z2,its2,n2,r2,hl2,e2⟩:=I.lstM hB
 have hsz:its.toArray.size+its2.toArray.size≤sizeLine:=by rw[N6,N6];lia
 have hlong:¬(!its.toArray.isEmpty&&Builtin.List.listTooLong (its.toArray.size+its2.toArray.size))=true:=by
  rw[kiq hsz,Bool.and_false]
  exact NP
 refine call_meets F.slot_list_extend ⟨_,e,rfl⟩ F.entry_list_extend (F.args_list_extend_2 _ _)
  (AutoSeq1.list_extend_list_list_0 l its.toArray n b its2.toArray n2 hlong (by rw[N6];lia) (by lia)) ⟨e,e2,?_⟩
 rwa[.non,_,I.lset (its':=its++its2) hH e (by simp) (r.append r2) ?_,6,q]
 rw[NQ]
 lia
def rCat:R2:=fun x y H Q=>∃l b xs zs,x=.ref l∧y=.ref b∧H l>>(.lst xs)∧H b>>(.lst zs)∧xs.length+zs.length≤sizeLine∧∀p,H p=none→Q (.ref p) (upd H p (.lst (xs++zs)))
theorem ke0:OpR X (binaryOp .Add) rCat:=by
 intro pins s σ H x y v u Q I rx ry h
 obtain⟨l,b,xs,zs,rfl,rfl,hH,hB,hz,q⟩:=h
 cases rx
 cases ry
 obtain⟨z,its,n,r,hl,e⟩:=I.lstM hH
 obtain⟨z2,its2,n2,r2,hl2,e2⟩:=I.lstM hB
 refine PySem.P.add_list e e2 ?_ (by rw[N6,N6];lia)
 have ea:its.toArray++its2.toArray=(its++its2).toArray:=by simp
 rw[ea]
 rwa[.ref _,_,I.lnew (t':=s.toks) (r.append r2) (by rw[NQ];lia),6,q _ I.fresh]
def rRep:R2:=fun x y H Q=>∃l k xs,x=.ref l∧y=.int k∧H l>>(.lst xs)∧-(2 ^ 63)≤k∧k<2 ^ 63∧xs.length*k.toNat≤sizeLine∧
 ∀p,H p=none→Q (.ref p) (upd H p (.lst (NI k.toNat xs).flatten))
theorem len_rep{α:Type}(xs:List α)(k:Nat):(NI k xs).flatten.length=k*xs.length:=by
 induction k with
 |zero=>simp
 |succ k ih=>rw[ME,Me,NQ,ih,Nat.succ_mul,Nat.add_comm]
theorem kj2:OpR X (binaryOp .Mult) rRep:=by
 intro pins s σ H x y v u Q I rx ry h
 obtain⟨l,k,xs,rfl,rfl,hH,h1,h2,hz,q⟩:=h
 cases rx
 obtain⟨t,rfl⟩:=ry
 obtain⟨z,its,n,r,hl,e⟩:=I.lstM hH
 have hlen:its.toArray.size*k.toNat≤sizeLine:=by rw[N6,←hl];exact hz
 have hcap:¬its.toArray.size*k.toNat > (2 ^ 63-1)/8:=by
  have:(sizeLine:Nat)≤(2 ^ 63-1)/8:=by decide
  lia
 have hfit:¬(!Builtin.List.listFitsIndex k)=true:=by
  rw[fitsIndex_both h1 h2]
  exact NP
 have hlong:¬Builtin.List.listTooLong (its.toArray.size*k.toNat)=true:=by
  rw[kiq hlen]
  exact NP
 have hnew:List.foldl (fun x1 x2=>x1++x2) #[] (NI (if its.toArray.isEmpty=true then 0 else k.toNat) its.toArray)=(NI k.toNat its).flatten.toArray:=by
  have f0:∀m:Nat,List.foldl (fun x1 x2=>x1++x2) #[] (NI m its.toArray)=(NI m its).flatten.toArray:=fun m=>by
   have:=foldl_rep its m []
   rw[Ep] at this
   exact this
  rw[f0]
  cases its with
  |nil=>simp
  |cons a r'=>rw[if_neg (by simp)]
 refine wpAny_binaryOp_repeat_ref (T:="list") (U:="int") (by decide) ⟨_,e,rfl⟩ (fun s'=>typeIs_int s' k t) noFill_list_mul F.fills_int_mul F.slot_int_rmul repeat_list F.slot_int_index.lookup
  (call_meets F.slot_int_rmul (typeIs_int s k t) F.entry_int_rmul (F.args_int_rmul_2 _ _) (int___rmul___int_list k t l its.toArray n)
   ⟨e,rfl,⟨_,e,rfl⟩,call_meets F.slot_list_mul ⟨_,e,rfl⟩ F.entry_list_mul (F.args_list_mul_2 _ _) (AutoListH.list___mul___list_int_3 l its.toArray n k t hfit hcap hlong) ⟨e,?_⟩⟩)
 rw[hnew]
 rwa[.ref _,_,I.lnew (t':=s.toks) (r.rep k.toNat) (by rw[len_rep,Nat.mul_comm];exact hz),6,q _ I.fresh]
end
section
variable{prog:Program}{w:World}{A:Around}{E:Value→Shared→Prop}{s:Shared}
set_option maxRecDepth 100000 in
end
section
variable{X:Cx}
end
end L2
namespace Att
open PySem PySem.W PySem.Calls PyProof.Rows
theorem kfd{P:Params}{h:Heap}:∀(ns:List Int)(vs:List Value),WellAll P h vs (ns.map WData.int)→IntsAre vs ns:=by
 intro ns
 induction ns with
 |nil=>
  intro vs w
  rw[Ec] at w
  cases w
  exact .nil
 | cons n ns ih=>
  intro vs w
  rw[NW] at w
  cases w with
  |cons a b=>
   cases a
   exact .cons _ _ (ih _ b)
theorem kjD{l:OpenLaw}{n:Nat}(hn:l.most>>n){P:Params}{h:Heap}{args:List WData}{vals:List Value}
  (hpre:l.row.toRowW.claim.pre args=true)(hwl:WellAll P h vals args):
  ∃a vs ns,vals=[Value.ref a]∧args=[WData.list (ns.map WData.int)]∧h.get? a>>{cls:=.type "list",data:=.seq vs.toArray}∧IntsAre vs ns∧ns.length≤n:=by
 have hsh:WShape.hasAll [] args [.list .int]=true:=(pre_splitW hpre).1
 have hc:l.pre.holds [] {args:=args}=true:=(pre_splitW hpre).2
 obtain⟨d,r,rfl,h1,h2⟩:=hasAllW_cons hsh
 obtain rfl:=hasAllW_nil h2
 obtain⟨xs,rfl,h3⟩:=hasW_list h1
 obtain⟨ns,rfl⟩:=items_int h3
 have hlen:ns.length≤n:=by
  unfold OpenLaw.pre at hc
  have h4:(WTm.not (.lt (.lit (.int (n:Int))) (.len (.arg 0)))).holds [] {args:=[.list (ns.map .int)]}=true:=by
   have h4:=(holds_andW hc).1
   rw[hn] at h4
   exact h4
  have h5:=condW_of h4 (w_not (w_lt w_lit (w_len_list (w_arg rfl))))
  rw[ND] at h5
  refine Nat.le_of_not_lt fun q=>?_
  have q':(n:Int)<((ns.length:Nat):Int):=by lia
  first
   |(rw[decide_eq_true q'] at h5;exact absurd h5 (by decide))
   |(simp at h5;lia)
 cases hwl with
 |cons w1 w2=>
  cases w2
  cases w1 with
  |list ho hall=>exact⟨_,_,ns,rfl,rfl,ho,kfd ns _ hall,hlen⟩
def kjV(l:OpenLaw)(args:List WData):l.row.toRowW.claim.post args (.bool true) args=true:=
 postW_of (r:=l.row.toRowW) (X:=(true==true))
  (show WShape.has [] (.bool true) .bool=true by first|rfl|decide|simp[WShape.has,WShape.arms,WShape.armsAll])
  (show(WTm.eq .res (.lit (.bool true))).value [] {args:=args,res:=some (.bool true),after:=args}>>(.bool (true==true)) from w_eq_bool (w_res rfl) w_lit) rfl
theorem attach_call{l:OpenLaw}{n:Nat}{q:Program}{loose:List Str}{XP:(Str→Option Value)→Heap→Prop}{YP:World→Heap→Prop}{d:DefRec}
  (hn:l.most>>n)(hdf:d.params.defaults=[])
  (call:∀(w:World)(s₀ s₁:Shared)(mg mb:Str→Option Value)(fa:Addr)(o:Obj)(pm cd doc:Value)(a:Addr)(vs:List Value)(ns:List Int),
   Ground q loose [] XP w s₀ mg mb s₁.heap→YP w s₁.heap→
   s₁.heap.get? fa>>o→o.data=.func (docDef d.name d.params d.body d.scope pm cd doc)→s₁.heap.CodeRec cd d.name→mg d.name>>(.ref fa)→
   s₁.heap.get? a>>{cls:=.type "list",data:=.seq vs.toArray}→IntsAre vs ns→ns.length≤n→s₁.gens= #[]→
   codeAny (model l.prog w) callerA (.call (.ref fa) ⟨[.ref a],[]⟩) (fun r s'=>r=.ok (.ret (.bool true))∧OldK s₁.heap s'.heap∧s'.os=s₁.os∧AllBare s'.gens) s₁):
  WalkO q loose XP YP l.row.toRowW d [] (fun f vs=>PySem.call f vs):=by
 intro w s₀ s₁ mg mb G Y fa o pm cd doc dV kV ho hd hcd hD hmg hg args vals as hpre hlay hrd hwl hlo
 obtain rfl:dV=.none:=Dflts.none hD hdf
 obtain rfl:kV=.none:=Dflts.noKw hD
 obtain⟨a,vs,ns,rfl,rfl,hobj,hints,hlen⟩:=kjD hn hpre hwl
 refine enter_call (codeAny_mono (call w s₀ s₁ mg mb fa o pm cd doc a vs ns G Y ho (fd_plain hd) hcd hmg hobj hints hlen hg) fun r s' hq=>?_)
 obtain⟨rfl,h2,h3,h4⟩:=hq
 rwa[.inl ⟨.bool true, .bool true,[],rfl,fun _=>rfl, .bool true,kjV l _,fun _=>⟨Er.nil,fun _ hm=>(nomatch hm)⟩⟩,h2,h3,h4]
section
variable{prog:Program}{w:World}{A:Around}{E:Value→Shared→Prop}{s:Shared}{K:Frag}
end
end Att
namespace L2
open PySem PySem.Spec PyProof.Rows
theorem kgA:∀{vs:List Value}{ns:List Int},IntsAre vs ns→Vals (ns.map V.int) vs
 |_,_, .nil=>.nil
 |_,_, .cons n t h=>.cons ⟨t,rfl⟩ (kgA h)
noncomputable def inClass(s:Stmt)(j:Nat):Stmt:=match s with
 | .ClassDef _ _ _ body _ _ _ _ _ _ _=>body.getD j (.Pass ⟨0,0,0,0⟩)
 |_=>.Pass ⟨0,0,0,0⟩
noncomputable def kaH(s:Stmt):Arguments:=match s with
 | .FunctionDef _ a _ _ _ _ _ _ _ _=>a
 |_=>{posonlyargs:=[],args:=[],vararg:=none,kwonlyargs:=[],kw_defaults:=[],kwarg:=none,defaults:=[]}
noncomputable def kaE(s:Stmt):List Stmt:=match s with
 | .FunctionDef _ _ b _ _ _ _ _ _ _=>b
 |_=>[]
noncomputable def kai(s:Stmt):Scope:=match s with
 | .FunctionDef _ _ _ _ _ _ sc _ _ _=>sc
 |_=>{kind:=.function,names:=[],isGenerator:=false,isCoroutine:=false}
abbrev CX0:CXT:=fun _ _ _ _ _ _=>False
abbrev E0:XK:=fun _ _ _=>False
def pass0{X:Cx}:kdP CX0 X E0:=fun _ _ _ _ _ _ _ h=>h.elim
section
variable{P:Program}{w:World}{K:NF}{mg:Str→Option Value}{base:Heap}
end
def kas{n:Nat}(h:n≤1000):n<sizeLine:=MR h (by decide)
section
variable{X:Cx}
theorem pv(i:Nat){x:Str}{pos:Pos}(hN:autoParam (X.N[i]?>>x) jz)(hv:Vis X.env.scope x:=by first|exact Or.inl rfl|exact Or.inr (Or.inl rfl)|exact Or.inr (Or.inr rfl))(hd:autoParam ((x==("__debug__" :Str))=false) jQ)
  (hcd:autoParam ((x==("__classdict__" :Str))=false) jQ):PE X (.Name x pos) (tVar i):=km6 hN hv hd hcd
end
def iteF{A B:Prop}(h:B):if false=true then A else B:=by
 rw[if_neg NP]
 exact h
def iteT{A B:Prop}(h:A):if true=true then A else B:=by
 rw[if_pos rfl]
 exact h
def ite2{c A B:Prop} [Decidable c] (h1:c→A) (h2:¬c→B):if c then A else B:=by
 by_cases h:c
 ·rw[if_pos h]
  exact h1 h
 ·rw[if_neg h]
  exact h2 h
end L2
set_option maxHeartbeats 4000000
namespace L3
end L3
namespace L2
open PySem PySem.Spec PyProof.Rows
section
variable{X:Cx}
theorem log2_small{n:Nat}(h:n<2 ^ 200):n.log2<9000:=by
 by_cases h0:n=0
 ·subst h0
  decide
 ·have h1:n.log2<200:=(Nat.log2_lt h0).mpr h
  lia
def CDivB(_ j:Int):Prop:=0<j∧j<2 ^ 199
theorem kk8:OpR X (binaryOp .FloorDiv) (rI CDivB fun i j=>.int (i/j)):=opI fun i j _ _ _ _ _ hc q=>by
 have h1:(0:Int)<j:=hc.1
 have h2:j<2 ^ 199:=hc.2
 have h3:j.natAbs<2 ^ 200:=by lia
 exact floordiv_int (by lia) (by rw[Int.fdiv_eq_ediv_of_nonneg i (by lia)];exact q) (.inl (PyProof.noPylong_of_log2 (log2_small h3)))
theorem kbO(hc:X.calm=true):CallR X (.builtin "sum") (fun xs H Q=>∃(p:Addr)(ns:List Int),xs=[.ref p]∧SqL X.K H p (ns.map V.int)∧Q (.int ns.sum) H):=by
 intro pins s σ H xs us Q I r h
 obtain⟨p,ns,rfl,hq,q⟩:=h
 obtain⟨u,rfl,rx⟩:=vals1 r
 cases rx
 obtain⟨its,r',pl,hz⟩:=I.list hq
 have hi:IntsAre its ns:=intsAre_of r'
 have ha:=hi.allInts
 obtain⟨zs,hx⟩:=ha.items
 have hl:=pl.isList
 rw[hx] at hl
 refine sum_intListG (I.ok.hd hc) hl fun h' tk t' hk=>⟨.int ns.sum,H,I.kept hk,⟨t',?_⟩,q⟩
 have e2:preSum (numAt zs) zs.size=(numsOf (intItems zs).toList).sum:=by
  rw[nums_intItems,preSum_eq,MN (by simp)]
 have e3:numsOf its.toArray.toList=ns:=hi.numsOf
 rw[e2,←hx,e3]
noncomputable def eqVs:List V→List V→Bool
 |[],[]=>true
 |x::xs,y::ys=>eqV x y&&eqVs xs ys
 |_,_=>false
theorem kgq:∀{xs ys:List V},xs.length≠ys.length→eqVs xs ys=false
 |[],[],h=>absurd rfl h
 |[],_::_,_=>rfl
 |_::_,[],_=>rfl
 |x::xs,y::ys,h=>by
  show(eqV x y&&eqVs xs ys)=false
  rw[kgq (fun e=>h (by simp[e])),Bool.and_false]
theorem kdX:∀(xs ys:List V),xs.length=ys.length→(NK xs.length).all (fun j=>eqV (xs.getD j .non) (ys.getD j .non))=eqVs xs ys
 |[],[],_=>rfl
 |[],_::_,h=>by simp at h
 |_::_,[],h=>by simp at h
 |x::xs,y::ys,h=>by
  have ih:=kdX xs ys (by simpa using h)
  show(NK (xs.length+1)).all _=(eqV x y&&eqVs xs ys)
  rw[List.range_succ_eq_map,EO,List.all_map]
  show(eqV x y&&_)=_
  rw[←ih]
  rfl
theorem kiF:∀{x:V},flatV x=true→eqV x x=true
 | .non,_=>rfl
 | .bl b,_=>by simp[eqV]
 | .int i,_=>by simp[eqV]
 | .str z,_=>by simp[eqV]
theorem kda:∀{xs:List V},xs.all flatV=true→eqVs xs xs=true
 |[],_=>rfl
 |x::xs,h=>by
  rw[EO,Mz] at h
  show(eqV x x&&eqVs xs xs)=true
  rw[kiF h.1,kda h.2]
  rfl
theorem kfg(ns:List Int):(ns.map V.int).all flatV=true:=by
 rw[Es]
 intro x hx
 obtain⟨n,_,rfl⟩:=N3.mp hx
 rfl
def rEqL(K:NF)(neg:Bool):R2:=fun x y H Q=>∃a b xs ys,x=.ref a∧y=.ref b∧SqL K H a xs∧SqL K H b ys∧xs.all flatV=true∧ys.all flatV=true∧Q (.bl (if neg then !eqVs xs ys else eqVs xs ys)) H
theorem kkv{xs:List V}(h:xs.all flatV=true){j:Nat}(hj:j<xs.length):flatV xs[j]=true:=by
 rw[Es] at h
 exact h _ (Do hj)
theorem kkz{A:Around}{s:Shared}{xs ys:List V}{us ws:List Value}(r:Vals xs us)(q:Vals ys ws)(fx:xs.all flatV=true)(fy:ys.all flatV=true):
  ∀j (h1:j<us.toArray.size) (h2:j<ws.toArray.size),SeqAt.EqAt A s us.toArray[j] ws.toArray[j] (eqV (xs.getD j .non) (ys.getD j .non)):=by
 intro j h1 h2
 have l1:=r.length
 have l2:=q.length
 have h1':j<us.length:=by simpa using h1
 have h2':j<ws.length:=by simpa using h2
 have k1:j<xs.length:=by lia
 have k2:j<ys.length:=by lia
 obtain⟨u,e1,r1⟩:=r.get (i:=j) (x:=xs[j]) (by simp[k1])
 obtain⟨w,e2,r2⟩:=q.get (i:=j) (x:=ys[j]) (by simp[k2])
 have g1:us.toArray[j]=u:=by
  have:=NT.mp e1
  obtain⟨_,e⟩:=this
  simpa using e
 have g2:ws.toArray[j]=w:=by
  have:=NT.mp e2
  obtain⟨_,e⟩:=this
  simpa using e
 have d1:xs.getD j .non=xs[j]:=by simp[k1]
 have d2:ys.getD j .non=ys[j]:=by simp[k2]
 rw[g1,g2,d1,d2]
 exact kkA r1 r2 (kkv fx k1) (kkv fy k2)
theorem klX(hu:X.A.units<cLine):OpR X (compareOp .Eq) (rEqL X.K false):=by
 intro pins s σ H x y v u Q I rx ry h
 obtain⟨a,b,xs,ys,rfl,rfl,hx,hy,fx,fy,q⟩:=h
 cases rx
 cases ry
 obtain⟨us,r1,p1,z1⟩:=I.list hx
 obtain⟨ws,r2,p2,z2⟩:=I.list hy
 have l1:=r1.length
 have l2:=r2.length
 by_cases hl:xs.length=ys.length
 ·refine SeqAt.eq_listAt p1.isList p2.isList (by simp;lia) hu (kkz r1 r2 fx fy) ⟨.bl (eqVs xs ys),H,I,?_,q⟩
  have e:us.toArray.size=xs.length:=by simp[l1]
  rw[e,kdX xs ys hl]
  rfl
 ·refine SeqAt.eq_list_lengthsAt p1.isList p2.isList (by simp;lia) hu ⟨.bl (eqVs xs ys),H,I,?_,q⟩
  rw[kgq hl]
  rfl
theorem klW(hu:X.A.units<cLine):OpR X (compareOp .NotEq) (rEqL X.K true):=by
 intro pins s σ H x y v u Q I rx ry h
 obtain⟨a,b,xs,ys,rfl,rfl,hx,hy,fx,fy,q⟩:=h
 cases rx
 cases ry
 obtain⟨us,r1,p1,z1⟩:=I.list hx
 obtain⟨ws,r2,p2,z2⟩:=I.list hy
 have l1:=r1.length
 have l2:=r2.length
 show wpAny _ _ (richCompare .NotEq (.ref a) (.ref b)) _ _ s
 by_cases hl:xs.length=ys.length
 ·refine SeqAt.RcNeAt.lists p1.isList p2.isList (by simp;lia) hu (kkz r1 r2 fx fy) _ _ _ _ ⟨.bl (!eqVs xs ys),H,I,?_,q⟩
  have e:us.toArray.size=xs.length:=by simp[l1]
  rw[e,kdX xs ys hl]
  rfl
 ·refine SeqAt.RcNeAt.lists_lengths p1.isList p2.isList (by simp;lia) hu _ _ _ _ ⟨.bl (!eqVs xs ys),H,I,?_,q⟩
  rw[kgq hl]
  rfl
noncomputable def cV:V→Value
 | .ty n=>.type n
 | .ref a=>.ref a
 |_=>.none
theorem kbs:CallR X (.builtin "isinstance") (fun xs H Q=>∃x c t b,xs=[x,c]∧((∃n,c=.ty n)∨∃a,c=.ref a)∧TyOf X.K H x t∧NU X.K t (cV c)>>b∧Q (.bl b) H):=by
 intro pins s σ H xs us Q I r h
 obtain⟨x,c,t,b,rfl,hc,ty,e,q⟩:=h
 obtain⟨u,w',rfl,r1,r2⟩:=vals2 r
 have ew:w'=cV c:=by
  rcases hc with⟨n,rfl⟩|⟨a,rfl⟩
  ·exact r2
  ·exact r2
 subst ew
 exact kkh I r1 ty e fun tk=>⟨.bl b,H,I.tok tk,rfl,q⟩
theorem b_isi:bootBuiltins "isinstance">>(.builtin "isinstance"):=by cutsat
theorem b_int:bootBuiltins "int">>(.type "int"):=by cutsat
theorem knt:bootBuiltins "bool">>(.type "bool"):=by cutsat
theorem ka9:bootBuiltins "list">>(.type "list"):=by cutsat
theorem b_sum:bootBuiltins "sum">>(.builtin "sum"):=by cutsat
theorem b_min:bootBuiltins "min">>(.builtin "min"):=by cutsat
theorem b_max:bootBuiltins "max">>(.builtin "max"):=by cutsat
theorem b_len:bootBuiltins "len">>(.builtin "len"):=by cutsat
theorem kcI(K:NF)(t:Value):NU K t t>>true:=by
 unfold NU
 rw[if_pos (by simp)]
theorem kg5(K:NF):NU K (.type "int") (.type "bool")>>false:=by
 have e:(Value.type "int" ==Value.type "bool")=false:=by cutsat
 unfold NU PySem.W.kitCls Dp
 rw[e,if_neg NP]
 show(if PySem.W.kitMeta "bool"=true then _ else _)=_
 rw[if_pos (by cutsat)]
 show(fastBuiltinMro "int").map (·.contains (Value.type "bool"))>>false
 cutsat
def tCut(t:TS):TS:=fun D σ H=>∃P:St→Hp→Prop,t {D with nx:=P} σ H∧∀σ' H',P σ' H'→D.nx σ' H'
theorem kcL{st:Stmt}{t:TS}(h:PS X st t):PS X st (tCut t):=by
 intro pins s σ H D I hw
 obtain⟨P,h1,h2⟩:=hw
 refine thn (h pins s σ H {D with nx:=P} I h1) fun f s' q=>?_
 cases f with
 |next=>
  obtain⟨σ',H',I',q'⟩:=q
  rwa[σ',H',I',h2 σ' H' q']
 |brk=>exact q
 |cont=>exact q
 |ret u=>exact q
def tCutE(t:TE):TE:=fun σ H Q=>∃P:V→Hp→Prop,t σ H P∧∀v H',P v H'→Q v H'
theorem kjY{e:Expr}{t:TE}(h:PE X e t):PE X e (tCutE t):=by
 intro pins s σ H Q I hw
 obtain⟨P,h1,h2⟩:=hw
 exact thn (h pins s σ H P I h1) fun u s' ⟨v,H',I',r,q⟩=>⟨v,H',I',r,h2 v H' q⟩
noncomputable def Its(lo st:Int)(n:Nat):It:=⟨fun i _=>i<n,fun i H x H'=>H'=H∧x=.int (lo+i*st),fun i _=>n≤i⟩
theorem ki8{P:Program}{w:World}{K:NF}{tg:Expr}(it:Addr)(lo st:Int)(n:Nat):Turn P w K tg (Its lo st n) [it] it (fun i h=>IsRangeIter h it (lo+(i:Nat)*st) ((n:Int)-(i:Nat)) st) where
 mem:=by simp
 obj:=fun i h st b hb=>by
  have e:b=it:=by simpa using hb
  subst e
  exact⟨_,st,fun v z=>by
   have z':Data.fields _=Data.cell v:=z
   cases z'⟩
 keep:=fun i h h' st k=>k it (by simp) _ st
 item:=by
  intro X hP hw hK hc i pins s σ H E I hf st' hg
  subst hP hw hK
  obtain⟨f0,f1,f2,f3,f4,f5⟩:=hf it (by simp)
  have W:=Walks.range (prog:=X.prog) (w:=X.w) (I.ok.hd hc) it lo st n
  refine W.item i s _ _ hg st' fun v h' tk hv st'' kk=>?_
  obtain⟨t,rfl⟩:=hv
  have I1:Inv X pins σ H {s with heap:=h',toks:=tk}:=I.turned (fun b o hb e=>kk b o (by simpa using hb) e) f0 f1 f3 f4 f5
  rwa[8,go_of (s:={s with heap:=h',toks:=tk}) (n:="range_iterator") st'' rfl rfl (by decide) ⟨.int (lo+i*st),H,I1,⟨t,rfl⟩,⟨rfl,rfl⟩,st'',fun b hb=>(hf b hb).1⟩]
 done:=by
  intro X hP hw hK hc i pins s σ H E I hf st hg
  subst hP hw hK
  obtain⟨f0,f1,f2,f3,f4,f5⟩:=hf it (by simp)
  exact wpAny_pyNext_range_end (I.ok.hd hc) st (by have:n≤i:=hg;lia) fun h' eb=>⟨rfl,I.turned (t':=s.toks) (fun b o hb e=>eb b o hb e) f0 f1 f3 f4 f5⟩
 self:=fun _ _ _ _ _ st h=>wpAny_pyIter_rangeiter st h
theorem kgQ{a b c:Int}(hc:0<c)(ha: -(2 ^ 31)≤a∧a<2 ^ 31)(hb: -(2 ^ 31)≤b∧b<2 ^ 31):0≤Builtin.Range.rangeSize a b c∧Builtin.Range.rangeSize a b c<2 ^ 33:=by
 unfold Builtin.Range.rangeSize
 rw[if_pos hc]
 split
 ·have h1:0≤(b-a-1)/c:=Int.ediv_nonneg (by lia) (by lia)
  have h2:(b-a-1)/c≤b-a-1:=Int.ediv_le_self _ (by lia)
  lia
 ·lia
theorem kiO{a b c:Int}(hc:0<c)(hc2:c<2 ^ 30)(ha: -(2 ^ 31)≤a∧a<2 ^ 31)(hb: -(2 ^ 31)≤b∧b<2 ^ 31):Builtin.Range.small a b c=true:=by
 have h:=kgQ hc ha hb
 unfold Builtin.Range.small
 generalize Builtin.Range.rangeSize a b c=n at h
 simp only[Builtin.Range.rangeFitsLong,Mz,Dq,decide_eq_true_eq,beq_iff_eq,show c > 0 from hc,if_true]
 lia
end
def kiJ(xs:List V)(k:Nat):cutV xs none (some (k:Int))=xs.take k:=by
 unfold cutV
 rw[HT.sIx_none,HT.sIx_nat,M5,Nat.sub_zero,DQ]
 lia
def klC(xs:List V)(k:Nat):cutV xs (some (k:Int)) none=xs.drop k:=by
 unfold cutV
 rw[HT.sIx_none,HT.sIx_nat]
 by_cases h:k≤xs.length
 ·rw[Ee h,MN (by simp)]
 ·rw[Nat.min_eq_right (by lia),ES (NG _),ES (by lia)]
  simp
def klB(ns:List Int)(lo hi:Option Int):∃ms:List Int,cutV (ns.map V.int) lo hi=ms.map V.int∧ms.length≤ns.length:=by
 rwa[(ns.drop (HT.sIx ns.length 0 lo)).take (HT.sIx ns.length ns.length hi-HT.sIx ns.length 0 lo),?_,?_]
 ·unfold cutV
  rw[ND,←Et,←MS]
 ·rw[NS,Eo]
  lia
def Inv.adopt{X:Cx}{pins:List (Addr×Obj)}{σ:St}{H:Hp}{s:Shared}{a:Addr}{o:HO}(I:Inv X pins σ H s)(f:FpOk X pins H a)(h0:X.s₀.heap.objs.size≤a)(new:ObjOk X.prog X.w (upd H a o) s.heap a o):Inv X pins σ (upd H a o) s:=by
 obtain⟨hn,hL,_,_,hC,hp⟩:=f
 have nt:∀b u,H b>>u→b≠a:=fun b u e=>kaj e hn
 rwa[I.ok,I.os,I.bare,⟨I.base.keep,I.base.slot,fun b ob e n hx=>?_,I.base.there,fun b xs e=>?_,fun b ob u e=>?_,fun b ps e=>?_⟩,I.loc,I.cell,?_,fun x c e=>?_,fun p hp'=>?_,fun b u e=>?_,I.len]
 ·rw[kak (Mc (N9 (Heap.lt_size e) h0))]
  exact I.base.free b ob e n hx
 ·have q:=I.base.tups b xs e
  rw[kak (nt _ _ q)]
  exact q
 ·have q:=I.base.frzs b ob u e
  rw[kak (nt _ _ q)]
  exact q
 ·obtain⟨m,q⟩:=I.base.tbls b ps e
  rwa[m,by rw[kak (nt _ _ q)];exact q]
 ·rw[kak (Ne.symm hL)]
  exact I.free
 ·rw[kak (hC x c e)]
  exact I.freeC x c e
 ·obtain⟨e,n,r⟩:=I.pin p hp'
  rwa[e,by rw[kak (hp p hp')];exact n,r]
 ·by_cases hb:b=a
  ·subst hb
   rw[kad] at e
   cases e
   exact new
  ·rw[kak hb] at e
   exact(I.hok b u e).stay (fun c v _ q=>q) (fun c q=>by rw[kak (nt _ _ q)];exact q) fun c xs q=>by rw[kak (nt _ _ q)];exact q
noncomputable def capσ(cap:List (Option Nat))(σ:St):St:=cap.map fun o=>match o with
 |some i=>(σ[i]?).getD none
 |none=>none
noncomputable def closL(cells:List (Str×Addr))(names:List (Str×NameKind)):List (Str×Addr)→List (Str×Addr):=fun acc=>names.foldl (fun acc p=>if p.2== .free then(p.1,(cells.lookup p.1).getD 0)::acc else acc) acc
theorem kff{α β:Type}{f: α→β→Sem (ForInStep β)}{g: β→α→β}:∀(l:List α)(b: β),(∀x∈l,∀b,f x b=pure (.yield (g b x)))→forIn l b f=pure (l.foldl g b)
 |[],b,_=>by rw[List.forIn_nil];rfl
 |x::l,b,h=>by
  rw[List.forIn_cons,h x N4]
  show forIn l (g b x) f=_
  rw[kff l (g b x) fun y hy=>h y (N2 _ hy)]
  rfl
def kgv{scope:Scope}{env:Env}(h:∀x∈scope.names,x.2=.free→∃c,env.cells.lookup x.1>>c):closureFor scope env=pure (closL env.cells scope.names []):=by
 unfold closureFor
 dsimp only
 rw[kff (g:=fun acc p=>if p.2== .free then(p.1,(env.cells.lookup p.1).getD 0)::acc else acc) scope.names [] fun x hx b=>?_]
 ·rfl
 ·obtain⟨n,k⟩:=x
  by_cases hk:k=.free
  ·subst hk
   obtain⟨c,ec⟩:=h _ hx rfl
   have ec':env.cells.lookup n>>c:=ec
   have e1:cellOf env n=pure c:=by unfold cellOf;rw[ec']
   simp only[beq_self_eq_true,if_true,e1,ec',Option.getD_some]
   rfl
  ·have:(k==NameKind.free)=false:=by simpa using hk
   simp only[this,MF,if_false]
def kfM(cells:List (Str×Addr))(p:Str×NameKind)(r:List (Str×NameKind))(acc:List (Str×Addr)):closL cells (p::r) acc=closL cells r (if p.2== .free then(p.1,(cells.lookup p.1).getD 0)::acc else acc):=rfl
theorem keE{cells:List (Str×Addr)}{x:Str}{c:Addr}:∀(names:List (Str×NameKind))(acc:List (Str×Addr)),(closL cells names acc).lookup x>>c→(((x,NameKind.free)∈names∧c=(cells.lookup x).getD 0)∨acc.lookup x>>c)
 |[],acc,h=>.inr h
 | (n,k)::r,acc,h=>by
  rw[kfM] at h
  rcases keE r _ h with⟨h1,h2⟩|h1
  ·exact .inl ⟨N2 _ h1,h2⟩
  ·by_cases hk:k=.free
   ·subst hk
    simp only[beq_self_eq_true,if_true] at h1
    rw[Ms] at h1
    by_cases hx:x=n
    ·subst hx
     simp only[beq_self_eq_true] at h1
     exact .inl ⟨N4,(Option.some.inj h1).symm⟩
    ·have hb:(x==n)=false:=beq_eq_false_iff_ne.mpr hx
     rw[hb] at h1
     exact .inr h1
   ·have:(k==NameKind.free)=false:=by simpa using hk
    simp only[this,MF,if_false] at h1
    exact .inr h1
theorem kdb{cells:List (Str×Addr)}{x:Str}:∀(names:List (Str×NameKind))(acc:List (Str×Addr)),((x,NameKind.free)∈names∨∃c,acc.lookup x>>c)→∃c,(closL cells names acc).lookup x>>c
 |[],acc,h=>by
  rcases h with h|h
  ·cases h
  ·exact h
 | (n,k)::r,acc,h=>by
  rw[kfM]
  refine kdb r _ ?_
  by_cases hm:(x,NameKind.free)∈r
  ·exact .inl hm
  ·refine .inr ?_
   rcases h with h|⟨c,h⟩
   ·rcases N5.mp h with e|h
    ·cases e
     simp[Ms]
    ·exact absurd h hm
   ·split
    ·rw[Ms]
     by_cases hx:x=n
     ·subst hx
      simp
     ·have hb:(x==n)=false:=beq_eq_false_iff_ne.mpr hx
      rw[hb]
      rwa[c,h]
    ·rwa[c,h]
theorem kcK:∀(names:List (Str×NameKind))(n:Nat)(acc acc':List (Str×Addr)),cellsFrom n names (acc++acc')=cellsFrom n names acc++acc'
 |[],_,_,_=>rfl
 |(m,k)::r,n,acc,acc'=>by
  unfold cellsFrom
  split
  ·exact kcK r (n+1) ((m,n)::acc) acc'
  ·exact kcK r n acc acc'
def kch(names:List (Str×NameKind))(n:Nat)(acc:List (Str×Addr))(x:Str):(cellsFrom n names acc).lookup x=((cellsFrom n names []).lookup x).or (acc.lookup x):=by
 rw[←List.lookup_append,←kcK,Ep]
theorem kcJ{x:Str}:∀(names:List (Str×NameKind))(n:Nat)(acc:List (Str×Addr)),(x,NameKind.cell)∉names→(cellsFrom n names acc).lookup x=acc.lookup x
 |[],_,_,_=>rfl
 | (m,k)::r,n,acc,h=>by
  unfold cellsFrom
  by_cases hk:k=.cell
  ·subst hk
   simp only[beq_self_eq_true,if_true]
   rw[kcJ r _ _ fun z=>h (N2 _ z),Ms]
   have hx:x≠m:=fun e=>h (by rw[e];exact N4)
   have hb:(x==m)=false:=beq_eq_false_iff_ne.mpr hx
   rw[hb]
  ·have:(k==NameKind.cell)=false:=by simpa using hk
   simp only[this,MF,if_false]
   exact kcJ r _ _ fun z=>h (N2 _ z)
noncomputable def relN(names ns:List (Str×NameKind)):List (Str×NameKind):=names.map fun(n,k)=>if(k== .free&&ns.lookup n==some .cell) then(n, .cell) else(n,k)
def kdA{scope:Scope}{env:Env}(hk:env.scope.kind=.function):(relabel scope env).names=relN scope.names env.scope.names:=by
 unfold relabel relN
 have e:(ScopeKind.function==ScopeKind.function)=true:=by decide
 simp only[hk,e,Bool.and_true]
 rfl
theorem kdt{ns:List (Str×NameKind)}{x:Str}:∀(names:List (Str×NameKind)),(relN names ns).lookup x=(names.lookup x).map fun k=>if(k== .free&&ns.lookup x==some .cell) then .cell else k
 |[]=>rfl
 | (n,k)::r=>by
  have ih:=kdt (ns:=ns) (x:=x) r
  show MB x ((if(k== .free&&ns.lookup n==some .cell)=true then(n,NameKind.cell) else(n,k))::relN r ns)=_
  by_cases hx:x=n
  ·subst hx
   by_cases hc:(k== .free&&ns.lookup x==some .cell)=true
   ·rw[if_pos hc]
    simp only[Ms,beq_self_eq_true,ET]
    rw[if_pos hc]
   ·rw[if_neg hc]
    simp only[Ms,beq_self_eq_true,ET]
    rw[if_neg hc]
  ·have hb:(x==n)=false:=beq_eq_false_iff_ne.mpr hx
   by_cases hc:(k== .free&&ns.lookup n==some .cell)=true
   ·rw[if_pos hc]
    simp only[Ms,hb]
    exact ih
   ·rw[if_neg hc]
    simp only[Ms,hb]
    exact ih
theorem kmu{names ns:List (Str×NameKind)}{x:Str}(h:(relN names ns).lookup x>>.cell∨(relN names ns).lookup x>>.free):names.lookup x>>.cell∨names.lookup x>>.free:=by
 rw[kdt] at h
 cases e:names.lookup x with
 |none=>rw[e] at h;simp at h
 |some k=>
  rw[e] at h
  cases k <;> simp_all
def kjM{names ns:List (Str×NameKind)}{x:Str}(h:names.lookup x>>.free):(relN names ns).lookup x>>.cell∨(relN names ns).lookup x>>.free:=by
 rw[kdt,h]
 by_cases hc:ns.lookup x==some .cell
 ·left;simp[hc]
 ·right;simp[hc]
structure CompScope(X:Cx)(scope:Scope)(N:List Str)(cap:List (Option Nat)):Prop where
 kind:scope.kind=.function
 names:∀x∈scope.names,x.2=.local→scope.names.lookup x.1>>.local
 free:∀x∈scope.names,x.2=.free→X.env.scope.names.lookup x.1>>.cell∨X.env.scope.names.lookup x.1>>.free
 nd:N.Nodup
 len:cap.length=N.length
 cap:∀(j i:Nat)(x:Str),cap[j]?>>(some i)→N[j]?>>x→X.N[i]?>>x∧scope.names.lookup x>>.free∧(x,NameKind.cell)∉scope.names
noncomputable def keh(X:Cx)(scope:Scope)(C:Addr):List (Str×Addr):=cellsFrom (C+1) scope.names (closL X.env.cells scope.names [])
noncomputable def cxC(X:Cx)(scope:Scope)(N:List Str)(fp:List Addr)(s:Shared)(H:Hp)(C:Addr):Cx:=
 {X with N:=N,s₀:=s,H₀:=H,env:=compEnvC scope (keh X scope C) C X.env,outer:=X.stack,ex:=fp,fn:=fun x=>scope.names.lookup x==some .cell,pn:=[],xe:=fun _ _=>False}
theorem kgi{M:Model}{A:Around}{E:Value→Shared→Prop}{s:Shared}{scope:Scope}{globals:Addr}{cl:List (Str×Addr)}{qual:Str}{func:Option Addr}{code:Value}{outer:Env}{builtins:Addr}{Q:Env→Shared→Prop}
  (hQ:Q (newEnv scope s.heap.objs.size globals (cellsFrom (s.heap.objs.size+1) scope.names cl) qual func code (some outer) builtins) {s with heap:=pushCells (s.heap.push {cls:=.type "dict",data:=.dict #[]}) scope.names}):
  wpAny M A (newFunctionEnv scope globals cl [] qual func code (some outer) builtins) Q E s:=by
 simp only[newFunctionEnv,Option.isSome_some,if_true]
 refine wpAny_bind (wpAny_alloc ?_)
 refine wpAny_bind (wpAny_layCells _ (fun name kind cells=>by cases hkc:kind==NameKind.cell <;> simp[hkc]) _ _ _ _ ?_)
 rw[show({s with heap:=s.heap.push {cls:=.type "dict",data:=.dict #[]}}:Shared).heap.objs.size=s.heap.objs.size+1 from Heap.size_push ..]
 exact wpAny_bind (wpAny_pure (wpAny_pure hQ))
section
variable{X:Cx}{scope:Scope}{N:List Str}{cap:List (Option Nat)}{pins:List (Addr×Obj)}{σ:St}{H:Hp}{s:Shared}
theorem kjh(I:Inv X pins σ H s){b:Addr}(hb:b∈frs X.stack):b<s.heap.objs.size:=by
 obtain⟨_,o,ho,_⟩:=I.stack.mem hb
 exact Heap.lt_size ho
theorem kcB(S:CompScope X scope N cap)(I:Inv X pins σ H s):closureFor scope X.env=pure (closL X.env.cells scope.names []):=
 kgv fun x hx hf=>I.ok.has x.1 (S.free x hx hf)
theorem kci{C:Addr}{x:Str}{c:Addr}(S:CompScope X scope N cap)(I:Inv X pins σ H s)(h:(keh X scope C).lookup x>>c):(cellsFrom (C+1) scope.names []).lookup x>>c∨X.env.cells.lookup x>>c:=by
 unfold keh at h
 rw[kch] at h
 cases e:(cellsFrom (C+1) scope.names []).lookup x with
 |some c'=>
  rw[e] at h
  exact .inl h
 | none=>
  rw[e] at h
  have h':(closL X.env.cells scope.names []).lookup x>>c:=h
  rcases keE _ _ h' with⟨h1,h2⟩|h1
  ·obtain⟨c',ec⟩:=I.ok.has x (S.free _ h1 rfl)
   rw[ec] at h2
   rw[h2]
   exact .inr ec
  ·cases h1
theorem kln{fp:List Addr}{C D:Addr}{o:Obj}{s4:Shared}{m:Str→Option Value}(S:CompScope X scope N cap)(I:Inv X pins σ H s)(f:∀b∈fp,FpOk X pins H b)(hfp:∀b∈fp,b<s.heap.objs.size)
  (hk:∀b u,s.heap.get? b>>u→s4.heap.get? b>>u)(hns:s4.heap.Ns C m)(hC:s.heap.objs.size≤C)(hD:s.heap.objs.size≤D)(hDC:D≠C)(eD:s4.heap.get? D>>o)(hcell:∀v,o.data≠.cell v)
  (hnew:CellsOk s4.heap (C+1) (cellsFrom (C+1) scope.names []))(hos:s4.os=s.os)(hg:s4.gens=s.gens):Inv (cxC X scope N fp s H C) [(D,o)] (capσ cap σ) H s4:=by
 have stkne:∀b∈fp,b∉frs X.stack:=fun b hb hz=>by
  obtain⟨_,h1,h2,_⟩:=f b hb
  rcases N5.mp (I.stkSub b hz) with e|e
  ·exact h1 e
  ·exact h2 e
 have nw:∀{x:Str}{c:Addr},(cellsFrom (C+1) scope.names []).lookup x>>c→s4.heap.IsCell c none∧Nat.lt C c:=fun {x c} h=>hnew.empty x c (PySem.mem_of_lookup h)
 have od:∀{x:Str}{c:Addr},X.env.cells.lookup x>>c→c<s.heap.objs.size:=fun {x c} h=>let⟨_,q⟩:=I.cell x c h;q.lt
 refine⟨⟨I.ok.mod,S.kind,I.ok.glob,I.ok.blt,hC,fun x y c h1 h2=>?_,fun x h=>?_,fun x c h1 h2=>?_,I.ok.hd,I.ok.frames, .inl rfl,fun b hb=>⟨?_,fun x c e=>?_⟩,I.bs,NJ I.ok.bsz I.sz,fun b ob e hb=>?_,stkne,I.stack,I.stkFree⟩,
  hos,by rw[hg];exact I.bare,Un.kept hk,⟨m,hns,fun j x v e1 e2 e3=>?_⟩,fun x c e=>?_,I.hok.fresh hC,fun x c e=>?_,fun p hp=>?_,I.hok.kept hk,?_⟩
 ·rcases kci S I h1 with q1|q1 <;> rcases kci S I h2 with q2|q2
  ·exact name_of_addr hnew.apart (PySem.mem_of_lookup q1) (PySem.mem_of_lookup q2)
  ·exact absurd (MR hC (nw q1).2) (Nat.not_lt_of_lt (od q2))
  ·exact absurd (MR hC (nw q2).2) (Nat.not_lt_of_lt (od q1))
  ·exact I.ok.inj x y c q1 q2
 ·have h':(relabel scope X.env).names.lookup x>>.cell∨(relabel scope X.env).names.lookup x>>.free:=h
  rw[kdA I.ok.kind] at h'
  show ∃c,(cellsFrom (C+1) scope.names (closL X.env.cells scope.names [])).lookup x>>c
  rw[kch]
  rcases kmu h' with q|q
  ·obtain⟨c,e⟩:=keF (n:=C+1) q
   rwa[c,by rw[e];rfl]
  ·obtain⟨c,e⟩:=kdb (cells:=X.env.cells) scope.names [] (.inl (PySem.mem_of_lookup q))
   cases e2:(cellsFrom (C+1) scope.names []).lookup x with
   |some c'=>exact⟨c',rfl⟩
   |none=>exact⟨c,e⟩
 ·have h1':(scope.names.lookup x==some .cell)=true:=h1
  have q:scope.names.lookup x>>.cell:=by simpa using h1'
  obtain⟨c',e⟩:=keF (n:=C+1) q
  have h2':(cellsFrom (C+1) scope.names (closL X.env.cells scope.names [])).lookup x>>c:=h2
  rw[kch,e] at h2'
  have h3:c'=c:=Option.some.inj h2'
  rw[←h3]
  exact NR (MR hC (nw e).2)
 ·exact Mc (N9 (hfp b hb) hC)
 ·rcases kci S I e with q|q
  ·exact MA (Nat.lt_trans (N9 (hfp b hb) hC) (nw q).2)
  ·exact(f b hb).2.2.2.2.1 x c q
 ·obtain⟨_,_,_,h4,_⟩:=f b hb
  rcases h4 with h4|h4
  ·exact I.ok.noex b ob e h4
  ·exact absurd (N9 (Heap.lt_size e) (NJ I.ok.bsz h4)) (MP _)
 ·
  have e2':(cap.map fun o=>match o with|some i=>(σ[i]?).getD none|none=>none)[j]?>>(some v):=e2
  rw[NO] at e2'
  cases ec:cap[j]? with
  |none=>rw[ec] at e2';cases e2'
  | some oi=>
   rw[ec] at e2'
   cases oi with
   |none=>cases e2'
   | some i=>
    have e4:(σ[i]?).getD none>>v:=Option.some.inj e2'
    have e5: σ[i]?>>(some v):=by
     cases q: σ[i]? with
     |none=>rw[q] at e4;cases e4
     |some w=>rw[q] at e4;exact congrArg some e4
    obtain⟨h1,hf,hnc⟩:=S.cap j i x ec e1
    have hm:=PySem.mem_of_lookup hf
    have h2:=S.free _ hm rfl
    obtain⟨mo,_,hl⟩:=I.loc
    obtain⟨u,ru,lk⟩:=hl i x v h1 e5 (.inr h2)
    have h3:(relabel scope X.env).names.lookup x>>.cell∨(relabel scope X.env).names.lookup x>>.free:=by
     rw[kdA I.ok.kind]
     exact kjM hf
    rwa[u,ru, .inr ⟨h3,?_⟩]
    rcases lk with⟨k1,_⟩|⟨_,c,ec',z⟩
    ·have k1':X.env.scope.names.lookup x>>.local:=k1
     rcases h2 with h2|h2 <;> rw[h2] at k1' <;> cases k1'
    ·obtain⟨c',ec2⟩:=kdb (cells:=X.env.cells) scope.names [] (.inl hm)
     have ec3:(keh X scope C).lookup x>>c':=by
      unfold keh
      rw[kcJ _ _ _ hnc]
      exact ec2
     rcases keE _ _ ec2 with⟨_,q2⟩|q2
     ·rw[ec'] at q2
      have q3:c'=c:=q2
      subst q3
      obtain⟨oc,ho,hd⟩:=z
      rwa[c',ec3,oc,hk _ _ ho,hd]
     ·cases q2
 ·rcases kci S I e with q|q
  ·rwa[none,(nw q).1]
  ·obtain⟨v,oc,ho,hd⟩:=I.cell x c q
   rwa[v,oc,hk _ _ ho,hd]
 ·rcases kci S I e with q|q
  ·exact I.hok.fresh (NJ hC (NR (nw q).2))
  ·exact I.freeC x c q
 ·have e:p=(D,o):=by simpa[cxC] using hp
  subst e
  rwa[eD,I.hok.fresh hD,hDC,fun hz=>absurd (kjh I hz) (EE.mpr hD),hcell]
 ·show(cap.map _).length=N.length
  rw[ND,S.len]
theorem comp_back{fp:List Addr}{C:Addr}{σ':St}{H':Hp}{s':Shared}(I:Inv X pins σ H s)(f:∀b∈fp,FpOk X pins H b)(J:Inv (cxC X scope N fp s H C) [] σ' H' s'):Inv X pins σ H' s':=
 I.call' (ch:=fp) J.os J.base J.hok J.bare fun b hb=>let⟨_,h1,_,h3,h4,h5⟩:=f b hb;⟨h3,h1,h4,h5⟩
end
def PIf(X:Cx)(ifs:List Expr)(t:TT):Prop:=∀(pins:List (Addr×Obj))(s:Shared)(σ:St)(H:Hp)(Q:Bool→Hp→Prop),Inv X pins σ H s→t σ H Q→
 wpAny (model X.prog X.w) X.A (forIn ifs true fun c r=>if r=true then do let ok ←isTrue c X.env (eval c X.env);pure (ForInStep.yield ok) else pure (ForInStep.yield r)) (TP X pins σ Q) X.xe s
def tYes:TT:=fun _ H Q=>Q true H
def kjW{X:Cx}:PIf X [] tYes:=fun _ _ _ H _ I h=>wpAny_tests_nil ⟨H,I,h⟩
def kf9{X:Cx}{c:Expr}{t:TT}(h:PT X c t):PIf X [c] t:=fun pins s σ H Q I hw=>wpAny_tests_one (h pins s σ H Q I hw)
theorem khc{prog:Program}{w:World}{A:Around}{R:Result→Shared→Prop}{s:Shared}{elt target iter:Expr}{ifs:List Expr}{scope:Scope}{pos:Pos}{it acc:Value}{env:Env}(I:Nat→Shared→Prop)
  (turn:∀n s,I n s→wpAny (model prog w) A (pyNext it) (fun r s₁=>match r with
   |none=>R (.ok .next) s₁
   | some v=>wpAny (model prog w) A (letOwnedTupleGo target it v) (fun _ s₁'=>wpAny (model prog w) A (assign target env v) (fun _ s₂=>
     wpAny (model prog w) A (forIn ifs true fun c r=>if r=true then do let ok ←isTrue c env (eval c env);pure (ForInStep.yield ok) else pure (ForInStep.yield r)) (fun ok s₂'=>
      if ok=true then wpAny (model prog w) A (eval elt env) (fun x s₃=>
       wpAny (model prog w) A (call (.builtin "list.append") [acc,x]) (fun _ s₄=>∃m,m<n∧I m s₄) (fun _ _=>False) s₃) (fun _ _=>False) s₂'
      else ∃m,m<n∧I m s₂') (fun _ _=>False) s₂) (fun _ _=>False) s₁') (fun _ _=>False) s₁) (fun _ _=>False) s)
  (n:Nat)(h:I n s):codeAny (model prog w) A (.compLoop (.ListComp elt [⟨target,iter,ifs,0⟩] scope pos) 0 it acc env) R s:=by
 refine codeAny_loop rfl I (fun n s hI=>?_) n h
 show wpAny _ _ ((compTurn (.ListComp elt [⟨target,iter,ifs,0⟩] scope pos) 0 it acc env).onRaise (fun x=>do noteFrame x env;theTreesLotGoes x)) _ _ s
 refine wpAny_noted ?_
 rw[compTurn_list]
 refine wpAny_bind (wpAny_standAt (wpAny_bind (wpAny_mono (turn n s hI) (fun r s₁ h₁=>?_) fun _ _ h'=>h'.elim)))
 cases r with
 |none=>exact wpAny_pure h₁
 | some v=>
  refine wpAny_bind (wpAny_mono h₁ (fun _ s₁' h₁'=>?_) fun _ _ h'=>h'.elim)
  refine wpAny_bind (wpAny_mono h₁' (fun _ s₂ h₂=>wpAny_bind (wpAny_mono h₂ (fun ok s₂' h₂'=>?_) fun _ _ h'=>h'.elim)) fun _ _ h'=>h'.elim)
  cases ok with
  |false=>exact wpAny_pure ⟨rfl,h₂'⟩
  |true=>
   exact wpAny_bind (wpAny_bind (wpAny_mono h₂' (fun x s₃ h₃=>wpAny_bind (wpAny_mono h₃ (fun _ s₄ h₄=>wpAny_pure (wpAny_pure ⟨rfl,h₄⟩)) fun _ _ h'=>h'.elim)) fun _ _ h'=>h'.elim))
def klK(wi:TI)(cap:List (Option Nat))(g:TG)(tt:TT)(te:TE):TE:=fun σ H Q=>wi σ H fun J H1=>∃W:Nat→Nat→St→List V→Hp→Prop,(∃m,W 0 m (capσ cap σ) [] H1)∧∀i m σ' ys H',W i m σ' ys H'→
 (J.stop i H'∧∀D,H' D=none→Q (.ref D) (upd H' D (.lst ys)))∨(J.go i H'∧ys.length<sizeLine∧∃(N:St→V→Hp→Prop)(N0:St→Hp→Prop),(∀σ2 y H4,N σ2 y H4→∃m',m'<m∧W (i+1) m' σ2 (ys++[y]) H4)∧(∀σ2 H4,N0 σ2 H4→∃m',m'<m∧W (i+1) m' σ2 ys H4)∧
  ∀x H2,J.yld i H' x H2→g x σ' H2 fun σ2 H3=>tt σ2 H3 fun b H4=>if b=true then te σ2 H4 (N σ2) else N0 σ2 H4)
def tComp(wi:TI)(cap:List (Option Nat))(g:TG)(te:TE):TE:=fun σ H Q=>wi σ H fun J H1=>∃W:Nat→Nat→St→List V→Hp→Prop,(∃m,W 0 m (capσ cap σ) [] H1)∧∀i m σ' ys H',W i m σ' ys H'→
 (J.stop i H'∧∀D,H' D=none→Q (.ref D) (upd H' D (.lst ys)))∨(J.go i H'∧ys.length<sizeLine∧∃N:St→V→Hp→Prop,(∀σ2 y H4,N σ2 y H4→∃m',m'<m∧W (i+1) m' σ2 (ys++[y]) H4)∧
  ∀x H2,J.yld i H' x H2→g x σ' H2 fun σ2 H3=>te σ2 H3 (N σ2))
section
variable{X:Cx}{scope:Scope}{N:List Str}{cap:List (Option Nat)}{pins:List (Addr×Obj)}{σ:St}{H2:Hp}{s2:Shared}{tg elt iter:Expr}{ifs:List Expr}{pos:Pos}{g:TG}{tt:TT}{te:TE}
theorem kdg{fp:List Addr}{it:Addr}{tn:Nat→Heap→Prop}{J:It}{Q:VK}{RR:Value→Addr→Result→Shared→Prop}{E:Value→Shared→Prop}(S:CompScope X scope N cap)(hc:X.calm=true)
  (hg:∀fp s H C,PG (cxC X scope N fp s H C) tg g)(ht:∀fp s H C,PIf (cxC X scope N fp s H C) ifs tt)(he:∀fp s H C,PE (cxC X scope N fp s H C) elt te)
  (I2:Inv X pins σ H2 s2)(T:Turn X.prog X.w X.K tg J fp it tn)(st2:tn 0 s2.heap)(f2:∀b∈fp,FpOk X pins H2 b)
  (W:Nat→Nat→St→List V→Hp→Prop){m0:Nat}(w0:W 0 m0 (capσ cap σ) [] H2)
  (turn:∀i m σ' ys H',W i m σ' ys H'→(J.stop i H'∧∀D,H' D=none→Q (.ref D) (upd H' D (.lst ys)))∨(J.go i H'∧ys.length<sizeLine∧∃(N:St→V→Hp→Prop)(N0:St→Hp→Prop),(∀σ2 y H4,N σ2 y H4→∃m',m'<m∧W (i+1) m' σ2 (ys++[y]) H4)∧(∀σ2 H4,N0 σ2 H4→∃m',m'<m∧W (i+1) m' σ2 ys H4)∧
   ∀x H2,J.yld i H' x H2→g x σ' H2 fun σ2 H3=>tt σ2 H3 fun b H4=>if b=true then te σ2 H4 (N σ2) else N0 σ2 H4))
  (hRR:∀(D C:Addr)(H':Hp)(s':Shared)(m:Str→Option Value),Inv X pins σ H' s'→FpOk X pins H' C→C≠D→s'.heap.Ns C m→Q (.ref D) H'→RR (.ref D) C (.ok .next) s'):
  wpAny (model X.prog X.w) X.A (newList []) (fun acc s₃=>wpAny (model X.prog X.w) X.A (newFunctionEnv scope X.env.globals (closL X.env.cells scope.names []) [] X.env.qual none .none (some X.env)) (fun cenv s₄=>
   codeAny (model X.prog X.w) X.A (.compStart (.ListComp elt [⟨tg,iter,ifs,0⟩] scope pos) 0 (.ref it) acc {cenv with scope:=relabel scope X.env}) (RR acc cenv.locals) s₄) E s₃) E s2:=by
 refine wpAny_newObj_type (kgi ?_)
 dsimp only
 generalize hP:s2.heap.push {cls:=.type "list",dict:=none,data:=.seq ([]:List Value).toArray}=P
 have hnew:CellsOk (pushCells (P.push {cls:=.type "dict",data:=.dict #[]}) scope.names) (P.objs.size+1) (cellsFrom (P.objs.size+1) scope.names []):=by
  have q:=cellsFrom_ok scope.names (P.push {cls:=.type "dict",data:=.dict #[]}) (P.objs.size+1) [] ⟨fun _ _ hm=>(nomatch hm),Er.nil⟩ (by rw[Heap.size_push];exact NG _)
  rwa [Heap.size_push] at q
 have hns₁:(pushCells (P.push {cls:=.type "dict",data:=.dict #[]}) scope.names).Ns P.objs.size (fun _=>none):=(Heap.Ns.new P (.type "dict")).keeps (pushCells_keeps _ _)
 have keep₁:∀b o,P.get? b>>o→(pushCells (P.push {cls:=.type "dict",data:=.dict #[]}) scope.names).get? b>>o:=fun b o e=>pushCells_keeps _ _ b o (Heap.get?_push_of_some _ e)
 generalize pushCells (P.push {cls:=.type "dict",data:=.dict #[]}) scope.names=h₁ at hnew hns₁ keep₁⊢
 have hC:P.objs.size=s2.heap.objs.size+1:=by rw[←hP,Heap.size_push]
 have hDC:s2.heap.objs.size≠P.objs.size:=by rw[hC];exact Mc (Dh _)
 have hCle:s2.heap.objs.size≤P.objs.size:=by rw[hC];exact Eb _
 have hDle:s2.heap.objs.size≤s2.heap.objs.size:=NG _
 have old:∀b o,s2.heap.get? b>>o→h₁.get? b>>o:=fun b o e=>keep₁ b o (hP▸Heap.get?_push_of_some _ e)
 have hacc:h₁.get? s2.heap.objs.size>>{cls:=.type "list",data:=.seq ([]:List Value).toArray}:=keep₁ _ _ (hP▸Heap.get?_push_size _ rfl)
 have hfp:∀b∈fp,b<s2.heap.objs.size:=fun b hb=>let⟨_,e,_⟩:=T.obj 0 _ st2 b hb;Heap.lt_size e
 generalize hDd:s2.heap.objs.size=D at hacc hDC hDle⊢
 rw[hDd] at hCle hC
 generalize P.objs.size=C at hnew hns₁ hC hDC hCle⊢
 have dne:∀b∈fp,D≠b:=fun b hb=>MA (hDd▸hfp b hb)
 have cne:∀b∈fp,b≠C:=fun b hb=>Mc (N9 (hDd▸hfp b hb) hCle)
 have stkne:∀b∈fp,b∉frs X.stack:=fun b hb hz=>by
  obtain⟨_,h1,h2,_⟩:=f2 b hb
  rcases N5.mp (I2.stkSub b hz) with e|e
  ·exact h1 e
  ·exact h2 e
 have dfs:D∉frs X.stack:=fun hz=>absurd (kjh I2 hz) (by rw[hDd];exact MP _)
 have dcell:∀x c,(keh X scope C).lookup x>>c→c≠D:=fun x c e z=>by
  rcases kci S I2 e with e|e
  ·have q:Nat.lt C c:=(hnew.empty x c (PySem.mem_of_lookup e)).2
   rw[z] at q
   exact absurd (MR hCle q) (MP _)
  ·obtain⟨v,q⟩:=I2.cell x c e
   have:=q.lt
   rw[z,hDd] at this
   exact absurd this (MP _)
 have bcell:∀b∈fp,∀x c,(keh X scope C).lookup x>>c→c≠b:=fun b hb x c e=>by
  rcases kci S I2 e with e|e
  ·have q:Nat.lt C c:=(hnew.empty x c (PySem.mem_of_lookup e)).2
   exact MA (Nat.lt_trans (N9 (hDd▸hfp b hb) hCle) q)
  ·exact(f2 b hb).2.2.2.2.1 x c e
 have stat:∀{o:Obj}{H':Hp},(∀b∈fp,H' b=none)→∀b∈fp,FpOk (cxC X scope N fp s2 H2 C) [(D,o)] H' b:=fun {o H'} hn b hb=>
  ⟨hn b hb,cne b hb,stkne b hb, .inl hb,bcell b hb,fun p hp=>by
   have e:p=(D,o):=by simpa[cxC] using hp
   subst e
   exact dne b hb⟩
 have loop:∀s₃:Shared,s₃= {s2 with heap:=h₁}→
   codeAny (model X.prog X.w) X.A (.compLoop (.ListComp elt [⟨tg,iter,ifs,0⟩] scope pos) 0 (.ref it) (.ref D) (compEnvC scope (keh X scope C) C X.env)) (RR (.ref D) C) s₃:=by
  rintro s₃ rfl
  have I3:Inv (cxC X scope N fp s2 H2 C) [(D,_)] (capσ cap σ) H2 {s2 with heap:=h₁}:=
   kln S I2 f2 hfp old hns₁ (by rw[hDd];exact hCle) (by rw[hDd];exact NG _) hDC hacc (fun v z=>by cases z) hnew rfl rfl
  refine khc (fun n s'=>∃i σ' ys H' its k,Inv (cxC X scope N fp s2 H2 C) [] σ' H' s'∧tn i s'.heap∧(∀b∈fp,H' b=none)∧H' D=none∧s'.heap.get? D>>{cls:=.type "list",data:=.seq (its:List Value).toArray k}∧Vals ys its∧ys.length≤sizeLine∧W i n σ' ys H') ?_ m0
   ⟨0,_,[],H2,[],_,I3.pins_of (fun p hp=>nomatch hp),T.keep _ _ _ st2 (fun b hb o e=>old b o e),fun b hb=>(f2 b hb).1,I2.hok.fresh (by rw[hDd];exact NG _),hacc, .nil,Mf _,w0⟩
  rintro n s3 ⟨i,σ3,ys,H3,its,k,J3,st3,fr3,hD3,e3,r3,z3,w3⟩
  have J3':Inv (cxC X scope N fp s2 H2 C) [(D,{cls:=.type "list",data:=.seq its.toArray k})] σ3 H3 s3:=J3.pins_of fun p hp=>by
   have e:p=(D,{cls:=.type "list",data:=.seq its.toArray k}):=by simpa using hp
   subst e
   rwa[e3,hD3,hDC,dfs,fun v z=>by cases z]
  rcases turn i n σ3 ys H3 w3 with⟨stop,qn⟩|⟨go,hlt,N',N0',hN,hN0,step⟩
  ·refine thn (T.done (cxC X scope N fp s2 H2 C) rfl rfl rfl hc i _ s3 σ3 H3 (fun _ _=>False) J3' (stat fr3) st3 stop) fun r s4 zz=>?_
   obtain⟨hr,I4⟩:=zz
   subst hr
   have e4:=(I4.pin (D,{cls:=.type "list",data:=.seq its.toArray k}) (by simp[cxC])).1
   have B:Inv X pins σ H3 s4:=comp_back I2 f2 (I4.pins_of fun p hp=>nomatch hp)
   obtain⟨m,hm,_⟩:=I4.loc
   have fD:FpOk X pins H3 D:=I2.fpOk (by rw[hDd];exact NG _) hD3
   have B':Inv X pins σ (upd H3 D (.lst ys)) s4:=B.adopt fD (by rw[←hDd];exact I2.sz) ⟨z3,its,k,r3,e4⟩
   refine hRR D C _ s4 m B' (I2.fpOk (by rw[hDd];exact hCle) ?_) hDC.symm hm (qn D hD3)
   rw[kak hDC.symm]
   exact I4.free
  ·refine thn (T.item (cxC X scope N fp s2 H2 C) rfl rfl rfl hc i _ s3 σ3 H3 (fun _ _=>False) J3' (stat fr3) st3 go) fun r s4 zz=>?_
   obtain⟨u,hr,h4⟩:=zz
   subst hr
   refine thn h4 fun _ s5 zz=>?_
   obtain⟨x,H5,I5,r5,y5,st5,fr5⟩:=zz
   have I5':=I5.pinned (stat fr5) (T.obj _ _ st5)
   refine thn (hg fp s2 H2 C _ s5 σ3 H5 x u _ I5' r5 (step x H5 y5)) fun _ s6 zz=>?_
   obtain⟨σ6,H6,I6,q6⟩:=zz
   refine thn (ht fp s2 H2 C _ s6 σ6 H6 _ I6 q6) fun ok s6' zz=>?_
   obtain⟨H6',I6',q6'⟩:=zz
   cases ok with
   | false=>
    have q6':N0' σ6 H6':=by simpa using q6'
    obtain⟨m',hm',w7⟩:=hN0 σ6 H6' q6'
    have p7:=I6'.pin (D,{cls:=.type "list",data:=.seq its.toArray k}) (by simp[cxC])
    have e7:s6'.heap.get? D>>{cls:=.type "list",data:=.seq its.toArray k}:=p7.1
    have pf:∀b∈fp,∀o,s5.heap.get? b>>o→s6'.heap.get? b>>o∧H6' b=none:=fun b hb o e=>
     let z:=I6'.pin (b,o) (Ml _ (Ml _ (kdf hb e)))
     ⟨z.1,z.2.1⟩
    rwa[m',hm',i+1,σ6,ys,H6',its,_,I6'.pins_of (fun p hp=>nomatch hp),T.keep _ _ _ st5 (fun b hb o e=>(pf b hb o e).1),fun b hb=>?_,p7.2.1,e7,r3,z3,w7]
    obtain⟨o,e,_⟩:=T.obj _ _ st5 b hb
    exact(pf b hb o e).2
   |true=>
   have q6':te σ6 H6' (N' σ6):=by simpa using q6'
   refine thn (he fp s2 H2 C _ s6' σ6 H6' _ I6' q6') fun v s7 zz=>?_
   obtain⟨y,H7,I7,r7,q7⟩:=zz
   obtain⟨m',hm',w7⟩:=hN σ6 y H7 q7
   have p7:=I7.pin (D,{cls:=.type "list",data:=.seq its.toArray k}) (by simp[cxC])
   have e7:s7.heap.get? D>>{cls:=.type "list",data:=.seq its.toArray k}:=p7.1
   have hl7:=r3.length
   refine call_meets F.slot_list_append ⟨_,e7,rfl⟩ F.entry_list_append (F.args_list_append_2 _ _) (PySem.list_append D its.toArray k v (by rw[N6];lia)) ⟨e7,?_⟩
   have q8:=PySem.IsL.update e7 (·.push v)
   have ex8:its.toArray.push v=(its++[v]).toArray:=by simp
   rw[ex8] at q8
   have pf:∀b∈fp,∀o,s5.heap.get? b>>o→s7.heap.get? b>>o∧H7 b=none:=fun b hb o e=>
    let z:=I7.pin (b,o) (Ml _ (Ml _ (kdf hb e)))
    ⟨z.1,z.2.1⟩
   have I7':Inv (cxC X scope N fp s2 H2 C) [] σ6 H7 s7:=I7.pins_of fun p hp=>nomatch hp
   refine⟨m',hm',i+1,σ6,ys++[y],H7,its++[v],_,I7'.turned (it:=D) (fun b o hb e=>(Heap.get?_update_other _ _ (Ne.symm hb)).trans e) p7.2.1 hDC (.inr (by show s2.heap.objs.size≤D;rw[hDd];exact NG _)) dcell (fun p hp=>nomatch hp),
    T.keep _ _ _ st5 (fun b hb o e=>(Heap.get?_update_other _ _ (dne b hb)).trans (pf b hb o e).1),fun b hb=>?_,p7.2.1,q8,r3.append (.cons r7 .nil),by rw[NQ,MM];lia,w7⟩
   obtain⟨o,e,_⟩:=T.obj _ _ st5 b hb
   exact(pf b hb o e).2
 have st1:tn 0 h₁:=T.keep _ _ _ st2 (fun b hb o e=>old b o e)
 exact codeAny_compStart_list (loop _ rfl) (T.self X.A 0 _ _ _ st1 (loop _ rfl))
theorem kga{wi:TI}(S:CompScope X scope N cap)(hc:X.calm=true)(hi:PI X tg iter wi)(hg:∀fp s H C,PG (cxC X scope N fp s H C) tg g)(ht:∀fp s H C,PIf (cxC X scope N fp s H C) ifs tt)(he:∀fp s H C,PE (cxC X scope N fp s H C) elt te)
  (hs:autoParam (∀x,foldedSetIterable iter X.env x=pure x) jJ):PE X (.ListComp elt [⟨tg,iter,ifs,0⟩] scope pos) (klK wi cap g tt te):=by
 intro pins s σ H Q I h
 rw[eval_ListComp]
 refine wpAny_comprehension_free (use:=none) rfl hs (kcB S I) S.kind S.names (thn (hi pins s σ H _ I h) fun v s1 h1=>thn h1 fun itv s2 h2=>?_)
 obtain⟨it,fp,tn,J,H2,e,I2,T,st2,f2,W,⟨m0,w0⟩,turn⟩:=h2
 subst e
 refine kdg (RR:=fun acc C=>compPost (model X.prog X.w) X.A X.xe none (EP X pins σ Q) acc C) S hc hg ht he I2 T st2 f2 W w0 turn fun D C H' s' m B fC hCD hm q=>?_
 obtain⟨c0,c1,c2,c3,c4,c5⟩:=fC
 rwa[m,hm,fun h' hs'=>⟨.ref D,H',B.turned (t':=s'.toks) (fun b o hb e=>(hs'.2 b hb).trans e) c0 c1 c3 c4 c5,rfl,q⟩]
theorem kk1{wi:TI}{i:Nat}{y:Str}{py spos:Pos}(S:CompScope X scope N cap)(hc:X.calm=true)(hi:PI X tg iter wi)(hg:∀fp s H C,PG (cxC X scope N fp s H C) tg g)(ht:∀fp s H C,PIf (cxC X scope N fp s H C) ifs tt)(he:∀fp s H C,PE (cxC X scope N fp s H C) elt te)
  (hA:PG X (.Name y py) (gName i))(hsw:autoParam (swapsWith (.ListComp elt [⟨tg,iter,ifs,0⟩] scope pos) (some (.Name y py)) spos.line X.env=pure true) jz)
  (hs:autoParam (∀x,foldedSetIterable iter X.env x=pure x) jJ):PS X (.Assign [.Name y py] (.ListComp elt [⟨tg,iter,ifs,0⟩] scope pos) spos) (tAsg (klK wi cap g tt te) (gName i)):=by
 intro pins s σ H D I h
 rw[exec_Assign_Name_used _ _ _ _ hsw]
 refine wpAny_bind (wpAny_standAt (wpAny_bind ?_))
 show wpAny _ X.A (do let _ ←comprehension (.ListComp elt [⟨tg,iter,ifs,0⟩] scope pos) scope X.env _ (newList []) false (eval iter X.env) (some (assign (.Name y py) X.env))) _ _ s
 refine wpAny_bind (wpAny_mono (wpAny_comprehension_free (use:=some (assign (.Name y py) X.env)) (Q:=fun _ s'=>SP X pins D .next s') rfl hs (kcB S I) S.kind S.names
  (thn (hi pins s σ H _ I h) fun v s1 h1=>thn h1 fun itv s2 h2=>?_)) (fun _ s' hq=>wpAny_pure (wpAny_pure hq)) fun _ _ e=>e)
 obtain⟨it,fp,tn,J,H2,e,I2,T,st2,f2,W,⟨m0,w0⟩,turn⟩:=h2
 subst e
 refine kdg (Q:=fun v H'=>gName i v σ H' D.nx) (RR:=fun acc C=>compPost (model X.prog X.w) X.A X.xe (some (assign (.Name y py) X.env)) (fun _ s'=>SP X pins D .next s') acc C) S hc hg ht he I2 T st2 f2 W w0 turn fun D' C H' s' m B fC hCD hm q=>?_
 obtain⟨c0,c1,c2,c3,c4,c5⟩:=fC
 obtain⟨oC,es,ep,eC,dC,kC⟩:=hm
 have B':Inv X (pins++[(C,oC)]) σ H' s':=B.pins_of fun p hp=>by
  rcases Mj.mp hp with hp|hp
  ·exact B.pin p (Ml _ hp)
  ·have e:p=(C,oC):=by simpa using hp
   subst e
   rwa[eC,c0,c1,c2,fun v z=>by rw[dC] at z;cases z]
 refine thn (hA _ s' σ H' (.ref D') (.ref D') _ B' rfl q) fun _ s'' zz=>?_
 obtain⟨σ2,H3,I3,q3⟩:=zz
 obtain⟨e3,n3,_⟩:=I3.pin (C,oC) (Ml _ (Ml _ (by simp)))
 rwa[m,⟨oC,es,ep,e3,dC,kC⟩,fun h' hs'=>⟨σ2,H3,I3.unpinned.turned (t':=s''.toks) (fun b o hb e=>(hs'.2 b hb).trans e) n3 c1 c3 c4 c5,q3⟩]
theorem khb{J:It}{Q:VK}{W:Nat→Nat→St→List V→Hp→Prop}(h:∀i m σ' ys H',W i m σ' ys H'→(J.stop i H'∧∀D,H' D=none→Q (.ref D) (upd H' D (.lst ys)))∨(J.go i H'∧ys.length<sizeLine∧∃N:St→V→Hp→Prop,(∀σ2 y H4,N σ2 y H4→∃m',m'<m∧W (i+1) m' σ2 (ys++[y]) H4)∧
   ∀x H2,J.yld i H' x H2→g x σ' H2 fun σ2 H3=>te σ2 H3 (N σ2))):∀i m σ' ys H',W i m σ' ys H'→(J.stop i H'∧∀D,H' D=none→Q (.ref D) (upd H' D (.lst ys)))∨(J.go i H'∧ys.length<sizeLine∧∃(N:St→V→Hp→Prop)(N0:St→Hp→Prop),(∀σ2 y H4,N σ2 y H4→∃m',m'<m∧W (i+1) m' σ2 (ys++[y]) H4)∧(∀σ2 H4,N0 σ2 H4→∃m',m'<m∧W (i+1) m' σ2 ys H4)∧
   ∀x H2,J.yld i H' x H2→g x σ' H2 fun σ2 H3=>tYes σ2 H3 fun b H4=>if b=true then te σ2 H4 (N σ2) else N0 σ2 H4):=by
 intro i m σ' ys H' w
 rcases h i m σ' ys H' w with h|⟨go,hl,N,hN,st⟩
 ·exact .inl h
 ·refine .inr ⟨go,hl,N,fun _ _=>False,hN,(fun _ _ z=>z.elim),fun x H2 y=>?_⟩
  have e:(fun(σ2:St)(H3:Hp)=>tYes σ2 H3 fun b H4=>if b=true then te σ2 H4 (N σ2) else False)=fun σ2 H3=>te σ2 H3 (N σ2):=by
   funext σ2 H3
   show(if true=true then te σ2 H3 (N σ2) else False)=te σ2 H3 (N σ2)
   rw[if_pos rfl]
  rw[e]
  exact st x H2 y
theorem kbq{wi:TI}(S:CompScope X scope N cap)(hc:X.calm=true)(hi:PI X tg iter wi)(hg:∀fp s H C,PG (cxC X scope N fp s H C) tg g)(he:∀fp s H C,PE (cxC X scope N fp s H C) elt te)
  (hs:autoParam (∀x,foldedSetIterable iter X.env x=pure x) jJ):PE X (.ListComp elt [⟨tg,iter,[],0⟩] scope pos) (tComp wi cap g te):=by
 intro pins s σ H Q I h
 rw[eval_ListComp]
 refine wpAny_comprehension_free (use:=none) rfl hs (kcB S I) S.kind S.names (thn (hi pins s σ H _ I h) fun v s1 h1=>thn h1 fun itv s2 h2=>?_)
 obtain⟨it,fp,tn,J,H2,e,I2,T,st2,f2,W,⟨m0,w0⟩,turn⟩:=h2
 subst e
 refine kdg (RR:=fun acc C=>compPost (model X.prog X.w) X.A X.xe none (EP X pins σ Q) acc C) S hc hg (fun _ _ _ _=>kjW) he I2 T st2 f2 W w0 (khb turn) fun D C H' s' m B fC hCD hm q=>?_
 obtain⟨c0,c1,c2,c3,c4,c5⟩:=fC
 rwa[m,hm,fun h' hs'=>⟨.ref D,H',B.turned (t':=s'.toks) (fun b o hb e=>(hs'.2 b hb).trans e) c0 c1 c3 c4 c5,rfl,q⟩]
theorem kf7{wi:TI}{i:Nat}{y:Str}{py spos:Pos}(S:CompScope X scope N cap)(hc:X.calm=true)(hi:PI X tg iter wi)(hg:∀fp s H C,PG (cxC X scope N fp s H C) tg g)(he:∀fp s H C,PE (cxC X scope N fp s H C) elt te)
  (hA:PG X (.Name y py) (gName i))(hsw:autoParam (swapsWith (.ListComp elt [⟨tg,iter,[],0⟩] scope pos) (some (.Name y py)) spos.line X.env=pure true) jz)
  (hs:autoParam (∀x,foldedSetIterable iter X.env x=pure x) jJ):PS X (.Assign [.Name y py] (.ListComp elt [⟨tg,iter,[],0⟩] scope pos) spos) (tAsg (tComp wi cap g te) (gName i)):=by
 intro pins s σ H D I h
 rw[exec_Assign_Name_used _ _ _ _ hsw]
 refine wpAny_bind (wpAny_standAt (wpAny_bind ?_))
 show wpAny _ X.A (do let _ ←comprehension (.ListComp elt [⟨tg,iter,[],0⟩] scope pos) scope X.env _ (newList []) false (eval iter X.env) (some (assign (.Name y py) X.env))) _ _ s
 refine wpAny_bind (wpAny_mono (wpAny_comprehension_free (use:=some (assign (.Name y py) X.env)) (Q:=fun _ s'=>SP X pins D .next s') rfl hs (kcB S I) S.kind S.names
  (thn (hi pins s σ H _ I h) fun v s1 h1=>thn h1 fun itv s2 h2=>?_)) (fun _ s' hq=>wpAny_pure (wpAny_pure hq)) fun _ _ e=>e)
 obtain⟨it,fp,tn,J,H2,e,I2,T,st2,f2,W,⟨m0,w0⟩,turn⟩:=h2
 subst e
 refine kdg (Q:=fun v H'=>gName i v σ H' D.nx) (RR:=fun acc C=>compPost (model X.prog X.w) X.A X.xe (some (assign (.Name y py) X.env)) (fun _ s'=>SP X pins D .next s') acc C) S hc hg (fun _ _ _ _=>kjW) he I2 T st2 f2 W w0 (khb (Q:=fun v H'=>gName i v σ H' D.nx) turn) fun D' C H' s' m B fC hCD hm q=>?_
 obtain⟨c0,c1,c2,c3,c4,c5⟩:=fC
 obtain⟨oC,es,ep,eC,dC,kC⟩:=hm
 have B':Inv X (pins++[(C,oC)]) σ H' s':=B.pins_of fun p hp=>by
  rcases Mj.mp hp with hp|hp
  ·exact B.pin p (Ml _ hp)
  ·have e:p=(C,oC):=by simpa using hp
   subst e
   rwa[eC,c0,c1,c2,fun v z=>by rw[dC] at z;cases z]
 refine thn (hA _ s' σ H' (.ref D') (.ref D') _ B' rfl q) fun _ s'' zz=>?_
 obtain⟨σ2,H3,I3,q3⟩:=zz
 obtain⟨e3,n3,_⟩:=I3.pin (C,oC) (Ml _ (Ml _ (by simp)))
 rwa[m,⟨oC,es,ep,e3,dC,kC⟩,fun h' hs'=>⟨σ2,H3,I3.unpinned.turned (t':=s''.toks) (fun b o hb e=>(hs'.2 b hb).trans e) n3 c1 c3 c4 c5,q3⟩]
end
section
variable{g:TG}{te:TE}{σ:St}{H:Hp}{R:List V→Hp→Addr→Prop}
theorem kaW{K:NF}{a:Addr}{xs:List V}(Pv:Nat→St→List V→Hp→Prop)(h0:Pv 0 σ [] H)(hz:xs.length≤sizeLine)(hl:∀i σ ys H,i≤xs.length→Pv i σ ys H→SqL K H a xs∧ys.length=i)
  (hs:∀i x σ ys H,xs[i]?>>x→Pv i σ ys H→g x σ H fun σ2 H2=>te σ2 H2 fun y H3=>Pv (i+1) σ2 (ys++[y]) H3)(hd:∀σ ys H,Pv xs.length σ ys H→∀D,H D=none→R ys H D):
  ∃ W:Nat→Nat→St→List V→Hp→Prop,(∃m,W 0 m σ [] H)∧∀i m σ' ys H',W i m σ' ys H'→
   ((Itl K a).stop i H'∧∀D,H' D=none→R ys H' D)∨((Itl K a).go i H'∧ys.length<sizeLine∧∃N:St→V→Hp→Prop,(∀σ2 y H4,N σ2 y H4→∃m',m'<m∧W (i+1) m' σ2 (ys++[y]) H4)∧
    ∀x H2,(Itl K a).yld i H' x H2→g x σ' H2 fun σ2 H3=>te σ2 H3 (N σ2)):=by
 rwa[fun i m σ ys H=>m=xs.length-i∧i≤xs.length∧Pv i σ ys H,⟨xs.length,by simp,Mf _,h0⟩,?_]
 rintro i m σ ys H ⟨rfl,hi,p⟩
 obtain⟨q,el⟩:=hl i σ ys H hi p
 by_cases hlt:i<xs.length
 ·refine .inr ⟨⟨xs,xs[i],q,by simp[hlt]⟩,by lia,fun σ2 y H3=>Pv (i+1) σ2 (ys++[y]) H3,fun σ' y H' p'=>⟨xs.length-(i+1),by lia,rfl,hlt,p'⟩,fun x H' yl=>?_⟩
  obtain⟨e,yl⟩:=yl
  subst e
  exact hs i x σ ys _ (yl xs q) p
 ·have e:i=xs.length:=by lia
  subst e
  exact .inl ⟨⟨xs,q,NG _⟩,hd σ ys H p⟩
end
theorem CompScope.plain{X:Cx}{scope:Scope}{N:List Str}(kind:scope.kind=.function)(names:∀x∈scope.names,x.2=.local→scope.names.lookup x.1>>.local)(_:∀x∈scope.names,x.2≠.cell)(nf:∀x∈scope.names,x.2≠.free)(nd:N.Nodup):
  CompScope X scope N (NI N.length none):=by
 rwa[kind,names,fun x hx hf=>absurd hf (nf x hx),nd,by simp,fun j i x e _=>?_]
 rw[Dl] at e
 split at e
 ·cases e
 ·cases e
noncomputable def kl9(scope:Scope)(ns:List (Str×NameKind))(XN N:List Str)(cap:List (Option Nat)):Bool:=
 scope.kind== .function&&scope.names.all (fun x=>!(x.2== .local)||scope.names.lookup x.1==some .local)&&scope.names.all (fun x=>!(x.2== .free)||(ns.lookup x.1==some .cell||ns.lookup x.1==some .free))&&decide N.Nodup&&decide (cap.length=N.length) &&
  (cap.zip N).all fun p=>match p.1 with
   |none=>true
   |some i=>XN[i]? ==some p.2&&scope.names.lookup p.2==some .free&&scope.names.all fun y=>!(y.1==p.2&&y.2== .cell)
def CompScope.of{X:Cx}{scope:Scope}{N:List Str}{cap:List (Option Nat)}(ns:List (Str×NameKind))(XN:List Str)(hn:X.env.scope.names=ns)(hN:X.N=XN)(h:kl9 scope ns XN N cap=true):CompScope X scope N cap:=by
 unfold kl9 at h
 simp only[Mz,decide_eq_true_eq,Es,Dq,Bool.not_eq_true',beq_iff_eq,beq_eq_false_iff_ne] at h
 obtain⟨⟨⟨⟨⟨h1,h2⟩,h3⟩,h4⟩,h5⟩,h6⟩:=h
 rwa[h1,fun x hx hl=>?_,fun x hx hf=>?_,h4,h5,fun j i x e1 e2=>?_]
 ·rcases h2 x hx with q|q
  ·exact absurd hl q
  ·exact q
 ·rw[hn]
  rcases h3 x hx with q|q
  ·exact absurd hf q
  ·exact q
 ·have hz:(cap.zip N)[j]?>>(some i,x):=by
   rw[List.getElem?_zip_eq_some]
   rwa[e1,e2]
  have q:=h6 _ (NM hz)
  simp only[Mz,beq_iff_eq,Es,Bool.not_eq_true',Bool.and_eq_false_iff,beq_eq_false_iff_ne] at q
  obtain⟨⟨q1,q2⟩,q3⟩:=q
  rwa[by rw[hN];exact q1,q2,fun z=>?_]
  rcases q3 _ z with q|q
  ·exact q rfl
  ·exact q rfl
theorem Inv.turnedL{X:Cx}{pins:List (Addr×Obj)}{σ:St}{H:Hp}{s:Shared}{h':Heap}{t':Nat}{ch:List Addr}(I:Inv X pins σ H s)(k:∀b o,b∉ch→s.heap.get? b>>o→h'.get? b>>o)(hf:∀b∈ch,FpOk X pins H b):
  Inv X pins σ H {s with heap:=h',toks:=t'}:=by
 have nch:∀b u,H b>>u→b∉ch:=fun b u e z=>by
  have:=(hf b z).1
  rw[this] at e
  cases e
 refine I.step (g':=s.gens) (d':=s.drawn) (ch:=ch) (fun b hb=>let⟨_,h1,_,h3,h4,h5⟩:=hf b hb;⟨h3,h1,h4,h5⟩) (fun b o _ _ hc e _=>k b o hc e) (fun b o _ _ hc e _=>⟨o.slots,k b o hc e⟩) (fun _ _ _ _ n=>n)
  (fun b o hc e=>⟨o,k b o hc e⟩) (fun _ _ e=>e) (fun _ _ _ e=>e) (fun b ps e=>⟨#[],by rw[e];simp⟩) (fun m hm=>?_) (fun b u e=>?_) I.bare
 ·obtain⟨o,es,ep,ho,r⟩:=hm
  rwa[o,es,ep,k _ o (fun z=>(hf _ z).2.1 rfl) ho,r]
 ·refine(I.hok b u e).stay (fun c v hc q=>k c v ?_ q) (fun _ q=>q) fun _ _ q=>q
  rcases hc with z|z
  ·rw[z];exact nch b u e
  ·exact nch c _ z
noncomputable def Ite(a:Addr):It:=⟨fun i H=>∃xs x,H a>>(.lst xs)∧xs[i]?>>x,fun i H x H'=>∃t y,H t=none∧x=.ref t∧H'=upd H t (.tup [.int i,y])∧∀xs,H a>>(.lst xs)→xs[i]?>>y,fun i H=>∃xs,H a>>(.lst xs)∧xs.length≤i⟩
theorem kja{P:Program}{w:World}{K:NF}{es:List Expr}{k:Nat}{pos:Pos}(a e it:Addr)(hne:e≠it):Turn P w K (.Tuple es k pos) (Ite a) [e,it] e (fun i h=>(∃old,IsEnum h e it ((i:Nat):Int) old)∧h.IsListIter it a i) where
 mem:=by simp
 obj:=fun i h st b hb=>by
  obtain⟨⟨old,he⟩,o,eo,c,d⟩:=st
  have hb':b=e∨b=it:=by simpa using hb
  rcases hb' with rfl|rfl
  ·exact⟨_,he,fun v z=>by
    have z':Data.fields _=Data.cell v:=z
    cases z'⟩
  ·rwa[o,eo,fun v z=>by rw[d] at z;cases z]
 keep:=fun i h h' st k=>⟨let⟨old,he⟩:=st.1;⟨old,k e (by simp) _ he⟩,st.2.at fun o eo=>k it (by simp) o eo⟩
 item:=by
  intro X hP hw hK hc i pins s σ H E I hf st hg
  subst hP hw hK
  obtain⟨⟨old,he⟩,hit⟩:=st
  obtain⟨xs,x,hq,hx⟩:=hg
  obtain⟨its,n,r,ho,hz⟩:=I.lst hq
  obtain⟨u,hu,ru⟩:=r.get hx
  have hl:s.heap.IsList a its.toArray:=⟨_,ho,rfl,n,rfl⟩
  refine wpAny_pyNext_enum_item he hit hl (x:=u) (by simpa using hu) hne fun h1 heo hit1 ht1 hz1 hk1=>?_
  rwa[.ref s.heap.objs.size,6,wpAny_letOwnedTupleGo_enum heo fun h2 he2 hs2=>?_]
  have hs2':Heap.SameBut e h1 h2:=hs2
  have el:e<s.heap.objs.size:=Heap.lt_size he
  have kk:∀b o,b∉[e,it]→s.heap.get? b>>o→h2.get? b>>o:=fun b o hb eo=>by
   have hb':b≠e∧b≠it:=by simpa using hb
   exact(hs2'.2 b hb'.1).trans (hk1 b o hb'.1 hb'.2 eo)
  have I1:Inv X pins σ H {s with heap:=h2,toks:=s.toks+1}:=I.turnedL (ch:=[e,it]) kk hf
  have fr:H s.heap.objs.size=none:=I.hok.fresh (NG _)
  have ft:FpOk X pins H s.heap.objs.size:=I.fpOk (NG _) fr
  have ht2:h2.get? s.heap.objs.size>>{cls:=.type "tuple",data:=.seq #[.int i s.toks,u]}:=(hs2'.2 _ (MA el)).trans ht1
  have I2:Inv X pins σ (upd H s.heap.objs.size (.tup [.int i,x])) {s with heap:=h2,toks:=s.toks+1}:=
   I1.adopt ft I.sz ⟨by show 2≤sizeLine;decide,[.int i s.toks,u], .cons ⟨_,rfl⟩ (.cons ru .nil),_,ht2,rfl,_,rfl⟩
  have hit2:h2.IsListIter it a (i+1):=hit1.extBut hs2'.extBut (Ne.symm hne)
  rwa[.ref s.heap.objs.size,_,I2,6,⟨s.heap.objs.size,x,fr,rfl,rfl,fun ys hy=>by rw[hq] at hy;cases hy;exact hx⟩,⟨⟨u,?_⟩,hit2⟩,fun b hb=>?_]
  ·have e1:((i+1:Nat):Int)=(i:Int)+1:=rfl
   rw[e1]
   exact he2
  ·have hbl:b<s.heap.objs.size:=by
    have hb':b=e∨b=it:=by simpa using hb
    rcases hb' with rfl|rfl
    ·exact el
    ·obtain⟨o,eo,_⟩:=hit
     exact Heap.lt_size eo
   rw[kak (Mc hbl)]
   exact(hf b hb).1
 done:=by
  intro X hP hw hK hc i pins s σ H E I hf st hg
  subst hP hw hK
  obtain⟨⟨old,he⟩,hit⟩:=st
  obtain⟨xs,hq,hx⟩:=hg
  obtain⟨its,n,r,ho,hz⟩:=I.lst hq
  have hl:s.heap.IsList a its.toArray:=⟨_,ho,rfl,n,rfl⟩
  have hlen:=r.length
  obtain⟨f0,f1,f2,f3,f4,f5⟩:=hf it (by simp)
  exact wpAny_pyNext_enum_end (I.ok.hd hc) he hit hl (by simp;lia) fun h' eb=>⟨rfl,I.turned (t':=s.toks) (fun b o hb e=>eb b o hb e) f0 f1 f3 f4 f5⟩
 self:=fun _ _ _ _ _ st h=>let⟨_,he⟩:=st.1;wpAny_pyIter_enum he h
section
variable{X:Cx}
def iEnum(ta:TA):TI:=fun σ H R=>ta σ H fun vs H1=>∃a xs,vs=[.ref a]∧H1 a>>(.lst xs)∧R (Ite a) H1
theorem kjX{es:List Expr}{k:Nat}{tpos:Pos}{e:Expr}{ta:TA}{p pos:Pos}(hg:Gl X "enumerate")(hm:X.mg "enumerate"=none)(ha:PA X [e] ta)(he:autoParam (starEach [e] X.env=(false,eval e X.env)::starEach [] X.env) jz)
  (hpl:autoParam ((backTo pos (starEach [] X.env)).any (·.1)=false) jz):PI X (.Tuple es k tpos) (.Call (.Name "enumerate" p) [e] [] pos) (iEnum ta):=by
 intro pins s σ H R I h
 refine Call_ (kdK I hg hm boot_enumerate (PyProof.Rows.callWith_type1 (thn (ha pos pins s σ H _ I h) fun us s1 zz=>?_) he hpl))
 obtain⟨vs,H1,I1,r1,q1⟩:=zz
 obtain⟨a,xs,rfl,hq,q⟩:=q1
 obtain⟨u,rfl,rx⟩:=vals1 r1
 cases rx
 obtain⟨its,n,r,ho,hz⟩:=I1.lst hq
 refine call_enumerate_1 ho fun h' he' hit' hsz hk=>wpAny_pyIter_enum he' ?_
 have I2:Inv X pins σ H1 {s1 with heap:=h'}:=I1.kept (t':=s1.toks) hk
 rwa[s1.heap.objs.size+1,[s1.heap.objs.size+1,s1.heap.objs.size],_,_,H1,6,I2,kja a (s1.heap.objs.size+1) s1.heap.objs.size (Nat.succ_ne_self _),⟨⟨_,he'⟩,hit'⟩,fun b hb=>?_,q]
 have hb':b=s1.heap.objs.size+1∨b=s1.heap.objs.size:=by simpa using hb
 have hle:s1.heap.objs.size≤b:=by rcases hb' with rfl|rfl <;> lia
 exact I1.fpOk hle (I1.hok.fresh hle)
end
theorem klu{a:Addr}{xs:List V}{g:TG}{tb:TS}{D:Ends}{σ:St}{H:Hp}(Pv:Nat→St→Hp→Prop)(h0:Pv 0 σ H)(hl:∀i σ H,i≤xs.length→Pv i σ H→H a>>(.lst xs))
  (hs:∀i y t σ H,xs[i]?>>y→Pv i σ H→H t=none→g (.ref t) σ (upd H t (.tup [.int (i:Nat),y])) fun σ2 H2=>tb {D with nx:=Pv (i+1),ct:=Pv (i+1),bk:=D.nx} σ2 H2)(hd:∀σ H,Pv xs.length σ H→D.nx σ H):
  ∃W:Nat→Nat→St→Hp→Prop,(∃m,W 0 m σ H)∧∀i m σ H,W i m σ H→
   ((Ite a).stop i H∧D.nx σ H)∨((Ite a).go i H∧∃N:St→Hp→Prop,(∀σ' H',N σ' H'→∃m',m'<m∧W (i+1) m' σ' H')∧∀x H',(Ite a).yld i H x H'→g x σ H' fun σ2 H2=>tb {D with nx:=N,ct:=N,bk:=D.nx} σ2 H2):=by
 rwa[fun i m σ H=>m=xs.length-i∧i≤xs.length∧Pv i σ H,⟨xs.length,by simp,Mf _,h0⟩,?_]
 rintro i m σ H ⟨rfl,hi,p⟩
 have q:=hl i σ H hi p
 by_cases hlt:i<xs.length
 ·refine .inr ⟨⟨xs,xs[i],q,by simp[hlt]⟩,Pv (i+1),fun σ' H' p'=>⟨xs.length-(i+1),by lia,rfl,hlt,p'⟩,fun x H' y=>?_⟩
  obtain⟨t,y,hn,rfl,rfl,hy⟩:=y
  exact hs i y t σ _ (hy xs q) p hn
 ·have e:i=xs.length:=by lia
  subst e
  exact .inl ⟨⟨xs,q,NG _⟩,hd σ H p⟩
section
variable{X:Cx}
end
section
variable{X:Cx}
end
section
variable{prog:Program}{w:World}{A:Around}{E:Value→Shared→Prop}{s:Shared}
end
section
variable{X:Cx}
end
section
variable{X:Cx}{CX:CXT}{k:Nat}{f C:Addr}{fd:FuncData}{ps ks:List Str}{sp:Sp}{E:XK}{x:Str}{p pos:Pos}{e:Expr}{es:List Expr}{kws:List Keyword}{t tk:TA}{g:List Value→List Value→List Value}{gV:List V→List V→List V}
end
def kaS(K:NF):List V→Hp→VK→Prop:=fun xs H Q=>∃p ys,xs=[.ref p]∧(SqL K H p ys∨SqT K H p ys)∧∀l,H l=none→Q (.ref l) (upd H l (.lst ys))
def kaJ(K:NF):List V→Hp→VK→Prop:=fun xs H Q=>∃p ys,xs=[.ref p]∧(SqL K H p ys∨SqT K H p ys)∧Q (.int ys.length) H
def rSum(K:NF):List V→Hp→VK→Prop:=fun xs H Q=>∃(p:Addr)(ns:List Int),xs=[.ref p]∧SqL K H p (ns.map V.int)∧Q (.int ns.sum) H
def rIsi(K:NF):List V→Hp→VK→Prop:=fun xs H Q=>∃x c t b,xs=[x,c]∧((∃n,c=.ty n)∨∃a,c=.ref a)∧TyOf K H x t∧NU K t (cV c)>>b∧Q (.bl b) H
section
variable{X:Cx}{K:NF}{pos:Pos}
theorem kah{e:Expr}{ta:TE}{f:Str}(he:PE X e ta)(hb:attributeBase e f X.env (eval e X.env)=eval e X.env)(hK:autoParam (X.K=K) jz):PE X (.Attribute e f pos) (tFld K ta f):=by
 subst hK
 exact km8 he hb
theorem kaC{tg l:Expr}{tl:TE}(hl:PE X l tl)(hK:autoParam (X.K=K) jz):PI X tg l (iList K tl):=by
 subst hK
 exact kmy hl
theorem kbJ{es:List Expr}{k:Nat}{t:TGs}{n:Nat}(hc:X.calm=true)(h:PGs X es t)(hK:autoParam (X.K=K) jz)
  (hn:autoParam ((assignEach es X.env).length=n) jz) (hst:autoParam ((assignEach es X.env).findIdx? (·.1)=none) jz):PG X (.Tuple es k pos) (gTup K n t):=by
 subst hK
 exact km5 hc h hn hst
end
inductive DEq(K:NF)(H:Hp):Nat→V→V→Prop
 |flat {n:Nat} {x y:V} (fx:flatV x=true) (fy:flatV y=true) (e:eqV x y=true):DEq K H n x y
 |same {n:Nat} (a:Addr):DEq K H n (.ref a) (.ref a)
 |lst {n:Nat} {a b:Addr} {xs ys:List V} (ha:SqL K H a xs) (hb:SqL K H b ys) (hl:xs.length=ys.length) (h:∀(i:Nat)(x y:V),xs[i]?>>x→ys[i]?>>y→DEq K H n x y):DEq K H (n+1) (.ref a) (.ref b)
 |tup {n:Nat} {a b:Addr} {xs ys:List V} (ha:SqT K H a xs) (hb:SqT K H b ys) (hl:xs.length=ys.length) (h:∀(i:Nat)(x y:V),xs[i]?>>x→ys[i]?>>y→DEq K H n x y):DEq K H (n+1) (.ref a) (.ref b)
def DEq.self{K:NF}{H:Hp}{n:Nat}{x:V}(h:flatV x=true):DEq K H n x x:=.flat h h (kiF h)
def DEq.int{K:NF}{H:Hp}{n:Nat}(i:Int):DEq K H n (.int i) (.int i):=.self rfl
def DEq.bl{K:NF}{H:Hp}{n:Nat}(i:Bool):DEq K H n (.bl i) (.bl i):=.self rfl
def DEq.non{K:NF}{H:Hp}{n:Nat}:DEq K H n .non .non:=.self rfl
def DEq.str{K:NF}{H:Hp}{n:Nat}(i:Str):DEq K H n (.str i) (.str i):=.self rfl
section
variable{X:Cx}
theorem all_true(n:Nat):(NK n).all (fun _=>true)=true:=by simp
theorem kcQ{xs:List V}{us:List Value}(r:Vals xs us){j:Nat}(h:j<us.toArray.size):∃x,xs[j]?>>x∧RelV x us.toArray[j]:=by
 have h':j<us.length:=by simpa using h
 have l:=r.length
 obtain⟨u,e,ru⟩:=r.get (i:=j) (x:=xs[j]'(by lia)) (by simp[show j<xs.length by lia])
 rwa[xs[j]'(by lia),by simp[show j<xs.length by lia],?_]
 have:us.toArray[j]=u:=by
  obtain⟨_,e'⟩:=NT.mp e
  simpa using e'
 rw[this]
 exact ru
theorem kiG{pins:List (Addr×Obj)}{σ:St}{H:Hp}{s:Shared}(I:Inv X pins σ H s){n:Nat}{x y:V}(h:DEq X.K H n x y):∀{A:Around}{u w:Value},A.units+n<cLine→RelV x u→RelV y w→SeqAt.EqAt A s u w true:=by
 induction h with
 |flat fx fy e=>
  intro A u w _ r1 r2
  have:=kkA (A:=A) (s:=s) r1 r2 fx fy
  rw[e] at this
  exact this
 |same a=>
  intro A u w _ r1 r2
  cases r1
  cases r2
  exact SeqAt.EqAt.same _
 | @lst n a b xs ys ha hb hl h ih=>
  intro A u w hu r1 r2
  cases r1
  cases r2
  by_cases e:a=b
  ·subst e
   exact SeqAt.EqAt.same _
  obtain⟨us,q1,p1,z1⟩:=I.list ha
  obtain⟨ws,q2,p2,z2⟩:=I.list hb
  have l1:=q1.length
  have l2:=q2.length
  have key:=SeqAt.RcAt.lists (A:=A) (e:=fun _=>true) p1.isList p2.isList (by simp;lia) (by lia) fun j h1 h2=>by
   obtain⟨x,e1,g1⟩:=kcQ q1 h1
   obtain⟨y,e2,g2⟩:=kcQ q2 h2
   exact ih j x y e1 e2 (A:=A.in1) (by show A.units+1+n<cLine;lia) g1 g2
  rw[all_true] at key
  exact SeqAt.EqAt.of_refs e key
 | @tup n a b xs ys ha hb hl h ih=>
  intro A u w hu r1 r2
  cases r1
  cases r2
  by_cases e:a=b
  ·subst e
   exact SeqAt.EqAt.same _
  obtain⟨us,q1,p1,z1⟩:=I.tuple ha
  obtain⟨ws,q2,p2,z2⟩:=I.tuple hb
  have l1:=q1.length
  have l2:=q2.length
  have key:=SeqAt.RcAt.tuples (A:=A) (e:=fun _=>true) p1 p2 (by lia) fun j h1 h2=>by
   obtain⟨x,e1,g1⟩:=kcQ q1 h1
   obtain⟨y,e2,g2⟩:=kcQ q2 h2
   exact ih j x y e1 e2 (A:=A.in1) (by show A.units+1+n<cLine;lia) g1 g2
  rw[all_true,show(us.toArray.size==ws.toArray.size)=true by simp;lia] at key
  exact SeqAt.EqAt.of_refs e key
def klS(K:NF)(b:Bool):R2:=fun x y H Q=>∃(a c:Addr)(xs ys:List V),x=.ref a∧y=.ref c∧((SqL K H a xs∧SqL K H c ys)∨(SqT K H a xs∧SqT K H c ys))∧xs.length=ys.length∧(∀(i:Nat)(x y:V),xs[i]?>>x→ys[i]?>>y→DEq K H 32 x y)∧Q (.bl b) H
theorem knb(hu:X.A.units+64<cLine):OpR X (compareOp .Eq) (klS X.K true):=by
 intro pins s σ H x y v u Q I rx ry h
 obtain⟨a,c,xs,ys,rfl,rfl,hq,hl,hd,q⟩:=h
 cases rx
 cases ry
 rcases hq with⟨ha,hb⟩|⟨ha,hb⟩
 ·obtain⟨us,q1,p1,z1⟩:=I.list ha
  obtain⟨ws,q2,p2,z2⟩:=I.list hb
  have l1:=q1.length
  have l2:=q2.length
  refine SeqAt.eq_listAt (e:=fun _=>true) p1.isList p2.isList (by simp;lia) (by lia) (fun j h1 h2=>?_) ⟨.bl true,H,I,?_,q⟩
  ·obtain⟨x,e1,g1⟩:=kcQ q1 h1
   obtain⟨y,e2,g2⟩:=kcQ q2 h2
   exact kiG I (hd j x y e1 e2) (by show X.A.units+1+32<cLine;lia) g1 g2
  ·rw[all_true]
   rfl
 ·obtain⟨us,q1,p1,z1⟩:=I.tuple ha
  obtain⟨ws,q2,p2,z2⟩:=I.tuple hb
  have l1:=q1.length
  have l2:=q2.length
  refine SeqAt.eq_tupleAt (e:=fun _=>true) p1 p2 (by lia) (fun j h1 h2=>?_) ⟨.bl true,H,I,?_,q⟩
  ·obtain⟨x,e1,g1⟩:=kcQ q1 h1
   obtain⟨y,e2,g2⟩:=kcQ q2 h2
   exact kiG I (hd j x y e1 e2) (by show X.A.units+1+32<cLine;lia) g1 g2
  ·rw[all_true,show(us.toArray.size==ws.toArray.size)=true by simp;lia]
   rfl
theorem kna(hu:X.A.units+64<cLine):OpR X (compareOp .NotEq) (klS X.K false):=by
 intro pins s σ H x y v u Q I rx ry h
 obtain⟨a,c,xs,ys,rfl,rfl,hq,hl,hd,q⟩:=h
 cases rx
 cases ry
 show wpAny _ _ (richCompare .NotEq (.ref a) (.ref c)) _ _ s
 rcases hq with⟨ha,hb⟩|⟨ha,hb⟩
 ·obtain⟨us,q1,p1,z1⟩:=I.list ha
  obtain⟨ws,q2,p2,z2⟩:=I.list hb
  have l1:=q1.length
  have l2:=q2.length
  refine SeqAt.RcNeAt.lists (e:=fun _=>true) p1.isList p2.isList (by simp;lia) (by lia) (fun j h1 h2=>?_) _ _ _ _ ⟨.bl false,H,I,?_,q⟩
  ·obtain⟨x,e1,g1⟩:=kcQ q1 h1
   obtain⟨y,e2,g2⟩:=kcQ q2 h2
   exact kiG I (hd j x y e1 e2) (by show X.A.units+1+32<cLine;lia) g1 g2
  ·rw[all_true]
   rfl
 ·obtain⟨us,q1,p1,z1⟩:=I.tuple ha
  obtain⟨ws,q2,p2,z2⟩:=I.tuple hb
  have l1:=q1.length
  have l2:=q2.length
  refine SeqAt.RcNeAt.tuples (e:=fun _=>true) p1 p2 (by lia) (fun j h1 h2=>?_) _ _ _ _ ⟨.bl false,H,I,?_,q⟩
  ·obtain⟨x,e1,g1⟩:=kcQ q1 h1
   obtain⟨y,e2,g2⟩:=kcQ q2 h2
   exact kiG I (hd j x y e1 e2) (by show X.A.units+1+32<cLine;lia) g1 g2
  ·rw[all_true,show(us.toArray.size==ws.toArray.size)=true by simp;lia]
   rfl
end
noncomputable def Itz(a b:Addr):It:=⟨fun i H=>∃xs ys x y,H a>>(.lst xs)∧H b>>(.lst ys)∧xs[i]?>>x∧ys[i]?>>y,
 fun i H v H'=>∃t x y,H t=none∧v=.ref t∧H'=upd H t (.tup [x,y])∧(∀xs,H a>>(.lst xs)→xs[i]?>>x)∧∀ys,H b>>(.lst ys)→ys[i]?>>y,
 fun i H=>∃xs ys,H a>>(.lst xs)∧H b>>(.lst ys)∧(xs.length≤i∨ys.length≤i)⟩
theorem kkV{P:Program}{w:World}{K:NF}{es:List Expr}{k:Nat}{pos:Pos}(a b z TI TO i1 i2:Addr)(nd:[z,TI,TO,i1,i2].Nodup):
  Turn P w K (.Tuple es k pos) (Itz a b) [z,TI,TO,i1,i2] z (fun i h=>IsZip h z TI TO .none∧IsPair h TI (.ref i1) (.ref i2)∧(∃u v,IsPair h TO u v)∧h.IsListIter i1 a i∧h.IsListIter i2 b i) where
 mem:=by simp
 obj:=fun i h st b hb=>by
  obtain⟨hz,hI,⟨_,_,hO⟩,⟨o1,e1,_,d1⟩,⟨o2,e2,_,d2⟩⟩:=st
  simp only[N5,M6,or_false] at hb
  rcases hb with rfl|rfl|rfl|rfl|rfl
  ·rwa[_,hz,fun v q=>by cases(show Data.fields _=Data.cell v from q)]
  ·rwa[_,hI,fun v q=>by cases(show Data.seq _ _=Data.cell v from q)]
  ·rwa[_,hO,fun v q=>by cases(show Data.seq _ _=Data.cell v from q)]
  ·rwa[o1,e1,fun v q=>by rw[d1] at q;cases q]
  ·rwa[o2,e2,fun v q=>by rw[d2] at q;cases q]
 keep:=fun i h h' st kk=>by
  obtain⟨hz,hI,⟨u,v,hO⟩,h1,h2⟩:=st
  rwa[kk z (by simp) _ hz,kk TI (by simp) _ hI,⟨u,v,kk TO (by simp) _ hO⟩,h1.at fun o e=>kk i1 (by simp) o e,h2.at fun o e=>kk i2 (by simp) o e]
 item:=by
  intro X hP hw hK hc i pins s σ H E I hf st hg
  subst hP hw hK
  obtain⟨hz,hI,⟨u,v,hO⟩,h1,h2⟩:=st
  obtain⟨xs,ys,x,y,ha,hb,hx,hy⟩:=hg
  obtain⟨its1,n1,r1,ho1,_⟩:=I.lst ha
  obtain⟨its2,n2,r2,ho2,_⟩:=I.lst hb
  obtain⟨u1,g1,ru1⟩:=r1.get hx
  obtain⟨u2,g2,ru2⟩:=r2.get hy
  have L1:s.heap.IsList a its1.toArray:=⟨_,ho1,rfl,n1,rfl⟩
  have L2':s.heap.IsList b its2.toArray:=⟨_,ho2,rfl,n2,rfl⟩
  have off:∀{l:Addr}{zs:List V},H l>>(.lst zs)→l∉[z,TI,TO,i1,i2]:=fun {l zs} e m=>by
   have:=(hf l m).1
   rw[this] at e
   cases e
  have oa:=off ha
  have ob:=off hb
  have nd':=nd
  simp only[MK,N5,M6,or_false,not_or,EU,and_true,not_false_eq_true] at nd' oa ob
  obtain⟨⟨nzI,nzO,nz1,nz2⟩,⟨nIO,nI1,nI2⟩,⟨nO1,nO2⟩,n12⟩:=nd'
  have D:ZipApart z TI TO i1 i2 a b:=⟨Ne.symm nzI,Ne.symm nzO,Ne.symm nz1,Ne.symm nz2,nIO,nI1,nI2,nO1,nO2,n12,oa.1,oa.2.2.1,oa.2.2.2.1,oa.2.2.2.2,ob.1,ob.2.2.1,ob.2.2.2.1,ob.2.2.2.2⟩
  refine wpAny_pyNext_zip_item D hz hI hO h1 h2 L1 L2' (x:=u1) (y:=u2) (by simpa using g1) (by simpa using g2) fun h' a1 a2 a3 a4 a5 a6 a7=>?_
  rwa[.ref s.heap.objs.size,6,wpAny_letOwnedTupleGo_zip a1 fun h2' z2 s2=>?_]
  have s2':Heap.SameBut z h' h2':=s2
  have zl:z<s.heap.objs.size:=Heap.lt_size hz
  have kk:∀b o,b∉[z,TI,TO,i1,i2]→s.heap.get? b>>o→h2'.get? b>>o:=fun b o hb eo=>by
   simp only[N5,M6,or_false,not_or] at hb
   exact(s2'.2 b hb.1).trans (a7 b o hb.1 hb.2.2.1 hb.2.2.2.1 hb.2.2.2.2 eo)
  have I1:Inv X pins σ H {s with heap:=h2',toks:=s.toks}:=I.turnedL (ch:=[z,TI,TO,i1,i2]) kk hf
  have fr:H s.heap.objs.size=none:=I.hok.fresh (NG _)
  have ft:FpOk X pins H s.heap.objs.size:=I.fpOk (NG _) fr
  have t2:h2'.get? s.heap.objs.size>>{cls:=.type "tuple",data:=.seq #[u1,u2]}:=(s2'.2 _ (MA zl)).trans a5
  have I2:Inv X pins σ (upd H s.heap.objs.size (.tup [x,y])) {s with heap:=h2',toks:=s.toks}:=
   I1.adopt ft I.sz ⟨by show 2≤sizeLine;decide,[u1,u2], .cons ru1 (.cons ru2 .nil),_,t2,rfl,_,rfl⟩
  have hI2:IsPair h2' TI (.ref i1) (.ref i2):=(s2'.2 _ (Ne.symm nzI)).trans (a7 TI _ (Ne.symm nzI) nIO nI1 nI2 hI)
  refine⟨.ref s.heap.objs.size,_,I2,rfl,⟨s.heap.objs.size,x,y,fr,rfl,rfl,fun ws e=>by rw[ha] at e;cases e;exact hx,fun ws e=>by rw[hb] at e;cases e;exact hy⟩,
   ⟨z2,hI2,⟨_,_,(s2'.2 _ (Ne.symm nzO)).trans a2⟩,a3.extBut s2'.extBut (Ne.symm nz1),a4.extBut s2'.extBut (Ne.symm nz2)⟩,fun b hb=>?_⟩
  have hbl:b<s.heap.objs.size:=by
   simp only[N5,M6,or_false] at hb
   rcases hb with rfl|rfl|rfl|rfl|rfl
   ·exact zl
   ·exact Heap.lt_size hI
   ·exact Heap.lt_size hO
   ·obtain⟨o,e,_⟩:=h1;exact Heap.lt_size e
   ·obtain⟨o,e,_⟩:=h2;exact Heap.lt_size e
  rw[kak (Mc hbl)]
  exact(hf b hb).1
 done:=by
  intro X hP hw hK hc i pins s σ H E I hf st hg
  subst hP hw hK
  obtain⟨hz,hI,⟨u,v,hO⟩,h1,h2⟩:=st
  obtain⟨xs,ys,ha,hb,hx⟩:=hg
  obtain⟨its1,n1,r1,ho1,_⟩:=I.lst ha
  obtain⟨its2,n2,r2,ho2,_⟩:=I.lst hb
  have L1:s.heap.IsList a its1.toArray:=⟨_,ho1,rfl,n1,rfl⟩
  have L2':s.heap.IsList b its2.toArray:=⟨_,ho2,rfl,n2,rfl⟩
  have hlen1:=r1.length
  have hlen2:=r2.length
  have off:∀{l:Addr}{zs:List V},H l>>(.lst zs)→l∉[z,TI,TO,i1,i2]:=fun {l zs} e m=>by
   have:=(hf l m).1
   rw[this] at e
   cases e
  have oa:=off ha
  have ob:=off hb
  have nd':=nd
  simp only[MK,N5,M6,or_false,not_or,EU,and_true,not_false_eq_true] at nd' oa ob
  obtain⟨⟨nzI,nzO,nz1,nz2⟩,⟨nIO,nI1,nI2⟩,⟨nO1,nO2⟩,n12⟩:=nd'
  have D:ZipApart z TI TO i1 i2 a b:=⟨Ne.symm nzI,Ne.symm nzO,Ne.symm nz1,Ne.symm nz2,nIO,nI1,nI2,nO1,nO2,n12,oa.1,oa.2.2.1,oa.2.2.2.1,oa.2.2.2.2,ob.1,ob.2.2.1,ob.2.2.2.1,ob.2.2.2.2⟩
  refine wpAny_pyNext_zip_end (I.ok.hd hc) D hz hI hO h1 h2 L1 L2' ?_ fun h' hk=>⟨rfl,?_⟩
  ·rcases hx with hx|hx
   ·exact .inl (by simp;lia)
   ·exact .inr (by simp;lia)
  ·refine I.turnedL (t':=s.toks) (ch:=[z,TI,TO,i1,i2]) (fun b o hb e=>?_) hf
   simp only[N5,M6,or_false,not_or] at hb
   exact hk b o hb.1 hb.2.2.1 hb.2.2.2.1 hb.2.2.2.2 e
 self:=fun _ _ _ _ _ st h=>wpAny_pyIter_zip st.1 h
def kmP(n:Nat):([n+4,n+2,n+3,n,n+1]:List Nat).Nodup:=by
 simp only[MK,N5,M6,or_false,not_or,EU,and_true,not_false_eq_true]
 lia
def kmQ{n x:Nat}(h:x∈([n+4,n+2,n+3,n,n+1]:List Nat)):n≤x:=by
 simp only[N5,M6,or_false] at h
 lia
section
variable{X:Cx}
def iZip(ta:TA):TI:=fun σ H R=>ta σ H fun vs H1=>∃a b xs ys,vs=[.ref a, .ref b]∧H1 a>>(.lst xs)∧H1 b>>(.lst ys)∧R (Itz a b) H1
theorem kns:bootBuiltins "zip">>(.type "zip"):=by cutsat
theorem keU{es:List Expr}{k:Nat}{tpos:Pos}{e1 e2:Expr}{ta:TA}{p pos:Pos}(hg:Gl X "zip")(hm:X.mg "zip"=none)(ha:PA X [e1,e2] ta)(he:autoParam (starEach [e1,e2] X.env=(false,eval e1 X.env)::starEach [e2] X.env) jz)
  (hpl:autoParam ((backTo pos (starEach [e2] X.env)).any (·.1)=false) jz):PI X (.Tuple es k tpos) (.Call (.Name "zip" p) [e1,e2] [] pos) (iZip ta):=by
 intro pins s σ H R I h
 refine Call_ (kdK I hg hm kns (PyProof.Rows.callWith_type1 (thn (ha pos pins s σ H _ I h) fun us s1 zz=>?_) he hpl))
 obtain⟨vs,H1,I1,r1,q1⟩:=zz
 obtain⟨a,b,xs,ys,rfl,qa,qb,q⟩:=q1
 cases r1 with
 | cons ra rr=>
  cases rr with
  |cons rb rr=>
   cases rr
   cases ra
   cases rb
   obtain⟨its1,n1,_,ho1,_⟩:=I1.lst qa
   obtain⟨its2,n2,_,ho2,_⟩:=I1.lst qb
   refine call_zip_2 (xs:=its1.toArray) (ys:=its2.toArray) ⟨_,ho1,rfl,n1,rfl⟩ ⟨_,ho2,rfl,n2,rfl⟩ fun h' b1 b2 b3 b4 b5 _ hk=>wpAny_pyIter_zip b1 ?_
   have I2:Inv X pins σ H1 {s1 with heap:=h'}:=I1.kept (t':=s1.toks) hk
   rwa[s1.heap.objs.size+4,[s1.heap.objs.size+4,s1.heap.objs.size+2,s1.heap.objs.size+3,s1.heap.objs.size,s1.heap.objs.size+1],_,_,H1,6,I2,kkV a b _ _ _ _ _ (kmP _),⟨b1,b2,⟨_,_,b3⟩,b4,b5⟩,fun x hx=>?_,q]
   have hle:s1.heap.objs.size≤x:=kmQ hx
   exact I1.fpOk hle (I1.hok.fresh hle)
end
theorem kku{a b:Addr}{xs ys:List V}{g:TG}{tb:TS}{D:Ends}{σ:St}{H:Hp}(Pv:Nat→St→Hp→Prop)(h0:Pv 0 σ H)(hl:∀i σ H,i≤min xs.length ys.length→Pv i σ H→H a>>(.lst xs)∧H b>>(.lst ys))
  (hs:∀i x y t σ H,xs[i]?>>x→ys[i]?>>y→Pv i σ H→H t=none→g (.ref t) σ (upd H t (.tup [x,y])) fun σ2 H2=>tb {D with nx:=Pv (i+1),ct:=Pv (i+1),bk:=D.nx} σ2 H2)(hd:∀σ H,Pv (min xs.length ys.length) σ H→D.nx σ H):
  ∃W:Nat→Nat→St→Hp→Prop,(∃m,W 0 m σ H)∧∀i m σ H,W i m σ H→
   ((Itz a b).stop i H∧D.nx σ H)∨((Itz a b).go i H∧∃N:St→Hp→Prop,(∀σ' H',N σ' H'→∃m',m'<m∧W (i+1) m' σ' H')∧∀x H',(Itz a b).yld i H x H'→g x σ H' fun σ2 H2=>tb {D with nx:=N,ct:=N,bk:=D.nx} σ2 H2):=by
 rwa[fun i m σ H=>m=min xs.length ys.length-i∧i≤min xs.length ys.length∧Pv i σ H,⟨min xs.length ys.length,by simp,Mf _,h0⟩,?_]
 rintro i m σ H ⟨rfl,hi,p⟩
 obtain⟨q1,q2⟩:=hl i σ H hi p
 by_cases hlt:i<min xs.length ys.length
 ·refine .inr ⟨⟨xs,ys,xs[i]'(by lia),ys[i]'(by lia),q1,q2,by simp[show i<xs.length by lia],by simp[show i<ys.length by lia]⟩,Pv (i+1),fun σ' H' p'=>⟨min xs.length ys.length-(i+1),by lia,rfl,hlt,p'⟩,fun x H' y=>?_⟩
  obtain⟨t,x,y,hn,rfl,rfl,h1,h2⟩:=y
  exact hs i x y t σ _ (h1 _ q1) (h2 _ q2) p hn
 ·have e:i=min xs.length ys.length:=by lia
  refine .inl ⟨⟨xs,ys,q1,q2,by lia⟩,?_⟩
  rw[e] at p
  exact hd σ H p
theorem kgs{a b:Addr}{xs ys:List V}{g:TG}{te:TE}{σ:St}{H:Hp}{R:List V→Hp→Addr→Prop}(Pv:Nat→St→List V→Hp→Prop)(h0:Pv 0 σ [] H)(hz:min xs.length ys.length≤sizeLine)(hl:∀i σ zs H,i≤min xs.length ys.length→Pv i σ zs H→H a>>(.lst xs)∧H b>>(.lst ys)∧zs.length=i)
  (hs:∀i x y t σ zs H,xs[i]?>>x→ys[i]?>>y→Pv i σ zs H→H t=none→g (.ref t) σ (upd H t (.tup [x,y])) fun σ2 H2=>te σ2 H2 fun z H3=>Pv (i+1) σ2 (zs++[z]) H3)(hd:∀σ zs H,Pv (min xs.length ys.length) σ zs H→∀D,H D=none→R zs H D):
  ∃ W:Nat→Nat→St→List V→Hp→Prop,(∃m,W 0 m σ [] H)∧∀i m σ' zs H',W i m σ' zs H'→
   ((Itz a b).stop i H'∧∀D,H' D=none→R zs H' D)∨((Itz a b).go i H'∧zs.length<sizeLine∧∃N:St→V→Hp→Prop,(∀σ2 y H4,N σ2 y H4→∃m',m'<m∧W (i+1) m' σ2 (zs++[y]) H4)∧
    ∀x H2,(Itz a b).yld i H' x H2→g x σ' H2 fun σ2 H3=>te σ2 H3 (N σ2)):=by
 rwa[fun i m σ zs H=>m=min xs.length ys.length-i∧i≤min xs.length ys.length∧Pv i σ zs H,⟨min xs.length ys.length,by simp,Mf _,h0⟩,?_]
 rintro i m σ zs H ⟨rfl,hi,p⟩
 obtain⟨q1,q2,el⟩:=hl i σ zs H hi p
 by_cases hlt:i<min xs.length ys.length
 ·refine .inr ⟨⟨xs,ys,xs[i]'(by lia),ys[i]'(by lia),q1,q2,by simp[show i<xs.length by lia],by simp[show i<ys.length by lia]⟩,by lia,fun σ2 y H3=>Pv (i+1) σ2 (zs++[y]) H3,fun σ' y H' p'=>⟨min xs.length ys.length-(i+1),by lia,rfl,hlt,p'⟩,fun x H' yl=>?_⟩
  obtain⟨t,x,y,hn,rfl,rfl,h1,h2⟩:=yl
  exact hs i x y t σ zs _ (h1 _ q1) (h2 _ q2) p hn
 ·have e:i=min xs.length ys.length:=by lia
  refine .inl ⟨⟨xs,ys,q1,q2,by lia⟩,?_⟩
  rw[e] at p
  exact hd σ zs H p
section
variable{g:TG}{tt:TT}{te:TE}{σ:St}{H:Hp}{R:List V→Hp→Addr→Prop}
theorem kgt{J:It}{n:Nat}(Pv:Nat→St→List V→Hp→Prop)(h0:Pv 0 σ [] H)(hz:n≤sizeLine)(hl:∀i σ ys H,i≤n→Pv i σ ys H→ys.length≤i)(hgo:∀i σ ys H,i<n→Pv i σ ys H→J.go i H)(hst:∀σ ys H,Pv n σ ys H→J.stop n H)
  (hs:∀i σ ys H x H',i<n→Pv i σ ys H→J.yld i H x H'→g x σ H' fun σ2 H2=>tt σ2 H2 fun b H3=>if b=true then te σ2 H3 (fun y H4=>Pv (i+1) σ2 (ys++[y]) H4) else Pv (i+1) σ2 ys H3)(hd:∀σ ys H,Pv n σ ys H→∀D,H D=none→R ys H D):
  ∃ W:Nat→Nat→St→List V→Hp→Prop,(∃m,W 0 m σ [] H)∧∀i m σ' ys H',W i m σ' ys H'→
   (J.stop i H'∧∀D,H' D=none→R ys H' D)∨(J.go i H'∧ys.length<sizeLine∧∃(N:St→V→Hp→Prop)(N0:St→Hp→Prop),(∀σ2 y H4,N σ2 y H4→∃m',m'<m∧W (i+1) m' σ2 (ys++[y]) H4)∧(∀σ2 H4,N0 σ2 H4→∃m',m'<m∧W (i+1) m' σ2 ys H4)∧
    ∀x H2,J.yld i H' x H2→g x σ' H2 fun σ2 H3=>tt σ2 H3 fun b H4=>if b=true then te σ2 H4 (N σ2) else N0 σ2 H4):=by
 rwa[fun i m σ ys H=>m=n-i∧i≤n∧Pv i σ ys H,⟨n,by simp,Mf _,h0⟩,?_]
 rintro i m σ ys H ⟨rfl,hi,p⟩
 have el:=hl i σ ys H hi p
 by_cases hlt:i<n
 ·refine .inr ⟨hgo i σ ys H hlt p,by lia,fun σ2 y H3=>Pv (i+1) σ2 (ys++[y]) H3,fun σ2 H3=>Pv (i+1) σ2 ys H3,fun σ' y H' p'=>⟨n-(i+1),by lia,rfl,hlt,p'⟩,fun σ' H' p'=>⟨n-(i+1),by lia,rfl,hlt,p'⟩,fun x H' yl=>?_⟩
  exact hs i σ ys H x H' hlt p yl
 ·have e:i=n:=by lia
  subst e
  exact .inl ⟨hst σ ys H p,hd σ ys H p⟩
theorem kfk{lo:Int}{n:Nat}(Pv:Nat→St→List V→Hp→Prop)(h0:Pv 0 σ [] H)(hz:n≤sizeLine)(hl:∀i σ ys H,i≤n→Pv i σ ys H→ys.length≤i)
  (hs:∀i σ ys H,i<n→Pv i σ ys H→g (.int (lo+i)) σ H fun σ2 H2=>tt σ2 H2 fun b H3=>if b=true then te σ2 H3 (fun y H4=>Pv (i+1) σ2 (ys++[y]) H4) else Pv (i+1) σ2 ys H3)(hd:∀σ ys H,Pv n σ ys H→∀D,H D=none→R ys H D):
  ∃ W:Nat→Nat→St→List V→Hp→Prop,(∃m,W 0 m σ [] H)∧∀i m σ' ys H',W i m σ' ys H'→
   ((Itr lo n).stop i H'∧∀D,H' D=none→R ys H' D)∨((Itr lo n).go i H'∧ys.length<sizeLine∧∃(N:St→V→Hp→Prop)(N0:St→Hp→Prop),(∀σ2 y H4,N σ2 y H4→∃m',m'<m∧W (i+1) m' σ2 (ys++[y]) H4)∧(∀σ2 H4,N0 σ2 H4→∃m',m'<m∧W (i+1) m' σ2 ys H4)∧
    ∀x H2,(Itr lo n).yld i H' x H2→g x σ' H2 fun σ2 H3=>tt σ2 H3 fun b H4=>if b=true then te σ2 H4 (N σ2) else N0 σ2 H4):=
 kgt Pv h0 hz hl (fun _ _ _ _ hi _=>hi) (fun _ _ _ _=>NG _) (fun i σ ys H x H' hi p yl=>by
  obtain⟨e,q⟩:=yl
  subst e q
  exact hs i σ ys _ hi p) hd
theorem ki1{a:Addr}{xs:List V}(Pv:Nat→St→List V→Hp→Prop)(h0:Pv 0 σ [] H)(hz:xs.length≤sizeLine)(hl:∀i σ ys H,i≤xs.length→Pv i σ ys H→H a>>(.lst xs)∧ys.length≤i)
  (hs:∀i y t σ ys H,xs[i]?>>y→Pv i σ ys H→H t=none→g (.ref t) σ (upd H t (.tup [.int (i:Nat),y])) fun σ2 H2=>tt σ2 H2 fun b H3=>if b=true then te σ2 H3 (fun y H4=>Pv (i+1) σ2 (ys++[y]) H4) else Pv (i+1) σ2 ys H3)(hd:∀σ ys H,Pv xs.length σ ys H→∀D,H D=none→R ys H D):
  ∃ W:Nat→Nat→St→List V→Hp→Prop,(∃m,W 0 m σ [] H)∧∀i m σ' ys H',W i m σ' ys H'→
   ((Ite a).stop i H'∧∀D,H' D=none→R ys H' D)∨((Ite a).go i H'∧ys.length<sizeLine∧∃(N:St→V→Hp→Prop)(N0:St→Hp→Prop),(∀σ2 y H4,N σ2 y H4→∃m',m'<m∧W (i+1) m' σ2 (ys++[y]) H4)∧(∀σ2 H4,N0 σ2 H4→∃m',m'<m∧W (i+1) m' σ2 ys H4)∧
    ∀x H2,(Ite a).yld i H' x H2→g x σ' H2 fun σ2 H3=>tt σ2 H3 fun b H4=>if b=true then te σ2 H4 (N σ2) else N0 σ2 H4):=
 kgt Pv h0 hz (fun i σ ys H hi p=>(hl i σ ys H hi p).2) (fun i σ ys H hi p=>⟨xs,xs[i],(hl i σ ys H (NR hi) p).1,by simp[hi]⟩) (fun σ ys H p=>⟨xs,(hl _ σ ys H (NG _) p).1,NG _⟩)
  (fun i σ ys H x H' hi p yl=>by
   obtain⟨t,y,hn,rfl,rfl,hy⟩:=yl
   exact hs i y t σ ys _ (hy xs (hl i σ ys _ (NR hi) p).1) p hn) hd
end
section
variable{X:Cx}
noncomputable def isI(k:Int):Value→Bool
 | .int a _=>a==k
 |_=>false
theorem kg7:∀{ns:List Int}{us:List Value},Vals (ns.map V.int) us→∀(j:Nat)(n:Int),ns[j]?>>n→∃t,us[j]?>>(.int n t)
 |[],_,_,j,n,e=>by simp at e
 | m::ns,u::us, .cons r t,j,n,e=>by
  cases j with
  |zero=>
   have e':m=n:=by simpa using e
   subst e'
   obtain⟨t,rfl⟩:=r
   rwa[t,6]
  |succ j=>
   obtain⟨q,h⟩:=kg7 t j n (by simpa using e)
   rwa[q,by simpa using h]
end
structure BaseT(K:NF)(C:Addr)(m:Str)(f:Addr):Prop where
 rd:PySem.W.readsIn K C (.type "type")=true
 ga:EC K (.ref C) "__getattribute__">>(some (.builtin "type.__getattribute__"))
 fc:PySem.W.findCls K (.ref C) (.type "type") m>>(.val (.ref f))
section
variable{X:Cx}{CX:CXT}{k:Nat}{f C:Addr}{fd:FuncData}{ps:List Str}{sp:Sp}{dvs:List V}{ds:List Value}{E:XK}{x m:Str}{p pos apos:Pos}{e o:Expr}{es:List Expr}{ta:TE}{t:TA}
theorem keW{pl:Sem Bool}(B:BaseT X.K C m f)(F:FnOk X.prog X.w X.K X.mg X.base CX k f fd ps sp)(hr:Room k X.A)(hg:Gl X x)(hm:X.mg x>>(.ref C))(hk:NZ X.K (.ref f)=true)(hb:Binds X.K fd ps ds)(hd:Vals dvs ds)(hx:kdP CX X E)
  (ha:PA X (e::es) t)(hdb:autoParam ((x==("__debug__" :Str))=false) jQ)
  (hst:autoParam (starEach (e::es) X.env=(false,eval e X.env)::starEach es X.env) jz)(hpl:autoParam ((backTo pos (starEach es X.env)).any (·.1)=false) jz)
  (ht:autoParam (eval (.Call (.Attribute (.Name x p) m apos) (e::es) [] pos) X.env=(do
   let ov ←eval (.Name x p) X.env
   standAt apos.atName
   let(f,first) ←holding [ov] (getMethod ov m pl)
   callWith pos f first (backTo pos (starEach (e::es) X.env)) (backToKw pos (keywordEach [] X.env)))) jz):
  PE X (.Call (.Attribute (.Name x p) m apos) (e::es) [] pos) (tCall sp dvs E t):=by
 intro pins s σ H Q I h
 refine EN (pl:=pl) (thn (kcG (v:=.ref C) hg hm rfl hdb pins s σ H (fun y H1=>y=.ref C∧H1=H) I ⟨rfl,rfl⟩) fun u s1 zz=>?_) ht
 obtain⟨y,H1,I1,ry,ey,eH⟩:=zz
 subst ey eH
 obtain rfl:u=Value.ref C:=ry
 refine PySem.W.method_cls I1.kIn B.ga (PySem.W.cls_value I1.kIn B.rd B.fc rfl ?_)
 have I2:=I1.tok (s1.toks+1)
 refine ED (h₀:=X.base) I.ok.mod.kin hk (thn (ha pos pins _ σ H1 _ I2 h) fun us s2 ⟨vs,H2,I3,r,q2⟩=>⟨I3.kIn,?_⟩) hst hpl
 exact kih F hr hb hd hx I3 r q2
end
def kd5{n j:Nat}(h:j<n):ixN n (j:Int)>>j:=by
 unfold ixN
 rw[if_pos (by lia),if_pos (by lia)]
 simp
section
variable{X:Cx}
end
section
variable{X:Cx}
def knm(ta:TA):TI:=fun σ H R=>ta σ H fun vs H1=>∃i j k:Int,vs=[.int i, .int j, .int k]∧(-(2 ^ 31)≤i∧i<2 ^ 31)∧(-(2 ^ 31)≤j∧j<2 ^ 31)∧0<k∧k<2 ^ 30∧R (Its i k (Builtin.Range.rangeSize i j k).toNat) H1
theorem kiR{tg a b c:Expr}{ta:TA}{p pos:Pos}(hg:Gl X "range")(hm:X.mg "range"=none)(ha:PA X [a,b,c] ta)(he:autoParam (starEach [a,b,c] X.env=(false,eval a X.env)::starEach [b,c] X.env) jz)
  (hpl:autoParam ((backTo pos (starEach [b,c] X.env)).any (·.1)=false) jz):PI X tg (.Call (.Name "range" p) [a,b,c] [] pos) (knm ta):=by
 intro pins s σ H R I h
 refine Call_ (kdK I hg hm boot_range (PyProof.Rows.callWith_type1 (thn (ha pos pins s σ H _ I h) fun us s1 zz=>?_) he hpl))
 obtain⟨vs,H1,I1,r1,q1⟩:=zz
 obtain⟨i,j,k,e,hi,hj,hk,hk2,q⟩:=q1
 subst e
 cases r1 with
 | cons r rr=>
  cases rr with
  | cons r' rr=>
   cases rr with
   | cons r'' rr=>
    cases rr
    obtain⟨t,rfl⟩:=r
    obtain⟨t',rfl⟩:=r'
    obtain⟨t'',rfl⟩:=r''
    refine call_range_3 (by lia) ?_ (.inl (PyProof.noPylong_small (by lia)))
    refine wpAny_pyIter_range (IsRange.new ..) (kiO hk hk2 hi hj) ?_
    have I2:Inv X pins σ H1 {s1 with heap:=s1.heap.push {cls:=.type "range",data:=.fields #[.int i t, .int j t', .int k t'']},toks:=s1.toks}:=I1.kept fun b o e=>Heap.get?_push_of_some _ e
    have hn:=kgQ hk hi hj
    refine⟨(s1.heap.push {cls:=.type "range",data:=.fields #[.int i t, .int j t', .int k t'']}).objs.size,[(s1.heap.push {cls:=.type "range",data:=.fields #[.int i t, .int j t', .int k t'']}).objs.size],_,_,H1,rfl,
     I2.kept (t':=s1.toks) fun b o e=>Heap.get?_push_of_some _ e,ki8 _ i k (Builtin.Range.rangeSize i j k).toNat,?_,fun b hb=>?_,q⟩
    ·have e1:i+((0:Nat):Int)*k=i:=by simp
     have e2:(((Builtin.Range.rangeSize i j k).toNat:Nat):Int)-((0:Nat):Int)=Builtin.Range.rangeSize i j k:=by lia
     show IsRangeIter _ _ (i+((0:Nat):Int)*k) ((((Builtin.Range.rangeSize i j k).toNat:Nat):Int)-((0:Nat):Int)) k
     rw[e1,e2]
     exact Heap.get?_push_size _ rfl
    ·have e:b=(s1.heap.push {cls:=.type "range",data:=.fields #[.int i t, .int j t', .int k t'']}).objs.size:=by simpa using hb
     subst e
     exact I2.fpOk (NG _) (I2.hok.fresh (NG _))
end
section
variable{g:TG}{te:TE}{σ:St}{H:Hp}{R:List V→Hp→Addr→Prop}
theorem kkI{lo st:Int}{n:Nat}(Pv:Nat→St→List V→Hp→Prop)(h0:Pv 0 σ [] H)(hz:n≤sizeLine)(hl:∀i σ ys H,i≤n→Pv i σ ys H→ys.length=i)
  (hs:∀i σ ys H,i<n→Pv i σ ys H→g (.int (lo+i*st)) σ H fun σ2 H2=>te σ2 H2 fun y H3=>Pv (i+1) σ2 (ys++[y]) H3)(hd:∀σ ys H,Pv n σ ys H→∀D,H D=none→R ys H D):
  ∃ W:Nat→Nat→St→List V→Hp→Prop,(∃m,W 0 m σ [] H)∧∀i m σ' ys H',W i m σ' ys H'→
   ((Its lo st n).stop i H'∧∀D,H' D=none→R ys H' D)∨((Its lo st n).go i H'∧ys.length<sizeLine∧∃N:St→V→Hp→Prop,(∀σ2 y H4,N σ2 y H4→∃m',m'<m∧W (i+1) m' σ2 (ys++[y]) H4)∧
    ∀x H2,(Its lo st n).yld i H' x H2→g x σ' H2 fun σ2 H3=>te σ2 H3 (N σ2)):=by
 rwa[fun i m σ ys H=>m=n-i∧i≤n∧Pv i σ ys H,⟨n,by simp,Mf _,h0⟩,?_]
 rintro i m σ ys H ⟨rfl,hi,p⟩
 have el:=hl i σ ys H hi p
 by_cases hlt:i<n
 ·refine .inr ⟨hlt,by lia,fun σ2 y H3=>Pv (i+1) σ2 (ys++[y]) H3,fun σ' y H' p'=>⟨n-(i+1),by lia,rfl,hlt,p'⟩,fun x H' yl=>?_⟩
  obtain⟨e,yl⟩:=yl
  subst e yl
  exact hs i σ ys _ hlt p
 ·have e:i=n:=by lia
  subst e
  exact .inl ⟨NG _,hd σ ys H p⟩
end
def khu{L m:Nat}(hm:0<m):(Builtin.Range.rangeSize 0 ((L:Int)-(m:Int)+1) (m:Int)).toNat=L/m:=by
 unfold Builtin.Range.rangeSize
 rw[if_pos (by lia)]
 by_cases h:m≤L
 ·rw[if_pos (by lia),show(L:Int)-(m:Int)+1-0-1=((L-m:Nat):Int) by lia,←Int.natCast_ediv,Nat.div_eq_sub_div hm h]
  generalize (L-m)/m=q
  lia
 ·rw[if_neg (by lia),Nat.div_eq_of_lt (by lia)]
  rfl
section
variable{X:Cx}{CX:CXT}{k:Nat}{f C:Addr}{fd:FuncData}{ps ks:List Str}{sp:Sp}{E:XK}{x:Str}{p pos:Pos}{kws:List Keyword}{tk:TA}{g:List Value→List Value→List Value}{gV:List V→List V→List V}
end
noncomputable def atK(kvs:List (Key×V))(k:Key):Option V:=(kvs.find? fun p=>decide (p.1=k)).map Prod.snd
theorem khT:∀{kvs:List (Key×V)}{vs:List (Key×Value)},KV kvs vs→∀k,RelO (atK kvs k) (valueAt vs k)
 |_,_, .nil,_=>True.intro
 | p::ps,q::qs, .cons h t,k=>by
  obtain⟨h1,h2⟩:=h
  have ih:=khT t k
  unfold atK valueAt at *
  by_cases e:p.1=k
  ·have e':q.1=k:=h1.symm.trans e
   simp only[EF,e,e',decide_true,ET]
   exact h2
  ·have e':¬q.1=k:=fun z=>e (h1.trans z)
   simp only[EF,e,e',decide_false]
   exact ih
theorem kvAny:∀{kvs:List (Key×V)}{vs:List (Key×Value)},KV kvs vs→∀k:Key,atK kvs k=none→(vs.any fun p=>decide (p.1=k))=false
 |_,_, .nil,_,_=>rfl
 | p::ps,q::qs, .cons h t,k,hn=>by
  obtain⟨h1,h2⟩:=h
  unfold atK at hn
  by_cases e:p.1=k
  ·simp[EF,e] at hn
  ·have e':¬q.1=k:=fun z=>e (h1.trans z)
   rw[Ed,decide_eq_false e',Bool.false_or]
   refine kvAny t k ?_
   unfold atK
   simpa[EF,e] using hn
theorem kl1:∀{kvs:List (Key×V)}{vs:List (Key×Value)},KV kvs vs→∀{k:Key}{y:V}{u:Value},RelV y u→KV (kvs++[(k,y)]) (vs++[(k,u)])
 |_,_, .nil,_,_,_,r=>.cons ⟨rfl,r⟩ .nil
 |_,_, .cons h t,_,_,_,r=>.cons h (kl1 t r)
theorem kvLen:∀{kvs:List (Key×V)}{vs:List (Key×Value)},KV kvs vs→kvs.length=vs.length
 |_,_, .nil=>rfl
 |_,_, .cons _ t=>by rw[Md,Md,kvLen t]
theorem kl0:∀{kvs:List (Key×V)}{vs:List (Key×Value)},KV kvs vs→Vals (kvs.map Prod.snd) (vs.map Prod.snd)
 |_,_, .nil=>.nil
 |_,_, .cons h t=>.cons h.2 (kl0 t)
section
variable{X:Cx}
def kmY:TE:=fun _ H Q=>∀p,H p=none→Q (.ref p) (upd H p (.dK []))
theorem kk5{pos:Pos}:PE X (.Dict [] [] pos) kmY:=fun pins s σ H Q I h=>
 have big:sysModules<s.heap.objs.size:=Nat.lt_trans (by decide) (show mainGlobals<s.heap.objs.size from(I.mod.glob.keeps I.bk).lt)
 wpAny_Dict_empty ⟨.ref s.heap.objs.size,_,I.laid (a:=s.heap.objs.size) (o:=.dK []) (t':=s.toks) (fun _ _ q=>Heap.get?_push_of_some _ q) (NG _)
  (show ObjOk X.prog X.w _ _ _ (.dK []) from⟨Mf _,beq_eq_false_iff_ne.mpr (Ne.symm (Mc big)),[], .nil,Heap.DictOf.new _⟩),rfl,h _ (I.hok.fresh (NG _))⟩
def rSetd:V→List V→Hp→VK→Prop:=fun x vs H Q=>∃(a:Addr)(kvs:List (Key×V))(i:Int)(y:V),x=.ref a∧vs=[.int i,y]∧H a>>(.dK kvs)∧kvs.length<sizeLine∧(∀v,atK kvs (.inl i)>>v→Q v H)∧(atK kvs (.inl i)=none→Q y (upd H a (.dK (kvs++[(.inl i,y)]))))
theorem kgj:MtM X "dict.setdefault" rSetd:=by
 intro pins s σ H x vs v us Q I rx rv h
 obtain⟨a,kvs,i,y,rfl,rfl,e,hz,h1,h2⟩:=h
 cases rx
 obtain⟨u1,u2,rfl,⟨t,rfl⟩,ru2⟩:=vals2 rv
 obtain⟨z,hd,ws,rel,dd⟩:=(show ObjOk X.prog X.w H s.heap a (.dK kvs) from I.hok a _ e)
 have key:(kdw X.prog X.w).is (Sum.inl i:Key) (.int i t)=true:=khG _ _ i t
 refine call_meetsIn DR dd.typeIs PySem.F.entry_dict_setdefault (PySem.F.args_dict_setdefault_3 _ _ _) (kt_meets_setdefault (kdw X.prog X.w) a key hd u2)
  ⟨ws,dd,by rw[←kvLen rel];exact z,fun v hv=>?_,fun hn h' dd' hs=>?_⟩
 ·have r:=khT rel (Sum.inl i)
  rw[hv] at r
  cases ea:atK kvs (Sum.inl i) with
  |none=>rw[ea] at r;exact(show False from r).elim
  |some w'=>
   rw[ea] at r
   rwa[w',H,I.tok _,r,h1 w' ea]
 ·have r:=khT rel (Sum.inl i)
  rw[hn] at r
  have ea:atK kvs (Sum.inl i)=none:=by
   cases ea:atK kvs (Sum.inl i) with
   |none=>rfl
   |some w'=>rw[ea] at r;exact(show False from r).elim
  have est:stored ws (Sum.inl i:Key) u2=ws++[(Sum.inl i,u2)]:=by
   unfold stored
   rw[kvAny rel _ ea,if_neg NP]
  rw[est] at dd'
  have he:∃q,h'.get? a>>q:=let⟨q,_,_,hq,_⟩:=dd';⟨q,hq⟩
  rwa[y,_,I.write (x:=a) (e:=a) (by rw[e];exact True.intro) (.inl rfl) (fun b q hb w'=>(hs.2 b hb).trans w') he ?_,ru2,h2 ea]
  exact(show ObjOk X.prog X.w _ h' a (.dK (kvs++[(.inl i,y)])) from⟨by rw[NQ,MM];lia,hd,_,kl1 rel ru2,dd'⟩)
def kjd(te:TE):TE:=fun σ H Q=>te σ H fun v H1=>∃(a:Addr)(kvs:List (Key×V)),v=.ref a∧H1 a>>(.dK kvs)∧∀l,H1 l=none→Q (.ref l) (upd H1 l (.lst (kvs.map Prod.snd)))
theorem khC{e:Expr}{te:TE}{p1 pos1 apos cpos:Pos}(hc:X.calm=true)(h1:Gl X "list")(m1:X.mg "list"=none)(he:PE X e te)
  (hbase:autoParam (attributeBase e "values" X.env (eval e X.env)=eval e X.env) jz)(hline:autoParam ((apos.endLine==cpos.line)=true) jz)
  (s2:autoParam (starEach [.Call (.Attribute e "values" apos) [] [] cpos] X.env=[(false,eval (.Call (.Attribute e "values" apos) [] [] cpos) X.env)]) jz):PE X (.Call (.Name "list" p1) [.Call (.Attribute e "values" apos) [] [] cpos] [] pos1) (kjd te):=by
 intro pins s σ H Q I h
 refine wpAny_Call_Name_kw (kdK I h1 m1 ka9 ?_ (by decide) (by decide))
 refine PyProof.Rows.callWith_type1 ?_ s2 rfl
 rw[s2]
 refine Calls.spliced_cons (wpAny_Call_method0_late hbase hline (thn (he pins s σ H _ I h) fun u s3 zz=>?_))
 obtain⟨v,H1,I1,r1,a,kvs,ev,ea,q⟩:=zz
 subst ev
 cases r1
 obtain⟨t1,t2⟩:=klI (T:="dict") (x:=.ref a) (v:=.ref a) I1 rfl (.inr (.inr (.inl ⟨rfl, .inl ⟨kvs,ea⟩⟩)))
 obtain⟨z,hd,ws,rel,dd⟩:=(show ObjOk X.prog X.w H1 s3.heap a (.dK kvs) from I1.hok a _ ea)
 obtain⟨ep,hat⟩:=dd.dictAt
 rwa["dict","dict.values",DS,DT,PySem.F.type_dict_values,t1,t2,Calls.callWith_builtin rfl (PySem.evalArgs_none ?_)]
 refine call_meetsIn DT dd.typeIs PySem.F.entry_dict_values (PySem.F.args_dict_values_1 _) (meets_dict_values (kdw X.prog X.w) a hd) ⟨⟨ws,dd⟩,Calls.spliced_nil ?_⟩
 refine PySem.W.kdl_call (PySem.W.kdl_values (knd:=kdw X.prog X.w) (kvs:=ws) (ep:=ep)) (I1.ok.hd hc) ⟨⟨_,Heap.get?_push_size _ rfl,rfl,rfl⟩,hat.push _⟩ (by rw[←kvLen rel];exact z) fun h' tk acc' c' hk hS hacc=>?_
 have hv:acc'.toList=ws.map (·.2):=PySem.W.kdl_vals_eq acc'.toList (by rw[Ek];exact hacc.1) fun j v' ej=>hacc.2 j v' (by rw[←Array.getElem?_toList];exact ej)
 generalize ho:({cls:=.type "dict_values",data:=.fields #[.ref a]}:Obj)=ob at *
 have hsz:(s3.heap.push ob).objs.size=s3.heap.objs.size+1:=Heap.size_push ..
 have rv:Vals (kvs.map Prod.snd) acc'.toList:=by rw[hv];exact kl0 rel
 have I2:Inv X pins σ (upd H1 (s3.heap.push ob).objs.size (.lst (kvs.map Prod.snd))) {s3 with heap:=h',toks:=tk}:=
  I1.laid (fun b o e=>hk b o (Heap.get?_push_of_some _ e)) (by rw[hsz];exact Eb _) (show ObjOk X.prog X.w _ h' _ (.lst (kvs.map Prod.snd)) from⟨by rw[ND];exact z,acc'.toList,c',rv,by simpa using hS⟩)
 rwa[.ref _,_,I2,6,q _ (I1.hok.fresh (by rw[hsz];exact Eb _))]
end
section
variable{X:Cx}
end
end L2
namespace Stb
open PySem PyProof.Rows
noncomputable def T(xs:Array Keyed)(i:Nat):Int:=match xs[i]? with
 |some p=>numOf p.2
 |none=>0
def T_at{xs ys:Array Keyed}{i j:Nat}(h:xs[i]?=ys[j]?):T xs i=T ys j:=by unfold T;rw[h]
def Lx(xs:Array Keyed)(i j:Nat):Prop:=K xs i<K xs j∨(K xs i=K xs j∧T xs i<T xs j)
def Lx.trans{xs:Array Keyed}{i j k:Nat}(h:Lx xs i j)(h':Lx xs j k):Lx xs i k:=by unfold Lx at *;lia
def Lx.le{xs:Array Keyed}{i j:Nat}(h:Lx xs i j):K xs i≤K xs j:=by unfold Lx at *;lia
def Up(xs:Array Keyed)(k:Nat):Prop:=∀i j,i<j→j<k→Lx xs i j
def Dn(xs:Array Keyed)(k:Nat):Prop:=∀i j,i<j→j<k→Lx xs j i
def Lat(a₀ xs:Array Keyed)(k:Nat):Prop:=∀i j,i<j→k≤j→j<a₀.size→T xs i<T xs j
def Lat.mono{a₀ xs:Array Keyed}{k k':Nat}(h:Lat a₀ xs k)(hk:k≤k'):Lat a₀ xs k':=fun i j h1 h2 h3=>h i j h1 (by lia) h3
theorem kiL{xs:Array Keyed}{src d:Nat}(hs:src<xs.size)(hd:d≤src)(k:Nat):
  ∃k',(K (bubble xs src d) k=K xs k'∧T (bubble xs src d) k=T xs k')∧k'=if k=src-d then src else if src-d<k∧k≤src then k-1 else k:=by
 rwa[_,?_,6]
 have e:=getElem?_bubble hs d hd k
 have e':(bubble xs src d)[k]?=xs[if k=src-d then src else if src-d<k∧k≤src then k-1 else k]?:=by
  rw[e]
  split
  ·rfl
  ·split <;> rfl
 rwa[K_congr e',T_at e']
theorem kcP{xs:Array Keyed}{i j:Nat}(hj:j≤xs.size)(k:Nat):
  ∃k',(K (mirror xs i j ((j-i)/2)) k=K xs k'∧T (mirror xs i j ((j-i)/2)) k=T xs k')∧k'=if i≤k∧k<j then i+j-1-k else k:=by
 rwa[_,?_,6]
 have e:=getElem?_mirror_all (i:=i) hj k
 have e':(mirror xs i j ((j-i)/2))[k]?=xs[if i≤k∧k<j then i+j-1-k else k]?:=by
  rw[e]
  split <;> rfl
 rwa[K_congr e',T_at e']
def khJ{a₀ xs:Array Keyed}{i j k:Nat}(hj:j≤xs.size)(hk:j≤k)(h:Lat a₀ xs k):Lat a₀ (mirror xs i j ((j-i)/2)) k:=by
 intro a b hab hkb hb
 obtain⟨a',⟨_,ea⟩,ha⟩:=kcP (i:=i) hj a
 obtain⟨b',⟨_,eb⟩,hb'⟩:=kcP (i:=i) hj b
 rw[ea,eb]
 rw[if_neg (by lia)] at hb'
 subst hb'
 refine h _ _ ?_ hkb hb
 rw[ha]
 split <;> lia
section
variable{prog:Program}{w:World}{A:Around}{E:Value→Shared→Prop}{s:Shared}{a₀:Array Keyed}
theorem asc{st:SortSt}{a nrem:Nat}{Q:AscSt→SortSt→Prop}(h0:IntKeys a₀)(hn:nrem≤a₀.size)(ha:1≤a)(han:a≤nrem)(hB:SBase a₀ st)(hs:Up (arrOf st) a)(hl:Lat a₀ (arrOf st) a)
  (h:∀n,a≤n→n≤nrem→Up (arrOf st) n→(n=nrem∨K (arrOf st) n<K (arrOf st) (n-1))→Q (none,n) st):wpS (model prog w) A E s (ascLoop a nrem) Q st:=by
 unfold ascLoop
 refine wpS_forRange (I:=fun x c st'=>st'=st∧c=(none,x)∧Up (arrOf st) x) ?turn ?over ⟨rfl,rfl,hs⟩
 case over=>
  rintro c st' ⟨rfl,rfl,u⟩
  rw[show max a nrem=nrem by lia] at u⊢
  exact h nrem han (NG _) u (.inl rfl)
 case turn=>
  rintro x c st' hax hxn ⟨rfl,rfl,u⟩
  dsimp only
  refine wpS_bind (wpS_ltK hB h0 (by lia) (by lia) ?_)
  by_cases c1:K (arrOf st') x<K (arrOf st') (x-1)
  ·simp only[c1,decide_true,if_true]
   exact wpS_pure (h x hax (by lia) u (.inr c1))
  ·simp only[c1,decide_false,MF,if_false]
   refine wpS_pure ⟨rfl,rfl,fun i j hij hj=>?_⟩
   by_cases hjx:j<x
   ·exact u i j hij hjx
   ·have e:j=x:=by lia
    subst e
    have t1:=hl (j-1) j (by lia) hax (by lia)
    have l1:Lx (arrOf st') (j-1) j:=by unfold Lx;lia
    by_cases e2:i=j-1
    ·rw[e2];exact l1
    ·exact(u i (j-1) (by lia) (by lia)).trans l1
theorem tail{st:SortSt}{n nrem:Nat}{Q:Option Nat→SortSt→Prop}(h0:IntKeys a₀)(hn:nrem≤a₀.size)(h1:1≤n)(hnn:n≤nrem)(hB:SBase a₀ st)(hs:Dn (arrOf st) n)(hl:Lat a₀ (arrOf st) n)
  (h:∀m st',SBase a₀ st'→1≤m→m≤nrem→Up (arrOf st') m→Lat a₀ (arrOf st') m→Q (some m) st'):wpS (model prog w) A E s (tail3 n nrem) Q st:=by
 unfold tail3
 have sz:n≤(arrOf st).size:=by rw[hB.size];lia
 refine wpS_bind (wpS_reverse ?_)
 have hB2:SBase a₀ (setArr st (mirror (arrOf st) 0 n ((n-0)/2))):=hB.setArr (mirror_perm _ _ _ _)
 have hl2:Lat a₀ (mirror (arrOf st) 0 n ((n-0)/2)) n:=khJ sz (NG _) hl
 refine wpS_bind (asc h0 hn h1 hnn hB2 ?_ hl2 fun m hm1 hm2 hu _=>wpS_pure (h m _ hB2 (by lia) hm2 hu (hl2.mono hm1)))
 intro i j hij hj
 show Lx (mirror (arrOf st) 0 n ((n-0)/2)) i j
 obtain⟨i',⟨k1,t1⟩,e1⟩:=kcP (i:=0) sz i
 obtain⟨j',⟨k2,t2⟩,e2⟩:=kcP (i:=0) sz j
 rw[if_pos (by lia)] at e1 e2
 have:=hs j' i' (by lia) (by lia)
 unfold Lx at this⊢
 rw[k1,k2,t1,t2]
 exact this
structure Fl(a₀ xs:Array Keyed)(x neq:Nat):Prop where
 few:neq+1≤x
 hd:Dn xs (x-(neq+1))
 cr:∀i j,i<x-(neq+1)→x-(neq+1)≤j→j<x→K xs j<K xs i
 tl:∀i j,x-(neq+1)≤i→i<j→j<x→K xs i=K xs j∧T xs i<T xs j
 lat:Lat a₀ xs x
theorem Fl.turned{xs:Array Keyed}{x neq:Nat}(h:Fl a₀ xs x neq)(hx:x≤xs.size):Dn (mirror xs (x-(neq+1)) x ((x-(x-(neq+1)))/2)) x∧(∀i,i<x→K xs (x-1)≤K (mirror xs (x-(neq+1)) x ((x-(x-(neq+1)))/2)) i)∧Lat a₀ (mirror xs (x-(neq+1)) x ((x-(x-(neq+1)))/2)) x∧
  ∀k,x≤k→K (mirror xs (x-(neq+1)) x ((x-(x-(neq+1)))/2)) k=K xs k:=by
 have hf:=h.few
 rwa[fun i j hij hj=>?_,fun i hi=>?_,khJ hx (NG _) h.lat,fun k hk=>?_]
 ·obtain⟨i',⟨k1,t1⟩,e1⟩:=kcP (i:=x-(neq+1)) hx i
  obtain⟨j',⟨k2,t2⟩,e2⟩:=kcP (i:=x-(neq+1)) hx j
  unfold Lx
  rw[k1,k2,t1,t2]
  by_cases c1:j<x-(neq+1)
  ·rw[if_neg (by lia)] at e1 e2
   subst e1 e2
   exact h.hd i' j' hij c1
  ·rw[if_pos (by lia)] at e2
   by_cases c2:i<x-(neq+1)
   ·rw[if_neg (by lia)] at e1
    subst e1
    exact .inl (h.cr i' j' c2 (by lia) (by lia))
   ·rw[if_pos (by lia)] at e1
    have:=h.tl j' i' (by lia) (by lia) (by lia)
    lia
 ·obtain⟨i',⟨k1,_⟩,e1⟩:=kcP (i:=x-(neq+1)) hx i
  rw[k1]
  by_cases c2:i<x-(neq+1)
  ·rw[if_neg (by lia)] at e1
   subst e1
   have:=h.cr i' (x-1) c2 (by lia) (by lia)
   lia
  ·rw[if_pos (by lia)] at e1
   by_cases c3:i'=x-1
   ·rw[c3];exact Int.le_refl _
   ·have:=h.tl i' (x-1) (by lia) (by lia) (by lia)
    lia
 ·obtain⟨k',⟨k1,_⟩,e1⟩:=kcP (i:=x-(neq+1)) hx k
  rw[if_neg (by lia)] at e1
  rw[k1,e1]
theorem Fl.plain{xs:Array Keyed}{x:Nat}(h:Fl a₀ xs x 0):Dn xs x∧(∀i,i<x→K xs (x-1)≤K xs i):=by
 have hf:=h.few
 rwa[fun i j hij hj=>?_,fun i hi=>?_]
 ·by_cases c1:j<x-(0+1)
  ·exact h.hd i j hij c1
  ·exact .inl (h.cr i j (by lia) (by lia) hj)
 ·by_cases c3:i=x-1
  ·rw[c3];exact Int.le_refl _
  ·have:=h.cr i (x-1) (by lia) (by lia) (by lia)
   lia
theorem Fl.next{xs:Array Keyed}{x:Nat}(hd:Dn xs x)(hk:∀i,i<x→K xs x<K xs i)(hl:Lat a₀ xs x):Fl a₀ xs (x+1) 0:=
 ⟨by lia,fun i j h1 h2=>hd i j h1 (by lia),fun i j h1 h2 h3=>by
  have e:j=x:=by lia
  subst e
  exact hk i (by lia),fun i j h1 h2 h3=>by lia,hl.mono (by lia)⟩
theorem desc{st:SortSt}{n nrem:Nat}{Q:DescSt→SortSt→Prop}(h0:IntKeys a₀)(hn:nrem≤a₀.size)(hnn:n≤nrem)(hB:SBase a₀ st)(hs:Fl a₀ (arrOf st) n 0)
  (h:∀m neq st',SBase a₀ st'→n≤m→m≤nrem→Fl a₀ (arrOf st') m neq→Q (none,m,neq) st'):wpS (model prog w) A E s (descLoop n nrem) Q st:=by
 unfold descLoop
 refine wpS_forRange (I:=fun x c st'=>∃neq,c=(none,x,neq)∧SBase a₀ st'∧Fl a₀ (arrOf st') x neq) ?turn ?over ⟨0,rfl,hB,hs⟩
 case over=>
  rintro c st' ⟨neq,rfl,hB',f⟩
  rw[show max n nrem=nrem by lia] at f⊢
  exact h nrem neq st' hB' hnn (NG _) f
 case turn=>
  rintro x c st' hax hxn ⟨neq,rfl,hB',f⟩
  dsimp only
  have few:=f.few
  have sz:x≤(arrOf st').size:=by rw[hB'.size];lia
  refine wpS_bind (wpS_ltK hB' h0 (by lia) (by lia) ?_)
  by_cases c1:K (arrOf st') x<K (arrOf st') (x-1)
  ·simp only[c1,decide_true,if_true]
   by_cases c2:neq > 0
   ·rw[if_pos c2]
    obtain⟨d1,d2,d3,d4⟩:=f.turned sz
    refine wpS_bind (wpS_reverse (wpS_pure ⟨0,rfl,hB'.setArr (mirror_perm _ _ _ _),Fl.next d1 (fun i hi=>?_) d3⟩))
    have:=d2 i hi
    have e:=d4 x (NG _)
    show K (mirror (arrOf st') _ _ _) x<K (mirror (arrOf st') _ _ _) i
    lia
   ·rw[if_neg c2]
    have e:neq=0:=by lia
    subst e
    obtain⟨d1,d2⟩:=f.plain
    exact wpS_pure ⟨0,rfl,hB',Fl.next d1 (fun i hi=>by have:=d2 i hi;lia) f.lat⟩
  ·simp only[c1,decide_false,MF,if_false]
   refine wpS_bind (wpS_ltK hB' h0 (by lia) (by lia) ?_)
   by_cases c2:K (arrOf st') (x-1)<K (arrOf st') x
   ·simp only[c2,decide_true,if_true]
    exact wpS_pure (h x neq st' hB' hax (by lia) f)
   ·simp only[c2,decide_false,MF,if_false]
    have ek:K (arrOf st') x=K (arrOf st') (x-1):=by lia
    refine wpS_pure ⟨neq+1,rfl,hB',⟨by lia,?_,?_,?_,f.lat.mono (by lia)⟩⟩
    ·rw[show x+1-(neq+1+1)=x-(neq+1) by lia]
     exact f.hd
    ·rw[show x+1-(neq+1+1)=x-(neq+1) by lia]
     intro i j h1 h2 h3
     by_cases c3:j<x
     ·exact f.cr i j h1 h2 c3
     ·have e:j=x:=by lia
      subst e
      rw[ek]
      exact f.cr i (j-1) h1 (by lia) (by lia)
    ·rw[show x+1-(neq+1+1)=x-(neq+1) by lia]
     intro i j h1 h2 h3
     by_cases c3:j<x
     ·exact f.tl i j h1 h2 c3
     ·have e:j=x:=by lia
      subst e
      rwa[?_,f.lat i j h2 (NG _) (by lia)]
      rw[ek]
      by_cases c4:i=j-1
      ·rw[c4]
      ·exact(f.tl i (j-1) h1 (by lia) (by lia)).1
theorem falls{st:SortSt}{n nrem:Nat}{Q:Option Nat→SortSt→Prop}(h0:IntKeys a₀)(hn:nrem≤a₀.size)(hnn:n+1≤nrem)(hB:SBase a₀ st)(hs:Fl a₀ (arrOf st) (n+1) 0)
  (h:∀m st',SBase a₀ st'→1≤m→m≤nrem→Up (arrOf st') m→Lat a₀ (arrOf st') m→Q (some m) st'):wpS (model prog w) A E s (descPart n nrem) Q st:=by
 unfold descPart
 refine wpS_bind (wpS_lift (wpAny_rule ⟨rfl,?_⟩))
 refine wpS_bind (desc h0 hn hnn hB hs fun m neq st' hB' hm1 hm2 f=>?_)
 dsimp only
 have sz:m≤(arrOf st').size:=by rw[hB'.size];lia
 by_cases c2:neq > 0
 ·rw[if_pos c2]
  obtain⟨d1,_,d3,_⟩:=f.turned sz
  exact wpS_bind (wpS_reverse (tail h0 hn (by lia) hm2 (hB'.setArr (mirror_perm _ _ _ _)) d1 d3 h))
 ·rw[if_neg c2]
  have e:neq=0:=by lia
  subst e
  exact tail h0 hn (by lia) hm2 hB' f.plain.1 f.lat h
theorem count{st:SortSt}{nrem:Nat}{Q:Option Nat→SortSt→Prop}(h0:IntKeys a₀)(hn:nrem≤a₀.size)(h1:1≤nrem)(hB:SBase a₀ st)(hl:Lat a₀ (arrOf st) 1)
  (h:∀m st',SBase a₀ st'→1≤m→m≤nrem→Up (arrOf st') m→Lat a₀ (arrOf st') m→Q (some m) st'):wpS (model prog w) A E s (countRun' 0 nrem) Q st:=by
 rw[countRun0_eq]
 refine wpS_bind (asc h0 hn (NG 1) h1 hB (fun i j hij hj=>by lia) hl fun n hn1 hn2 hu hor=>?_)
 dsimp only
 by_cases c1:n=nrem
 ·rw[if_pos (by simpa using c1)]
  exact wpS_pure (h n st hB hn1 hn2 hu (hl.mono hn1))
 ·rw [if_neg (by simpa using c1)]
  have lt:K (arrOf st) n<K (arrOf st) (n-1):=hor.resolve_left c1
  by_cases c2:n > 1
  ·rw [if_pos c2]
   refine wpS_bind (wpS_ltK hB h0 (by lia) (by lia) ?_)
   by_cases c3:K (arrOf st) 0<K (arrOf st) (n-1)
   ·simp only[c3,decide_true,if_true]
    exact wpS_pure (h n st hB hn1 hn2 hu (hl.mono hn1))
   ·simp only[c3,decide_false,MF,if_false]
    have sz:n≤(arrOf st).size:=by rw[hB.size];lia
    have same:∀i,i<n→K (arrOf st) i=K (arrOf st) (n-1):=fun i hi=>by
     by_cases z:i=0
     ·subst z
      have:=(hu 0 (n-1) (by lia) (by lia)).le
      lia
     ·have a1:=(hu 0 i (by lia) hi).le
      by_cases z2:i=n-1
      ·rw[z2]
      ·have a2:=(hu i (n-1) (by lia) (by lia)).le
       lia
    refine wpS_bind (wpS_reverse (falls h0 hn (by lia) (hB.setArr (mirror_perm _ _ _ _)) (Fl.next (fun i j hij hj=>?_) (fun i hi=>?_) (khJ sz (NG _) (hl.mono hn1))) h))
    ·show Lx (mirror (arrOf st) 0 n ((n-0)/2)) j i
     obtain⟨i',⟨k1,t1⟩,e1⟩:=kcP (i:=0) sz i
     obtain⟨j',⟨k2,t2⟩,e2⟩:=kcP (i:=0) sz j
     rw[if_pos (by lia)] at e1 e2
     have:=hu j' i' (by lia) (by lia)
     unfold Lx at this⊢
     rw[k1,k2,t1,t2]
     exact this
    ·show K (mirror (arrOf st) 0 n ((n-0)/2)) n<K (mirror (arrOf st) 0 n ((n-0)/2)) i
     obtain⟨i',⟨k1,_⟩,e1⟩:=kcP (i:=0) sz i
     obtain⟨n',⟨k2,_⟩,e2⟩:=kcP (i:=0) sz n
     rw[if_pos (by lia)] at e1
     rw[if_neg (by lia)] at e2
     subst e2
     rw[k1,k2,same i' (by lia)]
     exact lt
  ·rw[if_neg c2]
   have e:n=1:=by lia
   subst e
   refine falls h0 hn (by lia) hB (Fl.next (fun i j hij hj=>by lia) (fun i hi=>?_) hl) h
   have z:i=0:=by lia
   subst z
   exact lt
theorem insert{st:SortSt}{n ok:Nat}{Q:Bool→SortSt→Prop}(h0:IntKeys a₀)(hn:n≤a₀.size)(h1:1≤ok)(hok:ok≤n)(hB:SBase a₀ st)(hs:Up (arrOf st) ok)(hl:Lat a₀ (arrOf st) ok)
  (h:∀st',SBase a₀ st'→Up (arrOf st') n→Q true st'):wpS (model prog w) A E s (binarySort' 0 n ok) Q st:=by
 rw[binarySort'_eq]
 simp only[Eu]
 refine wpS_bind (wpS_mono (wpS_forRange (I:=fun k c st'=>c=(none,())∧SBase a₀ st'∧Up (arrOf st') (min k n)∧Lat a₀ (arrOf st') (min k n)) (Q:=fun c st'=>c=(none,())∧SBase a₀ st'∧Up (arrOf st') n) ?turn ?over ?begin) ?behind)
 case behind=>
  rintro c st' ⟨rfl,hB',hu⟩
  exact wpS_pure (h st' hB' hu)
 case begin=>
  rw[show max ok 1=ok by lia,show min ok n=ok by lia]
  rwa[6,hB,hs,hl]
 case over=>
  rintro c st' ⟨hc,hB',hu,_⟩
  rwa[hc,hB',?_]
  rwa [show min (max (max ok 1) n) n=n by lia] at hu
 case turn=>
  rintro k c st' hak hkn ⟨rfl,hB',hu,hla⟩
  rw[show min k n=k by lia] at hu hla
  have hk:k<a₀.size:=by lia
  refine wpS_bind (wpS_mono (wpS_forRange (I:=fun x c st''=>st''=st'∧∃l r,c=(none,l,r)∧l≤r∧r≤k∧r-l≤k-x∧(∀i,i<l→K (arrOf st') i≤K (arrOf st') k)∧(∀i,r≤i→i<k→K (arrOf st') k<K (arrOf st') i))
   (Q:=fun c st''=>st''=st'∧∃l r,c=(none,l,r)∧l≤k∧(∀i,i<l→K (arrOf st') i≤K (arrOf st') k)∧(∀i,l≤i→i<k→K (arrOf st') k<K (arrOf st') i)) ?turn2 ?over2 ?begin2) ?behind2)
  case begin2=>exact⟨rfl,0,k,rfl,by lia,by lia,by lia,fun i hi=>by lia,fun i a b=>by lia⟩
  case over2=>
   rintro c st'' ⟨rfl,l,r,rfl,hlr,hrk,hm,lo,hi⟩
   have e:l=r:=by lia
   subst e
   rwa[6,l,l,6,hrk,lo,hi]
  case turn2=>
   rintro x c st'' _ hxk ⟨rfl,l,r,rfl,hlr,hrk,hm,lo,hi⟩
   dsimp only
   by_cases c1:l≥r
   ·rw[if_pos c1]
    have e:l=r:=by lia
    subst e
    exact wpS_pure ⟨rfl,l,l,rfl,hrk,lo,hi⟩
   ·rw[if_neg c1]
    refine wpS_bind (wpS_ltK hB' h0 hk (by lia) ?_)
    by_cases c2:K (arrOf st'') k<K (arrOf st'') ((l+r)/2)
    ·simp only[c2,decide_true,if_true]
     refine wpS_pure ⟨rfl,l,(l+r)/2,rfl,by lia,by lia,by lia,lo,fun i a b=>?_⟩
     by_cases z:i=(l+r)/2
     ·rw[z];exact c2
     ·exact Int.lt_of_lt_of_le c2 (hu _ _ (by lia) b).le
    ·simp only[c2,decide_false,MF,if_false]
     refine wpS_pure ⟨rfl,(l+r)/2+1,r,rfl,by lia,by lia,by lia,fun i a=>?_,hi⟩
     by_cases z:i=(l+r)/2
     ·rw[z];lia
     ·exact Int.le_trans (hu i ((l+r)/2) (by lia) (by lia)).le (Int.not_lt.mp c2)
  case behind2=>
   rintro c st'' ⟨rfl,l,r,rfl,hlk,lo,hi⟩
   show wpS _ _ _ _ (do moveDown' k l;pure (ForInStep.yield (none,()))) _ _
   rw[moveDown'_eq]
   have hks:k<(arrOf st'').size:=by rw[hB'.size];exact hk
   refine wpS_bind (wpS_modify (wpS_pure ⟨rfl,hB'.setArr (bubble_perm _ _ _),?_,?_⟩))
   ·rw [show min (k+1) n=k+1 by lia]
    intro i j hij hj
    show Lx (bubble (arrOf st'') k (k-l)) i j
    obtain⟨i',⟨k1,t1⟩,e1⟩:=kiL hks (show k-l≤k by lia) i
    obtain⟨j',⟨k2,t2⟩,e2⟩:=kiL hks (show k-l≤k by lia) j
    rw[show k-(k-l)=l by lia] at e1 e2
    unfold Lx
    rw[k1,k2,t1,t2]
    by_cases z1:i=l
    ·rw[if_pos z1] at e1
     rw[if_neg (by lia),if_pos (by lia)] at e2
     subst e1
     exact .inl (hi j' (by lia) (by lia))
    ·rw[if_neg z1] at e1
     by_cases z2:j=l
     ·rw[if_pos z2] at e2
      rw[if_neg (by lia)] at e1
      subst e2
      have a1:=lo i' (by lia)
      have a2:=hla i' j' (by lia) (NG _) hk
      lia
     ·rw[if_neg z2] at e2
      refine hu i' j' ?_ ?_
      ·rw[e1,e2]
       repeat' split
       all_goals lia
      ·rw[e2]
       split <;> lia
   ·rw[show min (k+1) n=k+1 by lia]
    intro a b hab hkb hb
    show T (bubble (arrOf st'') k (k-l)) a<T (bubble (arrOf st'') k (k-l)) b
    obtain⟨a',⟨_,t1⟩,e1⟩:=kiL hks (show k-l≤k by lia) a
    obtain⟨b',⟨_,t2⟩,e2⟩:=kiL hks (show k-l≤k by lia) b
    rw[show k-(k-l)=l by lia] at e1 e2
    rw[if_neg (by lia),if_neg (by lia)] at e2
    subst e2
    rw[t1,t2]
    refine hla a' b' ?_ (by lia) hb
    rw[e1]
    repeat' split
    all_goals lia
def Done(a₀:Array Keyed)(st:SortSt):Prop:=(arrOf st).Perm a₀∧failedOf st=none∧pendingOf st= #[(0,a₀.size,0)]∧Up (arrOf st) a₀.size
theorem done{st:SortSt}(hB:SBase a₀ st)(hu:Up (arrOf st) a₀.size):Done a₀ (setPending st ((pendingOf st).push (0,a₀.size,0))):=⟨hB.perm,hB.failed,by show(pendingOf st).push _=_;rw[hB.pend];rfl,hu⟩
theorem runs{st:SortSt}{Q:Unit→SortSt→Prop}(h0:IntKeys a₀)(hB:SBase a₀ st)(h2:2≤a₀.size)(h64:a₀.size<64)(hl:Lat a₀ (arrOf st) 1)
  (h:∀st',(arrOf st').Perm a₀→failedOf st'=none→Up (arrOf st') a₀.size→Q () st'):wpS (model prog w) A E s sortRuns' Q st:=by
 rw[sortRuns'_eq]
 refine wpS_bind (wpS_get ?_)
 dsimp only
 have mr:minRun' a₀.size a₀.size 0=a₀.size:=by
  obtain⟨f,hf⟩:∃f,a₀.size=f+1:=⟨a₀.size-1,by lia⟩
  have z:minRun' (f+1) a₀.size 0=a₀.size:=by rw[minRun'_succ,if_pos h64];rfl
  rwa [←hf] at z
 simp only[hB.size,mr]
 refine wpS_bind (wpS_mono (wpS_forRange (I:=fun x c st'=>(x=0∧c=(none,0)∧st'=st)∨(1≤x∧c=(none,a₀.size)∧Done a₀ st')) (Q:=fun c st'=>c=(none,a₀.size)∧Done a₀ st') ?turn ?over (.inl ⟨rfl,rfl,rfl⟩)) ?behind)
 case over=>
  rintro c st' (⟨hx,_,_⟩|⟨_,hc,hD⟩)
  ·lia
  ·rwa[hc,hD]
 case turn=>
  rintro x c st' _ hx (⟨rfl,rfl,rfl⟩|⟨hx1,rfl,hD⟩)
  ·dsimp only
   rw[if_neg (by lia)]
   simp only[Nat.sub_zero,MX,Eu]
   refine wpS_bind (count h0 (NG _) (by lia) hB hl fun m st2 hB2 hm1 hm2 hu2 hl2=>?_)
   dsimp only
   by_cases c1:m<a₀.size
   ·rw[if_pos c1]
    refine wpS_bind (wpS_lift (wpAny_rule ⟨rfl,?_⟩))
    refine wpS_bind (insert h0 (NG _) hm1 hm2 hB2 hu2 hl2 fun st3 hB3 hu3=>?_)
    simp only[Bool.not_true,MF,if_false]
    refine wpS_bind (wpS_get ?_)
    have hb:(pendingOf st3).back?=none:=by rw[hB3.pend];rfl
    rw[hb]
    dsimp only
    exact wpS_bind (wpS_modify (wpS_pure (.inr ⟨by lia,rfl,done hB3 hu3⟩)))
   ·rw[if_neg c1]
    have e:m=a₀.size:=by lia
    subst e
    refine wpS_bind (wpS_get ?_)
    have hb:(pendingOf st2).back?=none:=by rw[hB2.pend];rfl
    rw[hb]
    dsimp only
    exact wpS_bind (wpS_modify (wpS_pure (.inr ⟨by lia,rfl,done hB2 hu2⟩)))
  ·dsimp only
   rw[if_pos (NG _)]
   exact wpS_pure ⟨rfl,hD⟩
 case behind=>
  rintro c st' ⟨rfl,hD⟩
  dsimp only
  refine wpS_bind (wpS_mono (wpS_forRange (I:=fun _ c st''=>st''=st'∧c=(none,())) (Q:=fun c st''=>st''=st'∧c=(none,())) ?_ (fun _ _ z=>z) ⟨rfl,rfl⟩) ?_)
  ·rintro x c st'' _ _ ⟨rfl,rfl⟩
   refine wpS_bind (wpS_get ?_)
   rw[if_pos (by rw[hD.2.2.1];exact NG 1)]
   exact wpS_pure ⟨rfl,rfl⟩
  ·rintro c st'' ⟨rfl,rfl⟩
   exact wpS_pure (h _ hD.1 hD.2.1 hD.2.2.2)
end
structure SJ(J:Shared→Prop)(n0:Nat):Prop where
 sz:∀s,J s→n0≤s.heap.objs.size
 push:∀s c xs n,J s→J {s with heap:=s.heap.push (seqObj c xs n)}
 upd:∀s b g,J s→n0≤b→J {s with heap:=s.heap.update b (Obj.mapSeq g)}
def Tells(J:Shared→Prop)(n0:Nat)(k:Int)(s:Shared)(v:Value)(s':Shared):Prop:=(∃t,v=.int k t)∧J s'∧∀b o,n0≤b→s.heap.get? b>>o→s'.heap.get? b>>o
def Rows(keys:Array Value)(vs:List Value)(out:Array Value):Prop:=∃xs:Array Keyed,xs.Perm (keys.zip vs.toArray)∧Up xs xs.size∧out=xs.map (·.2)
section
variable{prog:Program}{w:World}{A:Around}{E:Value→Shared→Prop}{s:Shared}{J:Shared→Prop}{n0:Nat}{a kS:Addr}{vs:List Value}{kz:List Int}{keys:Array Value}{e e1:Nat}{P:PySem.Fin→Shared→Prop}
theorem tailK(S:SJ J n0)(hJ:J s)(hk:s.heap.get? kS>>(seqObj "list" keys e))(ha:s.heap.get? a>>(seqObj "list" #[] e1))(ne:kS≠a)(nk:n0≤kS)(na:n0≤a){st:SortSt}(hz:keys.size≤64)(hp:(arrOf st).Perm (keys.zip vs.toArray))(hu:Up (arrOf st) (arrOf st).size)
  (hf:failedOf st=none)(hv:vs.length≤64)(h:∀h' out c,J {s with heap:=h'}→h'.get? a>>(seqObj "list" out c)→Rows keys vs out→P (.done (.ret .none)) {s with heap:=h'}):wpAny (model prog w) A (ksk_tail a false e1 (.ref kS) st) P E s:=by
 have sz2:(arrOf st).size≤64:=by
  have hvs:vs.toArray.size=vs.length:=by simp
  rw[hp.size_eq,EV]
  lia
 have q1:=Heap.SameBut.update s.heap kS (Obj.mapSeq fun _=>(#[]:Array Value))
 have g1:(s.heap.update kS (Obj.mapSeq fun _=>(#[]:Array Value))).get? a>>(seqObj "list" #[] e1):=(q1.2 a ne.symm).trans ha
 have J1:=S.upd s kS (fun _=>#[]) hJ nk
 have J2:=S.upd _ a (fun _=>(arrOf st).map (·.2)) J1 na
 unfold ksk_tail
 try dsimp only
 refine wpAny_bind (listUpdate_at hk rfl ?_ (by rw[sizeLine_eq];lia) (Mf _))
 refine wpAny_bind (wpAny_letGo ?_)
 refine wpAny_bind (seqEpoch_at g1 rfl ?_)
 refine wpAny_bind (listUpdate_at g1 rfl ?_ (Mf _) (by simp only[MF,if_false,Array.size_map];rw[sizeLine_eq];lia))
 rw[hf]
 simp only[bne_self_eq_false,MF,if_false]
 exact wpAny_pure (h _ _ _ J2 (get?_update_seq g1 fun _=>(arrOf st).map (·.2)) ⟨arrOf st,hp,hu,rfl⟩)
theorem zip_T{keys:Array Value}{vs:List Value}{i:Nat}(hl:keys.size=vs.length):T (keys.zip vs.toArray) i=match vs[i]? with|some v=>numOf v|none=>0:=by
 unfold T
 have hvs:vs.toArray.size=vs.length:=by simp
 cases ev:vs[i]? with
 |none=>
  have hi:vs.length≤i:=E8.mp ev
  have e:(keys.zip vs.toArray)[i]?=none:=Array.getElem?_eq_none (by rw[EV];lia)
  rw[e]
 | some v=>
  have hi:i<vs.length:=(NT.mp ev).1
  have hz:i<(keys.zip vs.toArray).size:=by rw[EV];lia
  have ev':vs[i]=v:=by
   rw[MG hi] at ev
   exact Option.some.inj ev
  have e:(keys.zip vs.toArray)[i]?>>(keys[i]'(by lia),vs[i]):=by
   rw[Dr hz]
   simp
  rw[e,ev']
theorem endK(S:SJ J n0)(hJ:J s)(hk:s.heap.get? kS>>(seqObj "list" keys e))(ha:s.heap.get? a>>(seqObj "list" #[] e1))(ne:kS≠a)(nk:n0≤kS)(na:n0≤a)(hi:IntsAre keys.toList kz)(hl:keys.size=vs.length)(h64:vs.length<64)
  (up:∀(i j:Nat)(x y:Value),i<j→vs[i]?>>x→vs[j]?>>y→numOf x<numOf y)
  (h:∀h' out c,J {s with heap:=h'}→h'.get? a>>(seqObj "list" out c)→Rows keys vs out→P (.done (.ret .none)) {s with heap:=h'}):wpAny (model prog w) A (ksk_end a false vs.toArray e1 (.ref kS) keys) P E s:=by
 have hvs:vs.toArray.size=vs.length:=by simp
 have zs:(keys.zip vs.toArray).size=vs.length:=by rw[EV];lia
 unfold ksk_end
 try dsimp only
 simp only[MF,if_false]
 by_cases h2:vs.toArray.size<2
 ·rw[if_pos h2,if_pos h2]
  refine wpAny_bind (wpAny_pure ?_)
  rw[StateT.run_pure]
  refine wpAny_bind (wpAny_pure ?_)
  try dsimp only
  refine tailK (st:=SortSt.mk' general' (keys.zip vs.toArray) #[] 7 none) S hJ hk ha ne nk na (by lia) (Array.Perm.refl _) ?_ rfl (by lia) h
  intro i j hij hj
  have hj2:j<(keys.zip vs.toArray).size:=hj
  rw[zs] at hj2
  rw[N6] at h2
  lia
 ·rw[if_neg h2,if_neg h2]
  rw[N6] at h2
  rw[ksk_kind hi (by rw[hl];lia)]
  refine wpAny_bind (wpAny_pure ?_)
  have lat:Lat (keys.zip vs.toArray) (keys.zip vs.toArray) 1:=fun i j hij _ hj=>by
   rw[zs] at hj
   rw[zip_T hl,zip_T hl,MG (show i<vs.length by lia),MG hj]
   exact up i j _ _ hij (MG (show i<vs.length by lia)) (MG hj)
  refine wpAny_bind (wpAny_mono (runs (a₀:=keys.zip vs.toArray) (st:=SortSt.mk' oneType' (keys.zip vs.toArray) #[] 7 none) (Q:=fun _ st'=>(arrOf st').Perm (keys.zip vs.toArray)∧failedOf st'=none∧Up (arrOf st') (keys.zip vs.toArray).size)
   (ksk_intKeys hi) ⟨Array.Perm.refl _,rfl,rfl,rfl⟩ (by rw[zs];lia) (by rw[zs];exact h64) lat fun st' b1 b2 b3=>⟨b1,b2,b3⟩) ?_ fun _ _ z=>z)
  rintro⟨⟨⟩,st'⟩ s' ⟨rfl,b1,b2,b3⟩
  try dsimp only
  exact tailK S hJ hk ha ne nk na (by lia) b1 (by rw[b1.size_eq];exact b3) b2 (by lia) h
theorem restK{f:Value}(S:SJ J n0)(hJ:J s)(hk:s.heap.get? kS>>(seqObj "list" #[] 0))(ha:s.heap.get? a>>(seqObj "list" #[] e1))(ne:kS≠a)(nk:n0≤kS)(na:n0≤a)(hl:kz.length=vs.length)(h64:vs.length<64)
  (up:∀(i j:Nat)(x y:Value),i<j→vs[i]?>>x→vs[j]?>>y→numOf x<numOf y)
  (turn:∀(i:Nat)(v:Value)(k:Int),vs[i]?>>v→kz[i]?>>k→∀s',J s'→wpAny (model prog w) A (call f [v]) (Tells J n0 k s') (fun _ _=>False) s')
  (h:∀s' keys out c,J s'→s'.heap.get? a>>(seqObj "list" out c)→IntsAre keys.toList kz→keys.size=vs.length→Rows keys vs out→P (.done (.ret .none)) s'):wpAny (model prog w) A (ksk_rest a f false vs.toArray e1 (.ref kS)) P E s:=by
 unfold ksk_rest
 refine wpAny_bind (wpAny_rule ?_)
 first
  |rw[List.forIn_toArray]
  |rw[←Array.forIn_toList]
 refine wpAny_bind (ksk_fold (fun i s'=>J s'∧∃kA e,s'.heap.get? kS>>(seqObj "list" kA e)∧s'.heap.get? a>>(seqObj "list" #[] e1)∧IntsAre kA.toList (kz.take i)) vs 0 s ⟨hJ,#[],0,hk,ha,by simpa using IntsAre.nil⟩ ?turnP ?doneP)
 case turnP=>
  rintro j x s' hx ⟨J',kA,e,g1,g2,hi⟩
  simp only[Eu] at hi⊢
  have hj:j<vs.length:=(NT.mp hx).1
  obtain⟨k,ek⟩:∃k,kz[j]?>>k:=⟨_,MG (by lia)⟩
  have lz:kA.size≤vs.length:=by
   have h1:=hi.length
   rw[Ek,NS] at h1
   lia
  refine wpAny_bind (wpAny_attempt (wpAny_mono (turn j x k hx ek s' J') (fun v s'' hT=>?_) fun _ _ z=>z.elim))
  obtain⟨⟨t,rfl⟩,J2,kp⟩:=hT
  try dsimp only
  have g1':=kp _ _ nk g1
  have g2':=kp _ _ na g2
  have q1:=Heap.SameBut.update s''.heap kS (Obj.mapSeq (·.push (.int k t)))
  refine wpAny_bind (listUpdate_at g1' rfl ?_ (by rw[sizeLine_eq];lia) (NJ (EM (Array.size_push ..)) (by rw[sizeLine_eq];lia)))
  have et:kz.take (j+1)=kz.take j++[k]:=by rw[MT,ek];simp
  have ep:(kA.push (Value.int k t)).toList=kA.toList++[Value.int k t]:=by simp
  exact wpAny_pure ⟨rfl,S.upd _ kS _ J2 nk,kA.push (.int k t),_,get?_update_seq g1' (·.push (.int k t)),(q1.2 a ne.symm).trans g2',by rw[ep,et];exact ksk_snoc hi⟩
 case doneP=>
  rintro s' ⟨J',kA,e,g1,g2,hi⟩
  have e3:kz.take (0+vs.length)=kz:=MN (by lia)
  rw[e3] at hi
  have lk:kA.size=vs.length:=by
   have:=hi.length
   rw[Ek] at this
   lia
  try dsimp only
  refine wpAny_bind (listItems_at g1 rfl ?_)
  exact endK S J' g1 g2 ne nk na hi lk h64 up fun h' out c z1 z2 z3=>h _ kA out c z1 z2 hi lk z3
theorem sortK{f:Value}{n:Nat}(S:SJ J n0)(hJ:J s)(ho:s.heap.get? a>>(seqObj "list" vs.toArray n))(na:n0≤a)(hl:kz.length=vs.length)(h64:vs.length<64)
  (up:∀(i j:Nat)(x y:Value),i<j→vs[i]?>>x→vs[j]?>>y→numOf x<numOf y)
  (turn:∀(i:Nat)(v:Value)(k:Int),vs[i]?>>v→kz[i]?>>k→∀s',J s'→wpAny (model prog w) A (call f [v]) (Tells J n0 k s') (fun _ _=>False) s')
  (h:∀s' keys out c,J s'→s'.heap.get? a>>(seqObj "list" out c)→IntsAre keys.toList kz→keys.size=vs.length→Rows keys vs out→P (.done (.ret .none)) s'):wpAny (model prog w) A (ksk_tree a f false) P E s:=by
 have la:a<s.heap.objs.size:=Heap.lt_size ho
 have J1:=S.upd s a (fun _=>#[]) hJ na
 have J2:=S.push _ "tuple" vs.toArray 0 J1
 have J3:=S.push _ "list" #[] 0 J2
 obtain⟨e1,g1⟩:∃e1,(s.heap.update a (Obj.mapSeq fun _=>(#[]:Array Value))).get? a>>(seqObj "list" #[] e1):=⟨_,get?_update_seq ho fun _=>#[]⟩
 have sz:((s.heap.update a (Obj.mapSeq fun _=>(#[]:Array Value))).push (seqObj "tuple" vs.toArray 0)).objs.size=s.heap.objs.size+1:=by rw[size_push',Heap.size_update]
 have n0s:=S.sz s hJ
 unfold ksk_tree
 refine wpAny_bind (listItems_at ho rfl ?_)
 refine wpAny_bind (listUpdate_at ho rfl ?_ (by rw[N6,sizeLine_eq];lia) (Mf _))
 refine wpAny_bind (seqEpoch_at g1 rfl ?_)
 refine wpAny_bind (wpAny_newTuple ?_ (by show vs.length≤_;rw[sizeLine_eq];lia))
 refine wpAny_bind (wpAny_newList ?_ (Mf _))
 refine wpAny_holding ?_
 refine restK (s:={s with heap:=((s.heap.update a (Obj.mapSeq fun _=>(#[]:Array Value))).push (seqObj "tuple" vs.toArray 0)).push (seqObj "list" #[] 0)}) (kS:=((s.heap.update a (Obj.mapSeq fun _=>(#[]:Array Value))).push (seqObj "tuple" vs.toArray 0)).objs.size)
  S J3 (Heap.get?_push_size _ rfl) (Heap.get?_push_of_some _ (Heap.get?_push_of_some _ g1)) (by rw[sz];exact MA (Nat.lt_succ_of_lt la)) (by rw[sz];lia) na hl h64 up turn h
end
section
variable{prog:Program}{w:World}{A:Around}{E:Value→Shared→Prop}{s:Shared}{J:Shared→Prop}{n0:Nat}{vs:List Value}{kz:List Int}{Q:Value→Shared→Prop}
theorem sortedK{l f:Addr}(S:SJ J n0)(hJ:J s)(hL:s.heap.IsList l vs.toArray)(hl:kz.length=vs.length)(h64:vs.length<64)
  (up:∀(i j:Nat)(x y:Value),i<j→vs[i]?>>x→vs[j]?>>y→numOf x<numOf y)
  (turn:∀(i:Nat)(v:Value)(k:Int),vs[i]?>>v→kz[i]?>>k→∀s',J s'→wpAny (model prog w) A.in1.in1 (call (.ref f) [v]) (Tells J n0 k s') (fun _ _=>False) s')
  (h:∀s' D keys out c,n0≤D→J s'→s'.heap.get? D>>(seqObj "list" out c)→IntsAre keys.toList kz→keys.size=vs.length→Rows keys vs out→Q (.ref D) s'):wpAny (model prog w) A (call (.builtin "sorted") [.ref l] [(Str.ofString "key", .ref f)]) Q E s:=by
 refine call_function_entry_kw kind_sorted plain_sorted entry_sorted (ksk_s1 _ _) ?_
 unfold Builtin.«sorted»
 refine wpAny_bind (m:=checkCount "sorted" 1 1 _) (wpAny_pure ?_)
 refine wpAny_bind (collect_list hL ?_ (by rw[sizeLine_eq];lia))
 refine wpAny_bind (wpAny_newList ?_ (by rw[sizeLine_eq];lia))
 have n0s:=S.sz s hJ
 have J1:=S.push s "list" #[] 0 hJ
 have J2:=S.upd _ s.heap.objs.size (· ++vs.toArray) J1 n0s
 have J3:=S.push _ "list" vs.toArray 0 J2
 have sz:((s.heap.push (seqObj "list" #[] 0)).update s.heap.objs.size (Obj.mapSeq (· ++vs.toArray))).objs.size=s.heap.objs.size+1:=by rw[Heap.size_update,size_push']
 have g1:(((s.heap.push (seqObj "list" #[] 0)).update s.heap.objs.size (Obj.mapSeq (· ++vs.toArray))).push (seqObj "list" vs.toArray 0)).get? (s.heap.objs.size+1)>>(seqObj "list" vs.toArray 0):=by
  rw[←sz]
  exact Heap.get?_push_size _ rfl
 show wpAny _ _ _ _ _ {s with heap:=((s.heap.push (seqObj "list" #[] 0)).update s.heap.objs.size (Obj.mapSeq (· ++vs.toArray))).push (seqObj "list" vs.toArray 0)}
 rw[sz]
 refine wpAny_bind (wpAny_holding (wpAny_call_entry_kw slot_list_sort ⟨_,g1,rfl⟩ entry_list_sort ?inner (ksk_l1 _ _)))
 case inner=>
  show wpAny (model prog w) A.in1.in1 (Builtin.«list.sort» ⟨[.ref (s.heap.objs.size+1)],[(Str.ofString "key", .ref f)]⟩) _ _ _
  rw[ksk_t1]
  refine sortK (s:={s with heap:=((s.heap.push (seqObj "list" #[] 0)).update s.heap.objs.size (Obj.mapSeq (· ++vs.toArray))).push (seqObj "list" vs.toArray 0)}) S J3 g1 (by lia) hl h64 up turn fun s' keys out c z1 z2 z3 z4 z5=>⟨_,rfl,?_⟩
  exact wpAny_pure ⟨_,rfl,h s' _ keys out c (by lia) z1 z2 z3 z4 z5⟩
end
end Stb
namespace L2
open PySem PySem.Spec PyProof.Rows
structure kdQ(X:Cx)(scope:Scope)(x:Str)(N:List Str)(cap:List (Option Nat)):Prop where
 S:CompScope X scope N (none::cap)
 hd:N[0]?>>x
 par:scope.names.lookup x>>.local
 co:scope.isCoroutine=false
 gen:scope.isGenerator=false
 nocell:∀y∈scope.names,y.2≠.cell
abbrev kkd(X:Cx)(scope:Scope)(qual:Str)(L f c:Addr):Env:=PySem.W.envX qual scope L f (.ref c) (closL X.env.cells scope.names [])
noncomputable def cxL(X:Cx)(A:Around)(scope:Scope)(N:List Str)(qual:Str)(f c:Addr)(s:Shared)(H:Hp):Cx:=
 {X with A:=A.deeper (kkd X scope qual s.heap.objs.size f c),N:=N,s₀:=s,H₀:=H,env:=kkd X scope qual s.heap.objs.size f c,outer:=X.stack,stack:=kkd X scope qual s.heap.objs.size f c::X.stack,ex:=[],fn:=fun _=>false,calm:=true,pn:=[],xe:=fun _ _=>False}
section
variable{X:Cx}{A:Around}{scope:Scope}{x:Str}{N:List Str}{cap:List (Option Nat)}{pins:List (Addr×Obj)}{σ:St}{H:Hp}{s s1:Shared}{qual:Str}{f c:Addr}
theorem kc6(S:kdQ X scope x N cap)(I:Inv X pins σ H s){y:Str}{a:Addr}(h:(closL X.env.cells scope.names []).lookup y>>a):X.env.cells.lookup y>>a:=by
 rcases keE _ _ h with⟨h1,h2⟩|h1
 ·obtain⟨a',ea⟩:=I.ok.has y (S.S.free _ h1 rfl)
  rw[ea] at h2
  rw[h2]
  exact ea
 ·cases h1
theorem kmM(S:kdQ X scope x N cap)(I:Inv X pins σ H s)(hfr:A.frames>>X.stack)(hh:A.handled=none){v:V}{u:Value}(r:RelV v u){h1:Heap}{t:Nat}(hns:h1.Ns s.heap.objs.size fun y=>[(x,u)].reverse.lookup y)(hk:∀b o,s.heap.get? b>>o→h1.get? b>>o):
  Inv (cxL X A scope N qual f c s H) [] (some v::capσ cap σ) H {s with heap:=h1,toks:=t}:=by
 have noA:∀b:Addr,b∉(cxL X A scope N qual f c s H).ex:=fun b z=>absurd (show b∈([]:List Addr) from z) (by simp)
 have od:∀{y:Str}{a:Addr},X.env.cells.lookup y>>a→a<s.heap.objs.size:=fun {y a} h=>let⟨_,q⟩:=I.cell y a h;q.lt
 refine⟨⟨I.ok.mod,S.S.kind,rfl,rfl,NG _,fun y z a e1 e2=>I.ok.inj y z a (kc6 S I e1) (kc6 S I e2),fun y hy=>?_,fun y a e1 _=>?_,fun _=>hh,Around.frames_deeper hfr, .inr ⟨rfl,rfl⟩,fun b z=>absurd z (noA b),I.bs,NJ I.ok.bsz I.sz,fun b _ _=>noA b,fun b z=>absurd z (noA b),I.stack,I.stkFree⟩,
  rfl,I.bare,Un.kept hk,⟨_,hns,fun j y w e1 e2 e3=>?_⟩,fun y a e=>?_,I.hok.fresh (NG _),fun y a e=>I.freeC y a (kc6 S I e),fun p hp=>absurd (show p∈([]:List (Addr×Obj)) from hp) (by simp),I.hok.kept hk,?_⟩
 ·have hy':scope.names.lookup y>>.cell∨scope.names.lookup y>>.free:=hy
  rcases hy' with q|q
  ·exact absurd rfl (S.nocell _ (PySem.mem_of_lookup q))
  ·exact kdb (cells:=X.env.cells) scope.names [] (.inl (PySem.mem_of_lookup q))
 ·cases(show false=true from e1)
 ·cases j with
  | zero=>
   have ex:y=x:=by
    have e1':N[0]?>>y:=e1
    rw[S.hd] at e1'
    exact(Option.some.inj e1').symm
   have ev:w=v:=by
    have e2':some (some v)>>(some w):=e2
    exact(Option.some.inj (Option.some.inj e2')).symm
   subst ex ev
   rwa[u,r, .inl ⟨S.par,?_⟩]
   simp
  | succ j=>
   have e2':(capσ cap σ)[j]?>>(some w):=by simpa using e2
   have e2'':(cap.map fun o=>match o with|some i=>(σ[i]?).getD none|none=>none)[j]?>>(some w):=e2'
   rw[NO] at e2''
   cases ec:cap[j]? with
   |none=>rw[ec] at e2'';cases e2''
   | some oi=>
    rw[ec] at e2''
    cases oi with
    |none=>cases e2''
    | some i=>
     have e4:(σ[i]?).getD none>>w:=Option.some.inj e2''
     have e5: σ[i]?>>(some w):=by
      cases q: σ[i]? with
      |none=>rw[q] at e4;cases e4
      |some w'=>rw[q] at e4;exact congrArg some e4
     obtain⟨q1,hf,_⟩:=S.S.cap (j+1) i y (by simpa using ec) e1
     have hm:=PySem.mem_of_lookup hf
     have q2:=S.S.free _ hm rfl
     obtain⟨mo,_,hl⟩:=I.loc
     obtain⟨u',ru,lk⟩:=hl i y w q1 e5 (.inr q2)
     rwa[u',ru, .inr ⟨.inr hf,?_⟩]
     rcases lk with⟨k1,_⟩|⟨_,a,ea,z⟩
     ·have k1':X.env.scope.names.lookup y>>.local:=k1
      rcases q2 with q2|q2 <;> rw[q2] at k1' <;> cases k1'
     ·obtain⟨a',ea2⟩:=kdb (cells:=X.env.cells) scope.names [] (.inl hm)
      have e6:=kc6 S I ea2
      rw[ea] at e6
      have e7:a=a':=Option.some.inj e6
      subst e7
      obtain⟨oc,ho,hd⟩:=z
      rwa[a,ea2,oc,hk _ _ ho,hd]
 ·obtain⟨w,oc,ho,hd⟩:=I.cell y a (kc6 S I e)
  rwa[w,oc,hk _ _ ho,hd]
 ·have:=S.S.len
  show(some v::capσ cap σ).length=N.length
  rw[←this,Md,Md]
  unfold capσ
  rw[ND]
theorem klj{name:Str}{params:Arguments}{body:Expr}{pm ctv:Value}{te:TE}{v:V}{u:Value}{Q:VK}(S:kdQ X scope x N cap)(I:Inv X pins σ H s)(hfr:A.frames>>X.stack)(hh:A.handled=none)(hdp:A.depth<recursionLimit)
  (ho:s.heap.get? f>>(EW name qual params body scope (closL X.env.cells scope.names []) pm c ctv))(hcd:s.heap.CodeRec (.ref c) qual)
  (hbind:bindArgs (PySem.W.kla_fn name qual params body scope (closL X.env.cells scope.names []) pm (.ref c) ctv) ⟨[u],[]⟩=pure [(x,u)])(r:RelV v u)(he:PE (cxL X A scope N qual f c s H) body te)(hq:te (some v::capσ cap σ) H Q):
  wpAny (model X.prog X.w) A (call (.ref f) [u]) (fun w' s'=>∃v' H',Inv X pins σ H' s'∧RelV v' w'∧Q v' H'∧Un (frs X.stack) [] H H' s.heap s'.heap∧s.heap.objs.size≤s'.heap.objs.size) (fun _ _=>False) s:=by
 refine wpAny_call (PySem.W.kla_callFunE hdp ho rfl S.co S.gen rfl hcd ?_)
 rw[hbind]
 refine wpAny_pure (wpAny_newFunctionEnv S.nocell (fun y hy=>?_) (fun h1 hns hsb=>⟨I.nolimit.fresh _ hsb,?_⟩) S.S.kind)
 ·rw[MO] at hy
  subst hy
  exact S.par
 have hk:∀b o,s.heap.get? b>>o→h1.get? b>>o:=fun b o e=>hsb.extBut b o (Mc (Heap.lt_size e)) (Heap.get?_push_of_some _ e)
 have J:=kmM (A:=A) (qual:=qual) (f:=f) (c:=c) (t:=s.toks+1) S I hfr hh r hns hk
 refine PySem.W.kla_codeExpr (wpAny_mono (he [] _ _ _ Q J hq) (fun w' s' hw=>?_) fun _ _ z=>z.elim)
 obtain⟨v',H',J',rv,qv⟩:=hw
 rwa[v',H',I.call' (ch:=[]) J'.os J'.base J'.hok J'.bare (fun b hb=>by simp at hb),rv,qv,J'.base,J'.sz]
end
noncomputable def CodeO(c:Addr)(qual:Str):HO:=.ext fun h=>h.CodeRec (.ref c) qual
noncomputable def lamN(p:Pos):Str:=if p.col=38 then "first_use.<locals>.<lambda>" else "falling_groups.<locals>.<lambda>"
def klk{p p':Pos}(h:p.col=p'.col):lamN p=lamN p':=by unfold lamN;rw[h]
def TbAt(P:Addr)(H:Hp):Prop:=∃ps:Array Value,H P>>(.tbl ps)∧TriplesOk ps.toList∧∀pos c,codeAmong pos ps.toList>>c→∃c',c=.ref c'∧H c'>>(CodeO c' (lamN pos))
structure Grew(P:Addr)(H H':Hp):Prop where
 kp:∀b o,b≠P→H b>>o→H' b>>o
 tb:TbAt P H'
theorem kkS{pos:Pos}{a b:Int}{c:Value}(l:List Value)(h:TriplesOk l){x:Value}(e:codeAmong pos (l++[rawInt a,rawInt b,c])>>x):codeAmong pos l>>x∨(x=c∧b=pos.col):=by
 fun_induction TriplesOk l with
 |case1=>
  right
  unfold rawInt codeAmong at e
  simp only[Ep] at e
  split at e
  next hc=>exact⟨(Option.some.inj e).symm,by simpa using(Bool.and_eq_true_iff.mp hc).2⟩
  ·simp[codeAmong] at e
 | case2 n t m u d rest ih=>
  simp only[EY,codeAmong] at e⊢
  split at e
  ·left
   rename_i hc
   rw[if_pos hc]
   exact e
  ·rename_i hc
   rw[if_neg hc]
   exact ih h e
 |case3=>exact h.elim
def CodeK(K:NF)(c P:Addr):Prop:=
 ∃o vs file tf flags tg inF text tt,K.lookup c>>o∧o.cls=.type "code"∧o.data=.fields vs∧vs[11]?>>(.ref P)∧vs.getD 11 .none=.ref P∧vs.getD 18 .none=.str file tf∧vs.getD 7 .none=.int flags tg∧vs.getD 9 .none=.bool inF∧vs.getD 10 .none=.int text tt∧c≠P
def CodeK.hd{K:NF}{c P:Addr}{h:Heap}(x:CodeK K c P)(X:K.In h):PySem.W.CodeHd h c P:=by
 obtain⟨o,vs,file,tf,flags,tg,inF,text,tt,e,r⟩:=x
 rwa[o,vs,file,tf,flags,tg,inF,text,tt,X _ _ e,r]
def BltM(mg:Str→Option Value)(base:Heap):Prop:=∃bm ob,mg "__builtins__">>(.ref bm)∧bm≠builtinsNs∧base.get? bm>>ob∧ob.cls=.type "module"∧ob.dict>>builtinsNs∧ob.data=.plain
section
variable{X:Cx}{scope:Scope}{x:Str}{N:List Str}{cap:List (Option Nat)}{pins:List (Addr×Obj)}{σ:St}{H:Hp}{s:Shared}{c0 P:Addr}{params:Arguments}{body:Expr}{lpos:Pos}
theorem kli{E:Value→Shared→Prop}{Q:Value→Shared→Prop}(S:kdQ X scope x N cap)(I:Inv X pins σ H s)(hcode:X.env.code=.ref c0)(CK:CodeK X.K c0 P)(hB:BltM X.mg X.base)(TB:TbAt P H)(hq:X.env.qual++ "<lambda>"=(lamN lpos))(hdef:defaultsOf params X.env=([],[]))
  (h:∀(s':Shared)(H':Hp)(f c:Addr)(pm ctv:Value),Inv X pins σ H' s'→Grew P H H'→s'.heap.get? f>>(EW "<lambda>" (lamN lpos) params body scope (closL X.env.cells scope.names []) pm c ctv)→H' f=none→s.heap.objs.size≤f→(∀b,s.heap.objs.size≤b→s'.heap.objs.size≤b→H' b=none)→H' c>>(CodeO c (lamN lpos))→Q (.ref f) s'):
  wpAny (model X.prog X.w) X.A (eval (.Lambda params body scope lpos) X.env) Q E s:=by
 obtain⟨ps,eP,ht,hor⟩:=TB
 have hP:s.heap.get? P>>(EZ ps):=(show ObjOk X.prog X.w H s.heap P (.tbl ps) from I.hok P _ eP)
 have hg:=I.mod.glob.keeps I.bk
 have nbP:∀b o,X.base.get? b>>o→b≠P:=fun b o e z=>by
  have:=(I.bs b o e).2
  rw[z,eP] at this
  cases this
 have hgP:mainGlobals≠P:=by
  obtain⟨o,_,_,e,_⟩:=I.mod.glob
  exact nbP _ o e
 have hb:s.heap.BuiltinsAt X.mg P:=by
  obtain⟨bm,ob,b1,b2,b3,b4,b5,b6⟩:=hB
  rwa[bm,ob,b1,b2,fun z=>?_,nbP _ ob b3,I.bk _ _ b3,b4,b5,b6]
  obtain⟨o,es,ep,e,hd,_⟩:=I.mod.glob
  rw[←z,b3] at e
  cases e
  rw[b6] at hd
  cases hd
 have CH:=CK.hd I.kIn
 refine PySem.W.kla_eval hdef ?_
 rw[hq]
 cases hor':codeAmong lpos ps.toList with
 | none=>
  have hnf:=hor'
  refine PySem.W.kla_makeFunction (mg:=X.mg) (kcB S.S I) I.ok.glob hg hcode CH hP ht hnf hgP hb fun c' ctv h' tk hx hge hlt hrec htb=>?_
  have hc0:H c'=none:=I.hok.fresh hge
  have nPc:P≠c':=kaj eP hc0
  have szP:P<s.heap.objs.size:=Heap.lt_size hP
  generalize hob:EW "<lambda>" (lamN lpos) params body scope (closL X.env.cells scope.names []) ((X.mg "__name__").getD .none) c' ctv=ob
  have k2:∀b o,b≠P→s.heap.get? b>>o→(h'.push ob).get? b>>o:=fun b o hbp e=>Heap.get?_push_of_some _ (hx b o hbp e)
  have nN:∀{b:Addr},H b=none→b≠P:=fun {b} n z=>by rw[z,eP] at n;cases n
  have at2:∀{b:Addr},b≠P→b≠c'→(upd (upd H P (.tbl (ps++ #[rawInt lpos.line,rawInt lpos.col, .ref c']))) c' (CodeO c' (lamN lpos))) b=H b:=fun {b} h1 h2=>by rw[kak h2,kak h1]
  have eP2:(upd (upd H P (.tbl (ps++ #[rawInt lpos.line,rawInt lpos.col, .ref c']))) c' (CodeO c' (lamN lpos))) P>>(.tbl (ps++ #[rawInt lpos.line,rawInt lpos.col, .ref c'])):=by rw[kak nPc,kad]
  have ec2:(upd (upd H P (.tbl (ps++ #[rawInt lpos.line,rawInt lpos.col, .ref c']))) c' (CodeO c' (lamN lpos))) c'>>(CodeO c' (lamN lpos)):=kad
  have fresh2:∀b,s.heap.objs.size≤b→(h'.push ob).objs.size≤b→(upd (upd H P (.tbl (ps++ #[rawInt lpos.line,rawInt lpos.col, .ref c']))) c' (CodeO c' (lamN lpos))) b=none:=fun b h1 h2=>by
   rw[Heap.size_push] at h2
   rw[at2 (MA (N9 szP h1)) (MA (N9 hlt (Nat.le_of_succ_le h2)))]
   exact I.hok.fresh h1
  have ff:(upd (upd H P (.tbl (ps++ #[rawInt lpos.line,rawInt lpos.col, .ref c']))) c' (CodeO c' (lamN lpos))) h'.objs.size=none:=by
   have h1:s.heap.objs.size≤h'.objs.size:=NJ hge (NR hlt)
   rw[at2 (MA (N9 szP h1)) (MA hlt)]
   exact I.hok.fresh h1
  generalize upd (upd H P (.tbl (ps++ #[rawInt lpos.line,rawInt lpos.col, .ref c']))) c' (CodeO c' (lamN lpos))=H2 at *
  have un:Un X.fs [] H H2 s.heap (h'.push ob):=by
   rwa[fun b o e n _ _=>k2 b o (nN n) e,fun b o e n _ _=>⟨o.slots,k2 b o (nN n) e⟩,fun b o e n _=>?_,fun b o e _=>?_,fun b xs e=>?_,fun b o u e=>?_,fun b qs e=>?_]
   ·rw[at2 (nN n) (Mc (N9 (Heap.lt_size e) hge))]
    exact n
   ·by_cases hbp:b=P
    ·subst hbp
     rwa[_,Heap.get?_push_of_some _ htb]
    ·rwa[o,k2 b o hbp e]
   ·rw[at2 (ne_of e eP (by intro z;cases z)) (kaj e hc0)]
    exact e
   ·rw[at2 (ne_of e eP (by intro z;cases z)) (kaj e hc0)]
    exact e
   ·by_cases hbp:b=P
    ·subst hbp
     rw[eP] at e
     cases e
     rwa[_,eP2]
    ·rwa[#[],?_]
     rw[at2 hbp (kaj e hc0),e]
     simp
  have hok2:HOk X.prog X.w H2 (h'.push ob):=fun b u e=>by
   by_cases hbp:b=P
   ·subst hbp
    rw[eP2] at e
    cases e
    exact(show(h'.push ob).get? b>>_ from Heap.get?_push_of_some _ htb)
   ·by_cases hbc:b=c'
    ·subst hbc
     rw[ec2] at e
     cases e
     obtain⟨cc,oc,vs,t,e1,e2,e3,e4⟩:=hrec
     cases e1
     refine(show ObjOk X.prog X.w H2 (h'.push ob) b (CodeO b (lamN lpos)) from⟨⟨b,oc,vs,t,rfl,Heap.get?_push_of_some _ e2,e3,e4⟩,⟨oc,Heap.get?_push_of_some _ e2⟩,fun h1 h2 q k=>?_⟩)
     obtain⟨c3,o3,vs3,t3,z1,z2,z3,z4⟩:=q
     cases z1
     rwa[b,o3,vs3,t3,6,k _ z2,z3,z4]
    ·rw[at2 hbp hbc] at e
     have nown:∀d y,H d>>(.own y)→d≠P∧d≠c':=fun d y r=>⟨ne_of r eP (by intro z;cases z),kaj r hc0⟩
     refine(I.hok b u e).stay (fun d v hd r=>k2 d v ?_ r) (fun d r=>by rw[at2 (nown d b r).1 (nown d b r).2];exact r) fun d xs r=>by rw[at2 (ne_of r eP (by intro z;cases z)) (kaj r hc0)];exact r
     rcases hd with rfl|hd
     ·exact hbp
     ·exact(nown d b hd).1
  subst hob
  refine h _ H2 h'.objs.size c' _ ctv (I.un (t':=tk) un hok2) ⟨fun b o hbp e=>by rw[at2 hbp (kaj e hc0)];exact e,_,eP2,?_,fun pos d ed=>?_⟩ (Heap.get?_push_size _ rfl) ff (NJ hge (NR hlt)) fresh2 ec2
  ·have:=TriplesOk_snoc lpos.line lpos.col (.ref c') ps.toList ht
   simpa using this
  ·have ed':codeAmong pos (ps.toList++[rawInt lpos.line,rawInt lpos.col, .ref c'])>>d:=by simpa using ed
   rcases kkS ps.toList ht ed' with z|z
   ·obtain⟨d',rfl,ed2⟩:=hor pos d z
    rwa[d',6,by rw[at2 (ne_of ed2 eP (by intro z;cases z)) (kaj ed2 hc0)];exact ed2]
   ·rwa[c',z.1,by rw[klk (p:=pos) (p':=lpos) (by have:=z.2;lia)];exact ec2]
 |some cv=>
  have hf:=hor'
  obtain⟨c',rfl,ec'⟩:=hor lpos cv hf
  refine PySem.W.kla_makeFunctionHit (mg:=X.mg) (kcB S.S I) I.ok.glob hg hcode CH hP ht hf hb fun ctv h' tk hk hsz=>?_
  have k2:∀b o,s.heap.get? b>>o→(h'.push (EW "<lambda>" (lamN lpos) params body scope (closL X.env.cells scope.names []) ((X.mg "__name__").getD .none) c' ctv)).get? b>>o:=fun b o e=>Heap.get?_push_of_some _ (hk b o e)
  exact h _ H h'.objs.size c' _ ctv (I.kept (t':=tk) k2) ⟨fun b o _ e=>e,ps,eP,ht,hor⟩ (Heap.get?_push_size _ rfl) (I.hok.fresh hsz) hsz (fun b h1 _=>I.hok.fresh h1) ec'
end
theorem kgm:∀{ns:List Int}{us:List Value},Vals (ns.map V.int) us→IntsAre us ns
 |[],_, .nil=>.nil
 |n::ns,_, .cons h t=>by
  obtain⟨tk,rfl⟩:=h
  exact .cons n tk (kgm t)
theorem kfQ:∀{us:List Value}{ns:List Int},IntsAre us ns→Vals (ns.map V.int) us
 |_,_, .nil=>.nil
 |_,_, .cons n t h=>.cons ⟨t,rfl⟩ (kfQ h)
theorem kkY{ns:List Int}{key:Int→Int}{keys:Array Value}{us:List Value}{out:Array Value}(hu:IntsAre us ns)(hk:IntsAre keys.toList (ns.map key))(hl:keys.size=us.length)(h:Stb.Rows keys us out):
  ∃ms:List Int,IntsAre out.toList ms∧ms.Perm ns∧ms.Pairwise fun a b=>key a<key b∨(key a=key b∧a<b):=by
 obtain⟨xs,hp,hup,rfl⟩:=h
 have pl:xs.toList.Perm (keys.toList.zip us):=by
  rw[←ksk_zip]
  exact Array.perm_iff_toList_perm.mp hp
 have mem:∀p∈keys.toList.zip us,p.2∈us∧numOf p.1=key (numOf p.2):=fun p hp=>by
  obtain⟨i,hi,rfl⟩:=List.mem_iff_getElem.mp hp
  have l1:i<keys.toList.length:=by
   rw[List.length_zip] at hi
   lia
  have l2:i<us.length:=by
   rw[List.length_zip] at hi
   lia
  rw[List.getElem_zip]
  rwa[Do l2,?_]
  have e1:(keys.toList.map numOf)[i]?=(ns.map key)[i]?:=by rw[hk.nums]
  have e2:(us.map numOf)[i]?=ns[i]?:=by rw[hu.nums]
  rw[NO,MG l1,NO] at e1
  rw[NO,MG l2] at e2
  rw[←e2] at e1
  exact Option.some.inj e1
 have memx:∀p∈xs.toList,p.2∈us∧numOf p.1=key (numOf p.2):=fun p hp=>mem p (pl.mem_iff.mp hp)
 rwa[xs.toList.map fun p=>numOf p.2,?_,?_,?_]
 ·have e:(xs.map (·.2)).toList=xs.toList.map (·.2):=by simp
  rw[e]
  have:=intsAre_map (xs.toList.map (·.2)) fun v hv=>by
   obtain⟨p,hp',rfl⟩:=N3.mp hv
   exact hu.all _ (memx p hp').1
  rw[N7] at this
  exact this
 ·have h1:=pl.map (fun p:Keyed=>numOf p.2)
  have e2:(keys.toList.zip us).map (fun p:Keyed=>numOf p.2)=ns:=by
   have e3:(keys.toList.zip us).map (fun p:Keyed=>numOf p.2)=((keys.toList.zip us).map Prod.snd).map numOf:=by rw[N7];rfl
   rw[e3,List.map_snd_zip (by have e:=Ek (xs:=keys);lia),hu.nums]
  rw[e2] at h1
  exact h1
 ·rw[Ef]
  intro i j hi hj hij
  have hi':i<xs.size:=by simpa using hi
  have hj':j<xs.size:=by simpa using hj
  have q:=hup i j hij hj'
  have ki:=(memx xs[i] (by simp)).2
  have kj:=(memx xs[j] (by simp)).2
  unfold Stb.Lx Stb.T at q
  rw[K_eq hi',K_eq hj',Dr hi',Dr hj'] at q
  simp only[Ew,Array.getElem_toList]
  rw[←ki,←kj]
  exact q
section
variable{X:Cx}{scope:Scope}{x:Str}{N:List Str}{cap:List (Option Nat)}{pins:List (Addr×Obj)}{σ:St}{H:Hp}{s1:Shared}{f:Addr}{fo:Obj}
def Held(X:Cx)(pins:List (Addr×Obj))(σ:St)(H:Hp)(n0:Nat)(f:Addr)(fo:Obj)(s:Shared):Prop:=Inv X pins σ H s∧n0≤s.heap.objs.size∧s.heap.get? f>>fo
theorem kmN(I:Inv X pins σ H s1)(hf:f<s1.heap.objs.size):Stb.SJ (Held X pins σ H s1.heap.objs.size f fo) s1.heap.objs.size where
 sz:=fun s h=>h.2.1
 push:=fun s c xs n h=>⟨h.1.kept (t':=s.toks) fun b o e=>Heap.get?_push_of_some _ e,NJ h.2.1 (by rw[Heap.size_push];exact Eb _),Heap.get?_push_of_some _ h.2.2⟩
 upd:=fun s b g h hb=>by
  obtain⟨q1,q2,q3,q4,q5,q6⟩:=I.fpOk hb (I.hok.fresh hb)
  have sb:=Heap.SameBut.update s.heap b (Obj.mapSeq g)
  rwa[h.1.turned (t':=s.toks) (it:=b) (fun d o hd e=>(sb.2 d hd).trans e) q1 q2 q4 q5 q6,by rw[Heap.size_update];exact h.2.1,(sb.2 f (Mc (N9 hf hb))).trans h.2.2]
def kkW(K:NF)(P:Addr)(tl:TE)(cap:List (Option Nat))(te:TE):TE:=fun σ H Q=>tl σ H fun v H1=>∃(a:Addr)(ns:List Int)(key:Int→Int),v=.ref a∧SqL K H1 a (ns.map V.int)∧ns.length<64∧ns.Pairwise (· < ·)∧TbAt P H1∧a≠P∧
 (∀H2,Grew P H1 H2→∀n∈ns,te (some (.int n)::capσ cap σ) H2 fun v H3=>v=.int (key n)∧H3=H2)∧
 ∀(H2:Hp)(l:Addr)(ms:List Int),Grew P H1 H2→H1 l=none→H2 l=none→ms.Perm ns→(ms.Pairwise fun a b=>key a<key b∨(key a=key b∧a<b))→Q (.ref l) (upd H2 l (.lst (ms.map V.int)))
theorem kgw:bootBuiltins "sorted">>(.builtin "sorted"):=by cutsat
theorem Grew.seq{K:NF}{P:Addr}{H H':Hp}{a:Addr}{xs:List V}(g:Grew P H H')(ha:a≠P)(h:SqL K H a xs):SqL K H' a xs:=by
 rcases h with(h|⟨o,h⟩)|h
 ·exact .inl (.inl (g.kp _ _ ha h))
 ·exact .inl (.inr ⟨o,g.kp _ _ ha h⟩)
 ·exact .inr h
theorem kiS{l:Expr}{tl te:TE}{c0 P:Addr}{params:Arguments}{body:Expr}{lpos p pos kpos:Pos}(hl:PE X l tl)(S:kdQ X scope x N cap)(hc:X.calm=true)(hdp:X.A.depth<recursionLimit)(hcode:X.env.code=.ref c0)(CK:CodeK X.K c0 P)(hB:BltM X.mg X.base)
  (hg:Gl X "sorted")(hm:X.mg "sorted"=none)(hbind:∀(cl:List (Str×Addr))(pm:Value)(c:Addr)(ctv u:Value),bindArgs (PySem.W.kla_fn "<lambda>" (lamN lpos) params body scope cl pm (.ref c) ctv) ⟨[u],[]⟩=pure [(x,u)])
  (he:∀A f c s H,PE (cxL X A scope N (lamN lpos) f c s H) body te)(hq:X.env.qual++ "<lambda>"=(lamN lpos))(hdef:autoParam (defaultsOf params X.env=([],[])) jz)(s1:autoParam (starEach [l] X.env=[(false,eval l X.env)]) jz):
  PE X (.Call (.Name "sorted" p) [l] [⟨some "key", .Lambda params body scope lpos,kpos⟩] pos) (kkW X.K P tl cap te):=by
 intro pins s σ H Q I h
 refine wpAny_Call_Name_kw (kdK I hg hm kgw ?_ (by decide) (by decide))
 refine callWith_kw ?_ (by rw[s1];rfl) (by rw[s1];rfl)
 rw[s1]
 refine Calls.spliced_cons (thn (hl pins s σ H _ I h) fun u s3 ⟨v,H1,I1,r1,a,ns,key,ev,hS,h64,hup,TB,haP,hte,q⟩=>Calls.spliced_nil ?_)
 subst ev
 cases r1
 show wpAny _ _ (evalAll ((do let v ←eval (.Lambda params body scope lpos) X.env;standAt pos;pure v):: [])) _ _ s3
 refine wpAny_evalAll_cons (wpAny_bind (kli S I1 hcode CK hB TB hq hdef fun s4 H4 lf c pm ctv I4 G ef ff hsf hfr ec=>wpAny_bind (wpAny_standAt (wpAny_pure (wpAny_evalAll_nil ?_)))))
 show wpAny _ _ (call (.builtin "sorted") [.ref a] [(Str.ofString "key", .ref lf)]) _ _ s4
 obtain⟨its,rv,pl,hz⟩:=I4.list (G.seq haP hS)
 have hi:=kgm rv
 have lu:=hi.length
 have lf4:lf<s4.heap.objs.size:=Heap.lt_size ef
 have rising:∀(i j:Nat)(y z:Value),i<j→its[i]?>>y→its[j]?>>z→numOf y<numOf z:=fun i j y z hij ey ez=>by
  have e1:ns[i]?>>(numOf y):=by rw[←hi.nums,NO,ey];rfl
  have e2:ns[j]?>>(numOf z):=by rw[←hi.nums,NO,ez];rfl
  obtain⟨l1,q1⟩:=NT.mp e1
  obtain⟨l2,q2⟩:=NT.mp e2
  have:=Ef.mp hup i j l1 l2 hij
  rw[q1,q2] at this
  exact this
 refine Stb.sortedK (kz:=ns.map key) (J:=Held X pins σ H4 s4.heap.objs.size lf _) (kmN I4 lf4) ⟨I4,NG _,ef⟩ pl.isList (by rw[ND,lu]) (by lia) rising (fun i v k ev ek s5 hJ=>?_) fun s5 D keys out cc hD hJ eD hk hkl hR=>?_
 ·have en:ns[i]?>>(numOf v):=by rw[←hi.nums,NO,ev];rfl
  have ek':k=key (numOf v):=by
   rw[NO,en] at ek
   exact(Option.some.inj ek).symm
  subst ek'
  obtain⟨n,t,rfl⟩:=hi.all v (NM ev)
  have hcr:s5.heap.CodeRec (.ref c) (lamN lpos):=(show ObjOk X.prog X.w H4 s5.heap c (CodeO c (lamN lpos)) from hJ.1.hok c _ ec).1
  refine wpAny_mono (klj (A:=X.A.in1.in1) (v:=.int n) (u:=.int n t) S hJ.1 I.ok.frames (I.ok.hd hc) hdp hJ.2.2 hcr (hbind _ _ _ _ _) ⟨t,rfl⟩ (he _ _ _ _ _) (hte H4 G n (NM en))) (fun w' s6 hw=>?_) fun _ _ z=>z
  obtain⟨v',H6,I6,rv',⟨e1,e2⟩,un,sz6⟩:=hw
  subst e1 e2
  have nst:∀b,s3.heap.objs.size≤b→b∉frs X.stack:=fun b hb z=>absurd (kjh I1 z) (EE.mpr hb)
  have s34:s3.heap.objs.size≤s4.heap.objs.size:=NR (MR hsf lf4)
  have kp:∀b o,s3.heap.objs.size≤b→H6 b=none→s5.heap.get? b>>o→s6.heap.get? b>>o:=fun b o hb hn e=>un.keep b o e hn (nst b hb) (by simp)
  rwa[rv',⟨I6,?_,kp lf _ hsf ff hJ.2.2⟩,fun b o hb e=>kp b o (NJ s34 hb) (I4.hok.fresh hb) e]
  exact NJ hJ.2.1 sz6
 ·obtain⟨ms,m1,m2,m3⟩:=kkY hi hk (by lia) hR
  have hn:H4 D=none:=I4.hok.fresh hD
  have fp:=I4.fpOk hD hn
  have h10:H1 D=none:=I1.hok.fresh (NJ (NR (MR hsf lf4)) hD)
  have vm:=kfQ m1
  have lz:(ms.map V.int).length≤sizeLine:=by
   rw[ND,m2.length_eq,sizeLine_eq]
   lia
  rwa[.ref D,_,hJ.1.adopt (a:=D) (o:=.lst (ms.map V.int)) fp ?_ ?_,6,q H4 D ms G h10 hn m2 m3]
  ·exact NJ I4.sz hD
  ·exact(show ObjOk X.prog X.w _ s5.heap D (.lst (ms.map V.int)) from⟨lz,out.toList,cc,vm,by simpa using eD⟩)
end
end L2
namespace L2
open PySem PySem.W PyProof.Rows
section
variable{X:Cx}
def km2:V→List V→Hp→VK→Prop:=fun x vs H Q=>∃(l:Addr)(ns:List Int)(k:Int),x=.ref l∧vs=[.int k]∧H l>>(.lst (ns.map V.int))∧Q (.int (ns.count k:Nat)) H
theorem kfj:∀{ns:List Int}{us:List Value}(k:Int),Vals (ns.map V.int) us→us.countP (isI k)=ns.count k
 |[],_,_, .nil=>rfl
 |m::ns,_::us,k, .cons r t=>by
  obtain⟨tk,rfl⟩:=r
  rw[List.countP_cons,EG,kfj k t]
  rfl
theorem kis:MtM X "list.count" km2:=by
 intro pins s σ H x vs v us Q I rx rv h
 obtain⟨l,ns,k,rfl,rfl,hH,q⟩:=h
 cases rx
 obtain⟨u,rfl,ru⟩:=rv.one
 obtain⟨t,rfl⟩:=ru
 obtain⟨z,its,n,r,hl,e⟩:=I.lstM hH
 refine call_meets F.slot_list_count ⟨_,e,rfl⟩ F.entry_list_count (F.args_list_count_2 _ _)
  (MeetsSeq.list_count l its.toArray n (.int k t) (isI k) (fun y hy=>?_)) ⟨e,?_⟩
 ·obtain⟨j,hj',rfl⟩:=Array.mem_iff_getElem.mp hy
  have hjl:j<its.length:=by simpa using hj'
  have hln:its.length=ns.length:=by rw[←hl,ND]
  obtain⟨tk,et⟩:=kg7 r j ns[j] (by simp)
  obtain⟨_,e'⟩:=NT.mp et
  have e2:its.toArray[j]=.int ns[j] tk:=by simpa using e'
  rw[e2]
  exact MeetsSeq.EqGives.int _ k tk t
 ·rwa[.int (ns.count k:Nat),H,I.tok _,⟨s.toks,?_⟩,q]
  rw[List.toList_toArray,kfj k r]
end
section
variable{X:Cx}{pins:List (Addr×Obj)}{σ:St}{H:Hp}{s:Shared}{A:Around}{E:Value→Shared→Prop}{Q:Value→Shared→Prop}
def kjN(K:NF):List V→Hp→VK→Prop:=fun xs H Q=>∃(a:Addr)(ns:List Int),xs=[.ref a]∧SqL K H a (ns.map V.int)∧ns.length<64∧∀(D:Addr)(ms:List Int),H D=none→ms.Perm ns→ms.Pairwise (·≤·)→Q (.ref D) (upd H D (.lst (ms.map V.int)))
theorem keg:CallR X (.builtin "sorted") (kjN X.K):=by
 intro pins s σ H xs us Q I r h
 obtain⟨a,ns,rfl,hS,h64,q⟩:=h
 obtain⟨u,rfl,rx⟩:=vals1 r
 cases rx
 obtain⟨its,rv,pl,hz⟩:=I.list hS
 have hi:=kgm rv
 have lu:=hi.length
 refine sorted_ints pl.isList hi (by lia) fun out ms h1 h2 h3=>?_
 obtain⟨e,he⟩:=sortedAll_at s.heap its out
 have hn:H (s.heap.objs.size+1)=none:=I.hok.fresh (Eb _)
 have lz:(ms.map V.int).length≤sizeLine:=by
  rw[ND,h2.length_eq,sizeLine_eq]
  lia
 rwa[.ref (s.heap.objs.size+1),_,I.laid (t':=s.toks) (fun b o z=>sortedAll_old z) (Eb _) (show ObjOk X.prog X.w (upd H (s.heap.objs.size+1) (.lst (ms.map V.int))) (sortedAll s.heap its out) (s.heap.objs.size+1) (.lst (ms.map V.int)) from⟨lz,out.toList,e,kfQ h1,by simpa using he⟩),6,q _ ms hn h2 h3]
theorem ps_no{st:Stmt}:PS X st (fun _ _ _=>False):=fun _ _ _ _ _ _ h=>h.elim
end
section
variable{X:Cx}
theorem kiA:PGet X (rIxL X.K):=by
 intro pins s σ H o i ov iv Q I ro ri h
 obtain⟨p,xs,i,z,rfl,rfl,hq,he,q⟩:=h
 cases ro
 obtain⟨t,rfl⟩:=ri
 obtain⟨its,r,pl,hz⟩:=I.list hq
 obtain⟨j,h1,h2,h3,h4,h5⟩:=khU he
 obtain⟨w,ew,rw'⟩:=r.get h2
 have hl:=r.length
 have hn:=kg4
 have fin:EP X pins σ Q w s:=⟨z,H,I,rw',q⟩
 by_cases h0:0≤i
 ·have hj:i.toNat=j:=by
   rw[seqIndex_of h0 h5] at h1
   exact Option.some.inj h1
  exact wpAny_getItem_list pl.isList h0 (by lia) (by rw[hj];simpa using ew) fin
 ·have hj:(i+(its.toArray.size:Int)).toNat=j:=by
   rw[seqIndex_neg (by lia) h4] at h1
   rw[N6,←hl]
   exact Option.some.inj h1
  exact wpAny_getItem_list_neg pl.isList (by lia) (by rw[N6] <;> lia) (by lia) (by rw[hj];simpa using ew) fin
end
end L2
namespace L2
open PySem PySem.Spec PyProof.Rows
section
variable{prog:Program}{w:World}{A:Around}{E:Value→Shared→Prop}{s:Shared}
end
section
variable{prog:Program}{w:World}{A:Around}{E:Value→Shared→Prop}{s:Shared}
end
section
variable{X:Cx}
end
section
variable{X:Cx}
end
noncomputable def nxo:HO→Bool
 | .ext _=>false
 |_=>true
def NX(H:Hp)(p:Addr):Prop:=∀φ,H p≠some (.ext φ)
def nx{H:Hp}{p:Addr}{o:HO}(h:H p>>o)(n:autoParam (nxo o=true) jz):NX H p:=fun φ z=>by
 rw[h] at z
 cases z
 cases n
def nx0{H:Hp}{p:Addr}(h:H p=none):NX H p:=fun φ z=>by
 rw[h] at z
 cases z
def kdj{H:Hp}{p q:Addr}{o:HO}(h:NX H p)(n:autoParam (nxo o=true) jz):NX (upd H q o) p:=fun φ z=>by
 by_cases e:p=q
 ·subst e
  rw[kad] at z
  cases z
  cases n
 ·rw[kak e] at z
  exact h φ z
abbrev Ev(H H':Hp)(b:Addr)(o:HO):Prop:=match o with
 | .tbl _=>(∃ps,H' b>>(.tbl ps))∧(TbAt b H→TbAt b H')
 |o=>H' b>>o
def ev_eq{H H':Hp}{b:Addr}{o:HO}(e:H' b>>o)(t:TbAt b H→TbAt b H'):Ev H H' b o:=by
 cases o <;> first|exact e|exact⟨⟨_,e⟩,t⟩
def kgp{H H':Hp}{b:Addr}{o:HO}(e:Ev H H' b o):∃o',H' b>>o':=by
 cases o <;> first|exact⟨_,e⟩|exact⟨_,e.1.choose_spec⟩
theorem kbN{H H1 H2:Hp}{b:Addr}{o:HO}(e:Ev H H1 b o)(k:∀o,H1 b>>o→Ev H1 H2 b o):Ev H H2 b o:=by
 cases o with
 |tbl ps=>
  obtain⟨⟨ps1,e1⟩,t1⟩:=e
  obtain⟨e2,t2⟩:=(show Ev H1 H2 b (.tbl ps1) from k _ e1)
  rwa[e2,fun h=>t2 (t1 h)]
 |_=>exact k _ e
def kd7{b p:Addr}{H:Hp}{o:HO}(h:TbAt b H)(n:b≠p)(hx:NX H p):TbAt b (upd H p o):=by
 obtain⟨ps,e,t,hor⟩:=h
 rwa[ps,by rw[kak n];exact e,t,fun pos d ed=>?_]
 obtain⟨c,rfl,z2⟩:=hor pos d ed
 have hc:c≠p:=fun e=>by
  subst e
  exact hx _ z2
 rwa[c,6,by rw[kak hc];exact z2]
def Same(H H':Hp):Prop:=∀b o,H b>>o→Ev H H' b o
def Same.refl(H:Hp):Same H H:=fun _ _ h=>ev_eq h fun t=>t
def Same.trans{H H1 H2:Hp}(a:Same H H1)(b:Same H1 H2):Same H H2:=fun c o h=>kbN (a c o h) fun o' e=>b c o' e
theorem Same.free{H H':Hp}(e:Same H H'){l:Addr}(h:H' l=Option.none):H l=Option.none:=by
 cases q:H l with
 |none=>rfl
 |some o=>
  obtain⟨o',e'⟩:=kgp (e l o q)
  rw[e'] at h
  cases h
def Same.seq{K:NF}{H H':Hp}{a:Addr}{xs:List V}(e:Same H H')(h:SqL K H a xs):SqL K H' a xs:=by
 rcases h with(h|⟨o,h⟩)|h
 ·exact .inl (.inl (e _ _ h))
 ·exact .inl (.inr ⟨o,e _ _ h⟩)
 ·exact .inr h
def Same.tb{H H':Hp}(s:Same H H'){b:Addr}(h:TbAt b H):TbAt b H':=by
 obtain⟨ps,e,r⟩:=id h
 exact(show Ev H H' b (.tbl ps) from s b _ e).2 h
def Grew.same{P:Addr}{H H':Hp}(g:Grew P H H')(TB:TbAt P H):Same H H':=fun b o e=>by
 obtain⟨ps,eP,ht,hor⟩:=TB
 by_cases h:b=P
 ·subst h
  rw[eP] at e
  cases e
  obtain⟨qs,e1,_⟩:=id g.tb
  rwa[⟨qs,e1⟩,fun _=>g.tb]
 ·refine ev_eq (g.kp b o h e) fun t=>?_
  obtain⟨qs,e1,t1,h1⟩:=t
  rwa[qs,g.kp b _ h e1,t1,fun pos d ed=>?_]
  obtain⟨c,rfl,z⟩:=h1 pos d ed
  rwa[c,6,g.kp c _ (ne_of z eP (by intro z;cases z)) z]
def kgJ(K:NF)(tP:Addr):Sp:=fun vs H Q _=>∃(a:Addr)(ns:List Int),vs=[.ref a]∧SqL K H a (ns.map V.int)∧ns.length≤63∧TbAt tP H∧∀H',Q (.bl true) H'
theorem kkb{P:Program}{w:World}{K:NF}{mg mb:Str→Option Value}{k:Nat}{fa a tP c0:Addr}{fd:FuncData}{x:Str}{s₁:Shared}{vs:List Value}{ns:List Int}
  (KX:K.In s₁.heap)(hns:s₁.heap.Ns mainGlobals mg)(hb:s₁.heap.Ns builtinsNs mb)(hbb:∀x:Str,x≠"__name__"→mb x=bootBuiltins x)(hlim:s₁.heap.NoLimit)(hg:s₁.gens= #[])
  (ha:s₁.heap.get? a>>{cls:=.type "list",data:=.seq vs.toArray})(hi:IntsAre vs ns)(hl:ns.length≤63)(hr:Room k callerA)(hT:s₁.heap.get? tP>>(EZ #[]))(CK:CodeK K c0 tP)(kT:K.lookup tP=none)(hBM:BltM mg s₁.heap)
  (F:∀base:Heap,K.In base→base.Ns mainGlobals mg→BltM mg base→FnOk P w K mg base CX0 k fa fd [x] (kgJ K tP))(hbind:∀(s:Shared)(u:Value),BindsTo s fd ⟨[u],[]⟩ [(x,u)]):
  codeAny (model P w) callerA (.call (.ref fa) ⟨[.ref a],[]⟩) (fun r s'=>r=.ok (.ret (.bool true))∧OldK s₁.heap s'.heap∧s'.os=s₁.os∧AllBare s'.gens) s₁:=by
 have rv:=kgA hi
 have lenV:=hi.length
 have hlz:ns.length≤sizeLine:=NJ hl (by decide)
 have nTa:tP≠a:=fun e=>by
  rw[e,ha] at hT
  have:=Option.some.inj hT
  injection this with z
  cases z
 have core:∀H:Hp,SqL K H a (ns.map V.int)→HOk P w H s₁.heap→H tP>>(.tbl #[])→(∀b,b≠tP→H b=none∨(b=a∧∃o xs,H b>>(.frz o (.lst xs))))→(H a≠none→K.lookup a=none)→
   codeAny (model P w) callerA (.call (.ref fa) ⟨[.ref a],[]⟩) (fun r s'=>r=.ok (.ret (.bool true))∧OldK s₁.heap s'.heap∧s'.os=s₁.os∧AllBare s'.gens) s₁:=by
  intro H hS hok eT hO hK
  have base_of:∀{b:Addr}{o:Obj},s₁.heap.get? b>>o→H b=none→(hidT s₁.heap H).get? b>>o:=fun e n=>klo e n
  have noT:∀{b:Addr}{o:Obj},s₁.heap.get? b>>o→o.cls≠.none→(∀us n,o.data≠.seq us n)→H b=none:=fun {b o} e hc hd=>by
   by_cases hbT:b=tP
   ·rw[hbT,hT] at e
    cases e
    exact absurd rfl hc
   ·rcases hO b hbT with z|⟨z,_⟩
    ·exact z
    ·rw[z,ha] at e
     cases e
     exact absurd rfl (hd _ _)
  have noA:∀{b:Addr}{o:Obj}{es:Array DictEntry}{ep:Nat},s₁.heap.get? b>>o→o.data=.dict es ep→H b=none:=fun {b o es ep} e d=>by
   by_cases hbT:b=tP
   ·rw[hbT,hT] at e
    cases e
    cases d
   ·rcases hO b hbT with z|⟨z,_⟩
    ·exact z
    ·rw[z,ha] at e
     cases e
     cases d
  have nsK:∀{b:Addr}{m:Str→Option Value},s₁.heap.Ns b m→(hidT s₁.heap H).Ns b m:=fun {b m} ⟨o,es,ep,e,d,r⟩=>⟨o,es,ep,base_of e (noA e d),d,r⟩
  have hKb:K.In (hidT s₁.heap H):=fun b o e=>base_of (KX b o e) (by
   by_cases hbT:b=tP
   ·rw[hbT,kT] at e
    cases e
   ·rcases hO b hbT with z|⟨z,o',xs,z2⟩
    ·exact z
    ·subst z
     rw[hK (by rw[z2];simp)] at e
     cases e)
  have hM:Mod K mg (hidT s₁.heap H):=⟨hKb,nsK hns,⟨mb,nsK hb,hbb⟩,let⟨mc,h1,h2⟩:=hlim;⟨mc,nsK h1,h2⟩⟩
  have hBb:BltM mg (hidT s₁.heap H):=by
   obtain⟨bm,ob,b1,b2,b3,b4,b5,b6⟩:=hBM
   rwa[bm,ob,b1,b2,base_of b3 (noT b3 (by rw[b4];intro z;cases z) (fun us n z=>by rw[b6] at z;cases z)),b4,b5,b6]
  have e0:Env0 P w K mg (hidT s₁.heap H) callerA [] s₁ H:=⟨rfl,hM,fun b o e=>kmF e,EM (kkm _ _),trivial,fun b hb=>absurd (show b∈([]:List Addr) from hb) (by simp),hok, .of_eq hg⟩
  have hsp:kgJ K tP [.ref a] H (fun v _=>v=.bl true) fun _ _ _=>False:=⟨a,ns,rfl,hS,hl,⟨#[],eT,by trivial,fun pos c e=>by cases e⟩,fun _=>rfl⟩
  refine codeAny_mono ((F _ hKb (nsK hns) hBb).run callerA [] s₁ H ⟨[.ref a],[]⟩ [.ref a] [.ref a] _ _ hr e0 (hbind s₁ (.ref a)) (.cons rfl .nil) hsp) fun r s' h=>?_
  cases r with
  |error e=>exact(show False from h).elim
  | ok fl=>
   cases fl with
   |next=>exact False.elim h
   |brk=>exact False.elim h
   |cont=>exact False.elim h
   | ret u=>
    obtain⟨v,H',os,bare,un,hok',r',q⟩:=h
    have q':v=.bl true:=q
    subst q'
    obtain rfl:u=Value.bool true:=r'
    have kp:∀b o,b≠tP→s₁.heap.get? b>>o→s'.heap.get? b>>o:=fun b o hbT e=>by
     rcases hO b hbT with z|⟨z,o',xs,z2⟩
     ·exact un.keep b o e z (fun z=>absurd (show b∈([]:List Addr) from z) (by simp)) (by simp)
     ·have z3:=un.frzs b o' _ z2
      obtain⟨e1,_⟩:=hok b _ z2
      obtain⟨e2,_⟩:=hok' b _ z3
      rw[e] at e1
      cases e1
      exact e2
    obtain⟨more,eM⟩:=un.tbls tP #[] eT
    have tM:s'.heap.get? tP>>(EZ (#[]++more)):=(show ObjOk P w H' s'.heap tP (.tbl (#[]++more)) from hok' tP _ eM)
    rwa[6,⟨fun b o e=>?_,fun b o e=>?_⟩,os,bare]
    ·by_cases hbT:b=tP
     ·subst hbT
      rw[hT] at e
      cases e
      obtain⟨oc,us,_,_,_,_,_,_,_,c1,c2,c3,c4,_⟩:=CK
      exact .inr (.inl ⟨⟨c0,oc,us,KX _ _ c1,c2,c3,c4⟩,rfl,#[],more,rfl,tM⟩)
     ·exact .inl (kp b o hbT e)
    ·by_cases hbT:b=tP
     ·subst hbT
      rwa[_,tM]
     ·rwa[o,kp b o hbT e]
 cases hk:K.lookup a with
 | some o=>
  have e:=KX a o hk
  rw[ha] at e
  cases e
  refine core (fun b=>if b=tP then some (.tbl #[]) else none) (.inr ⟨_,vs.toArray,_,hk,rfl,rfl,rfl,by rw[N6,lenV];exact hlz,by simpa using rv⟩) (fun b u z=>?_) (if_pos rfl) (fun b hbT=>.inl (if_neg hbT)) fun z=>absurd (if_neg nTa.symm) z
  by_cases hbT:b=tP
  ·have z':=(if_pos hbT).symm.trans z
   cases z'
   subst hbT
   exact(show s₁.heap.get? b>>_ from hT)
  ·have z':=(if_neg hbT).symm.trans z
   cases z'
 | none=>
  refine core (fun b=>if b=tP then some (.tbl #[]) else if b=a then some (.frz {cls:=.type "list",data:=.seq vs.toArray} (.lst (ns.map V.int))) else none) (.inl (.inr ⟨{cls:=.type "list",data:=.seq vs.toArray},by show(if a=tP then _ else _)=_;rw[if_neg nTa.symm,if_pos rfl]⟩)) (fun b u z=>?_) (if_pos rfl) (fun b hbT=>?_) fun _=>hk
  ·by_cases hbT:b=tP
   ·have z':=(if_pos hbT).symm.trans z
    cases z'
    subst hbT
    exact(show s₁.heap.get? b>>_ from hT)
   ·have z1:=(if_neg hbT).symm.trans z
    by_cases hb2:b=a
    ·have z':=(if_pos hb2).symm.trans z1
     cases z'
     subst hb2
     rwa[ha,by rw[ND];exact hlz,vs,_,rv,ha]
    ·have z':=(if_neg hb2).symm.trans z1
     cases z'
  ·by_cases hb2:b=a
   ·exact .inr ⟨hb2,_,_,by show(if b=tP then _ else _)=_;rw[if_neg hbT,if_pos hb2]⟩
   ·exact .inl (by show(if b=tP then _ else _)=_;rw[if_neg hbT,if_neg hb2])
theorem walkT_of{l:PySem.W.OpenLaw}{k:Nat}{q:Program}{loose:List Str}{XP:(Str→Option Value)→Heap→Prop}{YP:World→Heap→Prop}{d:DefRec}{K:Params→NF}{ts:List Addr}{x:Str}
  (hn:l.most>>63)(hdf:d.params.defaults=[])(hr:Room k callerA)(hY:∀(w:World)(h:Heap),YP w h→(K w.params).In h)(hTs:∀(w:World)(h:Heap),YP w h→∀P∈ts,h.get? P>>(EZ #[]))
  (F:∀(w:World)(mg:Str→Option Value)(fa:Addr)(h:Heap),(K w.params).In h→h.Ns mainGlobals mg→mg d.name>>(.ref fa)→
   ∃(fd:FuncData)(tP c0:Addr),tP∈ts∧CodeK (K w.params) c0 tP∧(K w.params).lookup tP=none∧(∀(s:Shared)(u:Value),BindsTo s fd ⟨[u],[]⟩ [(x,u)])∧
    ∀base:Heap,(K w.params).In base→base.Ns mainGlobals mg→BltM mg base→FnOk l.prog w (K w.params) mg base CX0 k fa fd [x] (kgJ (K w.params) tP)):
  PySem.W.WalkO q loose XP YP l.row.toRowW d [] (fun f vs=>PySem.call f vs):=by
 refine Att.attach_call hn hdf fun w s₀ s₁ mg mb fa o pm cd doc a vs ns G Y ho hd hcd hmg hobj hints hlen hg=>?_
 have KX:=hY w _ Y
 obtain⟨fd,tP,c0,hm,CK,kT,hb,hF⟩:=F w mg fa _ KX G.T.g hmg
 obtain⟨bm,ob,b1,b2,b3,b4,b5,b6⟩:=G.T.bmain
 exact kkb KX G.T.g G.T.b G.T.builtins G.T.nolimit hg hobj hints hlen hr (hTs w _ Y tP hm) CK kT ⟨bm,ob,b1,b2,b3,b4,b5,b6⟩ hF hb
def nd1(x:Str):([x]:List Str).Nodup:=by simp
def But(x:Addr)(H H':Hp):Prop:=∀b o,b≠x→H b>>o→Ev H H' b o
def But.trans{x:Addr}{H H1 H2:Hp}(a:But x H H1)(b:But x H1 H2):But x H H2:=fun c o n h=>kbN (a c o n h) fun o' e=>b c o' n e
def But.same{x:Addr}{H H1 H2:Hp}(a:But x H H1)(b:Same H1 H2):But x H H2:=fun c o n h=>kbN (a c o n h) fun o' e=>b c o' e
def But.of_same{x:Addr}{H H1:Hp}(b:Same H H1):But x H H1:=fun c o _ h=>b c o h
def But.refl{x:Addr}{H:Hp}:But x H H:=fun b o _ h=>Same.refl H b o h
def kaw{x:Addr}{H:Hp}{o:HO}(hx:NX H x:=by first|exact nx kad|exact nx (by assumption)|exact nx0 (by assumption)|exact kdj (nx kad) rfl|exact kdj (nx (by assumption)) rfl):But x H (upd H x o):=fun b u n e=>ev_eq (by rw[kak n];exact e) fun t=>kd7 t n hx
def kam{H:Hp}{p:Addr}{o:HO}(hp:H p=none):Same H (upd H p o):=fun b u e=>ev_eq (by rw[kak (kaj e hp)];exact e) fun t=>kd7 t (kaj e hp) (nx0 hp)
def kat{H H':Hp}{p:Addr}{o:HO}(hp:H p=none)(s:Same H H')(hx:NX H' p:=by first|exact nx (by assumption)|exact nx kad|exact kdj (nx (by assumption)) rfl|exact kdj (nx kad) rfl|exact kdj (nx0 (by assumption)) rfl|exact kdj (kdj (nx (by assumption)) rfl) rfl):Same H (upd H' p o):=fun b u e=>
 kbN (s b u e) fun u' e'=>ev_eq (by rw[kak (kaj e hp)];exact e') fun t=>kd7 t (kaj e hp) hx
def ka2{H:Hp}{x dx C:Addr}(hx:H x=none)(nd:H dx=none):Same H (upd (upd H dx (.own x)) x (.ins C dx [])):=fun b u e=>by
 have n1:=kaj e hx
 have n2:=kaj e nd
 exact ev_eq (by rw[kak n1,kak n2];exact e) fun t=>kd7 (kd7 t n2 (nx0 nd)) n1 (kdj (nx0 hx) rfl)
def kbR{H H':Hp}{x dx C:Addr}(hx:H x=none)(nd:H dx=none)(k:But x (upd (upd H dx (.own x)) x (.ins C dx [])) H'):Same H H':=fun b o e=>kbN (ka2 (C:=C) hx nd b o e) fun o' e'=>k b o' (kaj e hx) e'
def kdJ{H:Hp}{x dx C y:Addr}(h:(upd (upd H dx (.own x)) x (.ins C dx [])) y=none):H y=none:=by
 by_cases e1:y=x
 ·subst e1
  rw[kad] at h
  cases h
 ·rw[kak e1] at h
  by_cases e2:y=dx
  ·subst e2
   rw[kad] at h
   cases h
  ·rw[kak e2] at h
   exact h
def kg3{H:Hp}{x dx C y:Addr}{o:HO}(nx:H x=none)(nd:H dx=none)(h:H y>>o):(upd (upd H dx (.own x)) x (.ins C dx [])) y>>o:=by
 rw[kak (kaj h nx),kak (kaj h nd)]
 exact h
theorem kal{f:Str}{v:V}:∀{fs:List (Str×V)}{n:Nat},fs.length≤n→(putF f v fs).length≤n+1
 |[],n,_=>by
  show 1≤n+1
  lia
 | (g,x)::r,n,h=>by
  show(if g=f then(g,v)::r else(g,x)::putF f v r).length≤n+1
  have h':r.length+1≤n:=h
  split
  ·show r.length+1≤n+1
   lia
  ·show(putF f v r).length+1≤n+1
   have:=kal (f:=f) (v:=v) (fs:=r) (n:=n-1) (by lia)
   lia
def few{fs:List (Str×V)}(h:fs.length≤20):fs.length<1000:=by lia
theorem kbZ{ns:List Addr}{i:Nat}{x:V}(h:(ns.map V.ref)[i]?>>x):∃z,ns[i]?>>z∧x=V.ref z:=by
 rw[NO] at h
 cases e:ns[i]? with
 |none=>rw[e] at h;cases h
 |some z=>rw[e] at h;exact⟨z,rfl,(Option.some.inj h).symm⟩
theorem kbj{α:Type}{g: α→V}{ns:List α}{i:Nat}{x:V}(h:(ns.map g)[i]?>>x):∃z,ns[i]?>>z∧x=g z:=by
 rw[NO] at h
 cases e:ns[i]? with
 |none=>rw[e] at h;cases h
 |some z=>rw[e] at h;exact⟨z,rfl,(Option.some.inj h).symm⟩
def at_lt{α:Type}{xs:List α}{i:Nat}{x: α}(h:xs[i]?>>x):i<xs.length:=(NT.mp h).1
def at_of{α:Type}{xs:List α}{i:Nat}(h:i<xs.length):∃x,xs[i]?>>x:=⟨xs[i],by simp[h]⟩
def kb5{α:Type}{rs:List α}{i:Nat}{r: α}(h:rs[i]?>>r):rs.take (i+1)=rs.take i++[r]:=by
 rw[MT,h]
 rfl
inductive P2{α β:Type}(R: α→β→Prop):List α→List β→Prop
 |nil:P2 R [] []
 |cons {a: α} {b: β} {as:List α} {bs:List β} (h:R a b) (t:P2 R as bs):P2 R (a::as) (b::bs)
section
variable{α β:Type}{R R': α→β→Prop}{as as':List α}{bs bs':List β}
theorem P2.of(hl:as.length=bs.length)(h:∀(i:Nat)(a: α)(b: β),as[i]?>>a→bs[i]?>>b→R a b):P2 R as bs:=by
 induction as generalizing bs with
 |nil=>
  cases bs with
  |nil=>exact .nil
  |cons b bs=>cases hl
 |cons a as ih=>
  cases bs with
  |nil=>cases hl
  |cons b bs=>exact .cons (h 0 a b rfl rfl) (ih (by simpa using hl) fun i x y e1 e2=>h (i+1) x y (by simpa using e1) (by simpa using e2))
theorem P2.len(h:P2 R as bs):as.length=bs.length:=by
 induction h with
 |nil=>rfl
 |cons r t ih=>simp[ih]
theorem P2.get(h:P2 R as bs){i:Nat}{a: α}{b: β}(e1:as[i]?>>a)(e2:bs[i]?>>b):R a b:=by
 induction h generalizing i with
 |nil=>simp at e1
 | cons r t ih=>
  cases i with
  |zero=>
   simp at e1 e2
   subst e1 e2
   exact r
  |succ i=>exact ih (by simpa using e1) (by simpa using e2)
theorem P2.at(h:P2 R as bs){i:Nat}{a: α}(e1:as[i]?>>a):∃b,bs[i]?>>b∧R a b:=by
 obtain⟨b,e2⟩:=at_of (xs:=bs) (i:=i) (by rw[←h.len];exact at_lt e1)
 rwa[b,e2,h.get e1 e2]
theorem P2.mono(h:P2 R as bs)(k:∀a b,R a b→R' a b):P2 R' as bs:=by
 induction h with
 |nil=>exact .nil
 |cons r t ih=>exact .cons (k _ _ r) ih
theorem P2.append(h:P2 R as bs)(h':P2 R as' bs'):P2 R (as++as') (bs++bs'):=by
 induction h with
 |nil=>exact h'
 |cons r t ih=>exact .cons r ih
theorem P2.snoc(h:P2 R as bs){a: α}{b: β}(r:R a b):P2 R (as++[a]) (bs++[b]):=h.append (.cons r .nil)
end
theorem rep1(n:Nat)(v:V):(NI n [v]).flatten=NI n v:=by
 induction n with
 |zero=>rfl
 |succ n ih=>rw[ME,Me,ih,ME];rfl
def kjJ(n:Nat)(z:Int):NI n (V.int z)=(NI n z).map V.int:=by simp
def klZ(k:Int):(!decide (V.int k=V.non))=true:=by simp
def klY:(!decide (V.non=V.non))=false:=by simp
noncomputable def oV:Option Int→V
 |none=>.non
 |some z=>.int z
structure TxtB(mg:Str→Option Value):Prop where
 range:mg "range"=none
 len:mg "len"=none
 min:mg "min"=none
 max:mg "max"=none
 isi:mg "isinstance"=none
 bool:mg "bool"=none
 int:mg "int"=none
 list:mg "list"=none
 sum:mg "sum"=none
 enum:mg "enumerate"=none
 any:mg "any"=none
 all:mg "all"=none
 rev:mg "reversed"=none
 zip:mg "zip"=none
 abs:mg "abs"=none
 sorted:mg "sorted"=none
 tuple:mg "tuple"=none
 str:mg "str"=none
structure FunD(K:NF)(x qual:Str)(st:Stmt)(f:Addr)(fd:FuncData):Prop where
 ex:∃(oc:Value)(od:Option Addr)(dV kV doc pm:Value)(an:Option Addr)(cdv ct:Value)(osl:Array (Option Value)),
  fd=NY x qual (kaH st) (kaE st) (kai st) dV kV doc pm an cdv ct∧K.lookup f>>⟨oc,od, .func fd,osl⟩∧Mo K cdv qual=true
 kp:NZ K (.ref f)=true
theorem FunD.ok{P:Program}{w:World}{K:NF}{mg:Str→Option Value}{base:Heap}{x qual:Str}{st:Stmt}{f:Addr}{fd:FuncData}{N ps:List Str}{k:Nat}{sp:Sp}(F:FunD K x qual st f fd)(S:kar N ps (kai st))(len:∀vs H Q E,sp vs H Q E→vs.length=ps.length)
  (hbody:∀(cdv:Value)(A:Around)(outer:List Env)(s:Shared)(H:Hp)(vs:List V)(Q:VK)(E:XK),Room k (A.deeper (PyProof.Rows.envOfC qual (kai st) s.heap.objs.size f cdv))→sp vs H Q E→
   ∃t,PSs (cxOf CX0 P w K mg base N qual (kai st) f cdv A outer s H E).nox (kaE st) t∧t {nx:=fun _ H'=>Q .non H',rt:=Q} (start N vs) H):FnOk P w K mg base CX0 (k+1) f fd ps sp:=by
 obtain⟨oc,od,dV,kV,doc,pm,an,cdv,ct,osl,rfl,lk,hcd⟩:=F.ex
 refine fn_of lk hcd S len fun A outer s H vs Q E hr hsp=>?_
 obtain⟨t,h,q⟩:=hbody cdv A outer s H vs Q E hr hsp
 rwa[t,h.nox,q]
theorem FunD.okC{P:Program}{w:World}{K:NF}{mg:Str→Option Value}{base:Heap}{x qual:Str}{st:Stmt}{f:Addr}{fd:FuncData}{N ps:List Str}{k:Nat}{sp:Sp}(F:FunD K x qual st f fd)(S:kar N ps (kai st))(len:∀vs H Q E,sp vs H Q E→vs.length=ps.length)
  (hbody:∀(A:Around)(outer:List Env)(s:Shared)(H:Hp)(vs:List V)(Q:VK)(E:XK),Room k (A.deeper (PyProof.Rows.envOfC qual (kai st) s.heap.objs.size f fd.code))→sp vs H Q E→
   ∃t,PSs (cxOf CX0 P w K mg base N qual (kai st) f fd.code A outer s H E).nox (kaE st) t∧t {nx:=fun _ H'=>Q .non H',rt:=Q} (start N vs) H):FnOk P w K mg base CX0 (k+1) f fd ps sp:=by
 obtain⟨oc,od,dV,kV,doc,pm,an,cdv,ct,osl,rfl,lk,hcd⟩:=F.ex
 refine fn_of lk hcd S len fun A outer s H vs Q E hr hsp=>?_
 obtain⟨t,h,q⟩:=hbody A outer s H vs Q E hr hsp
 rwa[t,h.nox,q]
theorem kbB{K:NF}{x qual:Str}{st:Stmt}{f:Addr}{oc:Value}{od an:Option Addr}{osl:Array (Option Value)}{dV kV doc pm cdv ct:Value}(l:K.lookup f>>⟨oc,od, .func (NY x qual (kaH st) (kaE st) (kai st) dV kV doc pm an cdv ct),osl⟩)
  (c:Mo K cdv qual=true)(k:NZ K (.ref f)=true):FunD K x qual st f (NY x qual (kaH st) (kaE st) (kai st) dV kV doc pm an cdv ct):=⟨⟨oc,od,dV,kV,doc,pm,an,cdv,ct,osl,rfl,l,c⟩,k⟩
structure Dn(K:NF)(mg:Str→Option Value)(x:Str)(st:Stmt)(ps:List Str)(f:Addr)(fd:FuncData):Prop where
 F:FunD K x x st f fd
 b:Binds K fd ps []
 m:mg x>>(.ref f)
structure Isi(K:NF)(C:Addr):Prop where
 ha:NH K (.ref C) "__class__">>(some (.builtin "object.__class__"))
 hn:EC K (.builtin "object.__class__") "__get__">>(some (.builtin "getset_descriptor.__get__"))
 ht:Dj K (.builtin "object.__class__")>>true
 hm:NN K C (.type "object")>>true
def kaR{K:NF}{A B:Addr}{b:Bool}(mA:NN K A (.ref B)>>b)(ob:NN K B (.type "object")>>true)(ty:Mn K (.ref B)>>(.type "type"))(ne:A≠B):NU K (.ref A) (.ref B)>>b:=by
 have e:(Value.ref A==Value.ref B)=false:=beq_eq_false_iff_ne.mpr fun z=>ne (by injection z)
 obtain⟨cd,a,_⟩:=Option.bind_eq_some_iff.mp ob
 unfold NU PySem.W.kitCls Dp
 rw[e,if_neg NP]
 show(if((PySem.W.clsIn K B).isSome&&Mn K (.ref B)==some (.type "type"))=true then NN K A (.ref B) else none)>>b
 rw[a,ty,mA,if_pos (by simp)]
def kbv{K:NF}{A B:Addr}(h:NN K A (.ref B)>>false)(hA:NN K A (.ref A)>>true):A≠B:=fun e=>by
 rw[←e,hA] at h
 cases h
structure ClsT(K:NF)(mg:Str→Option Value)(nm:Str)(C:Addr):Prop where
 cl:Cls K C
 m:mg nm>>(.ref C)
 isi:Isi K C
 self:NN K C (.ref C)>>true
 ty:Mn K (.ref C)>>(.type "type")
 makes:Mq K C=true
 kp:NZ K (.ref C)=true
structure MthT(K:NF)(C:Addr)(m qual:Str)(st:Stmt)(ps:List Str)(f:Addr)(fd:FuncData):Prop where
 at_:NH K (.ref C) m>>(some (.ref f))
 fn:Mw K (.ref f)=true
 F:FunD K m qual st f fd
 b:Binds K fd ps []
def MthT.me{K:NF}{C:Addr}{m qual:Str}{st:Stmt}{ps:List Str}{f:Addr}{fd:FuncData}(h:MthT K C m qual st ps f fd):Meth K C m f:=⟨h.at_,h.fn,h.F.kp⟩
def MthT.mk'{K:NF}{mg:Str→Option Value}{C:Addr}{nm qual:Str}{st:Stmt}{ps:List Str}{f:Addr}{fd:FuncData}(h:MthT K C "__init__" qual st ps f fd)(c:ClsT K mg nm C):Mk K C f:=⟨c.makes,h.at_,h.fn,c.kp⟩
section
variable{X:Cx}
theorem pcl{k:Nat}{f:Addr}{fd:FuncData}{ps:List Str}{sp:Sp}{x:Str}{st:Stmt}{e:Expr}{es:List Expr}{t:TA}{p pos:Pos}(F:FnOk X.prog X.w X.K X.mg X.base CX0 k f fd ps sp)(hr:Room k X.A)(D:Dn X.K X.mg x st ps f fd)(ha:PA X (e::es) t)
  (hg:autoParam (Gl X x) jz)(hdb:autoParam ((x==("__debug__" :Str))=false) jQ)(he:autoParam (starEach (e::es) X.env=(false,eval e X.env)::starEach es X.env) jz)(hpl:autoParam ((backTo pos (starEach es X.env)).any (·.1)=false) jz):
  PE X (.Call (.Name x p) (e::es) [] pos) (tCall sp [] E0 t):=kjZ F hr hg D.m D.F.kp D.b .nil pass0 ha hdb he hpl
theorem psl{i:Nat}{x:Str}{e:Expr}{te:TE}{pos pos':Pos}(hN:X.N.Nodup)(he:PE X e te)(hi:autoParam (X.N[i]?>>x) jz)(hx:autoParam (Loc X.env.scope x) jZ)(hs:autoParam (swapsWith e (some (.Name x pos')) pos.line X.env=pure false) jz)(hf:autoParam (X.fn x=true∨X.env.scope.names.lookup x>>.local) jX):
  PS X (.Assign [.Name x pos'] e pos) (tAsg te (gName i)):=km4 hN hi hx he hs hf
theorem pgn{i:Nat}{x:Str}{pos:Pos}(hN:X.N.Nodup)(hi:autoParam (X.N[i]?>>x) jz)(hx:autoParam (Loc X.env.scope x) jZ)(hf:autoParam (X.fn x=true∨X.env.scope.names.lookup x>>.local) jX):PG X (.Name x pos) (gName i):=kmz hN hi hx hf
end
section
variable{X:Cx}
end
structure ExStep(fr:List Addr)(ol:List Addr)(e:Addr)(oe:Obj)(T:Addr)(fl:Value)(h h':Heap):Prop where
 keep:∀b o,h.get? b>>o→b∉fr→b≠e→b∉ol→h'.get? b>>o
 slot:∀b o,h.get? b>>o→b∈fr→b∉ol→b≠e→∃sl,h'.get? b>>{o with slots:=sl}
 ex:h'.get? e>>(oe.mapFields (·.setIfInBounds 1 (.ref T)))
 new:h.get? T=none
 sz:h.objs.size≤T
 there:∀b o,h.get? b>>o→∃o',h'.get? b>>o'
 tb:∃oT ts,h'.get? T>>oT∧oT.data=.fields ts∧ts[3]?>>fl
section
variable{M:Model}{A:Around}{E:Value→Shared→Prop}{s:Shared}
theorem kiE{base:Heap}{env:Env}{outer:List Env}{L e:Addr}{oe:Obj}{vs:Array Value}{head:Value}{hadNext:Bool}{Q:Unit→Shared→Prop}
  (hfr:A.frames>>(env::outer))(hl:s.heap.FunFrames base (env::outer))(hf:env.frame>>L)(he:s.heap.get? e>>oe)(hd:oe.data=.fields vs)(hsz:1<vs.size)
  (h:∀h' T,ExStep (frs (env::outer)) [] e oe T (rawInt L) s.heap h'→Q () {s with heap:=h'}):
  wpAny M A (do let a ←frameOf env;let pl ←entryPlaceOf L hadNext;let b ←EntryCells.newEntry head a .none (rawInt L) .none pl;setField (.ref e) 1 b) Q E s:=by
 have hene:e∉frs (env::outer):=fun hm=>by
  obtain⟨_,o,ho,hnf⟩:=hl.mem hm
  rw[he] at ho
  cases ho
  exact hnf vs hd
 refine wpAny_bind (wpAny_frameOf_fun hfr hl hf fun h₁ hs₁=>?_)
 refine wpAny_bind (wpAny_entryPlaceOf fun pl hpl=>?_)
 unfold EntryCells.newEntry newFields
 refine wpAny_bind (wpAny_newObj_type ?_ (hpl.sizeOk5 _ _ _ _ _))
 have he₁:h₁.get? e>>oe:=(hs₁.2.1 e hene).trans he
 generalize hob:({cls:=.type "traceback",dict:=none,data:=.fields ([head, .ref L, .none,rawInt L, .none]++(if pl.isEmpty then NI 6 Value.none else pl)).toArray}:Obj)=ob
 have he₂:=Heap.get?_push_of_some (h:=h₁) ob he₁
 refine wpAny_setField he₂ hd hsz (h _ h₁.objs.size ?_)
 have hTe:h₁.objs.size≠e:=MA (Heap.lt_size he₁)
 have hd₃:=Obj.data_mapFields hd (·.setIfInBounds 1 (Value.ref h₁.objs.size))
 have kp:∀b o,b≠e→h₁.get? b>>o→((h₁.push ob).update e (Obj.mapFields (·.setIfInBounds 1 (Value.ref h₁.objs.size)))).get? b>>o:=fun b o hbe hb=>by
  rw[Heap.get?_update_other _ _ (Ne.symm hbe)]
  exact Heap.get?_push_of_some _ hb
 have ex:=Heap.get?_update_self (Obj.mapFields (·.setIfInBounds 1 (Value.ref h₁.objs.size))) he₂ (Obj.isFreed_of_fields hd₃)
 rwa[fun b o hb hnf hbe _=>kp b o hbe ((hs₁.2.1 b hnf).trans hb),fun b o hb _ _ hbe=>?_,ex,Heap.get?_none_of_le (by rw[hs₁.1];exact NG _),by rw[hs₁.1];exact NG _,fun b o hb=>?_,?_]
 ·obtain⟨sl,e1⟩:=hs₁.2.2 b o hb
  rwa[sl,kp b _ hbe e1]
 ·by_cases hbe:b=e
  ·rw[hbe]
   rwa[_,ex]
  ·obtain⟨sl,e1⟩:=hs₁.2.2 b o hb
   rwa[_,kp b _ hbe e1]
 ·subst hob
  rwa[_,_,(Heap.get?_update_other _ _ (Ne.symm hTe)).trans (Heap.get?_push_size h₁ rfl),6,?_]
  rcases hpl with rfl|⟨_,_,_,_,_,_,_,rfl⟩ <;> simp
theorem ExStep.nT{fr ol:List Addr}{e T:Addr}{oe:Obj}{fl:Value}{h h':Heap}(x:ExStep fr ol e oe T fl h h'){b:Addr}{o:Obj}(hb:h.get? b>>o):T≠b:=fun z=>by
 have:=x.new
 rw[z,hb] at this
 cases this
theorem kha{fr ol:List Addr}{e T:Addr}{oe:Obj}{vs:Array Value}{fl:Value}{h:Heap}{Q:Unit→Shared→Prop}(x:ExStep fr ol e oe T fl h s.heap)(hoe:h.get? e>>oe)(hd:oe.data=.fields vs)(hsz:1<vs.size)
  (k:∀h',ExStep fr ol e oe T .none h h'→Q () {s with heap:=h'}):wpAny M A (setFlight (.ref e) none) Q E s:=by
 obtain⟨oT,ts,hT,hdT,h3⟩:=x.tb
 have nTe:=x.nT hoe
 have hd₃:=Obj.data_mapFields hd (·.setIfInBounds 1 (Value.ref T))
 have hz:3<ts.size:=(M7.mp h3).1
 unfold setFlight
 refine wpAny_bind (wpAny_field x.ex hd₃ (x:=.ref T) (by simp[hsz]) ?_)
 rw[if_pos (show(Value.ref T !=Value.none)=true from by simp)]
 have hdT':=Obj.data_mapFields hdT (·.setIfInBounds 3 ((none:Option Addr).elim Value.none fun f=>rawInt f))
 refine wpAny_setField hT hdT hz (k _ ⟨fun b o hb h1 h2 h3=>?_,fun b o hb h1 h2 h3=>?_,?_,x.new,x.sz,fun b o hb=>?_,_,_,Heap.get?_update_self _ hT (Obj.isFreed_of_fields hdT'),hdT',?_⟩)
 ·rw[Heap.get?_update_other _ _ (x.nT hb)]
  exact x.keep b o hb h1 h2 h3
 ·rw[Heap.get?_update_other _ _ (x.nT hb)]
  exact x.slot b o hb h1 h2 h3
 ·rw[Heap.get?_update_other _ _ nTe]
  exact x.ex
 ·rw[Heap.get?_update_other _ _ (x.nT hb)]
  exact x.there b o hb
 ·simp[hz]
theorem kgo{base:Heap}{env:Env}{outer:List Env}{L e:Addr}{oe:Obj}{vs:Array Value}{Q:Unit→Shared→Prop}
  (hfr:A.frames>>(env::outer))(hl:s.heap.FunFrames base (env::outer))(hf:env.frame>>L)(he:s.heap.get? e>>oe)(hd:oe.data=.fields vs)(h1:vs[1]?>>.none)
  (h:∀h' T,ExStep (frs (env::outer)) [] e oe T (rawInt L) s.heap h'→Q () {s with heap:=h'}):wpAny M A (noteFrame (.ref e) env) Q E s:=by
 unfold noteFrame
 simp only[hf]
 refine wpAny_bind (wpAny_field he hd h1 ?_)
 rw[if_neg (by decide)]
 exact kiE hfr hl hf he hd (M7.mp h1).1 h
theorem kg9{base:Heap}{env:Env}{outer:List Env}{L e T0:Addr}{oe oT:Obj}{vs ts:Array Value}{Q:Unit→Shared→Prop}
  (hfr:A.frames>>(env::outer))(hl:s.heap.FunFrames base (env::outer))(hf:env.frame>>L)(he:s.heap.get? e>>oe)(hd:oe.data=.fields vs)(h1:vs[1]?>>(.ref T0))(nT:T0≠e)(hT:s.heap.get? T0>>oT)(hdT:oT.data=.fields ts)(h3:ts[3]?>>.none)
  (h:∀h' T,ExStep (frs (env::outer)) [T0] e oe T (rawInt L) s.heap h'→Q () {s with heap:=h'}):wpAny M A (noteFrame (.ref e) env) Q E s:=by
 unfold noteFrame
 simp only[hf]
 refine wpAny_bind (wpAny_field he hd h1 ?_)
 rw[if_pos (show(Value.ref T0 !=Value.none)=true from by simp)]
 refine wpAny_bind (wpAny_field hT hdT h3 ?_)
 rw[if_neg (show ¬((Value.none==rawInt L)=true) from by simp[rawInt])]
 refine wpAny_bind (wpAny_setField hT hdT (M7.mp h3).1 ?_)
 have other:∀b,b≠T0→(s.heap.update T0 (Obj.mapFields (·.setIfInBounds 3 Value.none))).get? b=s.heap.get? b:=fun b hb=>Heap.get?_update_other _ _ (Ne.symm hb)
 have hdT':=Obj.data_mapFields hdT (·.setIfInBounds 3 Value.none)
 have self0:=Heap.get?_update_self (Obj.mapFields (·.setIfInBounds 3 Value.none)) hT (Obj.isFreed_of_fields hdT')
 have nrec:∀b o,s.heap.get? b>>o→(∀vs,o.data≠.fields vs)→b≠T0:=fun b o hb hnf q=>by
  rw[q,hT] at hb
  cases hb
  exact hnf ts hdT
 refine kiE (s:={s with heap:=s.heap.update T0 (Obj.mapFields (·.setIfInBounds 3 Value.none))}) hfr (hl.of_keeps fun b o hb hnf=>⟨o,(other b (nrec b o hb hnf)).trans hb,rfl⟩) hf ((other e (Ne.symm nT)).trans he) hd (M7.mp h1).1 fun h' T x=>h h' T ?_
 have ol:∀b o,s.heap.get? b>>o→∃o',(s.heap.update T0 (Obj.mapFields (·.setIfInBounds 3 Value.none))).get? b>>o':=fun b o hb=>by
  by_cases z:b=T0
  ·rw[z]
   rwa[_,self0]
  ·rwa[o,(other b z).trans hb]
 have nn:∀{b:Addr},b∉[T0]→b≠T0:=fun {b} h z=>h (by rw[z];simp)
 rwa[fun b o hb h1 h2 h3=>x.keep b o ((other b (nn h3)).trans hb) h1 h2 (by simp),fun b o hb h1 h2 h3=>x.slot b o ((other b (nn h2)).trans hb) h1 (by simp) h3,x.ex,?_,?_,fun b o hb=>?_,x.tb]
 ·have z:=x.sz
  exact Heap.get?_none_of_le (by rw[Heap.size_update] at z;exact z)
 ·have z:=x.sz
  rw[Heap.size_update] at z
  exact z
 ·obtain⟨o',e'⟩:=ol b o hb
  exact x.there b o' e'
theorem kfv{base:Heap}{env:Env}{outer:List Env}{L e:Addr}{oe:Obj}{vs:Array Value}{Q:Unit→Shared→Prop}
  (hfr:A.frames>>(env::outer))(hl:s.heap.FunFrames base (env::outer))(hf:env.frame>>L)(he:s.heap.get? e>>oe)(hd:oe.data=.fields vs)(h1:vs[1]?>>.none)
  (h:∀h' T,ExStep (frs (env::outer)) [] e oe T .none s.heap h'→Q () {s with heap:=h'}):wpAny M A (leaving env (.ref e)) Q E s:=by
 unfold leaving
 refine wpAny_bind (kgo hfr hl hf he hd h1 fun h' T x=>?_)
 exact kha x he hd (M7.mp h1).1 fun h'' y=>h h'' T y
end
theorem ObjOk.get{P:Program}{w:World}{H:Hp}{h:Heap}{a:Addr}{o:HO}(x:ObjOk P w H h a o):∃q,h.get? a>>q:=by
 cases o with
 |lst xs=>obtain⟨_,_,_,_,e⟩:=x;exact⟨_,e⟩
 |tup xs=>obtain⟨_,_,_,q,e,_⟩:=x;exact⟨_,e⟩
 |dK kvs=>obtain⟨_,_,_,_,o,_,_,e,_⟩:=x;exact⟨_,e⟩
 |dT kvs=>obtain⟨_,_,_,_,o,_,_,e,_⟩:=x;exact⟨_,e⟩
 |set S n=>obtain⟨o,_,_,_,e,_⟩:=x;exact⟨_,e⟩
 |ins C dx fs=>obtain⟨_,_,_,e,_⟩:=x;exact⟨_,e⟩
 |own y=>obtain⟨_,e⟩:=x;exact⟨_,e⟩
 |xd fs=>obtain⟨_,⟨_,_,_,e,_⟩,_⟩:=x;exact⟨_,e⟩
 |rng lo hi=>obtain⟨_,_,_,e⟩:=x;exact⟨_,e⟩
 |frz ob u=>obtain⟨e,_⟩:=x;exact⟨_,e⟩
 |tbl ps=>exact⟨_,(show h.get? a>>_ from x)⟩
 |met f y=>exact⟨_,(show h.get? a>>_ from x)⟩
 |ext φ=>obtain⟨_,⟨_,e⟩,_⟩:=x;exact⟨_,e⟩
theorem HOk.no{P:Program}{w:World}{H:Hp}{h:Heap}{a:Addr}(x:HOk P w H h)(e:h.get? a=none):H a=none:=by
 cases q:H a with
 |none=>rfl
 |some o=>
  obtain⟨_,e'⟩:=(x a o q).get
  rw[e] at e'
  cases e'
structure ExT(h:Heap)(a T:Addr)(cls:Value)(dx:Option Addr):Prop where
 ob:∃oe vs,h.get? a>>oe∧oe.cls=cls∧oe.dict=dx∧oe.data=.fields vs∧vs[1]?>>(.ref T)
 ne:T≠a
 tb:∃oT ts,h.get? T>>oT∧oT.data=.fields ts∧ts[3]?>>.none
def CX1(P:Program)(w:World):CXT:=fun outer H s E e s'=>∃(a T:Addr)(cls:Value)(dx:Option Addr)(H':Hp),e=.ref a∧s'.os=s.os∧AllBare s'.gens∧Un (frs outer) [] H H' s.heap s'.heap∧HOk P w H' s'.heap∧s.heap.get? a=none∧H' a=none∧s.heap.get? T=none∧H' T=none∧ExT s'.heap a T cls dx∧E cls dx H'
def ExStep.ext{fr ol:List Addr}{e T:Addr}{oe:Obj}{vs:Array Value}{h h':Heap}(x:ExStep fr ol e oe T .none h h')(he:h.get? e>>oe)(hd:oe.data=.fields vs)(hz:1<vs.size):ExT h' e T oe.cls oe.dict:=by
 rwa[⟨_,_,x.ex,Obj.cls_mapFields _ _,?_,Obj.data_mapFields hd _,by simp[hz]⟩,x.nT he,x.tb]
 obtain⟨c,d,dt,sl⟩:=oe
 cases dt <;> rfl
theorem Un.ex{fs ol ex:List Addr}{env:Env}{outer:List Env}{L e T:Addr}{oe:Obj}{fl:Value}{H0 H:Hp}{h0 h h1 h':Heap}(u:Un (frs outer) ex H0 H h0 h)(hf:env.frame>>L)(hL:h0.objs.size≤L)(kp:∀b o,h.get? b>>o→h1.get? b>>o)(x:ExStep (frs (env::outer)) ol e oe T fl h1 h')(h0e:h0.get? e=none)(hol:∀b∈ol,h0.get? b=none):Un (frs outer) ex H0 H h0 h':=by
 have nL:∀b o,h0.get? b>>o→b≠L:=fun b o e z=>absurd (Heap.lt_size e) (by rw[z];exact EE.mpr hL)
 have ne:∀b o,h0.get? b>>o→b≠e:=fun b o q z=>by
  rw[z,h0e] at q
  cases q
 have nol:∀b o,h0.get? b>>o→b∉ol:=fun b o q z=>by
  rw[hol b z] at q
  cases q
 have nfr:∀b o,h0.get? b>>o→b∉frs outer→b∉frs (env::outer):=fun b o q hb z=>by
  unfold frs at z hb
  rw[M9,hf] at z
  rcases N5.mp z with z|z
  ·exact nL b o q z
  ·exact hb z
 have ifr:∀b,b∈frs outer→b∈frs (env::outer):=fun b hb=>by
  unfold frs at hb⊢
  rw[M9,hf]
  exact N2 _ hb
 rwa[fun b o q n hb hx=>x.keep b o (kp b o (u.keep b o q n hb hx)) (nfr b o q hb) (ne b o q) (nol b o q),fun b o q n hb hx=>?_,u.free,fun b o q hx=>?_,u.tups,u.frzs,u.tbls]
 ·obtain⟨sl,e1⟩:=u.slot b o q n hb hx
  obtain⟨sl2,e2⟩:=x.slot b _ (kp b _ e1) (ifr b hb) (nol b o q) (ne b o q)
  rwa[sl2,e2]
 ·obtain⟨o',e1⟩:=u.there b o q hx
  exact x.there b o' (kp b o' e1)
def Rz(X:Cx)(EX:XK):Prop:=∀(pins:List (Addr×Obj))(σ:St)(H:Hp)(s:Shared)(e:Addr)(h1:Heap)(oe:Obj)(vs:Array Value)(t:Nat),Inv X pins σ H s→(∀b o,s.heap.get? b>>o→h1.get? b>>o)→s.heap.get? e=none→h1.get? e>>oe→oe.data=.fields vs→vs[1]?>>.none→EX oe.cls oe.dict H→X.xe (.ref e) {s with heap:=h1,toks:=t}
section
variable{P:Program}{w:World}{K:NF}{mg:Str→Option Value}{base:Heap}{N:List Str}{qual:Str}{scope:Scope}{f:Addr}{cd:Value}{A:Around}{outer:List Env}{s₀:Shared}{H₀:Hp}{E:XK}
theorem rz_cx:Rz (cxOf (CX1 P w) P w K mg base N qual scope f cd A outer s₀ H₀ E) E:=by
 intro pins σ H s e h1 oe vs t I kp hn he hd h1n hE
 have hsz:1<vs.size:=(M7.mp h1n).1
 have he0:s₀.heap.get? e=none:=by
  cases q:s₀.heap.get? e with
  |none=>rfl
  |some o=>
   obtain⟨o',z⟩:=I.base.there e o q (by intro z;cases z)
   rw[hn] at z
   cases z
 have hHe:=I.hok.no hn
 refine kfv (s:={s with heap:=h1,toks:=t}) I.ok.frames (base:=base) (I.stack.of_keeps fun b o hb _=>⟨o,kp b o hb,rfl⟩) rfl he hd h1n fun h' T x=>?_
 have hT1:s.heap.get? T=none:=by
  cases q:s.heap.get? T with
  |none=>rfl
  |some o=>
   have:=kp _ _ q
   rw[x.new] at this
   cases this
 have hT0:s₀.heap.get? T=none:=by
  cases q:s₀.heap.get? T with
  |none=>rfl
  |some o=>
   obtain⟨o',z⟩:=I.base.there T o q (by intro z;cases z)
   rw[hT1] at z
   cases z
 rwa[e,T,oe.cls,oe.dict,H,6,I.os,I.bare,I.base.ex (fs:=[]) (L:=s₀.heap.objs.size) (env:=PyProof.Rows.envOfC qual scope s₀.heap.objs.size f cd) rfl (NG _) kp x he0 (fun b hb=>by cases hb),fun b u q=>?_,he0,hHe,hT0,I.hok.no hT1,x.ext he hd hsz,hE]
 have nst:∀{b:Addr}{u:HO},H b>>u→b∉frs (PyProof.Rows.envOfC qual scope s₀.heap.objs.size f cd::outer):=fun {b u} q z=>by
  have:=I.stkFree b z
  rw[q] at this
  cases this
 refine(I.hok b u q).stay (fun c v hc r=>?_) (fun _ r=>r) fun _ _ r=>r
 have tr:∃o,H c>>o:=by
  rcases hc with rfl|hc
  ·rwa[u,q]
  ·rwa[_,hc]
 obtain⟨o,eo⟩:=tr
 exact x.keep c v (kp c v r) (nst eo) (kaj eo hHe) (by simp)
end
def FnOk.calm{P:Program}{w:World}{K:NF}{mg:Str→Option Value}{base:Heap}{k:Nat}{f:Addr}{fd:FuncData}{ps:List Str}{sp:Sp}(F:FnOk P w K mg base (CX1 P w) k f fd ps sp):FnOk P w K mg base CX0 k f fd ps fun vs H Q _=>sp vs H Q E0:=
 ⟨fun vs H Q E h=>F.len vs H Q E0 h,fun A outer s H args us vs Q E hr he hb hv hs=>codeAny_mono (F.run A outer s H args us vs Q E0 hr he hb hv hs) fun r s' h=>by
  cases r with
  |ok fl=>cases fl <;> exact h
  |error e=>
   obtain⟨_,_,_,_,_,_,_,_,_,_,_,_,_,_,_,z⟩:=h
   exact z.elim⟩
theorem FunD.okX{P:Program}{w:World}{K:NF}{mg:Str→Option Value}{base:Heap}{x qual:Str}{st:Stmt}{f:Addr}{fd:FuncData}{N ps:List Str}{k:Nat}{sp:Sp}(F:FunD K x qual st f fd)(S:kar N ps (kai st))(len:∀vs H Q E,sp vs H Q E→vs.length=ps.length)
  (hbody:∀(cdv:Value)(A:Around)(outer:List Env)(s:Shared)(H:Hp)(vs:List V)(Q:VK)(E:XK),Room k (A.deeper (PyProof.Rows.envOfC qual (kai st) s.heap.objs.size f cdv))→sp vs H Q E→
   ∃t,PSs (cxOf (CX1 P w) P w K mg base N qual (kai st) f cdv A outer s H E) (kaE st) t∧t {nx:=fun _ H'=>Q .non H',rt:=Q} (start N vs) H):FnOk P w K mg base (CX1 P w) (k+1) f fd ps sp:=by
 obtain⟨oc,od,dV,kV,doc,pm,an,cdv,ct,osl,rfl,lk,hcd⟩:=F.ex
 exact fn_of lk hcd S len fun A outer s H vs Q E hr hsp=>hbody cdv A outer s H vs Q E hr hsp
def kmj(EX:XK)(C:Addr):TS:=fun _ _ H=>EX (.ref C) none H
def kjQ{X:Cx}{EX:XK}{x:Str}{C:Addr}{B newId initId:String}{bm:List Value}{np cpos pos:Pos}(O:OwnCls x C bm newId X.mg X.base)(FB:ExcBaseFacts B newId initId bm)(hx:Rz X EX)(hc:X.calm=true)(hg:autoParam (Gl X x) jz)(hdb:autoParam ((x==("__debug__" :Str))=false) jQ):
  PS X (.Raise (some (.Call (.Name x np) [] [] cpos)) none pos) (kmj EX C):=by
 intro pins s σ H D I h
 obtain⟨tl,N,nm,q,bs,hdct,sn,sub,ab,col,dd,k0,k1,k2,k3,k5,mN,hC,hN,hni,T⟩:=O.obj
 refine wpAny_Raise_call_subT (C:=C) (nm:=nm) (q:=q) (N:=N) (bs:=bs) (bm:=tl) (hdct:=hdct) (sn:=sn) (sub:=sub) (ab:=ab) (col:=col) (dd:=dd) (k0:=k0) (k1:=k1) (k2:=k2) (k3:=k3) (k5:=k5)
  FB (mN:=mN) (T.hasType FB.hasBase) (I.ok.hd hc) rfl hni (kd4 I hg O.bound ⟨rfl,?_⟩ hdb)
 refine evalArgs_empty ⟨rfl,Mf _,I.bk _ _ hC,hN.keeps I.bk,T.keeps I.bk,fun h' e hm=>?_⟩
 obtain⟨t,ht,_,_⟩:=hm.there
 exact hx pins σ H s e h' _ _ s.toks I hm.keeps hm.new ht rfl rfl h
structure Top1(X:Cx):Prop where
 st:X.stack=X.env::X.outer
 fr:X.env.frame>>X.env.locals
 fn:∀y,X.fn y=true
 ex0:X.ex=[]
structure Fre(X:Cx)(pins:List (Addr×Obj))(H:Hp)(b:Addr):Prop where
 no:H b=none
 s0:X.s₀.heap.get? b=none
 pin:∀p∈X.pn++pins,p.1≠b
theorem Inv.exs{X:Cx}{pins:List (Addr×Obj)}{σ:St}{H:Hp}{s:Shared}{e T:Addr}{ol:List Addr}{oe:Obj}{vs:Array Value}{fl:Value}{h':Heap}{tk:Nat}(I:Inv X pins σ H s)(TX:Top1 X)(x:ExStep (frs X.stack) ol e oe T fl s.heap h')(he:s.heap.get? e>>oe)(hd:oe.data=.fields vs)(fe:Fre X pins H e)
  (fo:∀b∈ol,Fre X pins H b∧∃ob ts,s.heap.get? b>>ob∧ob.data=.fields ts):Inv X pins σ H {s with heap:=h',toks:=tk}:=by
 have nfld:∀{b:Addr}{o:Obj},s.heap.get? b>>o→(∀vs,o.data≠.fields vs)→b≠e∧b∉ol:=fun {b o} hb hn=>⟨fun z=>by
  rw[z,he] at hb
  cases hb
  exact hn vs hd,fun z=>by
  obtain⟨_,ob,ts,h1,h2⟩:=fo b z
  rw[hb] at h1
  cases h1
  exact hn ts h2⟩
 have mem:X.env.locals∈frs X.stack:=by
  rw[TX.st]
  unfold frs
  rw[M9,TX.fr]
  exact N4 ..
 have nfr:∀{b:Addr},b≠X.env.locals→b∉X.fs→b∉frs X.stack:=fun {b} h1 h2 z=>by
  rw[TX.st] at z
  unfold frs at z
  rw[M9,TX.fr] at z
  rcases N5.mp z with z|z
  ·exact h1 z
  ·exact h2 z
 have cl:∀{y:Str}{c:Addr}{v:Option Value},X.env.cells.lookup y>>c→s.heap.IsCell c v→h'.IsCell c v:=fun {y c v} hc ⟨o,ho,hdc⟩=>by
  obtain⟨n1,n2⟩:=nfld ho (fun vs q=>by rw[hdc] at q;cases q)
  rwa[o,x.keep c o ho (nfr (fun z=>?_) fun z=>?_) n1 n2,hdc]
  ·obtain⟨m,⟨o',es,ep,ho',hd',_⟩,_⟩:=I.loc
   rw[←z,ho] at ho'
   cases ho'
   rw[hdc] at hd'
   cases hd'
  ·obtain⟨_,o',ho',_⟩:=I.ok.funs.mem z
   exact absurd (Heap.lt_size ho') (EE.mpr (I.ok.cab y c (TX.fn y) hc))
 rwa[I.ok,I.os,I.bare,?_,?_,fun y c hc=>?_,I.free,I.freeC,fun p hp=>?_,fun b u q=>?_,I.len]
 ·rw[TX.st] at x
  exact I.base.ex (fs:=[]) (L:=X.env.locals) (env:=X.env) TX.fr I.ok.above (fun _ _ q=>q) x fe.s0 fun b hb=>(fo b hb).1.s0
 ·obtain⟨m,⟨o,es,ep,ho,hdo,r⟩,hl⟩:=I.loc
  obtain⟨n1,n2⟩:=nfld ho (fun vs q=>by rw[hdo] at q;cases q)
  obtain⟨sl,hs⟩:=x.slot _ o ho mem n2 n1
  rwa[m,⟨_,es,ep,hs,hdo,r⟩,fun i y v h1 h2 h3=>?_]
  obtain⟨u,ru,lk⟩:=hl i y v h1 h2 h3
  rwa[u,ru,?_]
  rcases lk with lk|⟨k,c,hc,z⟩
  ·exact .inl lk
  ·exact .inr ⟨k,c,hc,cl hc z⟩
 ·obtain⟨v,z⟩:=I.cell y c hc
  rwa[v,cl hc z]
 ·obtain⟨h1,h2,h3,h4,h5⟩:=I.pin p hp
  rwa[x.keep p.1 p.2 h1 (nfr h3 h4) (fe.pin p hp) (fun z=>(fo p.1 z).1.pin p hp rfl),h2,h3,h4,h5]
 ·refine(I.hok b u q).stay (fun c v hc r=>?_) (fun _ r=>r) fun _ _ r=>r
  obtain⟨o,eo⟩:∃o,H c>>o:=by
   rcases hc with rfl|hc
   ·rwa[u,q]
   ·rwa[_,hc]
  refine x.keep c v r (fun z=>?_) (kaj eo fe.no) fun z=>?_
  ·have:=I.stkFree c z
   rw[eo] at this
   cases this
  ·have:=(fo c z).1.no
   rw[eo] at this
   cases this
theorem keC{X:Cx}{pins:List (Addr×Obj)}{σ:St}{H:Hp}{s:Shared}{n:Str}{i:Nat}{pos:Pos}{M:Model}{A:Around}{E:Value→Shared→Prop}{Q:Unit→Shared→Prop}(I:Inv X pins σ H s)(hN:X.N.Nodup)(hi:X.N[i]?>>n)(hl:X.env.kindOf n>>.local)
  (h:∀s',Inv X pins (σ.set i none) H s'→Q () s'):wpAny M A (do bindName X.env n .none;unbindBehindTheSuite X.env n pos) Q E s:=by
 obtain⟨m,hn,hlk⟩:=id I.loc
 have hcls:(X.env.scope.kind== .class||(X.env.scope.kind== .module&&X.env.locals !=X.env.globals))=false:=by rw[I.ok.kind];rfl
 have hiN:=(NT.mp hi).1
 refine wpAny_nameGoes_keeps hl hn hcls fun h' v hn' hs=>h _ ?_
 have szL:=I.ok.above
 have kp:∀{b:Addr}{o:Obj},b≠X.env.locals→s.heap.get? b>>o→h'.get? b>>o:=fun {b o} nb e=>(hs.2 b nb).trans e
 have nL:∀{b:Addr}{o:Obj},X.s₀.heap.get? b>>o→b≠X.env.locals:=fun {b o} e z=>absurd (Heap.lt_size e) (by rw[z];exact EE.mpr szL)
 have cl:∀{y:Str}{c:Addr}{v:Option Value},s.heap.IsCell c v→h'.IsCell c v:=fun {y c v} ⟨o,ho,hdc⟩=>⟨o,kp (fun z=>by
  obtain⟨o',es,ep,ho',hd',_⟩:=hn
  rw[←z,ho] at ho'
  cases ho'
  rw[hdc] at hd'
  cases hd') ho,hdc⟩
 rwa[I.ok,I.os,I.bare,⟨fun b o q z hb hx=>kp (nL q) (I.base.keep b o q z hb hx),fun b o q z hb hx=>?_,I.base.free,fun b o q hx=>?_,I.base.tups,I.base.frzs,I.base.tbls⟩,⟨_,hn',fun j y w h1 h2 h3=>?_⟩,fun y c hc=>?_,I.free,I.freeC,fun p hp=>?_,fun b u q=>?_,by rw[MD];exact I.len]
 ·obtain⟨sl,e1⟩:=I.base.slot b o q z hb hx
  rwa[sl,kp (nL q) e1]
 ·obtain⟨o',e1⟩:=I.base.there b o q hx
  rwa[o',kp (nL q) e1]
 ·have hji:j≠i:=fun z=>by
   rw[z,M3 (by rw[I.len];exact hiN)] at h2
   cases h2
  rw[Ea (Ne.symm hji)] at h2
  obtain⟨u,ru,lk⟩:=hlk j y w h1 h2 h3
  have hyn:y≠n:=fun z=>by
   subst z
   exact hji ((List.getElem?_inj hiN hN).mp (hi.trans h1.symm)).symm
  rwa[u,ru,?_]
  rcases lk with⟨k1,k2⟩|⟨k,c,hc,z⟩
  ·exact .inl ⟨k1,by show(if y=n then v else m y)=_;rw[if_neg hyn];exact k2⟩
  ·exact .inr ⟨k,c,hc,cl (y:=y) z⟩
 ·obtain⟨v,z⟩:=I.cell y c hc
  rwa[v,cl (y:=y) z]
 ·obtain⟨h1,h2,h3,h4,h5⟩:=I.pin p hp
  rwa[kp h3 h1,h2,h3,h4,h5]
 ·refine(I.hok b u q).stay (fun c v hc r=>kp (fun z=>?_) r) (fun _ r=>r) fun _ _ r=>r
  rw[z] at hc
  rcases hc with hc|hc
  ·rw[←hc,I.free] at q
   cases q
  ·rw[I.free] at hc
   cases hc
noncomputable def Cx.inEx(X:Cx)(a:Addr):Cx:={X with A:=X.A.mark (some (.ref a)),calm:=false}
def Inv.inEx{X:Cx}{pins:List (Addr×Obj)}{σ:St}{H:Hp}{s:Shared}(I:Inv X pins σ H s)(a:Addr):Inv (X.inEx a) pins σ H s:=
 ⟨⟨I.ok.mod,I.ok.kind,I.ok.glob,I.ok.blt,I.ok.above,I.ok.inj,I.ok.has,I.ok.cab,(fun z=>absurd z NP),I.ok.frames,I.ok.stk,I.ok.exf,I.ok.bs,I.ok.bsz,I.ok.noex,I.ok.exfs,I.ok.funs,I.ok.frf⟩,I.os,I.bare,I.base,I.loc,I.cell,I.free,I.freeC,I.pin,I.hok,I.len⟩
def Inv.outEx{X:Cx}{pins:List (Addr×Obj)}{σ:St}{H:Hp}{s:Shared}{a:Addr}(ok:X.Ok)(I:Inv (X.inEx a) pins σ H s):Inv X pins σ H s:=⟨ok,I.os,I.bare,I.base,I.loc,I.cell,I.free,I.freeC,I.pin,I.hok,I.len⟩
noncomputable def ExcO(a:Addr)(cls:Value)(dx:Option Addr):HO:=.ext fun h=>∃oe vs,h.get? a>>oe∧oe.cls=cls∧oe.dict=dx∧oe.data=.fields vs
def Inv.adoptX{X:Cx}{pins:List (Addr×Obj)}{σ:St}{H:Hp}{s:Shared}{a:Addr}{o:HO}{oe:Obj}{vs:Array Value}(I:Inv X pins σ H s)(f:Fre X pins H a)(he:s.heap.get? a>>oe)(hd:oe.data=.fields vs)(new:ObjOk X.prog X.w (upd H a o) s.heap a o):Inv X pins σ (upd H a o) s:=by
 have hn:=f.no
 have nt:∀b u,H b>>u→b≠a:=fun b u e=>kaj e hn
 have hL:a≠X.env.locals:=fun z=>by
  obtain⟨m,⟨o',es,ep,ho',hd',_⟩,_⟩:=I.loc
  rw[←z,he] at ho'
  cases ho'
  rw[hd] at hd'
  cases hd'
 have hC:∀x c,X.env.cells.lookup x>>c→c≠a:=fun x c e z=>by
  obtain⟨v,o',ho',hd'⟩:=I.cell x c e
  rw[z,he] at ho'
  cases ho'
  rw[hd] at hd'
  cases hd'
 rwa[I.ok,I.os,I.bare,⟨I.base.keep,I.base.slot,fun b ob e n hx=>?_,I.base.there,fun b xs e=>?_,fun b ob u e=>?_,fun b ps e=>?_⟩,I.loc,I.cell,?_,fun x c e=>?_,fun p hp'=>?_,fun b u e=>?_,I.len]
 ·rw[kak (show b≠a from fun z=>by rw[z,f.s0] at e;cases e)]
  exact I.base.free b ob e n hx
 ·have q:=I.base.tups b xs e
  rw[kak (nt _ _ q)]
  exact q
 ·have q:=I.base.frzs b ob u e
  rw[kak (nt _ _ q)]
  exact q
 ·obtain⟨m,q⟩:=I.base.tbls b ps e
  rwa[m,by rw[kak (nt _ _ q)];exact q]
 ·rw[kak (Ne.symm hL)]
  exact I.free
 ·rw[kak (hC x c e)]
  exact I.freeC x c e
 ·obtain⟨e,n,r⟩:=I.pin p hp'
  rwa[e,by rw[kak (f.pin p hp')];exact n,r]
 ·by_cases hb:b=a
  ·subst hb
   rw[kad] at e
   cases e
   exact new
  ·rw[kak hb] at e
   refine(I.hok b u e).stay (fun _ _ _ q=>q) (fun d r=>?_) fun d xs r=>?_
   ·rw[kak (nt _ _ r)]
    exact r
   ·rw[kak (nt _ _ r)]
    exact r
def XL(X:Cx)(pins:List (Addr×Obj))(σ:St)(EX:XK)(e:Value)(s:Shared):Prop:=∃(a T:Addr)(cls:Value)(dx:Option Addr)(H:Hp),e=.ref a∧Inv X pins σ H s∧Fre X pins H a∧Fre X pins H T∧ExT s.heap a T cls dx∧EX cls dx H
noncomputable def Ends.goes(D:Ends)(i:Nat):Ends:={nx:=fun σ H=>D.nx (σ.set i none) H,rt:=D.rt,bk:=fun σ H=>D.bk (σ.set i none) H,ct:=fun σ H=>D.ct (σ.set i none) H}
def tTry(K:NF)(CT:Addr)(i:Nat)(tb:XK→TS)(ts:TS):TS:=fun D σ H=>tb (fun cls dx H1=>Dt K cls (.ref CT)>>true∧∀a,H1 a=none→ts (D.goes i) (σ.set i (some (.ref a))) (upd H1 a (ExcO a cls dx))) D σ H
theorem km3{X:Cx}{body suite:List Stmt}{b₀:Stmt}{n tn:Str}{i:Nat}{CT:Addr}{tp hpos pos:Pos}{tb:XK→TS}{ts:TS}(TX:Top1 X)(hN:X.N.Nodup)(hi:X.N[i]?>>n)(hl:X.env.kindOf n>>.local)(hg:Gl X tn)(hm:X.mg tn>>(.ref CT))
  (hb:∀(pins:List (Addr×Obj))(s:Shared)(σ:St)(H:Hp)(D:Ends)(EX:XK),Inv X pins σ H s→tb EX D σ H→wpAny (model X.prog X.w) X.A (execs body X.env) (SP X pins D) (XL X pins σ EX) s)
  (hs:∀a,PSs (X.inEx a).nox (b₀::suite) ts)(hdb:autoParam ((tn==("__debug__" :Str))=false) jQ):
  PS X (.Try body [.ExceptHandler (some (.Name tn tp)) (some n) (b₀::suite) hpos] [] [] pos) (tTry X.K CT i tb ts):=by
 intro pins s σ H D I h
 refine wpAny_Try_except (wpAny_mono (hb pins s σ H D _ I h) (fun f s1 h1=>?_) fun e s1 h1=>?_)
 ·cases f with
  |next=>exact wpAny_execs_nil h1
  |brk=>exact h1
  |cont=>exact h1
  |ret v=>exact h1
 obtain⟨a,T0,cls,dx,H1,rfl,I1,fa,fT,ext,hxm,hts⟩:=h1
 obtain⟨⟨oe,vs,hoe,hcl,hdx,hd,hv1⟩,nT,oT,tsv,hT,hdT,h3⟩:=ext
 have hsz:1<vs.size:=(M7.mp hv1).1
 have hfr:X.A.frames>>(X.env::X.outer):=by rw[←TX.st];exact I1.ok.frames
 have hst:s1.heap.FunFrames X.base (X.env::X.outer):=by rw[←TX.st];exact I1.stack
 refine kg9 hfr hst TX.fr hoe hd hv1 nT hT hdT h3 fun h2 T x2=>?_
 refine kha (s:={s1 with heap:=h2}) x2 hoe hd hsz fun h3' x3=>?_
 have I3:Inv X pins σ H1 {s1 with heap:=h3',toks:=s1.toks}:=I1.exs TX (by rw[TX.st];exact x3) hoe hd fa fun b hb=>by
  rw[MO.mp hb]
  rwa[fT,oT,tsv,hT,hdT]
 have ext3:=x3.ext hoe hd hsz
 rw[hcl,hdx] at ext3
 have hT1:H1 T=none:=I1.hok.no x3.new
 have sT:s1.heap.objs.size≤T:=x3.sz
 have fpT:=I1.fpOk (H':=H1) sT hT1
 clear x2 x3
 obtain⟨⟨oe3,vs3,hoe3,hcl3,hdx3,hd3,hv3⟩,nT3,oT3,ts3,hT3,hdT3,h33⟩:=id ext3
 refine wpAny_handleBy_cons (codeAny_handlers_test ?_) (by intro q;cases q)
 refine kd4 (X:=X.inEx a) (I3.inEx a) hg hm ?_ hdb
 have lt:Dg (model X.prog X.w) h3' (typeOf (.ref a)) cls:=by
  have z:=(Dg.ld (M:=model X.prog X.w) (part:=none) hoe3).andThen (f:=fun o=>pure o.cls) .now
  rw[hcl3] at z
  exact z
 refine(PySem.W.exm_one (M:=model X.prog X.w) I3.kIn lt hxm).here ?_
 rw[if_pos rfl]
 refine codeAny_handlers_suite_as ?_
 have hz3:3<ts3.size:=(M7.mp h33).1
 refine wpAny_setFlight_none hoe3 hd3 hv3 hT3 hdT3 hz3 ?_
 have sb:=Heap.SameBut.update h3' T (Obj.mapFields (·.setIfInBounds 3 Value.none))
 obtain⟨q1,q2,q3,q4,q5,q6⟩:=fpT
 have I4:=I3.turned (t':=s1.toks) (it:=T) (h':=h3'.update T (Obj.mapFields (·.setIfInBounds 3 Value.none))) (fun b o nb e=>(sb.2 b nb).trans e) q1 q2 q4 q5 q6
 have hoe4:(h3'.update T (Obj.mapFields (·.setIfInBounds 3 Value.none))).get? a>>oe3:=(sb.2 a (Ne.symm nT3)).trans hoe3
 have I5:Inv X pins σ (upd H1 a (ExcO a cls dx)) {s1 with heap:=h3'.update T (Obj.mapFields (·.setIfInBounds 3 Value.none)),toks:=s1.toks}:=I4.adoptX fa hoe4 hd3 (show ObjOk X.prog X.w _ _ a (ExcO a cls dx) from⟨⟨oe3,vs3,hoe4,hcl3,hdx3,hd3⟩,⟨oe3,hoe4⟩,fun g1 g2 ⟨o,v,z1,z2⟩ k=>⟨o,v,k o z1,z2⟩⟩)
 refine kew (X:=X) (v:=.ref a) I5 hN hi (.inl hl) rfl (fun s6 I6=>?_) (.inl (TX.fn n))
 have key:=hs a pins s6 _ _ (D.goes i) ((I6.inEx a).wish _) (hts a fa.no)
 refine wpAny_mono key (fun f s7 h7=>?_) fun _ _ z=>z.elim
 show wpAny (model X.prog X.w) X.A (do bindName X.env n .none;unbindBehindTheSuite X.env n hpos) (fun _ s₃=>SP X pins D f s₃) X.xe s7
 cases f with
 |next=>
  obtain⟨σ',H',J,q⟩:=h7
  exact keC (J.unwish.outEx I.ok) hN hi hl fun s' I'=>⟨_,H',I',q⟩
 |brk=>
  obtain⟨σ',H',J,q⟩:=h7
  exact keC (J.unwish.outEx I.ok) hN hi hl fun s' I'=>⟨_,H',I',q⟩
 |cont=>
  obtain⟨σ',H',J,q⟩:=h7
  exact keC (J.unwish.outEx I.ok) hN hi hl fun s' I'=>⟨_,H',I',q⟩
 |ret u=>
  obtain⟨v,σ',H',J,r,q⟩:=h7
  exact keC (J.unwish.outEx I.ok) hN hi hl fun s' I'=>⟨v,_,H',I',r,q⟩
section
variable{X:Cx}{k:Nat}{f C:Addr}{fd:FuncData}{ps:List Str}{sp:Sp}{dvs:List V}{ds:List Value}{x m:Str}{p pos apos:Pos}{e o:Expr}{es:List Expr}{ta:TE}{t:TA}
theorem xl_of{pins:List (Addr×Obj)}{σ:St}{H:Hp}{s s':Shared}{EX:XK}{e:Value}(TX:Top1 X)(I:Inv X pins σ H s)(hq:CX1 X.prog X.w X.stack H s EX e s'):XL X pins σ EX e s':=by
 obtain⟨a,T,cls,dx,H',rfl,os,bare,un,hok,ha,hHa,hT,hHT,ext,hE⟩:=hq
 have I':Inv X pins σ H' s':=I.call' (ch:=[]) os un hok bare (fun b hb=>by simp at hb)
 have z0:∀{b:Addr},s.heap.get? b=none→b∉X.ex→X.s₀.heap.get? b=none:=fun {b} hn hx=>by
  cases q:X.s₀.heap.get? b with
  |none=>rfl
  |some o=>
   obtain⟨o',z⟩:=I.base.there b o q hx
   rw[hn] at z
   cases z
 have zp:∀{b:Addr},s.heap.get? b=none→∀p∈X.pn++pins,p.1≠b:=fun {b} hn p hp z=>by
  have:=(I.pin p hp).1
  rw[z,hn] at this
  cases this
 have nx:∀b:Addr,b∉X.ex:=fun b z=>by
  rw[TX.ex0] at z
  cases z
 rwa[a,T,cls,dx,H',6,I',⟨hHa,z0 ha (nx a),zp ha⟩,⟨hHT,z0 hT (nx T),zp hT⟩,ext,hE]
theorem kms{pins:List (Addr×Obj)}{σ:St}{H:Hp}{s:Shared}{Q:VK}{EX:XK}{us:List Value}{vs:List V}(F:FnOk X.prog X.w X.K X.mg X.base (CX1 X.prog X.w) k f fd ps sp)(hr:Room k X.A)(hb:Binds X.K fd ps ds)(hd:Vals dvs ds)(TX:Top1 X)
  (I:Inv X pins σ H s) (r:Vals vs us) (h:sp (vs++dvs) H Q EX):wpAny (model X.prog X.w) X.A (call (.ref f) us) (EP X pins σ Q) (XL X pins σ EX) s:=by
 have r2:Vals (vs++dvs) (us++ds):=r.append hd
 have hl:(us++ds).length=ps.length:=by rw[←r2.length];exact F.len _ _ _ _ h
 refine wpAny_call (codeAny_mono (F.run X.A X.stack s H ⟨us,[]⟩ (us++ds) (vs++dvs) Q EX hr I.env0 (hb s us I.kIn hl) r2 h) fun r s' hq=>?_)
 cases r with
 |error e=>exact xl_of TX I hq
 |ok fl=>
  cases fl with
  |ret u=>exact I.after hq
  |next=>exact False.elim hq
  |brk=>exact False.elim hq
  |cont=>exact False.elim hq
def PEX(X:Cx)(e:Expr)(te:XK→TE):Prop:=∀(pins:List (Addr×Obj))(s:Shared)(σ:St)(H:Hp)(Q:VK)(EX:XK),Inv X pins σ H s→te EX σ H Q→wpAny (model X.prog X.w) X.A (eval e X.env) (EP X pins σ Q) (XL X pins σ EX) s
theorem kme{pl:Sem Bool}(TX:Top1 X)(hnx:∀e s',X.xe e s'→False)(he:PE X o ta)(c:Cls X.K C)(hm:Meth X.K C m f)(F:FnOk X.prog X.w X.K X.mg X.base (CX1 X.prog X.w) k f fd ps sp)(hr:Room k X.A)(hb:Binds X.K fd ps ds)(hd:Vals dvs ds)(ha:PA X (e::es) t)
  (hst:autoParam (starEach (e::es) X.env=(false,eval e X.env)::starEach es X.env) jz)(hpl:autoParam ((backTo pos (starEach es X.env)).any (·.1)=false) jz)
  (ht:autoParam (eval (.Call (.Attribute o m apos) (e::es) [] pos) X.env=(do
   let ov ←eval o X.env
   standAt apos.atName
   let(f,first) ←holding [ov] (getMethod ov m pl)
   callWith pos f first (backTo pos (starEach (e::es) X.env)) (backToKw pos (keywordEach [] X.env)))) jz):
  PEX X (.Call (.Attribute o m apos) (e::es) [] pos) (fun EX=>tMeth C m sp dvs EX ta t):=by
 intro pins s σ H Q EX I h
 refine EN (pl:=pl) (wpAny_mono (he pins s σ H _ I h) (fun u s1 zz=>?_) fun e s' z=>(hnx e s' z).elim) ht
 obtain⟨x,H1,I1,rx,a,dx,fs,ex,ea,l,q⟩:=zz
 subst ex
 obtain rfl:u=Value.ref a:=rx
 refine kd6 I1 ea c hm l ?_
 exact ED (first:=[.ref a]) (h₀:=X.base) I.ok.mod.kin hm.kp (wpAny_mono (ha pos pins s1 σ H1 _ I1 q) (fun us s2 ⟨vs,H2,I2,r,q2⟩=>⟨I2.kIn,kms (us:=.ref a::us) (vs:=.ref a::vs) F hr hb hd TX I2 (.cons rfl r) q2⟩) fun e s' z=>(hnx e s' z).elim) hst hpl
def PBX(X:Cx)(body:List Stmt)(tb:XK→TS):Prop:=∀(pins:List (Addr×Obj))(s:Shared)(σ:St)(H:Hp)(D:Ends)(EX:XK),Inv X pins σ H s→tb EX D σ H→wpAny (model X.prog X.w) X.A (execs body X.env) (SP X pins D) (XL X pins σ EX) s
theorem kmf{te:XK→TE}(he:PEX X e te)(hs:autoParam (swapsWith e none pos.line X.env=pure false) jz):PBX X [.Expr e pos] (fun EX=>tDrop (te EX)):=by
 intro pins s σ H D EX I h
 refine wpAny_execs_cons (wpAny_Expr_any (thn (he pins s σ H _ EX I h) fun v s1 zz=>?_) I.quiet hs)
 obtain⟨x,H1,I1,r1,q1⟩:=zz
 exact wpAny_execs_nil ⟨σ,H1,I1,q1⟩
theorem kjb{CX:CXT}{P:Program}{w:World}{K:NF}{mg:Str→Option Value}{base:Heap}{N:List Str}{qual:Str}{scope:Scope}{f:Addr}{cd:Value}{A:Around}{outer:List Env}{s:Shared}{H:Hp}{E:XK}:Top1 (cxOf CX P w K mg base N qual scope f cd A outer s H E).nox:=⟨rfl,rfl,fun _=>rfl,rfl⟩
end
end L2
namespace L2
open PySem PySem.W PySem.Calls PyProof.Rows Builtin Builtin.ObjectAttr
section
variable{prog:Program}{w:World}{K:Frag}{A:Around}{E:Value→Shared→Prop}{h:Heap}{g:Array GenState}{d:Drawn}{t:Nat}{os:OsState}{a C:Addr}{o:Obj}{od:Option Obj}
structure ExcK(K:Frag)(C:Addr):Prop where
 ga:findIn K (.ref C) "__getattribute__">>(some (.builtin "BaseException.__getattribute__"))
 no:findIn K (.ref C) "__getattr__">>none
 cl:findIn K (.ref C) "__class__">>(some (.builtin "object.__class__"))
 sub:subIn K (.ref C) (.type "BaseException")>>true
 obj:mroIn K C (.type "object")>>true
 isc:(clsIn K C).isSome=true
theorem kky{M:Model}{nameV:Value}{Q:Unit→Shared→Prop}(X:K.In h)(Z:ExcK K C)(hx:h.get? a>>o)(hc:o.cls=.ref C)(hq:Q () ⟨h,g,d,t,os⟩):wpAny M A (checkBuiltinCall "BaseException.__getattribute__" ⟨[.ref a,nameV],[]⟩) Q E ⟨h,g,d,t,os⟩:=by
 have hk:builtinKind "BaseException.__getattribute__">>.slot:=by cutsat
 have hsplit:splitId "BaseException.__getattribute__">>("BaseException","__getattribute__"):=by cutsat
 have ha:=PySem.F.args_bexc_ga (.ref a) nameV
 have sb:∀{A:Around}{E:Value→Shared→Prop}{Q:Bool→Shared→Prop}{t:Nat},Q true ⟨h,g,d,t,os⟩→wpAny M A (isSubtype (.ref C) (.type "BaseException")) Q E ⟨h,g,d,t,os⟩:=fun q=>(looks_subIn X Z.sub).at q
 simp only[checkBuiltinCall,hk,hsplit]
 refine wpAny_bind ?_
 ·unfold isInstance
  repeat (first|(with_reducible refine wpAny_loadPart_at hx ?_;rw[hc])|(with_reducible refine sb ?_)|wp_step)
  exact hq
theorem kkx{tk:Tok}{Q:Fin→Shared→Prop}(X:K.In h)(Z:ExcK K C)(I:InstAt h a o C od)(hq:Q (.done (.ret (.ref C))) ⟨h,g,d,t,os⟩):wpAny (model prog w) A (Builtin.«object.__getattribute__» ⟨[.ref a, .str "__class__" tk],[]⟩) Q E ⟨h,g,d,t,os⟩:=by
 have hx:=I.at_
 have hc:=I.cls
 have f5:=PySem.F.typeOf_object_class
 have f6:=PySem.F.slot_gs_get.lookup
 have f7:=PySem.F.slot_gs_set.lookup
 have lk:∀{A:Around}{E:Value→Shared→Prop}{Q:Option Value→Shared→Prop}{t:Nat},Q (some (.builtin "object.__class__")) ⟨h,g,d,t,os⟩→wpAny (model prog w) A (typeLookup (.ref C) "__class__") Q E ⟨h,g,d,t,os⟩:=fun q=>(looks_findIn X Z.cl).at q
 repeat (any_goals (first|assumption|(with_reducible refine wpAny_loadPart_at hx ?_;rw[hc])|with_reducible refine lk ?_|wp_step))
 refine class_get (s:=⟨h,g,d,t,os⟩) X I Z.obj ?_
 repeat (any_goals (first|assumption|wp_step))
theorem kly{tk:Tok}{R:Result→Shared→Prop}(X:K.In h)(Z:ExcK K C)(I:InstAt h a o C od)(hq:R (.ok (.ret (.ref C))) ⟨h,g,d,t,os⟩):codeAny (model prog w) A (.call (.builtin "BaseException.__getattribute__") ⟨[.ref a, .str "__class__" tk],[]⟩) R ⟨h,g,d,t,os⟩:=
 codeAny_call_builtin DU.ga.plain PySem.F.entry_bexc_ga (kky X Z I.at_ I.cls (kkx X Z I hq))
theorem kno{tk:Tok}{fill expr:Bool}{Q:Value→Shared→Prop}(X:K.In h)(Z:ExcK K C)(I:InstAt h a o C od)(hq:Q (.ref C) ⟨h,g,d,t,os⟩):wpAny (model prog w) A (getAttrBy (.ref a) (.str "__class__" tk) fill expr) Q E ⟨h,g,d,t,os⟩:=by
 have hx:=I.at_
 have hc:=I.cls
 have f3:=DU.ga.bind (.ref a)
 have hx0:(expr&&onTheHeap (Value.builtin "BaseException.__getattribute__"))=false:=by cases expr <;> rfl
 have hx2:(Value.builtin "BaseException.__getattribute__" ==Value.builtin "object.__getattribute__")=false:=by cutsat
 have hx1:(onTheHeap (Value.ref C)&&Value.builtin "BaseException.__getattribute__" ==Value.builtin "object.__getattribute__")=false:=by rw[hx2];rfl
 have lk1:∀{A:Around}{E:Value→Shared→Prop}{Q:Option Value→Shared→Prop}{t:Nat},Q (some (.builtin "BaseException.__getattribute__")) ⟨h,g,d,t,os⟩→wpAny (model prog w) A (typeLookup (.ref C) "__getattribute__") Q E ⟨h,g,d,t,os⟩:=fun q=>(looks_findIn X Z.ga).at q
 have lk2:∀{A:Around}{E:Value→Shared→Prop}{Q:Option Value→Shared→Prop}{t:Nat},Q none ⟨h,g,d,t,os⟩→wpAny (model prog w) A (typeLookup (.ref C) "__getattr__") Q E ⟨h,g,d,t,os⟩:=fun q=>(looks_findIn X Z.no).at q
 repeat (any_goals (first|assumption|(with_reducible refine wpAny_loadPart_at hx ?_;rw[hc])|with_reducible refine lk1 ?_|with_reducible refine lk2 ?_|wp_step))
 refine kly X Z I ?_
 repeat (any_goals (first|assumption|wp_step))
theorem knn{Q:Option Value→Shared→Prop}(X:K.In h)(Z:ExcK K C)(I:InstAt h a o C od)(hq:Q (some (.ref C)) ⟨h,g,d,t+1,os⟩):wpAny (model prog w) A (getAttr? (.ref a) "__class__") Q E ⟨h,g,d,t,os⟩:=by
 unfold getAttr? getAttrBy?
 repeat (any_goals (first|assumption|with_reducible apply kno X Z I|wp_step))
theorem klm(Z:ExcK K C):KitX K (.ref a) (.ref C) (fun h=>InstAt h a o C od) where
 ty:=fun _ _ _ I=>I.type
 it:=fun _ _ X _=>by
  obtain⟨cdD,hcD⟩:=Dk.mp Z.isc
  unfold clsIn at hcD
  split at hcD
  ·rename_i c' d' cd' sl' ho
   intro A' Q' E' s' k q
   unfold isType loadHead
   exact wpAny_bind (wpAny_loadPart (k _ _ (X _ _ ho)) (wpAny_pure q))
  ·cases hcD
 ne:=fun h tp dd its n sl X htp=>by
  obtain⟨cdD,hcD⟩:=Dk.mp Z.isc
  refine Bool.eq_false_iff.mpr fun q=>?_
  have e:C=tp:=Value.ref.inj (beq_iff_eq.mp q)
  subst e
  unfold clsIn at hcD
  split at hcD
  ·rename_i c' d' cd' sl' ho
   have z:=(X _ _ ho).symm.trans htp
   cases z
  ·cases hcD
 ca:=fun {prog w A E Q s} X I k=>by
  obtain⟨hh,g,d,t,os⟩:=s
  exact knn X Z I k
end
end L2
namespace L2
open PySem PySem.Spec PyProof.Rows
section
variable{X:Cx}
theorem klx{pins:List (Addr×Obj)}{σ:St}{H:Hp}{s:Shared}{a C:Addr}{dx:Option Addr}(I:Inv X pins σ H s)(e:H a>>(ExcO a (.ref C) dx))(hd:∀d,dx>>d→∃u,H d>>u):∃oe od,PySem.W.InstAt s.heap a oe C od:=by
 obtain⟨⟨oe,vs,h1,h2,h3,h4⟩,_⟩:=(show ObjOk X.prog X.w H s.heap a (ExcO a (.ref C) dx) from I.hok a _ e)
 have no:PySem.W.notCls oe=true:=by
  unfold PySem.W.notCls
  rw[h4]
 cases dx with
 |none=>exact⟨oe,none,h1,h2,no,by rw[h3];trivial⟩
 |some d=>
  obtain⟨fs,ed⟩:=hd d rfl
  obtain⟨q,hq⟩:=(I.hok d _ ed).get
  rwa[oe,some q,h1,h2,no,by rw[h3];exact hq]
def rIsiX(K:NF):List V→Hp→VK→Prop:=fun xs H Q=>∃(a C:Addr)(dx:Option Addr)(c:V)(b:Bool),xs=[.ref a,c]∧((∃n,c=.ty n)∨∃p,c=.ref p)∧H a>>(ExcO a (.ref C) dx)∧(∀d,dx>>d→∃u,H d>>u)∧ExcK K C∧NU K (.ref C) (cV c)>>b∧Q (.bl b) H
theorem kdO:CallR X (.builtin "isinstance") (rIsiX X.K):=by
 intro pins s σ H xs us Q I r h
 obtain⟨a,C,dx,c,b,rfl,hc,ha,hd,Z,e,q⟩:=h
 obtain⟨u,w',rfl,r1,r2⟩:=vals2 r
 cases(show u=Value.ref a from r1)
 have ew:w'=cV c:=by
  rcases hc with⟨n,rfl⟩|⟨p,rfl⟩
  ·exact r2
  ·exact r2
 subst ew
 obtain⟨oe,od,J⟩:=klx I ha hd
 exact MC (klm Z) I.kIn J e (fun z=>nomatch z) fun tk=>⟨.bl b,H,I.tok tk,rfl,q⟩
end
def km9{K:NF}{h:Heap}{mg:Str→Option Value}{x:Str}{C:Addr}{bm:List Value}{newId:String}(X:K.In h)(hb:mg x>>(.ref C))(q:E1 K C bm newId=true):OwnCls x C bm newId mg h:=by
 rwa[hb,?_]
 unfold E1 at q
 split at q
 next dd cd sl ho=>
  split at q
  next C' tl k0 k1 k2 k3 n k5 hm hs=>
   rw[Mz,Mz,Mz,Mz,Mz] at q
   obtain⟨⟨⟨⟨⟨e1,e2⟩,e3⟩,ht⟩,hok⟩,hni⟩:=q
   have z1:=beq_iff_eq.mp e1
   have z2:=beq_iff_eq.mp e2
   subst z1 z2
   obtain⟨nm,bs,mro,ns,qn,hdc,sn,sub,ab,col,del⟩:=cd
   have z3:del=false:=by simpa using e3
   have z4:mro=.ref C'::tl:=hm
   have z5:sl= #[k0,k1,k2,k3,some (.builtin n),k5]:=by
    obtain⟨l⟩:=sl
    exact congrArg Array.mk hs
   subst z3 z4 z5
   rwa[tl,ns,nm,qn,bs,hdc,sn,sub,ab,col,dd,k0,k1,k2,k3,k5,_,X _ _ ho, .of_isNs (PySem.W.isNs_of_in X hok),PySem.W.nsMap_none_of_in X hok (beq_iff_eq.mp hni),PySem.W.tail_of_in X ht]
  all_goals cases q
 all_goals cases q
end L2
namespace L2
open PySem
def khj:bootBuiltins "ValueError">>(.type "ValueError"):=by cutsat
end L2
namespace War
structure Row where
 kd:Int
 pr:Int
 mn:Int
 ex:Option Int
structure Row.Ok(r:Row):Prop where
 pr0:0≤r.pr
 pr1:r.pr≤1000000000000
 mn0:0≤r.mn
 mn1:r.mn≤60
 ex0:∀z,r.ex>>z→0≤z∧z≤1000000000000
def prc(m:Bool)(r:Row):Int:=if m=true then r.ex.getD r.pr else r.pr
def own(rs:List Row):List Int:=(rs.zipIdx.map fun p=>NI p.1.mn.toNat (p.2:Int)).flatten
def prs(m:Bool)(rs:List Row):List Int:=(rs.map fun r=>NI r.mn.toNat (prc m r)).flatten
def kk6(rs:List Row)(r:Row):own (rs++[r])=own rs++NI r.mn.toNat (rs.length:Int):=by
 unfold own
 rw[List.zipIdx_append,NL,E2]
 simp
def kk2(m:Bool)(rs:List Row)(r:Row):prs m (rs++[r])=prs m rs++NI r.mn.toNat (prc m r):=by
 unfold prs
 rw[NL,E2]
 simp
theorem kio:∀(rs:List Row)(k:Nat),(∀r∈rs,r.Ok)→((rs.zipIdx k).map fun p=>NI p.1.mn.toNat (p.2:Int)).flatten.length≤60*rs.length
 |[],_,_=>by simp
 |r::rs,k,h=>by
  have h1:=kio rs (k+1) fun x hx=>h x (N2 _ hx)
  have h2:=(h r N4).mn1
  rw[Du,NW,Me,NQ,ML,Md]
  show r.mn.toNat+_≤_
  lia
def kj1(rs:List Row)(h:∀r∈rs,r.Ok):(own rs).length≤60*rs.length:=kio rs 0 h
theorem kjT(m:Bool):∀(rs:List Row),(∀r∈rs,r.Ok)→(prs m rs).length≤60*rs.length
 |[],_=>by simp[prs]
 |r::rs,h=>by
  have h1:=kjT m rs fun x hx=>h x (N2 _ hx)
  have h2:=(h r N4).mn1
  unfold prs at h1⊢
  rw[NW,Me,NQ,ML,Md]
  lia
def klU{m:Bool}{r:Row}(h:r.Ok):0≤prc m r∧prc m r≤1000000000000:=by
 unfold prc
 split
 ·cases e:r.ex with
  |none=>exact⟨h.pr0,h.pr1⟩
  |some z=>exact h.ex0 z e
 ·rwa[h.pr0,h.pr1]
def take_snoc{α:Type}{rs:List α}{i:Nat}{r: α}(h:rs[i]?>>r):rs.take (i+1)=rs.take i++[r]:=by
 rw[MT,h]
 rfl
end War
namespace Kin
def Good(ps:List (Option Nat)):Prop:=∀(i k:Nat),ps[i]?>>(some k)→k<i
def anc(ps:List (Option Nat)):Nat→Nat→List Nat
 |0,_=>[]
 |f+1,i=>i::(match ps[i]? with|some (some k)=>anc ps f k|_=>[])
def up(ps:List (Option Nat))(i:Nat):List Nat:=anc ps (i+1) i
theorem klG{ps:List (Option Nat)}(g:Good ps):∀(f f' i:Nat),i<f→i<f'→anc ps f i=anc ps f' i:=by
 intro f
 induction f with
 |zero=>intro f' i h;lia
 | succ f ih=>
  intro f' i h h'
  cases f' with
  |zero=>lia
  | succ f'=>
   show i::_=i::_
   congr 1
   cases e:ps[i]? with
   |none=>rfl
   | some o=>
    cases o with
    |none=>rfl
    |some k=>
     have hk:=g i k e
     exact ih f' k (by lia) (by lia)
def kmh{ps:List (Option Nat)}(g:Good ps){i k:Nat}(e:ps[i]?>>(some k)):up ps i=i::up ps k:=by
 have hk:=g i k e
 show i::_=_
 rw[e]
 show i::anc ps i k=i::up ps k
 rw[klG g i (k+1) k hk (by lia)]
 rfl
def kmi{ps:List (Option Nat)}{i:Nat}(e:ps[i]?>>none):up ps i=[i]:=by
 show i::_=_
 rw[e]
noncomputable def rest(ps:List (Option Nat)):Option Nat→List Nat
 |none=>[]
 |some k=>up ps k
def left:Option Nat→Nat
 |none=>0
 |some k=>k+1
theorem up_eq{ps:List (Option Nat)}(g:Good ps){i:Nat}{o:Option Nat}(e:ps[i]?>>o):up ps i=i::rest ps o:=by
 cases o with
 |none=>exact kmi e
 |some k=>exact kmh g e
def klr:Good []:=fun i k e=>by simp at e
def kkt{ps:List (Option Nat)}(g:Good ps){o:Option Nat}(h:∀k,o>>k→k<ps.length):Good (ps++[o]):=by
 intro i k e
 rcases Nat.lt_trichotomy i ps.length with hi|hi|hi
 ·rw[En hi] at e
  exact g i k e
 ·subst hi
  rw[Em (NG _)] at e
  simp at e
  exact h k e
 ·rw[Em (by lia)] at e
  have:(i-ps.length)≠0:=by lia
  cases q:i-ps.length with
  |zero=>lia
  |succ n=>rw[q] at e;simp at e
end Kin
namespace Deal
def pre(ws:List Int)(k:Nat):Int:=(ws.take k).sum
def part(c:Int)(ws:List Int)(j:Nat):Int:=c*pre ws (j+1)/ws.sum-c*pre ws j/ws.sum
def dl(c:Int)(ws:List Int):List Int:=if ws.sum=0 then ws.map (fun _=>0) else(NK ws.length).map (part c ws)
def kk3(ws:List Int):pre ws 0=0:=by simp[pre]
def kjU(ws:List Int):pre ws ws.length=ws.sum:=by simp[pre]
def kez{ws:List Int}{i:Nat}{w:Int}(h:ws[i]?>>w):pre ws (i+1)=pre ws i+w:=by
 unfold pre
 rw[MT,h]
 simp
def kfL(c:Int)(ws:List Int):(dl c ws).length=ws.length:=by
 unfold dl
 split <;> simp
def dl_at{c:Int}{ws:List Int}(h:¬ws.sum=0){j:Nat}(hj:j<ws.length):(dl c ws)[j]?>>(part c ws j):=by
 unfold dl
 rw[if_neg h]
 simp[hj]
def kkC{c:Int}{ws:List Int}(h:ws.sum=0){j:Nat}(hj:j<ws.length):(dl c ws)[j]?>>0:=by
 unfold dl
 rw[if_pos h]
 simp[hj]
def Nn(ws:List Int):Prop:=∀w∈ws,0≤w
theorem kbC:∀{ws:List Int},Nn ws→0≤ws.sum
 |[],_=>by simp
 |w::ws,h=>by
  have:=kbC (ws:=ws) fun x hx=>h x (N2 _ hx)
  have h1:=h w N4
  simp
  lia
theorem kj0{c s A w:Int}(hs:0<s)(hc:0≤c)(hcs:c≤s)(hw:0≤w):0≤c*(A+w)/s-c*A/s∧c*(A+w)/s-c*A/s≤w∧
  (c*(A+w)/s-c*A/s)*s-c*w<s∧-s<(c*(A+w)/s-c*A/s)*s-c*w:=by
 have e:c*(A+w)=c*A+c*w:=Int.mul_add ..
 rw[e]
 generalize hx:c*A=x
 have h1:0≤c*w:=Int.mul_nonneg hc hw
 have h2:c*w≤w*s:=by
  rw[Int.mul_comm w s]
  exact Int.mul_le_mul_of_nonneg_right hcs hw
 generalize hy:c*w=y at h1 h2
 have m1:x/s≤(x+y)/s:=Int.ediv_le_ediv hs (by lia)
 have m2:(x+y)/s≤(x+w*s)/s:=Int.ediv_le_ediv hs (by lia)
 rw[Int.add_mul_ediv_right _ _ (by lia)] at m2
 have d1:=Int.emod_add_mul_ediv x s
 have d2:=Int.emod_add_mul_ediv (x+y) s
 have r1:=Int.emod_nonneg x (show s≠0 by lia)
 have r2:=Int.emod_lt_of_pos x hs
 have r3:=Int.emod_nonneg (x+y) (show s≠0 by lia)
 have r4:=Int.emod_lt_of_pos (x+y) hs
 have e3:((x+y)/s-x/s)*s=s*((x+y)/s)-s*(x/s):=by
  rw[Int.sub_mul,Int.mul_comm,Int.mul_comm (x/s)]
 rw[e3]
 rwa[by lia,by lia,by lia,by lia]
end Deal
namespace Vs
open Kin Deal
structure Mks where
 kind:Option Nat
 needs:Int
 most:Option Int
 member:Bool
 once:Bool
 lone:Bool
inductive Srt
 |off (a:Int)
 |share (s:Int) (b:Bool)
 |cheap (n:Int)
 |bund (n p:Int)
 |carr
structure Vch where
 so:Srt
 ms:Mks
structure Stnd where
 ow:List Nat
 pr:List Int
 cg:Int
 mkd:List Bool
noncomputable def kHit(ps:List (Option Nat))(kind:Option Nat)(kd:Nat):Bool:=match kind with
 |none=>true
 |some k=>decide (k∈up ps kd)
noncomputable def hits(ps:List (Option Nat))(kds:List Nat)(kind:Option Nat)(lone:Bool)(mkd:List Bool)(l:Nat):Bool:=
 kHit ps kind (kds.getD l 0)&&(!lone|| !(mkd.getD l false))
noncomputable def abt(ps:List (Option Nat))(kds:List Nat)(kind:Option Nat)(lone:Bool)(S:Stnd):List Nat:=
 (NK S.ow.length).filter fun i=>hits ps kds kind lone S.mkd (S.ow.getD i 0)
def kiM{ps:List (Option Nat)}{kds:List Nat}{kind:Option Nat}{lone:Bool}{S:Stnd}{i:Nat}(h:i∈abt ps kds kind lone S):i<S.ow.length:=by
 have:=(Mi.mp h).1
 simpa using this
def khl(ps:List (Option Nat))(kds:List Nat)(kind:Option Nat)(lone:Bool)(S:Stnd):(abt ps kds kind lone S).Nodup:=Er.filter _ E3
def kfo(ps:List (Option Nat))(kds:List Nat)(kind:Option Nat)(lone:Bool)(S:Stnd):(abt ps kds kind lone S).length≤S.ow.length:=by
 have:=Eg (fun i=>hits ps kds kind lone S.mkd (S.ow.getD i 0)) (NK S.ow.length)
 simpa[abt] using this
noncomputable def qs(pr:List Int)(is:List Nat):List Int:=is.map fun i=>pr.getD i 0
def kck(pr:List Int)(is:List Nat):(qs pr is).length=is.length:=by simp[qs]
noncomputable def spr(n:Nat)(is:List Nat)(vs:List Int):List Int:=(NK n).map fun i=>((is.zip vs).lookup i).getD 0
def kdm(n:Nat)(is:List Nat)(vs:List Int):(spr n is vs).length=n:=by simp[spr]
def kmm(n:Nat)(vs:List Int):spr n [] vs=NI n 0:=by
 unfold spr
 apply MY
 ·simp
 ·intro i h1 h2
  simp
theorem khI{l:List (Nat×Int)}{i j:Nat}{v:Int}(h:∀p∈l,p.1≠i):(l++[(i,v)]).lookup j=if j=i then some v else l.lookup j:=by
 induction l with
 | nil=>
  simp only[Ep,Ms,List.lookup_nil]
  by_cases e:j=i
  ·subst e;simp
  ·have:(j==i)=false:=beq_eq_false_iff_ne.mpr e
   simp[this,e]
 | cons p l ih=>
  obtain⟨k,w⟩:=p
  have ih':=ih fun q hq=>h q (N2 _ hq)
  have hk:k≠i:=h (k,w) N4
  simp only[EY,Ms]
  by_cases e:j=k
  ·subst e
   simp[hk]
  ·have:(j==k)=false:=beq_eq_false_iff_ne.mpr e
   simp only[this]
   exact ih'
theorem kml{n:Nat}{is:List Nat}{vs:List Int}(hn:is.Nodup){k i:Nat}{v:Int}(h1:is[k]?>>i)(h2:vs[k]?>>v)(hi:i<n):
  (spr n (is.take k) (vs.take k)).set i v=spr n (is.take (k+1)) (vs.take (k+1)):=by
 have e1:is.take (k+1)=is.take k++[i]:=by rw[MT,h1];rfl
 have e2:vs.take (k+1)=vs.take k++[v]:=by rw[MT,h2];rfl
 have hk1:k<is.length:=(NT.mp h1).1
 have hk2:k<vs.length:=(NT.mp h2).1
 have ez:(is.take (k+1)).zip (vs.take (k+1))=(is.take k).zip (vs.take k)++[(i,v)]:=by
  rw[e1,e2,List.zip_append (by simp;lia)]
  rfl
 have hne:∀p∈(is.take k).zip (vs.take k),p.1≠i:=fun p hp e=>by
  have hm:p.1∈is.take k:=(M4 hp).1
  rw[e] at hm
  obtain⟨j,hj,ej⟩:=List.getElem_of_mem hm
  rw[NS] at hj
  rw[List.getElem_take] at ej
  have e3:is[k]=i:=by
   obtain⟨_,q⟩:=NT.mp h1
   exact q
  exact Ef.mp hn j k (by lia) hk1 (by lia) (by rw[ej,e3])
 apply MY
 ·simp[spr]
 ·intro j h3 h4
  have hj:j<n:=by simpa[spr] using h4
  rw[Dv]
  simp only[spr,Ew,EH]
  rw[ez,khI hne]
  by_cases e:i=j
  ·subst e;simp
  ·have:¬j=i:=fun z=>e z.symm
   simp[e,this]
def bef(q:List Int)(a b:Nat):Prop:=q.getD b 0<q.getD a 0∨(q.getD a 0=q.getD b 0∧a<b)
def Fall(q:List Int)(r:List Nat):Prop:=r.Perm (NK q.length)∧r.Pairwise (bef q)
def klE{q:List Int}{a b:Nat}(h:bef q a b)(h':bef q b a):False:=by
 unfold bef at h h'
 lia
theorem keS{R:Nat→Nat→Prop}(asym:∀a b,R a b→R b a→False):∀{l l':List Nat},l.Perm l'→l.Pairwise R→l'.Pairwise R→l=l'
 |[],l',p,_,_=>(List.nil_perm.mp p).symm
 | a ::l,l',p,h,h'=>by
  cases l' with
  |nil=>exact absurd p.length_eq (by simp)
  | cons b l'=>
   have hab:a=b:=by
    rcases Classical.em (a=b) with e|e
    ·exact e
    ·have ha:a∈b::l':=p.mem_iff.mp N4
     have hb:b∈a::l:=p.mem_iff.mpr N4
     rcases N5.mp ha with e1|ha
     ·exact absurd e1 e
     ·rcases N5.mp hb with e2|hb
      ·exact absurd e2.symm e
      ·exact(asym a b ((Ex.mp h).1 b hb) ((Ex.mp h').1 a ha)).elim
   subst hab
   congr 1
   exact keS asym (Mv.cons_inv p) (Ex.mp h).2 (Ex.mp h').2
def khP{q:List Int}{r r':List Nat}(h:Fall q r)(h':Fall q r'):r=r':=
 keS (fun _ _ a b=>klE a b) (h.1.trans h'.1.symm) h.2 h'.2
noncomputable def grp(n:Nat)(r:List Nat):List (List Nat):=(NK (r.length/n)).map fun g=>(r.drop (g*n)).take n
def Le2(xs ys:List Int):Prop:=xs.length=ys.length∧∀(j:Nat)(v w:Int),xs[j]?>>v→ys[j]?>>w→0≤v∧v≤w
def Le2.nil:Le2 [] []:=⟨rfl,fun j v w e=>by simp at e⟩
def Le2.self{xs:List Int}(h:Nn xs):Le2 xs xs:=⟨rfl,fun j v w e1 e2=>by
 rw[e1] at e2
 cases e2
 exact⟨h v (NM e1),Int.le_refl _⟩⟩
def Le2.nn{xs ys:List Int}(h:Le2 xs ys):Nn xs:=fun v hv=>by
 obtain⟨j,hj,e⟩:=List.getElem_of_mem hv
 exact(h.2 j v (ys[j]'(by rw[←h.1];exact hj)) (by simp[hj,e]) (by simp[show j<ys.length by rw[←h.1];exact hj])).1
def Le2.trans{xs ys zs:List Int}(h:Le2 xs ys)(h':Le2 ys zs):Le2 xs zs:=⟨h.1.trans h'.1,fun j v w e1 e2=>by
 have hj:j<xs.length:=(NT.mp e1).1
 have e3:ys[j]?>>(ys[j]'(by rw[←h.1];exact hj)):=by simp[show j<ys.length by rw[←h.1];exact hj]
 have a:=h.2 j v _ e1 e3
 have b:=h'.2 j _ w e3 e2
 lia⟩
def Le2.append{xs ys xs' ys':List Int}(h:Le2 xs ys)(h':Le2 xs' ys'):Le2 (xs++xs') (ys++ys'):=by
 rwa[by simp[h.1,h'.1],fun j v w e1 e2=>?_]
 have hl:=h.1
 rcases Nat.lt_or_ge j xs.length with hj|hj
 ·rw[En hj] at e1
  rw[En (by lia)] at e2
  exact h.2 j v w e1 e2
 ·rw[Em hj] at e1
  rw[Em (by lia),←hl] at e2
  exact h'.2 _ v w e1 e2
theorem Le2.sum:∀{xs ys:List Int},Le2 xs ys→0≤xs.sum∧xs.sum≤ys.sum
 |[],[],_=>by simp
 |[],_::_,h=>by have:=h.1;simp at this
 |_::_,[],h=>by have:=h.1;simp at this
 |x::xs,y::ys,h=>by
  have h0:=h.2 0 x y rfl rfl
  have h1:Le2 xs ys:=⟨by simpa using h.1,fun j v w e1 e2=>h.2 (j+1) v w (by simpa using e1) (by simpa using e2)⟩
  have h2:=Le2.sum h1
  simp
  lia
def dl_le{c:Int}{ws:List Int}(hn:Nn ws)(h0:0≤c)(h1:c≤ws.sum):Le2 (dl c ws) ws:=by
 rwa[kfL c ws,fun j v w e1 e2=>?_]
 have hj:j<ws.length:=(NT.mp e2).1
 have hw:=hn w (NM e2)
 by_cases hs:ws.sum=0
 ·rw[kkC hs hj] at e1
  cases e1
  rwa[Int.le_refl _,hw]
 ·rw[dl_at hs hj] at e1
  cases e1
  have hp:0<ws.sum:=by
   have:=kbC hn
   lia
  have q:=kj0 (A:=pre ws j) hp h0 h1 hw
  unfold part
  rw[kez e2]
  rwa[q.1,q.2.1]
theorem kd3{is:List Nat}{vs:List Int}{i:Nat}{v:Int}(h:(is.zip vs).lookup i>>v):∃k:Nat,is[k]?>>i∧vs[k]?>>v:=by
 induction is generalizing vs with
 |nil=>simp at h
 | cons a is ih=>
  cases vs with
  |nil=>simp at h
  | cons b vs=>
   simp only[List.zip_cons_cons,Ms] at h
   by_cases e:i=a
   ·subst e
    simp at h
    rwa[0,6,by simp[h]]
   ·have:(i==a)=false:=beq_eq_false_iff_ne.mpr e
    rw[this] at h
    obtain⟨k,h1,h2⟩:=ih h
    rwa[k+1,by simpa using h1,by simpa using h2]
theorem kgD{pr:List Int}{is:List Nat}{vs:List Int}(hn:Nn pr)(hv:Le2 vs (qs pr is)):Le2 (spr pr.length is vs) pr:=by
 rwa[kdm _ _ _,fun j v w e1 e2=>?_]
 have hj:j<pr.length:=(NT.mp e2).1
 have hw:=hn w (NM e2)
 have e3:v=((is.zip vs).lookup j).getD 0:=by
  simp[spr,hj] at e1
  exact e1.symm
 cases e4:(is.zip vs).lookup j with
 |none=>
  rw[e4] at e3
  subst e3
  rwa[Int.le_refl _,hw]
 |some u=>
  rw[e4] at e3
  have e3':v=u:=e3
  subst e3'
  obtain⟨k,h1,h2⟩:=kd3 e4
  refine hv.2 k v w h2 ?_
  simp only[qs,NO,h1,ET]
  rw[N1,e2]
  rfl
theorem qs_nn{pr:List Int}(hn:Nn pr)(is:List Nat):Nn (qs pr is):=fun v hv=>by
 obtain⟨i,_,rfl⟩:=N3.mp hv
 rw[N1]
 cases e:pr[i]? with
 |none=>exact Int.le_refl _
 |some w=>exact hn w (NM e)
noncomputable def leQ(q:List Int)(a b:Nat):Bool:=decide (q.getD b 0<q.getD a 0∨(q.getD a 0=q.getD b 0∧a≤b))
noncomputable def ordQ(q:List Int):List Nat:=(NK q.length).mergeSort (leQ q)
def kdC(q:List Int):(ordQ q).Perm (NK q.length):=List.mergeSort_perm _ _
def keZ(q:List Int):Fall q (ordQ q):=by
 rwa[kdC q,?_]
 have h1:(ordQ q).Pairwise (fun a b=>leQ q a b=true):=List.pairwise_mergeSort (le:=leQ q) (fun a b c h h'=>by simp only[leQ,decide_eq_true_eq] at *;lia) (fun a b=>by simp only[leQ,Dq,decide_eq_true_eq];lia) _
 have h2:(ordQ q).Nodup:=(kdC q).nodup_iff.mpr E3
 refine(h1.and h2).imp fun {a b} h=>?_
 have h3:=h.1
 have h4:a≠b:=h.2
 simp only[leQ,decide_eq_true_eq] at h3
 unfold bef
 lia
noncomputable def gdl(cut:Int→Int)(gs:List (List Nat))(q:List Int):List Int:=spr q.length gs.flatten ((gs.map fun g=>dl (cut (qs q g).sum) (qs q g)).flatten)
def kjP(q:List Int)(a b:List Nat):qs q (a++b)=qs q a++qs q b:=by simp[qs]
theorem kl3{cut:Int→Int}{gs:List (List Nat)}{q:List Int}(hn:Nn q)(hc:∀s,0≤s→0≤cut s∧cut s≤s):Le2 (gdl cut gs q) q:=by
 refine kgD hn ?_
 induction gs with
 |nil=>exact Le2.nil
 |cons g gs ih=>
  rw[NW,Me,Me,kjP]
  have h:=hc _ (kbC (qs_nn hn g))
  exact(dl_le (qs_nn hn g) h.1 h.2).append ih
noncomputable def kfm(n:Nat)(lines:List Nat):List (List Nat):=(NK n).map fun l=>(NK lines.length).filter fun k=>lines.getD k 0==l
noncomputable def lasts(gs:List (List Nat)):List Nat:=gs.map fun g=>g.getLastD 0
noncomputable def want(so:Srt)(n:Nat)(lines:List Nat)(q:List Int):List Int:=match so with
 | .off a=>dl (min a q.sum) q
 | .share s false=>dl (q.sum*s/1000) q
 | .share s true=>gdl (fun z=>z*s/1000) (kfm n lines) q
 | .cheap m=>spr q.length (lasts (grp m.toNat (ordQ q))) (qs q (lasts (grp m.toNat (ordQ q))))
 | .bund m p=>gdl (fun z=>max 0 (z-p)) (grp m.toNat (ordQ q)) q
 | .carr=>NI q.length 0
noncomputable def fee(so:Srt)(cg:Int):Int:=match so with
 | .carr=>cg
 |_=>0
def SrtOk:Srt→Prop
 | .off a=>0≤a∧a≤1000000000000
 | .share s _=>1≤s∧s≤1000
 | .cheap n=>2≤n∧n≤20
 | .bund n p=>2≤n∧n≤20∧0≤p∧p≤1000000000000
 | .carr=>True
def kfW{z s:Int}(hz:0≤z)(h1:1≤s)(h2:s≤1000):0≤z*s/1000∧z*s/1000≤z:=by
 have a:0≤z*s:=Int.mul_nonneg hz (by lia)
 have b:z*s≤z*1000:=Int.mul_le_mul_of_nonneg_left h2 hz
 lia
def km0{q:List Int}(hn:Nn q):Le2 (NI q.length 0) q:=by
 rwa[by simp,fun j v w e1 e2=>?_]
 have:v=0:=by
  rw[Dl] at e1
  split at e1
  ·exact(Option.some.inj e1).symm
  ·cases e1
 subst this
 rwa[Int.le_refl _,hn w (NM e2)]
def khm{a:Int}{n:Nat}{lines:List Nat}{q:List Int}(hn:Nn q)(h0:0≤a):Le2 (want (.off a) n lines q) q:=by
 have hs:=kbC hn
 show Le2 (dl (min a q.sum) q) q
 exact dl_le hn (by lia) (by lia)
theorem kfO{s:Int}{e:Bool}{n:Nat}{lines:List Nat}{q:List Int}(hn:Nn q)(h1:1≤s)(h2:s≤1000):Le2 (want (.share s e) n lines q) q:=by
 have hs:=kbC hn
 cases e with
 |false=>
  show Le2 (dl (q.sum*s/1000) q) q
  have h:=kfW hs h1 h2
  exact dl_le hn h.1 h.2
 |true=>
  show Le2 (gdl (fun z=>z*s/1000) (kfm n lines) q) q
  exact kl3 hn fun z hz=>kfW hz h1 h2
def kgy{m p:Int}{n:Nat}{lines:List Nat}{q:List Int}(hn:Nn q)(h0:0≤p):Le2 (want (.bund m p) n lines q) q:=by
 show Le2 (gdl (fun z=>max 0 (z-p)) (grp m.toNat (ordQ q)) q) q
 exact kl3 hn fun z hz=>⟨by show 0≤max 0 (z-p);lia,by show max 0 (z-p)≤z;lia⟩
def kfP{m:Int}{n:Nat}{lines:List Nat}{q:List Int}(hn:Nn q):Le2 (want (.cheap m) n lines q) q:=by
 show Le2 (spr q.length _ (qs q _)) q
 exact kgD hn (Le2.self (qs_nn hn _))
def kgx{n:Nat}{lines:List Nat}{q:List Int}(hn:Nn q):Le2 (want .carr n lines q) q:=km0 hn
theorem ki6{so:Srt}{n:Nat}{lines:List Nat}{q:List Int}(hn:Nn q)(ho:SrtOk so):Le2 (want so n lines q) q:=by
 cases so with
 |off a=>exact khm hn ho.1
 |share s e=>exact kfO hn ho.1 ho.2
 |cheap m=>exact kfP hn
 |bund m p=>exact kgy hn ho.2.2.1
 |carr=>exact kgx hn
noncomputable def cap(most:Option Int)(w:List Int)(f:Int):List Int×Int:=match most with
 |none=>(w,f)
 |some m=>if m<w.sum+f then(dl (min m w.sum) w,min f m) else(w,f)
theorem knr{most:Option Int}{w q:List Int}{f cg:Int}(h:Le2 w q)(hf:0≤f∧f≤cg)(hm:∀m,most>>m→0≤m):Le2 (cap most w f).1 q∧0≤(cap most w f).2∧(cap most w f).2≤cg:=by
 unfold cap
 cases most with
 |none=>exact⟨h,hf⟩
 |some m=>
  have h0:=hm m rfl
  have hs:=kbC h.nn
  simp only
  split
  ·rwa[(dl_le h.nn (by lia) (by lia)).trans h,by simp only;lia,by simp only;lia]
  ·rwa[h,hf]
noncomputable def cutM(V:Vch)(ps:List (Option Nat))(kk:List Nat)(S:Stnd):List Int×Int:=
 let is:=abt ps kk V.ms.kind V.ms.lone S
 let c:=cap V.ms.most (want V.so S.mkd.length (is.map fun i=>S.ow.getD i 0) (qs S.pr is)) (fee V.so S.cg)
 (spr S.pr.length is c.1,c.2)
def kl8{V:Vch}{ps:List (Option Nat)}{kk:List Nat}{S:Stnd}(hn:Nn S.pr)(hc:0≤S.cg)(ho:SrtOk V.so)(hm:∀m,V.ms.most>>m→0≤m):Le2 (cutM V ps kk S).1 S.pr∧0≤(cutM V ps kk S).2∧(cutM V ps kk S).2≤S.cg:=by
 have hf:0≤fee V.so S.cg∧fee V.so S.cg≤S.cg:=by
  unfold fee
  split <;> lia
 have h:=knr (most:=V.ms.most) (ki6 (n:=S.mkd.length) (lines:=(abt ps kk V.ms.kind V.ms.lone S).map fun i=>S.ow.getD i 0) (qs_nn hn (abt ps kk V.ms.kind V.ms.lone S)) ho) hf hm
 rwa[kgD hn h.1,h.2]
noncomputable def kdN(ow:List Nat)(c:List Int)(l:Nat):Bool:=(NK ow.length).any fun i=>ow.getD i 0==l&&decide (0<c.getD i 0)
noncomputable def aftM(V:Vch)(ps:List (Option Nat))(kk:List Nat)(S:Stnd):Stnd:=
 ⟨S.ow,Mg (· - ·) S.pr (cutM V ps kk S).1,S.cg-(cutM V ps kk S).2,(NK S.mkd.length).map fun l=>S.mkd.getD l false||(V.ms.lone&&kdN S.ow (cutM V ps kk S).1 l)⟩
def knu{V:Vch}{ps:List (Option Nat)}{kk:List Nat}{S:Stnd}(hn:Nn S.pr)(hc:0≤S.cg)(ho:SrtOk V.so)(hm:∀m,V.ms.most>>m→0≤m):Le2 (aftM V ps kk S).pr S.pr∧0≤(aftM V ps kk S).cg∧(aftM V ps kk S).cg≤S.cg:=by
 have h:=kl8 (ps:=ps) (kk:=kk) hn hc ho hm
 rwa[⟨?_,fun j v w e1 e2=>?_⟩,?_,?_]
 ·show(Mg _ _ _).length=_
  rw[Eh,h.1.1]
  lia
 ·have hj:j<S.pr.length:=(NT.mp e2).1
  have hj2:j<(cutM V ps kk S).1.length:=by rw[h.1.1];exact hj
  have e3:(cutM V ps kk S).1[j]?>>((cutM V ps kk S).1[j]):=by simp[hj2]
  have b:=h.1.2 j _ w e3 e2
  have e4:(Mg (· - ·) S.pr (cutM V ps kk S).1)[j]?>>(w-(cutM V ps kk S).1[j]):=by
   rw[Ey,e2,e3]
  have e1':(Mg (· - ·) S.pr (cutM V ps kk S).1)[j]?>>v:=e1
  rw[e4] at e1'
  cases e1'
  lia
 ·show 0≤S.cg-_
  have:=h.2
  lia
 ·show S.cg-_≤S.cg
  have:=h.2
  lia
def kiz{m:Nat}{r:List Nat}{i:Nat}{g:List Nat}(h:(grp m r)[i]?>>g):i*m+m≤r.length∧g.length=m∧∀j,j<m→g[j]?=r[i*m+j]?:=by
 unfold grp at h
 rw[NO] at h
 have hi:i<r.length/m:=by
  rcases Nat.lt_or_ge i (r.length/m) with q|q
  ·exact q
  ·rw[Dx (by simpa using q)] at h
   cases h
 rw[EI hi] at h
 cases h
 have hle:i*m+m≤r.length:=by
  have h1:(i+1)*m≤r.length/m*m:=Nat.mul_le_mul_right m hi
  have h2:=Nat.div_mul_le_self r.length m
  rw[Nat.add_mul,Nat.one_mul] at h1
  lia
 rwa[hle,by rw[NS,Eo];lia,fun j hj=>?_]
 rw[DP hj,List.getElem?_drop]
theorem khL{m:Nat}{r:List Nat}{i:Nat}{g:List Nat}(hm:0<m)(h:(grp m r)[i]?>>g):r[i*m+(m-1)]?>>(g.getLastD 0):=by
 obtain⟨hle,hl,hg⟩:=kiz h
 rw[←hg (m-1) (by lia)]
 cases g with
 |nil=>simp at hl;lia
 |cons x xs=>
  have e:(x::xs).getLastD 0=(x::xs).getLast (by simp):=by simp[List.getLastD]
  rw[e,List.getLast_eq_getElem,NT]
  rwa[by lia,?_]
  congr 1
  lia
def kiv{gs:List (List Nat)}{i:Nat}{g:List Nat}(h:gs[i]?>>g):(lasts gs)[i]?>>(g.getLastD 0):=by
 unfold lasts
 rw[NO,h]
 rfl
def kdL(gs:List (List Nat)):(lasts gs).length=gs.length:=by simp[lasts]
def khK{m:Nat}{r:List Nat}(hm:0<m)(hr:r.Nodup):(lasts (grp m r)).Nodup:=by
 refine Ef.mpr fun i j hi hj hij e=>?_
 rw[kdL] at hi hj
 have e1:(grp m r)[i]?>>(grp m r)[i]:=by simp[hi]
 have e2:(grp m r)[j]?>>(grp m r)[j]:=by simp[hj]
 have a1:=khL hm e1
 have a2:=khL hm e2
 have b1:=kiv e1
 have b2:=kiv e2
 obtain⟨_,c1⟩:=NT.mp b1
 obtain⟨_,c2⟩:=NT.mp b2
 rw[c1,c2] at e
 rw[e] at a1
 obtain⟨l1,d1⟩:=NT.mp a1
 obtain⟨l2,d2⟩:=NT.mp a2
 have hlt:i*m+(m-1)<j*m+(m-1):=by
  have:=Nat.mul_lt_mul_of_pos_right hij hm
  lia
 exact Ef.mp hr _ _ l1 l2 hlt (by rw[d1,d2])
def kmB{q:List Int}{i:Nat}(h:i∈ordQ q):i<q.length:=by
 have:=(kdC q).mem_iff.mp h
 simpa using this
def kkX{n:Nat}{is:List Nat}{vs:List Int}{i:Nat}{v:Int}(hl:is.length=vs.length)(hn:(is++[i]).Nodup)(hi:i<n):(spr n is vs).set i v=spr n (is++[i]) (vs++[v]):=by
 have h:=kml (n:=n) (is:=is++[i]) (vs:=vs++[v]) hn (k:=is.length) (i:=i) (v:=v) (by simp) (by rw[hl];simp) hi
 rw[List.take_left' rfl,List.take_left' hl.symm,MN (by simp),MN (by simp[hl])] at h
 exact h
def keJ{gs:List (List Nat)}(h:gs.flatten.Nodup){i k a:Nat}{g:List Nat}(hg:gs[i]?>>g)(hk:g[k]?>>a):((gs.take i).flatten++g.take k++[a]).Nodup:=by
 have e:gs=gs.take i++g::gs.drop (i+1):=by
  obtain⟨hi,eg⟩:=NT.mp hg
  rw[←eg,DV hi,E4]
 have e2:g=(g.take k++[a])++g.drop (k+1):=by
  obtain⟨hk',ek⟩:=NT.mp hk
  rw[Mr,List.singleton_append,←ek,DV hk',E4]
 rw[e,E2,Me] at h
 rw[Mr]
 refine h.sublist (Ez.append_left ?_ _)
 refine Ez.trans ?_ (Dy g _)
 conv=>rhs;rw[e2]
 exact Dy _ _
theorem klq{m:Nat}(r:List Nat):(grp m r).flatten=r.take (r.length/m*m):=by
 unfold grp
 have hle:r.length/m*m≤r.length:=Nat.div_mul_le_self _ _
 generalize r.length/m=c at *
 induction c with
 |zero=>simp
 |succ c ih=>
  have h1:c*m+m≤r.length:=by rw[←Nat.succ_mul];exact hle
  rw[Mx,NL,E2,ih (by lia)]
  simp only[NW,Ec,Me,List.flatten_nil,MQ]
  rw[show(c+1)*m=c*m+m by rw[Nat.add_mul,Nat.one_mul],Dz]
def kkp{m:Nat}{r:List Nat}(h:r.Nodup):(grp m r).flatten.Nodup:=by
 rw[klq]
 exact h.sublist (List.take_sublist _ _)
theorem kdk{is:List Nat}(hn:is.Nodup){k i:Nat}(hk:is[k]?>>i):∀(l:List (Nat×Int)),(∀p∈l,p.1<is.length)→(l.map fun p=>(is.getD p.1 0,p.2)).lookup i=l.lookup k
 |[],_=>rfl
 | (j,v)::l,h=>by
  have ih:=kdk hn hk l fun p hp=>h p (N2 _ hp)
  have hj:j<is.length:=h (j,v) N4
  obtain⟨hk',ek⟩:=NT.mp hk
  have e:is.getD j 0=is[j]:=by rw[N1];simp[hj]
  simp only[NW,Ms,e]
  by_cases q:k=j
  ·subst q
   simp[ek]
  ·have h1:(k==j)=false:=by simp[q]
   have h2:(i==is[j])=false:=by
    refine beq_eq_false_iff_ne.mpr fun z=>q ?_
    exact(List.getElem_inj hn).mp (by rw[ek,z])
   rw[h1,h2]
   exact ih
theorem lookup_none{is:List Nat}{i:Nat}(hi:∀k:Nat,is[k]?≠some i):∀(l:List (Nat×Int)),(∀p∈l,p.1<is.length)→(l.map fun p=>(is.getD p.1 0,p.2)).lookup i=none
 |[],_=>rfl
 |(j,v)::l,h=>by
  have ih:=lookup_none hi l fun p hp=>h p (N2 _ hp)
  have hj:j<is.length:=h (j,v) N4
  have e:is.getD j 0=is[j]:=by rw[N1];simp[hj]
  have h2:(i==is[j])=false:=beq_eq_false_iff_ne.mpr fun z=>hi j (by rw[z];simp[hj])
  simp only[NW,Ms,e,h2]
  exact ih
theorem kfa{is:List Nat}(hn:is.Nodup){k i:Nat}(hk:is[k]?>>i):∀{vs:List Int},is.length=vs.length→(is.zip vs).lookup i=vs[k]?:=by
 induction is generalizing k with
 |nil=>simp at hk
 | cons a is ih=>
  intro vs hl
  cases vs with
  |nil=>simp at hl
  | cons v vs=>
   rw[List.zip_cons_cons,Ms]
   cases k with
   |zero=>
    have:a=i:=by simpa using hk
    subst this
    simp
   |succ k=>
    have hk':is[k]?>>i:=by simpa using hk
    have hh:=MK.mp hn
    have hne:(i==a)=false:=beq_eq_false_iff_ne.mpr fun z=>hh.1 (z▸NM hk')
    rw[hne]
    simpa using ih hh.2 hk' (by simpa using hl)
def khp{n:Nat}{is js:List Nat}{vs:List Int}(hn:is.Nodup)(hj:∀j∈js,j<is.length):spr n is (spr is.length js vs)=spr n (js.map fun j=>is.getD j 0) vs:=by
 apply MY
 ·simp[spr]
 intro i h1 h2
 have ez:(js.map fun j=>is.getD j 0).zip vs=(js.zip vs).map fun p=>(is.getD p.1 0,p.2):=by rw[List.zip_map_left];rfl
 have hp:∀p∈js.zip vs,p.1<is.length:=fun p hp=>hj _ (M4 hp).1
 simp only[spr,Ew,EH]
 rw[ez]
 by_cases hk:∃k:Nat,is[k]?>>i
 ·obtain⟨k,hk⟩:=hk
  have hkl:=(NT.mp hk).1
  rw[kdk hn hk _ hp,kfa hn hk (by simp)]
  simp[hkl]
 ·rw[lookup_none (fun k e=>hk ⟨k,e⟩) _ hp]
  have:((is.zip ((NK is.length).map fun i=>((js.zip vs).lookup i).getD 0)).lookup i)=none:=by
   rw[List.lookup_eq_none_iff]
   intro p hp'
   have:=(M4 hp').1
   obtain⟨k,ek⟩:=MZ.mp this
   have hne:i≠p.1:=fun z=>hk ⟨k,by rw[ek,←z]⟩
   simpa using hne
  rw[this]
noncomputable def owns(n:Nat)(ow:List Nat)(is:List Nat):List (List Nat):=(NK n).map fun l=>is.filter fun i=>ow.getD i 0==l
def kfl(n:Nat)(ow is:List Nat):(kfm n (is.map fun i=>ow.getD i 0)).map (fun g=>g.map fun j=>is.getD j 0)=owns n ow is:=by
 unfold kfm owns
 rw[N7]
 refine My fun l _=>?_
 show(((NK _).filter _).map fun j=>is.getD j 0)=_
 have e:is=(NK is.length).map fun j=>is.getD j 0:=by
  apply MY
  ·simp
  ·intro j h1 h2
   simp[N1,h1]
 conv=>rhs;rw[e]
 rw[List.filter_map,ND]
 congr 1
 refine List.filter_congr fun k hk=>?_
 have hk':k<is.length:=by simpa using hk
 simp[N1,hk']
def qs_qs{pr:List Int}{ab g:List Nat}(h:∀j∈g,j<ab.length):qs (qs pr ab) g=qs pr (g.map fun j=>ab.getD j 0):=by
 unfold qs
 rw[N7]
 refine My fun j hj=>?_
 have:=h j hj
 simp[N1,this]
def khd{n:Nat}{lines:List Nat}{g:List Nat}(hg:g∈kfm n lines){j:Nat}(hj:j∈g):j<lines.length:=by
 obtain⟨l,_,rfl⟩:=N3.mp hg
 have:=(Mi.mp hj).1
 simpa using this
def khS{n N:Nat}{ow ab:List Nat}{pr:List Int}(cut:Int→Int)(hn:ab.Nodup):spr n ab (gdl cut (kfm N (ab.map fun i=>ow.getD i 0)) (qs pr ab))=spr n (owns N ow ab).flatten ((owns N ow ab).map fun o=>dl (cut (qs pr o).sum) (qs pr o)).flatten:=by
 unfold gdl
 rw[kck,khp hn fun j hj=>?_,List.map_flatten,kfl]
 ·congr 2
  rw[←kfl,N7]
  refine My fun g hg=>?_
  have e:=qs_qs (pr:=pr) (ab:=ab) (g:=g) fun j hj=>by simpa using khd hg hj
  show dl (cut (qs (qs pr ab) g).sum) (qs (qs pr ab) g)=dl (cut (qs pr (g.map fun j=>ab.getD j 0)).sum) (qs pr (g.map fun j=>ab.getD j 0))
  rw[e]
 ·obtain⟨g,hg,hj'⟩:=M0.mp hj
  simpa using khd hg hj'
section
variable{p:Nat→Bool}{n:Nat}{w:List Int}
noncomputable def cnt(p:Nat→Bool)(j:Nat):Nat:=((NK j).filter p).length
theorem kkJ{j:Nat}(h:p j=true):cnt p (j+1)=cnt p j+1:=by
 unfold cnt
 rw[Mx,M8,NQ]
 simp[h]
theorem kma{j:Nat}(h:p j=false):cnt p (j+1)=cnt p j:=by
 unfold cnt
 rw[Mx,M8,NQ]
 simp[h]
theorem kc9:∀{n j:Nat},j<n→p j=true→((NK n).filter p)[cnt p j]?>>j
 |0,j,h,_=>by lia
 | n+1,j,h,hp=>by
  rw[Mx,M8]
  by_cases hj:j<n
  ·have ih:=kc9 hj hp
   rw[En (NT.mp ih).1]
   exact ih
  ·have e:j=n:=by lia
   subst e
   unfold cnt
   rw[Em (NG _)]
   simp[hp]
theorem klL(hl:w.length=cnt p n){j:Nat}(hj:j<n):(spr n ((NK n).filter p) w)[j]?>>(if p j=true then w.getD (cnt p j) 0 else 0):=by
 unfold spr
 rw[NO,EI hj]
 show some _>>_
 congr 1
 show(MB j (((NK n).filter p).zip w)).getD 0=_
 cases hp:p j with
 |true=>
  rw[kfa (Er.filter _ E3) (kc9 hj hp) hl.symm,if_pos rfl,N1]
 | false=>
  rw[if_neg NP]
  cases e:(((NK n).filter p).zip w).lookup j with
  |none=>rw[Dm]
  |some v=>
   obtain⟨k,hk,_⟩:=kd3 e
   have:=(Mi.mp (NM hk)).2
   rw[hp] at this
   cases this
theorem kf8(hl:w.length=cnt p n):∀j,j≤n→pre (spr n ((NK n).filter p) w) j=pre w (cnt p j)
 |0,_=>by simp[pre,cnt]
 | j+1,h=>by
  have ih:=kf8 hl j (by lia)
  rw[kez (klL hl (show j<n by lia)),ih]
  cases hp:p j with
  |true=>
   have hk:=(NT.mp (kc9 (show j<n by lia) hp)).1
   have hk':cnt p j<w.length:=by rw[hl];exact hk
   rw[if_pos rfl,kkJ hp,kez (w:=w.getD (cnt p j) 0) (by rw[N1,MG hk'];rfl)]
  |false=>rw[if_neg NP,kma hp,Int.add_zero]
theorem kje(hl:w.length=cnt p n):(spr n ((NK n).filter p) w).sum=w.sum:=by
 have h:=kf8 hl n (NG _)
 rw[←hl,kjU] at h
 have e:pre (spr n ((NK n).filter p) w) n=(spr n ((NK n).filter p) w).sum:=by
  have:=kjU (spr n ((NK n).filter p) w)
  rw[kdm] at this
  exact this
 rw[←e,h]
theorem knp(m:Int)(hl:w.length=cnt p n):dl m (spr n ((NK n).filter p) w)=spr n ((NK n).filter p) (dl m w):=by
 have hl2:(dl m w).length=cnt p n:=by rw[kfL,hl]
 have hs:=kje hl
 apply List.ext_getElem?
 intro j
 by_cases hj:j<n
 ·rw[klL hl2 hj]
  have hjF:j<(spr n ((NK n).filter p) w).length:=by rw[kdm];exact hj
  by_cases h0:w.sum=0
  ·rw[kkC (hs.trans h0) hjF]
   cases hp:p j with
   |false=>rw[if_neg NP]
   |true=>
    have hk:=(NT.mp (kc9 hj hp)).1
    rw[if_pos rfl,N1,kkC h0 (by rw[hl];exact hk)]
    rfl
  ·rw[dl_at (by rw[hs];exact h0) hjF]
   unfold part
   rw[hs,kf8 hl j (by lia),kf8 hl (j+1) (by lia)]
   cases hp:p j with
   |false=>rw[if_neg NP,kma hp,Int.sub_self]
   |true=>
    have hk:=(NT.mp (kc9 hj hp)).1
    rw[if_pos rfl,N1,dl_at h0 (by rw[hl];exact hk),kkJ hp]
    rfl
 ·rw[Dx (by rw[kfL,kdm];lia),Dx (by rw[kdm];lia)]
end
def kmS{c:Int}{n:Nat}:dl c (NI n 0)=NI n 0:=by
 have e:(NI n (0:Int)).sum=0:=by simp
 unfold dl
 rw[if_pos e]
 simp
theorem klA{V:Vch}{ps:List (Option Nat)}{kk:List Nat}{S:Stnd}(e:V.ms.most=none):
  (cutM V ps kk S).1=spr S.pr.length (abt ps kk V.ms.kind V.ms.lone S) (want V.so S.mkd.length ((abt ps kk V.ms.kind V.ms.lone S).map fun i=>S.ow.getD i 0) (qs S.pr (abt ps kk V.ms.kind V.ms.lone S))):=by
 unfold cutM cap
 rw[e]
theorem klz{V:Vch}{ps:List (Option Nat)}{kk:List Nat}{S:Stnd}(hl:S.pr.length=S.ow.length)
  (hw:Le2 (want V.so S.mkd.length ((abt ps kk V.ms.kind V.ms.lone S).map fun i=>S.ow.getD i 0) (qs S.pr (abt ps kk V.ms.kind V.ms.lone S))) (qs S.pr (abt ps kk V.ms.kind V.ms.lone S))){m:Int}(e:V.ms.most>>m)(h0:0≤m):
  (cutM V ps kk S).1=if(spr S.pr.length (abt ps kk V.ms.kind V.ms.lone S) (want V.so S.mkd.length ((abt ps kk V.ms.kind V.ms.lone S).map fun i=>S.ow.getD i 0) (qs S.pr (abt ps kk V.ms.kind V.ms.lone S)))).sum > m
   then dl m (spr S.pr.length (abt ps kk V.ms.kind V.ms.lone S) (want V.so S.mkd.length ((abt ps kk V.ms.kind V.ms.lone S).map fun i=>S.ow.getD i 0) (qs S.pr (abt ps kk V.ms.kind V.ms.lone S))))
   else spr S.pr.length (abt ps kk V.ms.kind V.ms.lone S) (want V.so S.mkd.length ((abt ps kk V.ms.kind V.ms.lone S).map fun i=>S.ow.getD i 0) (qs S.pr (abt ps kk V.ms.kind V.ms.lone S))):=by
 have hwl:=hw.1
 rw[kck] at hwl
 have ea:abt ps kk V.ms.kind V.ms.lone S=(NK S.pr.length).filter fun i=>hits ps kk V.ms.kind V.ms.lone S.mkd (S.ow.getD i 0):=by rw[hl];rfl
 have ez:V.so=.carr→(want V.so S.mkd.length ((abt ps kk V.ms.kind V.ms.lone S).map fun i=>S.ow.getD i 0) (qs S.pr (abt ps kk V.ms.kind V.ms.lone S)))=NI (qs S.pr (abt ps kk V.ms.kind V.ms.lone S)).length 0:=fun z=>by rw[z];rfl
 unfold cutM cap
 rw[e]
 simp only
 generalize want V.so S.mkd.length ((abt ps kk V.ms.kind V.ms.lone S).map fun i=>S.ow.getD i 0) (qs S.pr (abt ps kk V.ms.kind V.ms.lone S))=w at *
 rw[ea] at hwl⊢
 rw[kje hwl,knp m hwl]
 by_cases hc:V.so=.carr
 ·have hz:=ez hc
  have hs:w.sum=0:=by rw[hz];simp
  rw[if_neg (by lia:¬w.sum > m)]
  split
  ·simp only
   rw[hz,kmS]
  ·rfl
 ·have hf:fee V.so S.cg=0:=by
   unfold fee
   split
   ·rename_i z
    exact absurd z hc
   ·rfl
  rw[hf,Int.add_zero]
  by_cases hm:m<w.sum
  ·rw[if_pos hm,if_pos hm]
   simp only
   rw[Int.min_eq_left (by lia)]
  ·rw[if_neg hm,if_neg hm]
noncomputable def ins:List (Nat×List Nat)→Nat→Nat→List (Nat×List Nat)
 |[],o,a=>[(o,[a])]
 |(l,g)::G,o,a=>if l=o then(l,g++[a])::G else(l,g)::ins G o a
noncomputable def parted(f:Nat→Nat)(is:List Nat):List (Nat×List Nat):=is.foldl (fun G a=>ins G (f a) a) []
def keY(f:Nat→Nat)(is:List Nat)(a:Nat):parted f (is++[a])=ins (parted f is) (f a) a:=by
 unfold parted
 rw[List.foldl_append]
 rfl
theorem keD:∀(G:List (Nat×List Nat))(o a:Nat),(ins G o a).map Prod.fst=if o∈G.map Prod.fst then G.map Prod.fst else G.map Prod.fst++[o]
 |[],o,a=>by simp[ins]
 | (l,g)::G,o,a=>by
  unfold ins
  by_cases h:l=o
  ·subst h
   simp
  ·rw[if_neg h,NW,keD G o a]
   show _=if o∈l::G.map Prod.fst then l::G.map Prod.fst else(l::G.map Prod.fst)++[o]
   have h':¬o=l:=fun z=>h z.symm
   by_cases hm:o∈G.map Prod.fst
   ·rw[if_pos hm,if_pos (N2 _ hm)]
   ·rw[if_neg hm,if_neg (by rw[N5,not_or];exact⟨h',hm⟩)]
    rfl
theorem kkk:∀{G:List (Nat×List Nat)}{o a l:Nat}{g:List Nat},(G.map Prod.fst).Nodup→(l,g)∈ins G o a→(l≠o∧(l,g)∈G)∨(l=o∧((∃g',(o,g')∈G∧g=g'++[a])∨(o∉G.map Prod.fst∧g=[a])))
 |[],o,a,l,g,_,h=>by
  unfold ins at h
  rw[MO] at h
  cases h
  exact .inr ⟨rfl, .inr ⟨by simp,rfl⟩⟩
 | (k,g0)::G,o,a,l,g,hn,h=>by
  unfold ins at h
  rw[NW,MK] at hn
  by_cases e:k=o
  ·rw[if_pos e] at h
   subst e
   rcases N5.mp h with z|z
   ·cases z
    exact .inr ⟨rfl, .inl ⟨g0,N4,rfl⟩⟩
   ·refine .inl ⟨fun w=>?_,N2 _ z⟩
    subst w
    exact hn.1 (N3.mpr ⟨(l,g),z,rfl⟩)
  ·rw[if_neg e] at h
   rcases N5.mp h with z|z
   ·cases z
    exact .inl ⟨e,N4⟩
   ·rcases kkk hn.2 z with⟨w1,w2⟩|⟨w1,⟨g',w2,w3⟩|⟨w2,w3⟩⟩
    ·exact .inl ⟨w1,N2 _ w2⟩
    ·exact .inr ⟨w1, .inl ⟨g',N2 _ w2,w3⟩⟩
    ·refine .inr ⟨w1, .inr ⟨?_,w3⟩⟩
     rw[NW,N5,not_or]
     rwa[fun z=>e z.symm,w2]
structure PtOk(f:Nat→Nat)(is:List Nat)(G:List (Nat×List Nat)):Prop where
 nd:(G.map Prod.fst).Nodup
 gs:∀l g,(l,g)∈G→g=is.filter fun i=>f i==l
 all:∀i∈is,f i∈G.map Prod.fst
theorem kfE(f:Nat→Nat):∀(n:Nat)(is:List Nat),is.length=n→PtOk f is (parted f is)
 |0,is,h=>by
  have e:is=[]:=List.eq_nil_of_length_eq_zero h
  subst e
  rwa[by simp[parted],fun l g hg=>by simp[parted] at hg,fun i hi=>by simp at hi]
 | n +1,is,h=>by
  have hne:is≠[]:=by
   intro z
   subst z
   cases h
  obtain⟨is',a,rfl⟩:∃is' a,is=is'++[a]:=⟨is.dropLast,is.getLast hne,(List.dropLast_concat_getLast hne).symm⟩
  have ih:=kfE f n is' (by simpa using h)
  rw[keY]
  rwa[?_,fun l g hg=>?_,fun i hi=>?_]
  ·rw[keD]
   split
   ·exact ih.nd
   ·rename_i hm
    exact E5.mpr ⟨ih.nd,by simp,fun x hx y hy=>by
     rw[MO] at hy
     subst hy
     exact fun z=>hm (by rw[←z];exact hx)⟩
  ·rw[M8]
   rcases kkk ih.nd hg with⟨w1,w2⟩|⟨w1,⟨g',w2,w3⟩|⟨w2,w3⟩⟩
   ·rw[ih.gs l g w2]
    have:(f a==l)=false:=by simpa using fun z=>w1 z.symm
    simp[this]
   ·subst w1 w3
    rw[ih.gs _ g' w2]
    simp
   ·subst w1 w3
    have e:is'.filter (fun i=>f i==f a)=[]:=by
     rw[List.filter_eq_nil_iff]
     intro i hi z
     have z':f i=f a:=by simpa using z
     exact w2 (by rw[←z'];exact ih.all i hi)
    rw[e]
    simp
  ·rw[keD]
   rcases Mj.mp hi with hi|hi
   ·have:=ih.all i hi
    split
    ·exact this
    ·exact Dc _ this
   ·rw[MO] at hi
    subst hi
    split
    ·assumption
    ·exact Ml _ (by simp)
def kc0(f:Nat→Nat)(is:List Nat):PtOk f is (parted f is):=kfE f is.length is rfl
def PtOk.snds{f:Nat→Nat}{is:List Nat}{G:List (Nat×List Nat)}(h:PtOk f is G):G.map Prod.snd=(G.map Prod.fst).map fun l=>is.filter fun i=>f i==l:=by
 rw[N7]
 refine My fun p hp=>?_
 exact h.gs p.1 p.2 hp
theorem kiZ{l l':List (Nat×Int)}{i:Nat}:(l++l').lookup i=(l.lookup i).or (l'.lookup i):=by
 induction l with
 |nil=>simp
 |cons p l ih=>
  obtain⟨a,b⟩:=p
  rw[EY,Ms,Ms,ih]
  split <;> rfl
theorem kfH{l:List (Nat×Int)}{i:Nat}(h:∀p∈l,p.1≠i):l.lookup i=none:=by
 induction l with
 |nil=>rfl
 | cons p l ih=>
  obtain⟨a,b⟩:=p
  have h1:(i==a)=false:=by
   have:=h (a,b) N4
   simpa using fun z=>this z.symm
  rw[Ms,h1]
  exact ih fun q hq=>h q (N2 _ hq)
section
variable{f:Nat→Nat}{is:List Nat}{D:List Nat→List Int}
theorem kmd{l i:Nat}{vs:List Int}(h:f i≠l):((is.filter fun i=>f i==l).zip vs).lookup i=none:=
 kfH fun p hp=>by
  have h1:=(M4 (show(p.1,p.2)∈_ from hp)).1
  have h2:f p.1=l:=by simpa using(Mi.mp h1).2
  intro z
  rw[z] at h2
  exact h h2
theorem kee(hD:∀g,(D g).length=g.length)(i:Nat):∀(ks:List Nat),ks.Nodup→
  (((ks.map fun l=>is.filter fun i=>f i==l).flatten).zip ((ks.map fun l=>D (is.filter fun i=>f i==l)).flatten)).lookup i=if f i∈ks then((is.filter fun j=>f j==f i).zip (D (is.filter fun j=>f j==f i))).lookup i else none
 |[],_=>by simp
 | l::ks,hn=>by
  rw[MK] at hn
  have ih:=kee hD i ks hn.2
  rw[NW,NW,Me,Me,List.zip_append (hD _).symm,kiZ,ih]
  by_cases h:f i=l
  ·subst h
   rw[if_neg hn.1,if_pos N4,Option.or_none]
  ·rw[kmd h,Option.none_or]
   by_cases hm:f i∈ks
   ·rw[if_pos hm,if_pos (N2 _ hm)]
   ·rw[if_neg hm,if_neg (by rw[N5,not_or];exact⟨h,hm⟩)]
theorem kiT(hD:∀g,(D g).length=g.length){n:Nat}{ks ks':List Nat}(hn:ks.Nodup)(hn':ks'.Nodup)(h:∀i∈is,f i∈ks)(h':∀i∈is,f i∈ks'):
  spr n (ks.map fun l=>is.filter fun i=>f i==l).flatten (ks.map fun l=>D (is.filter fun i=>f i==l)).flatten=spr n (ks'.map fun l=>is.filter fun i=>f i==l).flatten (ks'.map fun l=>D (is.filter fun i=>f i==l)).flatten:=by
 unfold spr
 refine My fun i _=>?_
 have key:∀ks:List Nat,ks.Nodup→(∀i∈is,f i∈ks)→(((ks.map fun l=>is.filter fun i=>f i==l).flatten).zip ((ks.map fun l=>D (is.filter fun i=>f i==l)).flatten)).lookup i=((is.filter fun j=>f j==f i).zip (D (is.filter fun j=>f j==f i))).lookup i:=fun ks hn hk=>by
  rw[kee hD i ks hn]
  by_cases hm:f i∈ks
  ·rw[if_pos hm]
  ·rw[if_neg hm,kfH fun p hp=>?_]
   have h1:=(M4 (show(p.1,p.2)∈_ from hp)).1
   obtain⟨h2,h3⟩:=Mi.mp h1
   exact fun _=>hm (by rw[←(show f p.1=f i by simpa using h3)];exact hk _ h2)
 rw[key ks hn h,key ks' hn' h']
theorem keX(hi:is.Nodup):∀{ks:List Nat},ks.Nodup→(ks.map fun l=>is.filter fun i=>f i==l).flatten.Nodup
 |[],_=>by simp
 |l::ks,hn=>by
  rw[MK] at hn
  rw[NW,Me]
  refine E5.mpr ⟨hi.filter _,keX hi hn.2,fun x hx y hy z=>?_⟩
  subst z
  have h1:f x=l:=by simpa using(Mi.mp hx).2
  obtain⟨g,hg,hy⟩:=M0.mp hy
  obtain⟨l',hl',rfl⟩:=N3.mp hg
  have h2:f x=l':=by simpa using(Mi.mp hy).2
  exact hn.1 (by rw[←h1,h2];exact hl')
end
theorem kiU{n N:Nat}{ow ab:List Nat}{pr:List Int}(cut:Int→Int)(hn:ab.Nodup)(hN:∀i∈ab,ow.getD i 0<N):
  spr n ((parted (fun i=>ow.getD i 0) ab).map Prod.snd).flatten (((parted (fun i=>ow.getD i 0) ab).map Prod.snd).map fun g=>dl (cut (qs pr g).sum) (qs pr g)).flatten=spr n ab (gdl cut (kfm N (ab.map fun i=>ow.getD i 0)) (qs pr ab)):=by
 have ok:=kc0 (fun i=>ow.getD i 0) ab
 rw[khS cut hn,ok.snds]
 generalize hks:(parted (fun i=>ow.getD i 0) ab).map Prod.fst=ks at *
 have nd:ks.Nodup:=by rw[←hks];exact ok.nd
 have al:∀i∈ab,ow.getD i 0∈ks:=by rw[←hks];exact ok.all
 unfold owns
 rw[N7,N7]
 exact kiT (f:=fun i=>ow.getD i 0) (is:=ab) (D:=fun g=>dl (cut (qs pr g).sum) (qs pr g)) (fun g=>by rw[kfL,kck]) nd E3 al fun i hi=>by simpa using hN i hi
def kfF(f:Nat→Nat):∀(is:List Nat),(parted f is).length≤is.length:=by
 intro is
 have key:∀(is:List Nat)(G:List (Nat×List Nat)),(is.foldl (fun G a=>ins G (f a) a) G).length≤G.length+is.length:=by
  intro is
  induction is with
  |nil=>intro G;simp
  | cons a is ih=>
   intro G
   have h1:=ih (ins G (f a) a)
   have h2:(ins G (f a) a).length≤G.length+1:=by
    have:=congrArg El (keD G (f a) a)
    rw[ND] at this
    rw[this]
    split <;> simp
   rw[List.foldl_cons,Md]
   lia
 simpa[parted] using key is []
noncomputable def fallP(pr:List Int)(is:List Nat):List Nat:=(ordQ (qs pr is)).map fun j=>is.getD j 0
def range_getD(is:List Nat):(NK is.length).map (fun j=>is.getD j 0)=is:=by
 apply MY
 ·simp
 ·intro j h1 h2
  simp[N1,h2]
def kbL(pr:List Int)(is:List Nat):(fallP pr is).Perm is:=by
 have h:=(kdC (qs pr is)).map fun j=>is.getD j 0
 rw[kck,range_getD] at h
 exact h
def befP(pr:List Int)(a b:Nat):Prop:=pr.getD b 0<pr.getD a 0∨(pr.getD a 0=pr.getD b 0∧a<b)
def klw{pr:List Int}{is:List Nat}(hs:is.Pairwise (· < ·)):(fallP pr is).Pairwise (befP pr):=by
 have h:=(keZ (qs pr is)).2
 have hm:=(keZ (qs pr is)).1
 unfold fallP
 rw[DA]
 refine h.imp_of_mem fun {a b} ha hb hab=>?_
 have la:a<is.length:=by simpa[kck] using hm.mem_iff.mp ha
 have lb:b<is.length:=by simpa[kck] using hm.mem_iff.mp hb
 have ea:(qs pr is).getD a 0=pr.getD (is.getD a 0) 0:=by simp[qs,N1,la]
 have eb:(qs pr is).getD b 0=pr.getD (is.getD b 0) 0:=by simp[qs,N1,lb]
 unfold bef at hab
 unfold befP
 rw[ea,eb] at hab
 rcases hab with z|⟨z1,z2⟩
 ·exact .inl z
 ·refine .inr ⟨z1,?_⟩
  have:=Ef.mp hs a b la lb z2
  simpa[N1,la,lb] using this
def ki0{pr:List Int}{is ks:List Nat}(hs:is.Pairwise (· < ·))(hp:ks.Perm is)(hk:ks.Pairwise (befP pr)):ks=fallP pr is:=
 keS (R:=befP pr) (fun a b h h'=>by unfold befP at h h';lia) (hp.trans (kbL pr is).symm) hk (klw hs)
def kkr(m:Nat)(f:Nat→Nat)(r:List Nat):grp m (r.map f)=(grp m r).map fun g=>g.map f:=by
 unfold grp
 rw[ND,N7]
 refine My fun g _=>?_
 show((r.map f).drop _).take _=((r.drop _).take _).map f
 rw[MS,Et]
def kkq{m:Nat}{r g:List Nat}(h:g∈grp m r):∀j∈g,j∈r:=fun j hj=>by
 obtain⟨i,_,rfl⟩:=N3.mp h
 exact DB (Ei hj)
theorem kks{n:Nat}{ab:List Nat}{pr:List Int}(cut:Int→Int)(hn:ab.Nodup)(gs:List (List Nat))(hg:∀g∈gs,∀j∈g,j<ab.length):
  spr n ab (gdl cut gs (qs pr ab))=spr n (gs.map fun g=>g.map fun j=>ab.getD j 0).flatten ((gs.map fun g=>g.map fun j=>ab.getD j 0).map fun o=>dl (cut (qs pr o).sum) (qs pr o)).flatten:=by
 unfold gdl
 rw[kck,khp hn fun j hj=>?_,List.map_flatten,N7]
 ·congr 2
  refine My fun g hg'=>?_
  have e:=qs_qs (pr:=pr) (ab:=ab) (g:=g) (hg g hg')
  show dl (cut (qs (qs pr ab) g).sum) (qs (qs pr ab) g)=dl (cut (qs pr (g.map fun j=>ab.getD j 0)).sum) (qs pr (g.map fun j=>ab.getD j 0))
  rw[e]
 ·obtain⟨g,hg',hj'⟩:=M0.mp hj
  exact hg g hg' j hj'
def klV{pr:List Int}{is:List Nat}{m:Nat}{g:List Nat}(h:g∈grp m (ordQ (qs pr is))):∀j∈g,j<is.length:=fun j hj=>by
 have:=kmB (kkq h j hj)
 rwa [kck] at this
theorem klD{n m:Nat}{is:List Nat}{pr:List Int}(cut:Int→Int)(hn:is.Nodup):
  spr n is (gdl cut (grp m (ordQ (qs pr is))) (qs pr is))=spr n (grp m (fallP pr is)).flatten ((grp m (fallP pr is)).map fun o=>dl (cut (qs pr o).sum) (qs pr o)).flatten:=by
 rw[kks cut hn _ fun g hg=>klV hg]
 unfold fallP
 rw[kkr]
def kkc{f:Nat→Nat}{gs:List (List Nat)}(h:∀g∈gs,g≠[]):lasts (gs.map fun g=>g.map f)=(lasts gs).map f:=by
 unfold lasts
 rw[N7,N7]
 refine My fun g hg=>?_
 show(g.map f).getLastD 0=f (g.getLastD 0)
 have hne:=h g hg
 rw[DC,DC,List.getLast?_map,DW hne]
 rfl
def knq(c:Int):dl c [c]=[c]:=by
 unfold dl
 by_cases h:[c].sum=0
 ·rw[if_pos h]
  have:c=0:=by simpa using h
  simp[this]
 ·rw[if_neg h]
  have hc:c≠0:=by simpa using h
  have e:part c [c] 0=c:=by
   unfold part pre
   simp[Int.mul_ediv_cancel _ hc]
  simp[Mx,e]
theorem kjC(f:Nat→Int):∀(l:List Nat),(l.map fun i=>[i]).flatten=l∧(l.map fun i=>[f i]).flatten=l.map f
 |[]=>⟨rfl,rfl⟩
 |a::l=>by
  obtain⟨h1,h2⟩:=kjC f l
  simp[h1,h2]
theorem kkL{n m:Nat}{is:List Nat}{pr:List Int}(hm:0<m)(hn:is.Nodup):
  spr n is (spr (qs pr is).length (lasts (grp m (ordQ (qs pr is)))) (qs (qs pr is) (lasts (grp m (ordQ (qs pr is))))))=spr n (lasts (grp m (fallP pr is))) ((lasts (grp m (fallP pr is))).map fun i=>pr.getD i 0):=by
 have ne:∀g∈grp m (ordQ (qs pr is)),g≠[]:=fun g hg z=>by
  obtain⟨i,hi⟩:=MZ.mp hg
  have:=(kiz hi).2.1
  rw[z] at this
  simp at this
  lia
 have hl:∀j∈lasts (grp m (ordQ (qs pr is))),j<is.length:=fun j hj=>by
  obtain⟨g,hg,rfl⟩:=N3.mp hj
  refine klV hg _ ?_
  rw[DC,DW (ne g hg)]
  exact List.getLast_mem _
 rw[kck,khp hn hl,qs_qs hl]
 have e:lasts (grp m (fallP pr is))=(lasts (grp m (ordQ (qs pr is)))).map fun j=>is.getD j 0:=by
  unfold fallP
  rw[kkr,kkc ne]
 rw[e]
 rfl
def spr_zero{n k:Nat}{is:List Nat}:spr n is (NI k 0)=NI n 0:=by
 unfold spr
 apply MY
 ·simp
 ·intro j h1 h2
  simp only[Ew,EH,List.getElem_replicate]
  cases e:(is.zip (NI k (0:Int))).lookup j with
  |none=>rfl
  |some v=>
   obtain⟨i,_,hv⟩:=kd3 e
   have:=List.eq_of_mem_replicate (NM hv)
   rw[this]
   rfl
def kfi{pr:List Int}{is:List Nat}(hn:is.Nodup):(fallP pr is).Nodup:=(kbL pr is).nodup_iff.mpr hn
def khN(m:Nat)(r:List Nat):(grp m r).length≤r.length:=by
 unfold grp
 rw[ND,DD]
 exact Nat.div_le_self _ _
theorem sum_set:∀{l:List Int}{i:Nat}{u v:Int},l[i]?>>u→(l.set i v).sum=l.sum-u+v
 |[],i,u,v,h=>by simp at h
 |a::l,0,u,v,h=>by
  have e:a=u:=by simpa using h
  subst e
  simp only[List.set_cons_zero,Mb]
  lia
 |a::l,i+1,u,v,h=>by
  have e:l[i]?>>u:=by simpa using h
  simp only[DE,Mb]
  rw[sum_set e]
  lia
end Vs
namespace Vs
open PySem L2
noncomputable def top(i:Nat):Stmt:=PySem.Challenge.pw_voucherstack_k54_whole_taken_back_any_ti.main.body.getD i (.Pass ⟨0,0,0,0⟩)
abbrev khA:Stmt:=top 1
abbrev khy:Stmt:=top 3
abbrev kbT:Stmt:=top 15
abbrev keQ:Stmt:=top 18
abbrev kjH:Stmt:=top 19
abbrev kdq:Stmt:=top 20
abbrev kjI:Stmt:=top 21
abbrev khB:Stmt:=top 22
abbrev kbV:Stmt:=top 23
abbrev kbF:Stmt:=top 24
abbrev kbh:Stmt:=top 25
abbrev kbU:Stmt:=top 26
abbrev kaI:Stmt:=top 27
abbrev kb8:Stmt:=top 28
abbrev kcE:Stmt:=top 29
abbrev kb7:Stmt:=top 30
abbrev keP:Stmt:=top 31
abbrev khz:Stmt:=top 39
abbrev kf1:Stmt:=top 40
abbrev kb6:Stmt:=top 41
abbrev kco:Stmt:=top 42
abbrev kcp:Stmt:=top 43
abbrev kbE:Stmt:=top 44
abbrev kf2:Stmt:=top 47
abbrev kf3:Stmt:=top 53
abbrev kdp:Stmt:=top 54
abbrev kcT:Stmt:=top 56
abbrev kcv:Stmt:=top 57
abbrev kdU:Stmt:=top 58
abbrev kcu:Stmt:=top 59
abbrev kct:Stmt:=top 60
abbrev kcr:Stmt:=top 61
abbrev kca:Stmt:=top 62
abbrev kbG:Stmt:=top 63
abbrev kbH:Stmt:=top 64
abbrev kcs:Stmt:=top 65
abbrev kb9:Stmt:=top 66
abbrev kcV:Stmt:=top 67
abbrev kcW:Stmt:=top 68
abbrev kcq:Stmt:=top 69
abbrev kcb:Stmt:=top 70
abbrev kcX:Stmt:=top 71
abbrev kcF:Stmt:=top 72
abbrev kcU:Stmt:=top 73
abbrev s_law:Stmt:=top 74
abbrev ka4:Stmt:=inClass (top 5) 0
abbrev kaU:Stmt:=inClass (top 6) 0
abbrev kbt:Stmt:=inClass (top 7) 0
abbrev ka3:Stmt:=inClass (top 8) 0
abbrev kaO:Stmt:=inClass (top 9) 0
abbrev kaY:Stmt:=inClass (top 10) 0
abbrev kaP:Stmt:=inClass (top 11) 0
abbrev kbc:Stmt:=inClass (top 13) 0
abbrev kaZ:Stmt:=inClass (top 14) 0
abbrev kcd:Stmt:=inClass (top 16) 0
abbrev kbW:Stmt:=inClass (top 16) 1
abbrev kdV:Stmt:=inClass (top 38) 0
abbrev kcw:Stmt:=inClass (top 38) 1
abbrev kcY:Stmt:=inClass (top 38) 2
abbrev kbw:Stmt:=inClass (top 38) 3
abbrev kcc:Stmt:=inClass (top 38) 4
abbrev kdr:Stmt:=inClass (top 46) 0
abbrev kbb:Stmt:=inClass (top 49) 0
abbrev kcx:Stmt:=inClass (top 51) 0
abbrev kbp:Stmt:=inClass (top 51) 1
abbrev kby:Stmt:=inClass (top 51) 2
abbrev kbx:Stmt:=inClass (top 51) 3
abbrev kbd:Stmt:=inClass (top 51) 4
abbrev kbk:Stmt:=inClass (top 51) 5
abbrev ka5:Stmt:=inClass (top 51) 6
abbrev kbl:Stmt:=inClass (top 51) 7
set_option genInjectivity false
set_option genSizeOf false
set_option genCtorIdx false
structure D where
 X2:Addr
 X3:FuncData
 X4:Addr
 X5:FuncData
 X6:Addr
 X7:FuncData
 X8:Addr
 X9:FuncData
 Ya:Addr
 Yb:FuncData
 Yc:Addr
 Yd:FuncData
 Ye:Addr
 Yf:FuncData
 Yg:Addr
 Yh:FuncData
 Yi:Addr
 Yj:FuncData
 Yk:Addr
 Yl:FuncData
 Ym:Addr
 Yn:FuncData
 Yo:Addr
 Yp:FuncData
 Yq:Addr
 Q3:FuncData
 Yr:Addr
 Ys:FuncData
 Yt:Addr
 Yu:FuncData
 Yv:Addr
 Yw:FuncData
 Yx:Addr
 Yy:FuncData
 Yz:Addr
 YA:FuncData
 YB:Addr
 YC:FuncData
 YD:Addr
 YE:FuncData
 YF:Addr
 YG:FuncData
 YH:Addr
 YI:FuncData
 YJ:Addr
 YK:FuncData
 YL:Addr
 YM:FuncData
 YN:Addr
 YO:FuncData
 Qh:Addr
 Qi:FuncData
 YQ:Addr
 YR:FuncData
 YS:Addr
 YT:FuncData
 YU:Addr
 YV:FuncData
 YW:Addr
 YX:FuncData
 YY:Addr
 YZ:FuncData
 Y0:Addr
 Y1:FuncData
 Y2:Addr
 Y3:FuncData
 Y5:Addr
 Y7:FuncData
 Za:Addr
 Zb:FuncData
 Zc:Addr
 Zd:FuncData
 Ze:Addr
 Zf:FuncData
 Zg:Addr
 Zh:FuncData
 Zi:Addr
 Zj:FuncData
 Zk:Addr
 Zl:FuncData
 Zm:Addr
 Zn:FuncData
 Zo:Addr
 Zp:FuncData
 Zq:Addr
 Zr:FuncData
 Zs:Addr
 Zt:FuncData
 f_law:Addr
 Zu:FuncData
 qi:Addr
 Zv:Addr
 qM:FuncData
 tok1_Marks_init:Nat
 qC:Addr
 Q4:Addr
 Q5:FuncData
 c_Off:Addr
 Zw:Addr
 Q6:FuncData
 qj:Addr
 Zx:Addr
 QI:FuncData
 ql:Addr
 Zy:Addr
 Q7:FuncData
 qk:Addr
 Zz:Addr
 Q8:FuncData
 qm:Addr
 ZA:Addr
 Q9:FuncData
 qe:Addr
 ZC:Addr
 Xa:FuncData
 qf:Addr
 ZD:Addr
 QJ:FuncData
 tok0_Basket_init:Nat
 qd:Addr
 ZE:Addr
 ZF:FuncData
 ZG:Addr
 ZH:FuncData
 c_Way:Addr
 ZI:Addr
 ZJ:FuncData
 ZK:Addr
 ZL:FuncData
 ZM:Addr
 ZN:FuncData
 ZO:Addr
 ZP:FuncData
 ZQ:Addr
 ZR:FuncData
 qh:Addr
 ZS:Addr
 ZT:FuncData
 qg:Addr
 ZU:Addr
 Xb:FuncData
 tok0_Till_init:Nat
 qc:Addr
 ZV:Addr
 ZW:FuncData
 ZX:Addr
 ZY:FuncData
 ZZ:Addr
 Z9:FuncData
 Va:Addr
 Vb:FuncData
 Vd:Addr
 Ve:FuncData
 Vf:Addr
 Vg:FuncData
 Qj:Addr
 Qk:FuncData
 Vh:Addr
 Vi:FuncData
 cc_falling_groups:Addr
 tP_falling_groups:Addr
 Xc:Addr
 Vj:Addr
 qt:Addr
 Xd:Addr
structure Wld(K:NF)(mg:Str→Option Value)(d:D):Prop where
 B:TxtB mg
 Xe:Dn K mg "dealt" khA ["cut","weights"] d.X2 d.X3
 Vk:Dn K mg "under" khy ["parents","one","other"] d.X4 d.X5
 Vl:Dn K mg "price_of_piece" kbT ["line","member"] d.X6 d.X7
 Xf:Dn K mg "about" keQ ["voucher","parents","basket","standing"] d.X8 d.X9
 Vm:Dn K mg "fits" kjH ["marks","parents","kind","marked"] d.Ya d.Yb
 Vn:Dn K mg "hindrance" kdq ["voucher","parents","basket","standing"] d.Yc d.Yd
 Vo:Dn K mg "cuts" kjI ["voucher","parents","basket","standing"] d.Ye d.Yf
 Vp:Dn K mg "after" khB ["voucher","parents","basket","standing"] d.Yg d.Yh
 Xg:Dn K mg "cuts_of_pieces" kbV ["voucher","parents","basket","standing"] d.Yi d.Yj
 Xh:Dn K mg "cut_of_carriage" kbF ["voucher","standing"] d.Yk d.Yl
 Vq:Dn K mg "wanted_cuts" kbh ["voucher","standing","pieces"] d.Ym d.Yn
 Vr:Dn K mg "parted_by_line" kbU ["standing","pieces"] d.Yo d.Yp
 Xi:Dn K mg "falling_groups" kaI ["standing","pieces","many"] d.Yq d.Q3
 Vt:Dn K mg "marked_behind" kb8 ["voucher","standing","piece_cuts"] d.Yr d.Ys
 Xj:Dn K mg "prices_of" kcE ["standing","pieces"] d.Yt d.Yu
 Ql:Dn K mg "sum_of_prices" kb7 ["standing","pieces"] d.Yv d.Yw
 Vu:Dn K mg "at_most" keP ["most","number"] d.Yx d.Yy
 Vv:Dn K mg "fault" khz ["till","basket","hand","order"] d.Yz d.YA
 Vw:Dn K mg "way_by" kf1 ["till","basket","hand","order"] d.YB d.YC
 Vx:Dn K mg "word_of_order" kb6 ["till","hand","used","number"] d.YD d.YE
 Vy:Dn K mg "breaks_never" kco ["rules","used","number"] d.YF d.YG
 Vz:Dn K mg "breaks_ahead" kcp ["rules","used","number"] d.YH d.YI
 Xk:Dn K mg "without_company" kbE ["rules","order"] d.YJ d.YK
 QK:Dn K mg "priced" kf2 ["till","basket","hand","order"] d.YL d.YM
 VA:Dn K mg "orders" kf3 ["till","basket","hand"] d.YN d.YO
 Qm:Dn K mg "ways_from" kdp ["way"] d.Qh d.Qi
 Xl:Dn K mg "_law_whole" kcT ["_law_found"] d.YQ d.YR
 Qa:Dn K mg "_law_cell_at" kcv ["_law_script","_law_k"] d.YS d.YT
 qy:Dn K mg "_law_mix" kdU ["_law_cell","_law_factor","_law_prime"] d.YU d.YV
 VB:Dn K mg "_law_coin_by" kcu ["_law_cell"] d.YW d.YX
 qN:Dn K mg "_law_coin_of" kct ["_law_cell","_law_scale"] d.YY d.YZ
 VC:Dn K mg "_law_line_by" kcr ["_law_cell","_law_kinds","_law_scale","_law_most"] d.Y0 d.Y1
 VD:Dn K mg "_law_marks_by" kca ["_law_cell","_law_kinds","_law_scale"] d.Y2 d.Y3
 VE:Dn K mg "_law_voucher_by" kbG ["_law_cell","_law_kinds","_law_scale"] d.Y5 d.Y7
 VF:Dn K mg "_law_parents_by" kbH ["_law_cell"] d.Za d.Zb
 VG:Dn K mg "_law_hand_by" kcs ["_law_more_held","_law_vouchers","_law_most_held","_law_first"] d.Zc d.Zd
 VH:Dn K mg "_law_world_by" kb9 ["_law_script","_law_most_vouchers","_law_most_held"] d.Ze d.Zf
 VI:Dn K mg "_law_stays" kcV ["_law_basket","_law_many"] d.Zg d.Zh
 Qn:Dn K mg "_law_state" kcW ["_law_account"] d.Zi d.Zj
 VJ:Dn K mg "_law_refused" kcq ["_law_account","_law_line","_law_many"] d.Zk d.Zl
 VL:Dn K mg "_law_in_order" kcb ["_law_some","_law_order"] d.Zm d.Zn
 VM:Dn K mg "_law_again" kcX ["_law_till","_law_basket","_law_hand","_law_order","_law_account","_law_paid","_law_back"] d.Zo d.Zp
 VN:Dn K mg "_law_shares" kcF ["_law_basket","_law_bill","_law_account","_law_line","_law_many","_law_back","_law_order"] d.Zq d.Zr
 VO:Dn K mg "_law_taken" kcU ["_law_till","_law_basket","_law_hand","_law_bill","_law_account","_law_line","_law_many"] d.Zs d.Zt
 d_law:Dn K mg "law" s_law ["_law_script"] d.f_law d.Zu
 qi:ClsT K mg "Marks" d.qi
 QL:NoAttr K d.qi "kind"
 VP:NoAttr K d.qi "needs"
 Xm:NoAttr K d.qi "most"
 VQ:NoAttr K d.qi "member"
 VR:NoAttr K d.qi "once"
 Xn:NoAttr K d.qi "lone"
 QM:MthT K d.qi "__init__" "Marks.__init__" ka4 ["self","kind","needs","most","member","once","lone"] d.Zv d.qM
 b1_Marks_init:Binds K d.qM ["self","kind","needs","most","member","once","lone"] [.bool false]
 b2_Marks_init:Binds K d.qM ["self","kind","needs","most","member","once","lone"] [.bool false, .bool false]
 b3_Marks_init:Binds K d.qM ["self","kind","needs","most","member","once","lone"] [.bool false, .bool false, .bool false]
 b4_Marks_init:Binds K d.qM ["self","kind","needs","most","member","once","lone"] [.none, .bool false, .bool false, .bool false]
 b5_Marks_init:Binds K d.qM ["self","kind","needs","most","member","once","lone"] [.int 0 d.tok1_Marks_init, .none, .bool false, .bool false, .bool false]
 b6_Marks_init:Binds K d.qM ["self","kind","needs","most","member","once","lone"] [.none, .int 0 d.tok1_Marks_init, .none, .bool false, .bool false, .bool false]
 qC:ClsT K mg "Voucher" d.qC
 qw:MthT K d.qC "__init__" "Voucher.__init__" kaU ["self","marks"] d.Q4 d.Q5
 b1_Voucher_init:Binds K d.Q5 ["self","marks"] [.none]
 g_Off:mg "Off">>(.ref d.c_Off)
 c_Off:ClsT K mg "Off" d.c_Off
 VS:NoAttr K d.c_Off "amount"
 VT:NoAttr K d.c_Off "marks"
 Xo:MthT K d.c_Off "__init__" "Off.__init__" kbt ["self","amount","marks"] d.Zw d.Q6
 b1_Off_init:Binds K d.Q6 ["self","amount","marks"] [.none]
 Ul:mg "Share">>(.ref d.qj)
 qj:ClsT K mg "Share" d.qj
 VU:NoAttr K d.qj "share"
 VV:NoAttr K d.qj "by_line"
 VW:NoAttr K d.qj "marks"
 Xp:MthT K d.qj "__init__" "Share.__init__" ka3 ["self","share","by_line","marks"] d.Zx d.QI
 b1_Share_init:Binds K d.QI ["self","share","by_line","marks"] [.none]
 b2_Share_init:Binds K d.QI ["self","share","by_line","marks"] [.bool false, .none]
 Um:mg "Cheapest">>(.ref d.ql)
 ql:ClsT K mg "Cheapest" d.ql
 VX:NoAttr K d.ql "many"
 VY:NoAttr K d.ql "marks"
 Xq:MthT K d.ql "__init__" "Cheapest.__init__" kaO ["self","many","marks"] d.Zy d.Q7
 b1_Cheapest_init:Binds K d.Q7 ["self","many","marks"] [.none]
 Uo:mg "Bundle">>(.ref d.qk)
 qk:ClsT K mg "Bundle" d.qk
 VZ:NoAttr K d.qk "many"
 V1:NoAttr K d.qk "price"
 V2:NoAttr K d.qk "marks"
 Xr:MthT K d.qk "__init__" "Bundle.__init__" kaY ["self","many","price","marks"] d.Zz d.Q8
 b1_Bundle_init:Binds K d.Q8 ["self","many","price","marks"] [.none]
 Uq:mg "Carriage">>(.ref d.qm)
 qm:ClsT K mg "Carriage" d.qm
 V3:NoAttr K d.qm "marks"
 Xs:MthT K d.qm "__init__" "Carriage.__init__" kaP ["self","marks"] d.ZA d.Q9
 b1_Carriage_init:Binds K d.Q9 ["self","marks"] [.none]
 qe:ClsT K mg "Line" d.qe
 QN:NoAttr K d.qe "kind"
 Qo:NoAttr K d.qe "price"
 qO:NoAttr K d.qe "many"
 Qp:NoAttr K d.qe "special"
 qT:MthT K d.qe "__init__" "Line.__init__" kbc ["self","kind","price","many","special"] d.ZC d.Xa
 b1_Line_init:Binds K d.Xa ["self","kind","price","many","special"] [.none]
 qf:ClsT K mg "Basket" d.qf
 qz:NoAttr K d.qf "lines"
 Qq:NoAttr K d.qf "carriage"
 Qb:NoAttr K d.qf "member"
 qD:MthT K d.qf "__init__" "Basket.__init__" kaZ ["self","lines","carriage","member"] d.ZD d.QJ
 b1_Basket_init:Binds K d.QJ ["self","lines","carriage","member"] [.bool false]
 b2_Basket_init:Binds K d.QJ ["self","lines","carriage","member"] [.int 0 d.tok0_Basket_init, .bool false]
 qd:ClsT K mg "Standing" d.qd
 qU:NoAttr K d.qd "owners"
 qA:NoAttr K d.qd "prices"
 Qc:NoAttr K d.qd "carriage"
 Qr:NoAttr K d.qd "marked"
 Qs:MthT K d.qd "__init__" "Standing.__init__" kcd ["self","basket"] d.ZE d.ZF
 Qt:MthT K d.qd "whole" "Standing.whole" kbW ["self"] d.ZG d.ZH
 c_Way:ClsT K mg "Way" d.c_Way
 qE:NoAttr K d.c_Way "till"
 QO:NoAttr K d.c_Way "basket"
 Xt:NoAttr K d.c_Way "hand"
 qP:NoAttr K d.c_Way "used"
 qV:NoAttr K d.c_Way "standing"
 qx:MthT K d.c_Way "__init__" "Way.__init__" kdV ["self","till","basket","hand"] d.ZI d.ZJ
 qF:MthT K d.c_Way "word_for" "Way.word_for" kcw ["self","number"] d.ZK d.ZL
 qG:MthT K d.c_Way "behind" "Way.behind" kcY ["self","number"] d.ZM d.ZN
 Xu:MthT K d.c_Way "followers" "Way.followers" kbw ["self"] d.ZO d.ZP
 Qu:MthT K d.c_Way "is_let_by" "Way.is_let_by" kcc ["self"] d.ZQ d.ZR
 qh:ClsT K mg "Bill" d.qh
 Xv:NoAttr K d.qh "order"
 Ur:NoAttr K d.qh "steps"
 Xw:NoAttr K d.qh "prices"
 Us:NoAttr K d.qh "carriage"
 QP:NoAttr K d.qh "total"
 Xx:MthT K d.qh "__init__" "Bill.__init__" kdr ["self","order","steps","standing"] d.ZS d.ZT
 qg:ClsT K mg "Till" d.qg
 Qv:NoAttr K d.qg "parents"
 qW:NoAttr K d.qg "vouchers"
 qQ:NoAttr K d.qg "rules"
 QQ:NoAttr K d.qg "back"
 Qw:MthT K d.qg "__init__" "Till.__init__" kbb ["self","parents","vouchers","rules","back"] d.ZU d.Xb
 b1_Till_init:Binds K d.Xb ["self","parents","vouchers","rules","back"] [.str "again" d.tok0_Till_init]
 qc:ClsT K mg "Account" d.qc
 QR:NoAttr K d.qc "till"
 Qx:NoAttr K d.qc "basket"
 V4:NoAttr K d.qc "hand"
 V5:NoAttr K d.qc "first_prices"
 qu:NoAttr K d.qc "order"
 qR:NoAttr K d.qc "fallen"
 qp:NoAttr K d.qc "many"
 qH:NoAttr K d.qc "paid"
 Qy:NoAttr K d.qc "owed"
 Xy:MthT K d.qc "__init__" "Account.__init__" kcx ["self","till","basket","hand","order"] d.ZV d.ZW
 Qz:MthT K d.qc "take_back" "Account.take_back" kbp ["self","line","many"] d.ZX d.ZY
 Xz:MthT K d.qc "has_left" "Account.has_left" kby ["self","line","many"] d.ZZ d.Z9
 QA:MthT K d.qc "pay_back" "Account.pay_back" kbx ["self","back"] d.Va d.Vb
 XA:MthT K d.qc "paid_behind" "Account.paid_behind" kbd ["self","line","left","many"] d.Vd d.Ve
 XB:MthT K d.qc "what_stays" "Account.what_stays" kbk ["self"] d.Vf d.Vg
 QB:MthT K d.qc "due_again" "Account.due_again" ka5 ["self","stays"] d.Qj d.Qk
 XC:MthT K d.qc "go_through" "Account.go_through" kbl ["self","stays"] d.Vh d.Vi
 QC:BaseT K d.qC "__init__" d.Q4
 Ut:NU K (.ref d.c_Off) (.ref d.qm)>>false
 Uu:NU K (.ref d.qj) (.ref d.qm)>>false
 Uv:NU K (.ref d.ql) (.ref d.qm)>>false
 Uw:NU K (.ref d.qk) (.ref d.qm)>>false
 Ux:NU K (.ref d.qj) (.ref d.c_Off)>>false
 Uy:NU K (.ref d.ql) (.ref d.c_Off)>>false
 Uz:NU K (.ref d.qk) (.ref d.c_Off)>>false
 UA:NU K (.ref d.qm) (.ref d.c_Off)>>false
 UB:NU K (.ref d.c_Off) (.ref d.qj)>>false
 UC:NU K (.ref d.ql) (.ref d.qj)>>false
 UD:NU K (.ref d.qk) (.ref d.qj)>>false
 UE:NU K (.ref d.qm) (.ref d.qj)>>false
 UF:NU K (.ref d.c_Off) (.ref d.ql)>>false
 UG:NU K (.ref d.qj) (.ref d.ql)>>false
 UH:NU K (.ref d.qk) (.ref d.ql)>>false
 UI:NU K (.ref d.qm) (.ref d.ql)>>false
 UJ:NU K (.ref d.c_Off) (.ref d.qk)>>false
 UK:NU K (.ref d.qj) (.ref d.qk)>>false
 UL:NU K (.ref d.ql) (.ref d.qk)>>false
 UM:NU K (.ref d.qm) (.ref d.qk)>>false
 code_falling_groups:d.Q3.code=.ref d.cc_falling_groups
 ck_falling_groups:CodeK K d.cc_falling_groups d.tP_falling_groups
 UN:mg "NotLet">>(.ref d.Xc)
 UO:mg "TillError">>(.ref d.Vj)
 V6:mg "NoPieces">>(.ref d.qt)
 UP:mg "LineError">>(.ref d.Xd)
 UQ:E1 K d.qt [.type "ValueError", .type "Exception", .type "BaseException", .type "object"] "ValueError.__new__"=true
 x_NoPieces:ExcK K d.qt
 xm_NoPieces_TillError:Dt K (.ref d.qt) (.ref d.Vj)>>true
 ki_NoPieces_NotLet:NU K (.ref d.qt) (.ref d.Xc)>>false
 ki_NoPieces_LineError:NU K (.ref d.qt) (.ref d.Xd)>>false
 ki_NoPieces_ValueError:NU K (.ref d.qt) (.type "ValueError")>>true
 zVE:mg "ValueError"=none
structure WB(K:NF)(mg:Str→Option Value)(d:D)(base:Heap):Prop extends Wld K mg d where
 blt:BltM mg base
 kin:K.In base
end Vs
namespace Vs
open PySem L2 War Kin Deal
def LineAt(C:Addr)(H:Hp)(x:Addr)(r:Row):Prop:=∃(dx:Addr)(fs:List (Str×V)),H x>>(.ins C dx fs)∧fs.lookup ("kind" :Str)>>(.int r.kd)∧fs.lookup ("price" :Str)>>(.int r.pr)∧fs.lookup ("many" :Str)>>(.int r.mn)∧fs.lookup ("special" :Str)>>(oV r.ex)
abbrev Lines(C:Addr)(H:Hp)(ls:List Addr)(rs:List Row):Prop:=P2 (LineAt C H) ls rs
def BaskAt(C:Addr)(H:Hp)(b l:Addr)(cg:Int)(m:Bool):Prop:=∃(dx:Addr)(fs:List (Str×V)),H b>>(.ins C dx fs)∧fs.lookup ("lines" :Str)>>(.ref l)∧fs.lookup ("carriage" :Str)>>(.int cg)∧fs.lookup ("member" :Str)>>(.bl m)
def StandAt(C:Addr)(H:Hp)(x o p mk:Addr)(cg:Int):Prop:=∃(dx:Addr)(fs:List (Str×V)),H x>>(.ins C dx fs)∧fs.lookup ("owners" :Str)>>(.ref o)∧fs.lookup ("prices" :Str)>>(.ref p)∧fs.lookup ("carriage" :Str)>>(.int cg)∧fs.lookup ("marked" :Str)>>(.ref mk)∧fs.lookup ("whole" :Str)=none
section
variable{C:Addr}{H H':Hp}
theorem LineAt.same{x:Addr}{r:Row}(s:Same H H'):LineAt C H x r→LineAt C H' x r:=by rintro⟨dx,fs,h,q⟩;exact⟨dx,fs,s _ _ h,q⟩
theorem Lines.same{ls:List Addr}{rs:List Row}(s:Same H H')(h:Lines C H ls rs):Lines C H' ls rs:=h.mono fun _ _ q=>q.same s
theorem BaskAt.same{b l:Addr}{cg:Int}{m:Bool}(s:Same H H'):BaskAt C H b l cg m→BaskAt C H' b l cg m:=by rintro⟨dx,fs,h,q⟩;exact⟨dx,fs,s _ _ h,q⟩
theorem StandAt.same{x o p mk:Addr}{cg:Int}(s:Same H H'):StandAt C H x o p mk cg→StandAt C H' x o p mk cg:=by rintro⟨dx,fs,h,q⟩;exact⟨dx,fs,s _ _ h,q⟩
end
section
variable{H:Hp}{hd:Addr}{xs:List V}{o:HO}
theorem LineAt.set{C x:Addr}{r:Row}(h:H hd>>(.lst xs)):LineAt C H x r→LineAt C (upd H hd o) x r:=by rintro⟨dx,fs,e,q⟩;exact⟨dx,fs,by rw[kak (ne_of e h (by intro z;cases z))];exact e,q⟩
theorem Lines.set{C:Addr}{ls:List Addr}{rs:List Row}(h:H hd>>(.lst xs))(L:Lines C H ls rs):Lines C (upd H hd o) ls rs:=L.mono fun _ _ q=>q.set h
end
structure Bask where
 rs:List Row
 cg:Int
 m:Bool
inductive BaskIs(CL CB:Addr)(H:Hp)(b:Addr)(B:Bask):Prop
 |ct(l:Addr)(ls:List Addr)(_:BaskAt CB H b l B.cg B.m)(_:H l>>(.lst (ls.map V.ref)))(_:Lines CL H ls B.rs):BaskIs CL CB H b B
def BaskIs.same{CL CB:Addr}{H H':Hp}{b:Addr}{B:Bask}(s:Same H H'):BaskIs CL CB H b B→BaskIs CL CB H' b B:=fun⟨l,ls,h1,h2,h3⟩=>⟨l,ls,h1.same s,s _ _ h2,h3.same s⟩
noncomputable def iV(k:Nat):V:=.int (k:Int)
inductive StndIs(CS:Addr)(H:Hp)(x:Addr)(S:Stnd):Prop
 |ct(o p mk:Addr)(_:StandAt CS H x o p mk S.cg)(_:H o>>(.lst (S.ow.map iV)))(_:H p>>(.lst (S.pr.map V.int)))(_:H mk>>(.lst (S.mkd.map V.bl))):StndIs CS H x S
def StndIs.same{CS:Addr}{H H':Hp}{x:Addr}{S:Stnd}(s:Same H H'):StndIs CS H x S→StndIs CS H' x S:=fun⟨o,p,mk,h1,h2,h3,h4⟩=>⟨o,p,mk,h1.same s,s _ _ h2,s _ _ h3,s _ _ h4⟩
def kbK(ns:List Nat):(ns.map iV).all flatV=true:=by
 rw[Es]
 intro x hx
 obtain⟨n,_,rfl⟩:=N3.mp hx
 rfl
noncomputable def ownN(rs:List Row):List Nat:=(rs.zipIdx.map fun p=>NI p.1.mn.toNat p.2).flatten
theorem kgb(rs:List Row):(own rs).map V.int=(ownN rs).map iV:=by
 unfold own ownN
 generalize rs.zipIdx=l
 induction l with
 |nil=>rfl
 |cons p l ih=>
  rw[NW,Me,NL,ih,NW,Me,NL]
  congr 1
  simp[iV]
def kmA(rs:List Row){l:Nat}(h:l∈ownN rs):l<rs.length:=by
 unfold ownN at h
 obtain⟨xs,h1,h2⟩:=M0.mp h
 obtain⟨p,h3,rfl⟩:=N3.mp h1
 have e:l=p.2:=(DF.mp h2).2
 have q:=List.mem_zipIdx h3
 lia
def kk7(rs:List Row)(h:∀r∈rs,r.Ok):(ownN rs).length≤60*rs.length:=by
 have e:(ownN rs).length=(own rs).length:=by
  have:=congrArg El (kgb rs)
  simpa using this.symm
 rw[e]
 exact kj1 rs h
noncomputable def pV:Option Nat→V
 |none=>.non
 |some k=>.int (k:Int)
def eq_int(a b:Nat):decide (V.int (a:Int)=V.int (b:Int))=decide (a=b):=by
 by_cases h:a=b
 ·subst h;simp
 ·have:¬(V.int (a:Int)=V.int (b:Int)):=by
   intro e
   injection e with e
   lia
  simp[h,this]
theorem klg{c:Int}{ws:List Int}(h:ws.sum=0):(dl c ws).map V.int=NI ws.length (V.int 0):=by
 unfold dl
 rw[if_pos h]
 clear h
 induction ws with
 |nil=>rfl
 |cons w ws ih=>simpa[ME] using ih
def kj7{c:Int}{ws:List Int}(h:¬ws.sum=0):dl c ws=(NK ws.length).map (part c ws):=by
 unfold dl
 rw[if_neg h]
inductive kjw(K:NF)(vs:List V)(H:Hp)(Q:VK)(E_:XK):Prop
 |ct(c:Int)(a:Addr)(ws:List Int)(_:vs=[.int c, .ref a])(_:SqL K H a (ws.map V.int))(_:Nn ws)(_:ws.sum<2 ^ 100)(_:0≤c)(_:c<2 ^ 64)(_:ws.length≤1000)(_:∀p,H p=none→Q (.ref p) (upd H p (.lst ((dl c ws).map V.int)))):kjw K vs H Q E_
inductive kjo(K:NF)(vs:List V)(H:Hp)(Q:VK)(E_:XK):Prop
 |ct(a:Addr)(ps:List (Option Nat))(one other:Nat)(_:vs=[.ref a, .int one, .int other])(_:SqL K H a (ps.map pV))(_:Good ps)(_:one<ps.length)(_:Q (.bl (decide (other∈up ps one))) H):kjo K vs H Q E_
inductive khr(C:Addr)(vs:List V)(H:Hp)(Q:VK)(E_:XK):Prop
 |ct(x dx:Addr)(r:Row)(_:vs=[.ref x, .int r.kd, .int r.pr, .int r.mn,oV r.ex])(_:H x>>(.ins C dx []))(_:∀H',But x H H'→LineAt C H' x r→Q .non H'):khr C vs H Q E_
inductive kht(K:NF)(C:Addr)(vs:List V)(H:Hp)(Q:VK)(E_:XK):Prop
 |ct(x dx l:Addr)(cg:Int)(m:Bool)(xs:List V)(_:vs=[.ref x, .ref l, .int cg, .bl m])(_:H x>>(.ins C dx []))(_:SqL K H l xs)(_:∀(H':Hp)(l':Addr),But x H H'→H l'=none→H' l'>>(.lst xs)→BaskAt C H' x l' cg m→Q .non H'):kht K C vs H Q E_
inductive kjs(CL:Addr)(vs:List V)(H:Hp)(Q:VK)(E_:XK):Prop
 |ct(x:Addr)(m:Bool)(r:Row)(_:vs=[.ref x, .bl m])(_:LineAt CL H x r)(_:Q (.int (prc m r)) H):kjs CL vs H Q E_
inductive kdx(CL CB CS:Addr)(vs:List V)(H:Hp)(Q:VK)(E_:XK):Prop
 |ct(x dx b l:Addr)(cg:Int)(m:Bool)(ls:List Addr)(rs:List Row)(_:vs=[.ref x, .ref b])(_:H x>>(.ins CS dx []))(_:BaskAt CB H b l cg m)(_:H l>>(.lst (ls.map V.ref)))(_:Lines CL H ls rs)(_:rs.length≤12)(_:(∀r∈rs,r.Ok))(_:∀(H':Hp)(o p mk:Addr),But x H H'→H o=none→H p=none→H mk=none→StandAt CS H' x o p mk cg→H' o>>(.lst ((own rs).map V.int))→H' p>>(.lst ((prs m rs).map V.int))→H' mk>>(.lst (NI rs.length (.bl false)))→(∃dx fs,H' x>>(.ins CS dx fs)∧fs.length≤10)→Q .non H'):kdx CL CB CS vs H Q E_
inductive kjk(CS:Addr)(vs:List V)(H:Hp)(Q:VK)(E_:XK):Prop
 |ct(x o p mk:Addr)(cg:Int)(ns:List Int)(_:vs=[.ref x])(_:StandAt CS H x o p mk cg)(_:H p>>(.lst (ns.map V.int)))(_:Q (.int (ns.sum+cg)) H):kjk CS vs H Q E_
structure S3(H0:Hp)(x C dx:Addr)(fs:List (Str×V))(o p mk:Addr)(a b c:List V)(H:Hp):Prop where
 bt:But x H0 H
 ob:H x>>(.ins C dx fs)
 ho:H o>>(.lst a)
 hp:H p>>(.lst b)
 hm:H mk>>(.lst c)
structure Ds(H0:Hp)(x o p mk:Addr):Prop where
 fo:H0 o=none
 fp:H0 p=none
 fm:H0 mk=none
 ox:o≠x
 px:p≠x
 mx:mk≠x
 op:o≠p
 om:o≠mk
 pm:p≠mk
section
variable{H0 H H':Hp}{x C dx o p mk:Addr}{fs:List (Str×V)}{a b c d:List V}
theorem S3.same(h:S3 H0 x C dx fs o p mk a b c H)(s:Same H H'):S3 H0 x C dx fs o p mk a b c H':=⟨h.bt.same s,s _ _ h.ob,s _ _ h.ho,s _ _ h.hp,s _ _ h.hm⟩
theorem S3.setO(h:S3 H0 x C dx fs o p mk a b c H)(D:Ds H0 x o p mk):S3 H0 x C dx fs o p mk d b c (upd H o (.lst d)):=
 ⟨fun y u n e=>kbN (h.bt y u n e) fun u' e'=>ev_eq (by rw[kak (kaj e D.fo)];exact e') fun t=>kd7 t (kaj e D.fo) (nx h.ho),by rw[kak D.ox.symm];exact h.ob,kad,by rw[kak D.op.symm];exact h.hp,by rw[kak D.om.symm];exact h.hm⟩
theorem S3.setP(h:S3 H0 x C dx fs o p mk a b c H)(D:Ds H0 x o p mk):S3 H0 x C dx fs o p mk a d c (upd H p (.lst d)):=
 ⟨fun y u n e=>kbN (h.bt y u n e) fun u' e'=>ev_eq (by rw[kak (kaj e D.fp)];exact e') fun t=>kd7 t (kaj e D.fp) (nx h.hp),by rw[kak D.px.symm];exact h.ob,by rw[kak D.op];exact h.ho,kad,by rw[kak D.pm.symm];exact h.hm⟩
theorem S3.setM(h:S3 H0 x C dx fs o p mk a b c H)(D:Ds H0 x o p mk):S3 H0 x C dx fs o p mk a b d (upd H mk (.lst d)):=
 ⟨fun y u n e=>kbN (h.bt y u n e) fun u' e'=>ev_eq (by rw[kak (kaj e D.fm)];exact e') fun t=>kd7 t (kaj e D.fm) (nx h.hm),by rw[kak D.mx.symm];exact h.ob,by rw[kak D.om];exact h.ho,by rw[kak D.pm];exact h.hp,kad⟩
end
def MksIs(C:Addr)(H:Hp)(x:Addr)(M:Mks):Prop:=∃(dx:Addr)(fs:List (Str×V)),H x>>(.ins C dx fs)∧fs.lookup ("kind" :Str)>>(pV M.kind)∧fs.lookup ("needs" :Str)>>(.int M.needs)∧fs.lookup ("most" :Str)>>(oV M.most)∧fs.lookup ("member" :Str)>>(.bl M.member)∧fs.lookup ("once" :Str)>>(.bl M.once)∧fs.lookup ("lone" :Str)>>(.bl M.lone)
def MksIs.same{C:Addr}{H H':Hp}{x:Addr}{M:Mks}(s:Same H H'):MksIs C H x M→MksIs C H' x M:=fun⟨dx,fs,h,q⟩=>⟨dx,fs,s _ _ h,q⟩
def SrtIs(fs:List (Str×V)):Srt→Prop
 | .off a=>fs.lookup ("amount" :Str)>>(.int a)
 | .share s b=>fs.lookup ("share" :Str)>>(.int s)∧fs.lookup ("by_line" :Str)>>(.bl b)
 | .cheap n=>fs.lookup ("many" :Str)>>(.int n)
 | .bund n p=>fs.lookup ("many" :Str)>>(.int n)∧fs.lookup ("price" :Str)>>(.int p)
 | .carr=>True
noncomputable def clsOf(d:D):Srt→Addr
 | .off _=>d.c_Off
 | .share _ _=>d.qj
 | .cheap _=>d.ql
 | .bund _ _=>d.qk
 | .carr=>d.qm
noncomputable def here:Srt→Bool
 | .off _=>true
 | .share _ _=>true
 | .cheap _=>true
 | .bund _ _=>true
 | .carr=>true
noncomputable def kmV:Srt→Bool
 | .off _=>true
 | .share _ _=>false
 | .cheap _=>false
 | .bund _ _=>false
 | .carr=>false
noncomputable def kkQ:Srt→Bool
 | .off _=>false
 | .share _ _=>true
 | .cheap _=>false
 | .bund _ _=>false
 | .carr=>false
noncomputable def khk:Srt→Bool
 | .off _=>false
 | .share _ _=>false
 | .cheap _=>true
 | .bund _ _=>false
 | .carr=>false
noncomputable def ki3:Srt→Bool
 | .off _=>false
 | .share _ _=>false
 | .cheap _=>false
 | .bund _ _=>true
 | .carr=>false
noncomputable def kbS:Srt→Bool
 | .off _=>false
 | .share _ _=>false
 | .cheap _=>false
 | .bund _ _=>false
 | .carr=>true
def Tbs(d:D)(H:Hp):Prop:=TbAt d.tP_falling_groups H
def Tbs.same{d:D}{H H':Hp}(s:Same H H')(h:Tbs d H):Tbs d H':=s.tb h
inductive VchIs(d:D)(H:Hp)(v:Addr)(V:Vch):Prop
 |ct(mA dx:Addr)(fs:List (Str×L2.V))(_:H v>>(.ins (clsOf d V.so) dx fs))(_:fs.lookup ("marks" :Str)>>(.ref mA))(_:SrtIs fs V.so)(_:MksIs d.qi H mA V.ms)(_:here V.so=true)(_:Tbs d H):VchIs d H v V
def VchIs.same{d:D}{H H':Hp}{v:Addr}{V:Vch}(s:Same H H'):VchIs d H v V→VchIs d H' v V:=fun⟨mA,dx,fs,h1,h2,h3,h4,h5,h6⟩=>⟨mA,dx,fs,s _ _ h1,h2,h3,h4.same s,h5,h6.same s⟩
noncomputable def kds(B:Bask):List Nat:=B.rs.map fun r=>r.kd.toNat
structure Wf(ps:List (Option Nat))(B:Bask)(S:Stnd):Prop where
 good:Good ps
 pl:ps.length≤20
 kd:∀r∈B.rs,0≤r.kd∧r.kd<(ps.length:Int)
 ok:∀r∈B.rs,r.Ok
 nl:B.rs.length≤12
 bc:0≤B.cg∧B.cg≤1000000000000
 ow:S.ow=ownN B.rs
 lp:S.pr.length=S.ow.length
 lm:S.mkd.length=B.rs.length
 pr:∀z∈S.pr,0≤z∧z≤1000000000000
 cg:0≤S.cg∧S.cg≤1000000000000
 n64:S.ow.length<64
def Wf.np{ps:List (Option Nat)}{B:Bask}{S:Stnd}(W:Wf ps B S):S.ow.length≤720:=by
 have:=kk7 B.rs W.ok
 have:=W.nl
 rw[W.ow]
 lia
def Wf.line{ps:List (Option Nat)}{B:Bask}{S:Stnd}(W:Wf ps B S){i l:Nat}(h:S.ow[i]?>>l):l<B.rs.length:=by
 have hm:=NM h
 rw[W.ow] at hm
 exact kmA _ hm
structure MksOk(ps:List (Option Nat))(M:Mks):Prop where
 kind:∀k,M.kind>>k→k<ps.length
 needs:0≤M.needs∧M.needs≤1000000000000
 most:∀m,M.most>>m→0≤m∧m≤1000000000000
noncomputable def mks0:Mks:=⟨none,0,none,false,false,false⟩
noncomputable def kji:Srt→List V
 | .off a=>[.int a]
 | .share s b=>[.int s, .bl b]
 | .cheap n=>[.int n]
 | .bund n p=>[.int n, .int p]
 | .carr=>[]
def Mrk(CM:Addr)(H:Hp)(mv:V)(H':Hp)(mA:Addr):Prop:=mv=.ref mA∨(mv=.non∧H mA=none∧MksIs CM H' mA mks0)
def MksIs.but{C x mA:Addr}{H H':Hp}{M:Mks}(n:mA≠x)(b:But x H H'):MksIs C H mA M→MksIs C H' mA M:=fun⟨dx,fs,h,q⟩=>⟨dx,fs,b _ _ n h,q⟩
theorem Mrk.but{CM x mA:Addr}{H H1 H2:Hp}{mv:V}{o:HO}(hx:H x>>o)(b:But x H1 H2):Mrk CM H mv H1 mA→Mrk CM H mv H2 mA
 | .inl e=>.inl e
 | .inr ⟨e,f,h⟩=>.inr ⟨e,f,h.but (kaj hx f).symm b⟩
inductive kex(C:Addr)(vs:List V)(H:Hp)(Q:VK)(E_:XK):Prop
 |ct(x dx:Addr)(M:Mks)(_:vs=[.ref x,pV M.kind, .int M.needs,oV M.most, .bl M.member, .bl M.once, .bl M.lone])(_:H x>>(.ins C dx []))(_:∀H',But x H H'→MksIs C H' x M→Q .non H'):kex C vs H Q E_
inductive kfy(K:NF)(CM:Addr)(vs:List V)(H:Hp)(Q:VK)(E_:XK):Prop
 |ct(x C dx:Addr)(fs:List (Str×V))(mv:V)(_:vs=[.ref x,mv])(_:H x>>(.ins C dx fs))(_:Cls K C)(_:NoAttr K C "marks")(_:fs.length≤5)(_:(mv=.non∨∃mA,mv=.ref mA))(_:∀(H':Hp)(mA:Addr),But x H H'→Mrk CM H mv H' mA→H' x>>(.ins C dx (putF "marks" (.ref mA) fs))→Q .non H'):kfy K CM vs H Q E_
inductive kd8(C CM:Addr)(is:Srt→Prop)(vs:List V)(H:Hp)(Q:VK)(E_:XK):Prop
 |ct(x dx:Addr)(so:Srt)(mv:V)(_:is so)(_:vs=.ref x::(kji so++[mv]))(_:H x>>(.ins C dx []))(_:(mv=.non∨∃mA,mv=.ref mA))(_:∀(H':Hp)(mA:Addr)(fs:List (Str×V)),But x H H'→Mrk CM H mv H' mA→H' x>>(.ins C dx fs)→fs.lookup ("marks" :Str)>>(.ref mA)→SrtIs fs so→Q .non H'):kd8 C CM is vs H Q E_
theorem kit{C:Addr}{H:Hp}{M:Mks}{R:Addr→Hp→Prop}{E:XK}(k:∀(H':Hp)(x:Addr),Same H H'→H x=none→MksIs C H' x M→R x H'):
  ∀x dx,H x=none→H dx=none→dx≠x→kex C [.ref x,pV M.kind, .int M.needs,oV M.most, .bl M.member, .bl M.once, .bl M.lone] (upd (upd H dx (.own x)) x (.ins C dx [])) (fun v H2=>v=.non∧R x H2) E:=
 fun x dx nx nd _=>⟨x,dx,M,rfl,kad,fun H' b l=>⟨rfl,k H' x (kbR nx nd b) nx l⟩⟩
def kg1{d:D}{H:Hp}{so:Srt}{mA:Addr}{M:Mks}{is:Srt→Prop}{R:Addr→Hp→Prop}{E:XK}(hi:is so)(hh:here so=true)(hM:MksIs d.qi H mA M)(k:∀(H':Hp)(x:Addr),Same H H'→H x=none→VchIs d H' x ⟨so,M⟩→R x H')(htb:Tbs d H:=by assumption):
  ∀x dx,H x=none→H dx=none→dx≠x→kd8 (clsOf d so) d.qi is (.ref x::(kji so++[.ref mA])) (upd (upd H dx (.own x)) x (.ins (clsOf d so) dx [])) (fun v H2=>v=.non∧R x H2) E:=
 fun x dx nx nd _=>⟨x,dx,so, .ref mA,hi,rfl,kad, .inr ⟨mA,rfl⟩,fun H' mA' fs b hm h1 h2 h3=>by
  have e:mA'=mA:=by
   rcases hm with e|⟨e,_⟩
   ·injection e with e
    exact e.symm
   ·cases e
  subst e
  exact⟨rfl,k H' x (kbR nx nd b) nx ⟨mA',dx,fs,h1,h2,h3,hM.same (kbR nx nd b),hh,htb.same (kbR nx nd b)⟩⟩⟩
inductive spMix(vs:List V)(H:Hp)(Q:VK)(E_:XK):Prop
 |ct(c f p:Int)(_:vs=[.int c, .int f, .int p])(_:(-(2 ^ 64)<f∧f<2 ^ 64))(_:0<p)(_:Q (.int (c*f%p)) H):spMix vs H Q E_
inductive kh0(vs:List V)(H:Hp)(Q:VK)(E_:XK):Prop
 |ct(n:Int)(_:vs=[.int n])(_:Q (.bl true) H):kh0 vs H Q E_
def sN{t u:TS}{D:Ends}{σ:St}{H:Hp}(h:∀N:St→Hp→Prop,(∀σ' H',u D σ' H'→N σ' H')→t {D with nx:=N} σ H):tSeq t u D σ H:=h (u D) fun _ _ q=>q
theorem khF{CL:Addr}{H:Hp}{r:Row}{R:Addr→Hp→Prop}{E:XK}(k:∀(H':Hp)(x:Addr),Same H H'→H x=none→LineAt CL H' x r→R x H'):
  ∀x dx,H x=none→H dx=none→dx≠x→khr CL [.ref x, .int r.kd, .int r.pr, .int r.mn,oV r.ex] (upd (upd H dx (.own x)) x (.ins CL dx [])) (fun v H2=>v=.non∧R x H2) E:=
 fun x dx nx nd _=>⟨x,dx,r,rfl,kad,fun H' b l=>⟨rfl,k H' x (kbR nx nd b) nx l⟩⟩
theorem kgk{K:NF}{CB:Addr}{H:Hp}{l:Addr}{cg:Int}{m:Bool}{xs:List V}{R:Addr→Hp→Prop}{E:XK}(hl:SqL K H l xs)(k:∀(H':Hp)(x l':Addr),Same H H'→H x=none→H l'=none→H' l'>>(.lst xs)→BaskAt CB H' x l' cg m→R x H'):
  ∀x dx,H x=none→H dx=none→dx≠x→kht K CB [.ref x, .ref l, .int cg, .bl m] (upd (upd H dx (.own x)) x (.ins CB dx [])) (fun v H2=>v=.non∧R x H2) E:=
 fun x dx nx nd _=>⟨x,dx,l,cg,m,xs,rfl,kad,(ka2 nx nd).seq hl,fun H' l' b n h1 h2=>⟨rfl,k H' x l' (kbR nx nd b) nx (kdJ n) h1 h2⟩⟩
theorem klf{CL CB CS:Addr}{H:Hp}{b l:Addr}{cg:Int}{m:Bool}{ls:List Addr}{rs:List Row}{R:Addr→Hp→Prop}{E:XK}(hb:BaskAt CB H b l cg m)(hl:H l>>(.lst (ls.map V.ref)))(hL:Lines CL H ls rs)(hn:rs.length≤12)(hok:∀r∈rs,r.Ok)
  (k:∀(H':Hp)(x o p mk:Addr),Same H H'→H x=none→H o=none→H p=none→H mk=none→StandAt CS H' x o p mk cg→H' o>>(.lst ((own rs).map V.int))→H' p>>(.lst ((prs m rs).map V.int))→H' mk>>(.lst (NI rs.length (.bl false)))→R x H'):
  ∀x dx,H x=none→H dx=none→dx≠x→kdx CL CB CS [.ref x, .ref b] (upd (upd H dx (.own x)) x (.ins CS dx [])) (fun v H2=>v=.non∧R x H2) E:=
 fun x dx nx nd _=>⟨x,dx,b,l,cg,m,ls,rs,rfl,kad,hb.same (ka2 nx nd),kg3 nx nd hl,hL.same (ka2 nx nd),hn,hok,fun H' o p mk bt n1 n2 n3 S h1 h2 h3 _=>⟨rfl,k H' x o p mk (kbR nx nd bt) nx (kdJ n1) (kdJ n2) (kdJ n3) S h1 h2 h3⟩⟩
structure VchOk(ps:List (Option Nat))(V:Vch):Prop where
 so:SrtOk V.so
 ms:MksOk ps V.ms
noncomputable def stnd0(B:Bask):Stnd:=⟨ownN B.rs,prs B.m B.rs,B.cg,NI B.rs.length false⟩
theorem kmH{CL CB CS:Addr}{H:Hp}{b:Addr}{B:Bask}{R:Addr→Hp→Prop}{E:XK}(hb:BaskIs CL CB H b B)(hn:B.rs.length≤12)(hok:∀r∈B.rs,r.Ok)(k:∀(H':Hp)(x:Addr),Same H H'→H x=none→StndIs CS H' x (stnd0 B)→R x H'):
  ∀x dx,H x=none→H dx=none→dx≠x→kdx CL CB CS [.ref x, .ref b] (upd (upd H dx (.own x)) x (.ins CS dx [])) (fun v H2=>v=.non∧R x H2) E:=by
 obtain⟨l,ls,h1,h2,h3⟩:=hb
 refine klf h1 h2 h3 hn hok fun H' x o p mk s f1 _ _ _ hS ho hp hm=>k H' x s f1 ⟨o,p,mk,hS,?_,hp,?_⟩
 ·rw[ho,kgb]
  rfl
 ·rw[hm]
  show _>>(HO.lst ((NI B.rs.length false).map V.bl))
  rw[List.map_replicate]
def klU{m:Bool}{r:Row}(h:r.Ok):0≤prc m r∧prc m r≤1000000000000:=by
 unfold prc
 split
 ·cases e:r.ex with
  |none=>exact⟨h.pr0,h.pr1⟩
  |some z=>exact h.ex0 z e
 ·rwa[h.pr0,h.pr1]
theorem kii(m:Bool):∀(rs:List Row)(k:Nat),(rs.map fun r=>NI r.mn.toNat (prc m r)).flatten.length=((rs.zipIdx k).map fun p=>NI p.1.mn.toNat (p.2:Int)).flatten.length
 |[],_=>by simp
 |r::rs,k=>by
  rw[Du,NW,Me,NQ,ML,NW,Me,NQ,ML,kii m rs (k+1)]
def kmx(m:Bool)(rs:List Row):(prs m rs).length=(ownN rs).length:=by
 have e:(ownN rs).length=(own rs).length:=by
  have:=congrArg El (kgb rs)
  simpa using this.symm
 rw[e]
 exact kii m rs 0
def Wf.start{ps:List (Option Nat)}{B:Bask}(g:Good ps)(pl:ps.length≤20)(kd:∀r∈B.rs,0≤r.kd∧r.kd<(ps.length:Int))(ok:∀r∈B.rs,r.Ok)(nl:B.rs.length≤12)(bc:0≤B.cg∧B.cg≤1000000000000)(n64:(ownN B.rs).length<64):Wf ps B (stnd0 B):=by
 rwa[g,pl,kd,ok,nl,bc,6,kmx _ _,by simp[stnd0],fun z hz=>?_,bc,n64]
 obtain⟨xs,h1,h2⟩:=M0.mp hz
 obtain⟨r,hr,rfl⟩:=N3.mp h1
 rw[(DF.mp h2).2]
 exact klU (ok r hr)
def Wf.nn{ps:List (Option Nat)}{B:Bask}{S:Stnd}(W:Wf ps B S):Nn S.pr:=fun z hz=>(W.pr z hz).1
def Wf.after{ps:List (Option Nat)}{B:Bask}{S:Stnd}{V:Vch}(W:Wf ps B S)(O:VchOk ps V):Wf ps B (aftM V ps (kds B) S):=by
 have h:=knu (V:=V) (ps:=ps) (kk:=kds B) W.nn W.cg.1 O.so fun m e=>(O.ms.most m e).1
 rwa[W.good,W.pl,W.kd,W.ok,W.nl,W.bc,W.ow,h.1.1.trans W.lp,by rw[←W.lm];simp[aftM],fun z hz=>?_,⟨h.2.1,Int.le_trans h.2.2 W.cg.2⟩,W.n64]
 obtain⟨j,e1⟩:=MZ.mp hz
 have hj:j<S.pr.length:=by
  rw[←h.1.1]
  exact(NT.mp e1).1
 have e2:S.pr[j]?>>S.pr[j]:=by simp[hj]
 have b:=h.1.2 j z _ e1 e2
 have c:=W.pr _ (NM e2)
 rwa[b.1,Int.le_trans b.2 c.2]
inductive kjB(K:NF)(d:D)(vs:List V)(H:Hp)(Q:VK)(E_:XK):Prop
 |ct(v a b x:Addr)(V:Vch)(ps:List (Option Nat))(B:Bask)(S:Stnd)(_:vs=[.ref v, .ref a, .ref b, .ref x])(_:VchIs d H v V)(_:SqL K H a (ps.map pV))(_:BaskIs d.qe d.qf H b B)(_:StndIs d.qd H x S)(_:Wf ps B S)(_:VchOk ps V)(_:∀(H':Hp)(p:Addr),Same H H'→H p=none→H' p>>(.lst ((abt ps (kds B) V.ms.kind V.ms.lone S).map iV))→Q (.ref p) H'):kjB K d vs H Q E_
inductive klQ(K:NF)(d:D)(vs:List V)(H:Hp)(Q:VK)(E_:XK):Prop
 |ct(v a b x:Addr)(V:Vch)(ps:List (Option Nat))(B:Bask)(S:Stnd)(_:vs=[.ref v, .ref a, .ref b, .ref x])(_:VchIs d H v V)(_:SqL K H a (ps.map pV))(_:BaskIs d.qe d.qf H b B)(_:StndIs d.qd H x S)(_:Wf ps B S)(_:VchOk ps V)(_:∀(H':Hp)(t p:Addr),Same H H'→H t=none→H p=none→H' t>>(.tup [.ref p, .int (cutM V ps (kds B) S).2])→H' p>>(.lst ((cutM V ps (kds B) S).1.map L2.V.int))→Q (.ref t) H'):klQ K d vs H Q E_
theorem cl_of{K:NF}{mg:Str→Option Value}{d:D}{base:Heap}(W:WB K mg d base):∀{so:Srt},here so=true→Cls K (clsOf d so)
 | .off _,h=>W.c_Off.cl
 | .share _ _,h=>W.qj.cl
 | .cheap _,h=>W.ql.cl
 | .bund _ _,h=>W.qk.cl
 | .carr,h=>W.qm.cl
theorem na_of{K:NF}{mg:Str→Option Value}{d:D}{base:Heap}(W:WB K mg d base):∀{so:Srt},here so=true→NoAttr K (clsOf d so) "marks"
 | .off _,h=>W.VT
 | .share _ _,h=>W.VW
 | .cheap _,h=>W.VY
 | .bund _ _,h=>W.V2
 | .carr,h=>W.V3
theorem kl2{K:NF}{mg:Str→Option Value}{d:D}{base:Heap}(W:WB K mg d base):∀{so:Srt},here so=true→Isi K (clsOf d so)
 | .off _,h=>W.c_Off.isi
 | .share _ _,h=>W.qj.isi
 | .cheap _,h=>W.ql.isi
 | .bund _ _,h=>W.qk.isi
 | .carr,h=>W.qm.isi
theorem kg6{K:NF}{mg:Str→Option Value}{d:D}{base:Heap}(W:WB K mg d base):∀{so:Srt},here so=true→NU K (.ref (clsOf d so)) (.ref d.qm)>>(kbS so)
 | .off _,h=>W.Ut
 | .share _ _,h=>W.Uu
 | .cheap _,h=>W.Uv
 | .bund _ _,h=>W.Uw
 | .carr,h=>kcI _ _
theorem kmK{K:NF}{mg:Str→Option Value}{d:D}{base:Heap}(W:WB K mg d base):∀{so:Srt},here so=true→NU K (.ref (clsOf d so)) (.ref d.c_Off)>>(kmV so)
 | .off _,h=>kcI _ _
 | .share _ _,h=>W.Ux
 | .cheap _,h=>W.Uy
 | .bund _ _,h=>W.Uz
 | .carr,h=>W.UA
theorem kdM{K:NF}{mg:Str→Option Value}{d:D}{base:Heap}(W:WB K mg d base):∀{so:Srt},here so=true→NU K (.ref (clsOf d so)) (.ref d.qj)>>(kkQ so)
 | .off _,h=>W.UB
 | .share _ _,h=>kcI _ _
 | .cheap _,h=>W.UC
 | .bund _ _,h=>W.UD
 | .carr,h=>W.UE
theorem kc7{K:NF}{mg:Str→Option Value}{d:D}{base:Heap}(W:WB K mg d base):∀{so:Srt},here so=true→NU K (.ref (clsOf d so)) (.ref d.ql)>>(khk so)
 | .off _,h=>W.UF
 | .share _ _,h=>W.UG
 | .cheap _,h=>kcI _ _
 | .bund _ _,h=>W.UH
 | .carr,h=>W.UI
theorem kfI{K:NF}{mg:Str→Option Value}{d:D}{base:Heap}(W:WB K mg d base):∀{so:Srt},here so=true→NU K (.ref (clsOf d so)) (.ref d.qk)>>(ki3 so)
 | .off _,h=>W.UJ
 | .share _ _,h=>W.UK
 | .cheap _,h=>W.UL
 | .bund _ _,h=>kcI _ _
 | .carr,h=>W.UM
def khO(bs:List Int):(bs.map V.int).all flatV=true:=by
 rw[Es]
 intro x hx
 obtain⟨n,_,rfl⟩:=N3.mp hx
 rfl
theorem kdR{b:Int}:∀{q:List Int},(∀z∈q,z≤b)→q.sum≤b*q.length
 |[],_=>by simp
 |z::q,h=>by
  have h1:=h z N4
  have h2:=kdR (q:=q) fun x hx=>h x (N2 _ hx)
  rw[Mb,Md]
  have e:b*((q.length+1:Nat):Int)=b*q.length+b:=by rw[Int.natCast_add,Int.mul_add];simp
  lia
def kjO{ps:List (Option Nat)}{B:Bask}{S:Stnd}(wf:Wf ps B S){ab:List Nat}(hl:ab.length≤720)(hb:∀i∈ab,i<S.pr.length):(qs S.pr ab).sum≤720000000000000:=by
 have h:=kdR (b:=1000000000000) (q:=qs S.pr ab) fun z hz=>by
  obtain⟨i,hi,rfl⟩:=N3.mp hz
  obtain⟨w,ew⟩:=at_of (hb i hi)
  rw[N1,ew]
  exact(wf.pr w (NM ew)).2
 rw[kck] at h
 lia
def kmT(xs:List V)(i k:Nat):cutV xs (some (i:Int)) (some ((i+k:Nat):Int))=(xs.drop i).take k:=by
 unfold cutV
 rw[HT.sIx_nat,HT.sIx_nat]
 by_cases h:i≤xs.length
 ·rw[Ee h,DQ,Eo]
  lia
 ·rw[ES (by lia),ES (by lia)]
  simp
def kkP{α:Type}{xs:List α}{v: α}(h:xs[xs.length-1]?>>v)(h0:0<xs.length):atI xs (-1)>>v:=by
 unfold atI ixN
 rw[if_neg (by lia),if_pos (by lia)]
 show xs[(-1+(xs.length:Int)).toNat]?>>v
 rw[show(-1+(xs.length:Int)).toNat=xs.length-1 by lia]
 exact h
def kif{H0 H1 H2:Hp}{x:Addr}(f:H0 x=none)(s:Same H0 H1)(b:But x H1 H2):Same H0 H2:=fun y u e=>kbN (s y u e) fun u' e'=>b y u' (kaj e f) e'
noncomputable def hindM(V:Vch)(ps:List (Option Nat))(B:Bask)(S:Stnd):L2.V:=
 if(V.ms.member&& !B.m)=true then .str "member" else if(abt ps (kds B) V.ms.kind V.ms.lone S).length=0 then .str "nothing" else if(qs S.pr (abt ps (kds B) V.ms.kind V.ms.lone S)).sum<V.ms.needs then .str "needs" else .non
inductive klN(K:NF)(d:D)(vs:List V)(H:Hp)(Q:VK)(E_:XK):Prop
 |ct(v a b x:Addr)(V:Vch)(ps:List (Option Nat))(B:Bask)(S:Stnd)(_:vs=[.ref v, .ref a, .ref b, .ref x])(_:VchIs d H v V)(_:SqL K H a (ps.map pV))(_:BaskIs d.qe d.qf H b B)(_:StndIs d.qd H x S)(_:Wf ps B S)(_:VchOk ps V)(_:∀(H':Hp),Same H H'→Q (hindM V ps B S) H'):klN K d vs H Q E_
noncomputable def atM(m:Option Int)(n:Int):Int:=match m with
 |none=>n
 |some m=>min m n
def none_of{H H':Hp}(s:Same H H'){p:Addr}(h:H' p=none):H p=none:=s.free h
def kkM{x:Addr}{H H':Hp}(b:But x H H')(n:H x=none):Same H H':=fun y u e=>b y u (kaj e n) e
theorem kj6{CL CB CS:Addr}{H:Hp}{b l:Addr}{cg:Int}{m:Bool}{ls:List Addr}{rs:List Row}{R:Addr→Hp→Prop}{E:XK}(hb:BaskAt CB H b l cg m)(hl:H l>>(.lst (ls.map V.ref)))(hL:Lines CL H ls rs)(hn:rs.length≤12)(hok:∀r∈rs,r.Ok)
  (k:∀(H':Hp)(x:Addr),Same H H'→H x=none→∀(dx:Addr)(fs:List (Str×V)),H' x>>(.ins CS dx fs)→fs.length≤10→fs.lookup ("whole" :Str)=none→R x H'):
  ∀x dx,H x=none→H dx=none→dx≠x→kdx CL CB CS [.ref x, .ref b] (upd (upd H dx (.own x)) x (.ins CS dx [])) (fun v H2=>v=.non∧R x H2) E:=
 fun x dx nx nd _=>⟨x,dx,b,l,cg,m,ls,rs,rfl,kad,hb.same (ka2 nx nd),kg3 nx nd hl,hL.same (ka2 nx nd),hn,hok,fun H' o p mk bt n1 n2 n3 S h1 h2 h3 fw=>by
  obtain⟨dx',fs,e,hf⟩:=fw
  obtain⟨dx2,fs2,e2,_,_,_,_,hw⟩:=S
  rw[e] at e2
  injection e2 with e2
  injection e2 with _ e3 e4
  subst e4
  exact⟨rfl,k H' x (kbR nx nd bt) nx dx' fs e hf hw⟩⟩
theorem kkw{V:Vch}{ps:List (Option Nat)}{kk:List Nat}{S:Stnd}(vo:VchOk ps V):(cutM V ps kk S).2=if kbS V.so=true then atM V.ms.most S.cg else 0:=by
 have hm:=vo.ms.most
 unfold cutM
 simp only
 cases e:V.ms.most with
 |none=>
  unfold cap atM
  simp only
  unfold fee kbS
  cases V.so <;> rfl
 | some m=>
  have h0:=(hm m e).1
  unfold cap atM
  simp only
  cases eso:V.so with
  | carr=>
   have hz:(want .carr S.mkd.length ((abt ps kk V.ms.kind V.ms.lone S).map fun i=>S.ow.getD i 0) (qs S.pr (abt ps kk V.ms.kind V.ms.lone S))).sum=0:=by
    unfold want
    simp
   show(if m<_+S.cg then _ else _:List Int×Int).2=min m S.cg
   rw[hz,Int.zero_add]
   split
   ·show min S.cg m=_
    lia
   ·show S.cg=_
    lia
  | _=>
   show(if m<_+0 then(_,min 0 m) else(_,0):List Int×Int).2=0
   split
   ·show min 0 m=0
    lia
   ·rfl
def knj{B:Bask}{l:Nat}{r:Row}(h:B.rs[l]?>>r):(kds B).getD l 0=r.kd.toNat:=by
 unfold kds
 rw[N1,NO,h]
 rfl
theorem klH{ps:List (Option Nat)}{kk:List Nat}{kind:Option Nat}{lone:Bool}{S:Stnd}{i:Nat}:
  (NK (i+1)).filter (fun i=>hits ps kk kind lone S.mkd (S.ow.getD i 0))=(NK i).filter (fun i=>hits ps kk kind lone S.mkd (S.ow.getD i 0))++(if hits ps kk kind lone S.mkd (S.ow.getD i 0)=true then [i] else []):=by
 rw[Mx,M8]
 congr 1
 simp only[Ej,DG]
def GrpAt(H H':Hp)(pa:Addr)(t:Addr)(q:Int×List Nat):Prop:=∃ga,H' t>>(.tup [.int q.1, .ref ga])∧H' ga>>(.lst (q.2.map iV))∧(ga=pa∨H ga=none)
inductive kh1(d:D)(vs:List V)(H:Hp)(Q:VK)(E_:XK):Prop
 |ct(v x pa:Addr)(V:Vch)(ps:List (Option Nat))(B:Bask)(S:Stnd)(_:vs=[.ref v, .ref x, .ref pa])(_:VchIs d H v V)(_:StndIs d.qd H x S)(_:H pa>>(.lst ((abt ps (kds B) V.ms.kind V.ms.lone S).map iV)))(_:Wf ps B S)(_:VchOk ps V) (_:∀(H':Hp) (p:Addr) (tl:List Addr) (gl:List (Int×List Nat)),Same H H'→H p=none→H' p>>(.lst (tl.map L2.V.ref))→P2 (GrpAt H H' pa) tl gl→(∀c g,(c,g)∈gl→0≤c∧c≤(qs S.pr g).sum∧g.length≤720)→(gl.map Prod.snd).flatten.Nodup→(∀i∈(gl.map Prod.snd).flatten,i<S.pr.length)→gl.length≤720→
  spr S.pr.length (gl.map Prod.snd).flatten (gl.map fun p=>dl p.1 (qs S.pr p.2)).flatten=spr S.pr.length (abt ps (kds B) V.ms.kind V.ms.lone S) (want V.so S.mkd.length ((abt ps (kds B) V.ms.kind V.ms.lone S).map fun i=>S.ow.getD i 0) (qs S.pr (abt ps (kds B) V.ms.kind V.ms.lone S)))→Q (.ref p) H'):kh1 d vs H Q E_
def kay{H H':Hp}{p:Addr}{o:HO}(h:upd H p o=H')(f:H p=none):Same H H'∧H' p>>o:=by
 subst h
 rwa[kam f,kad]
theorem But.free{x l:Addr}{H H':Hp}{o:HO}(b:But x H H')(hx:H' x>>o)(h:H' l=none):H l=none:=by
 cases q:H l with
 |none=>rfl
 |some u=>
  obtain⟨o',e'⟩:=kgp (b l u (kaj hx h).symm q)
  rw[e'] at h
  cases h
structure Rul where
 w:Str
 a:Nat
 b:Nat
structure TillD where
 ps:List (Option Nat)
 vs:List Vch
 rs:List Rul
 bk:Str
def RulIs(H:Hp)(a:Addr)(r:Rul):Prop:=H a>>(.tup [.str r.w,iV r.a,iV r.b])
inductive TillIs(d:D)(H:Hp)(t:Addr)(T:TillD):Prop
 |ct(dx:Addr)(fs:List (Str×V))(p vl rl:Addr)(va ra:List Addr)(_:H t>>(.ins d.qg dx fs))(_:fs.lookup ("parents" :Str)>>(.ref p))(_:fs.lookup ("vouchers" :Str)>>(.ref vl))(_:fs.lookup ("rules" :Str)>>(.ref rl))(_:fs.lookup ("back" :Str)>>(.str T.bk))(_:H p>>(.lst (T.ps.map pV)))(_:H vl>>(.lst (va.map V.ref)))(_:P2 (fun a V=>VchIs d H a V) va T.vs)(_:H rl>>(.lst (ra.map V.ref)))(_:P2 (fun a r=>RulIs H a r) ra T.rs):TillIs d H t T
def TillIs.same{d:D}{H H':Hp}{t:Addr}{T:TillD}(s:Same H H'):TillIs d H t T→TillIs d H' t T:=fun⟨dx,fs,p,vl,rl,va,ra,h1,h2,h3,h4,h5,h6,h7,h8,h9,h10⟩=>
 ⟨dx,fs,p,vl,rl,va,ra,s _ _ h1,h2,h3,h4,h5,s _ _ h6,s _ _ h7,h8.mono fun a V h=>h.same s,s _ _ h9,h10.mono fun a r h=>s _ _ h⟩
structure kb0(T:TillD):Prop where
 vs:∀V∈T.vs,VchOk T.ps V
 nv:T.vs.length≤8
inductive WayAt(d:D)(m:Nat)(H:Hp)(w t b x:Addr)(hand:List Int)(used:List Nat):Prop
 |ct(dx:Addr)(fs:List (Str×V))(h u:Addr)(_:H w>>(.ins d.c_Way dx fs))(_:fs.lookup ("till" :Str)>>(.ref t))(_:fs.lookup ("basket" :Str)>>(.ref b))(_:fs.lookup ("hand" :Str)>>(.ref h))(_:fs.lookup ("used" :Str)>>(.ref u))(_:fs.lookup ("standing" :Str)>>(.ref x))(_:fs.lookup ("word_for" :Str)=none)(_:fs.lookup ("behind" :Str)=none)(_:fs.lookup ("is_let_by" :Str)=none)(_:fs.lookup ("followers" :Str)=none)(_:fs.length≤m)(_:H h>>(.lst (hand.map V.int)))(_:H u>>(.lst (used.map iV))):WayAt d m H w t b x hand used
abbrev WayIs(d:D)(H:Hp)(w t b x:Addr)(hand:List Int)(used:List Nat):Prop:=WayAt d 7 H w t b x hand used
def WayAt.most{d:D}{m m':Nat}{H:Hp}{w t b x:Addr}{hand:List Int}{used:List Nat}(hm:m≤m'):WayAt d m H w t b x hand used→WayAt d m' H w t b x hand used:=fun⟨dx,fs,h,u,h1,h2,h3,h4,h5,h6,h7,h8,h9,h10,h11,h12,h13⟩=>
 ⟨dx,fs,h,u,h1,h2,h3,h4,h5,h6,h7,h8,h9,h10,NJ h11 hm,h12,h13⟩
def WayAt.same{d:D}{m:Nat}{H H':Hp}{w t b x:Addr}{hand:List Int}{used:List Nat}(s:Same H H'):WayAt d m H w t b x hand used→WayAt d m H' w t b x hand used:=fun⟨dx,fs,h,u,h1,h2,h3,h4,h5,h6,h7,h8,h9,h10,h11,h12,h13⟩=>
 ⟨dx,fs,h,u,s _ _ h1,h2,h3,h4,h5,h6,h7,h8,h9,h10,h11,s _ _ h12,s _ _ h13⟩
noncomputable def nevR(used:List Nat)(n:Nat)(r:Rul):Bool:=decide (r.w=("never" :Str))&&((decide (r.a=n)&&used.contains r.b)||(decide (r.b=n)&&used.contains r.a))
noncomputable def kfG(rs:List Rul)(used:List Nat)(n:Nat):Bool:=rs.any (nevR used n)
noncomputable def ahdR(used:List Nat)(n:Nat)(r:Rul):Bool:=decide (r.w=("ahead" :Str))&&(decide (r.a=n)&&used.contains r.b)
noncomputable def kfN(rs:List Rul)(used:List Nat)(n:Nat):Bool:=rs.any (ahdR used n)
noncomputable def loneM(order:List Nat)(r:Rul):Bool:=decide (r.w=("only" :Str))&&(order.contains r.a&& !order.contains r.b)
noncomputable def onlyM(rs:List Rul)(order:List Nat):Option Nat:=(rs.find? (loneM order)).map Rul.a
noncomputable def sV:Option Str→V
 |none=>.non
 |some z=>.str z
noncomputable def wordM(V:Vch)(rs:List Rul)(hand:List Int)(used:List Nat)(n:Nat):Option Str:=
 if hand.getD n 0<(used.count n:Int)+1 then some "held" else if(V.ms.once&&used.contains n)=true then some "once" else if kfG rs used n=true then some "never" else if kfN rs used n=true then some "ahead" else none
noncomputable def dueM(V:Vch)(T:TillD)(B:Bask)(hand:List Int)(used:List Nat)(S:Stnd)(n:Nat):L2.V:=match wordM V T.rs hand used n with
 |some z=>.str z
 |none=>hindM V T.ps B S
theorem kc8{n:Nat}:∀(l:List Nat),inV (iV n) (l.map iV)=l.contains n
 |[]=>rfl
 | m::l=>by
  have ih:=kc8 (n:=n) l
  unfold inV at ih⊢
  rw[NW,Ed,ih,List.contains_cons]
  congr 1
  show eqV (V.int (m:Int)) (V.int (n:Int))=(n==m)
  by_cases h:n=m
  ·subst h
   simp[eqV]
  ·have h1:¬((m:Int)=(n:Int)):=by lia
   have e2:(n==m)=false:=beq_eq_false_iff_ne.mpr h
   rw[e2]
   simp[eqV,h1]
theorem kgu(l:List Nat)(n:Nat):(l.map fun(i:Nat)=>(i:Int)).count (n:Int)=l.count n:=by
 induction l with
 |nil=>rfl
 | cons m l ih=>
  rw[NW,EG,EG,ih]
  congr 1
  by_cases h:m=n
  ·subst h;simp
  ·have h1:¬((m:Int)=(n:Int)):=by lia
   have e1:((m:Int)==(n:Int))=false:=beq_eq_false_iff_ne.mpr h1
   have e2:(m==n)=false:=beq_eq_false_iff_ne.mpr h
   rw[e1,e2]
def kfK(a b:Nat):decide (iV a=iV b)=decide (a=b):=by
 by_cases h:a=b
 ·subst h;simp
 ·have n:¬(iV a=iV b):=fun e=>h (by have:=V.int.inj e;lia)
  rw[decide_eq_false h,decide_eq_false n]
def eq_str(a b:Str):decide (V.str a=V.str b)=decide (a=b):=by
 by_cases h:a=b
 ·subst h;simp
 ·have n:¬(V.str a=V.str b):=fun e=>h (V.str.inj e)
  rw[decide_eq_false h,decide_eq_false n]
section
variable{P:Program}{w:World}{K:NF}{mg:Str→Option Value}{base:Heap}{d:D}
abbrev FO{K:NF}{mg:Str→Option Value}{d:D}{base:Heap}(P:Program)(w:World)(_:WB K mg d base):=FnOk P w K mg base CX0
theorem XD:kar ["parents","one","other","kind"] ["parents","one","other"] (kai khy):=by ac_rfl
theorem kk9(W:WB K mg d base):FO P w W 1 d.X4 d.X5 ["parents","one","other"] (kjo K):=by
 exists W.Vk.F,XD
 ·obtain⟨a,ps,one,other,rfl,hS,hg,ho,k⟩:=h
  refine⟨_,kab (psl (i:=3) XD.nd (pv 1))
   (kab (kk0 PassesOwn.never (kan kdZ (pv 3) kbf (kau _))
   (kab (ps_if (kan op_eq (pv 3) (pv 2) (kau _)) (kag (kap pe_bl)) (kav))
   (kag (psl (i:=3) XD.nd (pe_ix (r:=rIxL K) kaG (pv 0) (pv 3) (fun _ _=>rfl))))))
   (kag (kap pe_bl))),?_⟩
  rwa[8,?_]
  refine kkT (fun σ H'=>∃o:Option Nat,σ=[some (.ref a),some (.int one),some (.int other),some (pV o)]∧H'=H∧(∀i,o>>i→i<ps.length)∧decide (other∈up ps one)=decide (other∈rest ps o))
   (fun σ _=>match σ with|[_,_,_,some (.int i)]=>i.toNat+1|_=>0) ⟨some one,rfl,rfl,fun i e=>by cases e;exact ho,rfl⟩ ?_ ?_
  ·rintro σ H' ⟨o,rfl,rfl,hb,he⟩
   rwa[8,6,8,?_]
   cases o with
   |none=>
    show if(!decide (V.non=V.non))=true then _ else _
    rw[klY]
    refine iteF ?_
    show Q (.bl false) _
    have e:decide (other∈up ps one)=false:=by rw[he];simp[Kin.rest]
    rw[e] at k
    exact k
   | some i=>
    show if(!decide (V.int i=V.non))=true then _ else _
    rw[klZ]
    refine iteT ?_
    have hi:=hb i rfl
    rwa[8,8,6,8,?_]
    show if decide (V.int i=V.int other)=true then _ else _
    rw[eq_int]
    obtain⟨o,eo⟩:∃o,ps[i]?>>o:=⟨ps[i],by simp[hi]⟩
    refine ite2 (fun h=>?_) (fun h=>?_)
    ·have h':i=other:=of_decide_eq_true h
     subst h'
     have e:decide (i∈up ps one)=true:=by
      rw[he]
      show decide (i∈up ps i)=true
      rw[up_eq hg eo]
      simp
     rw[e] at k
     exact k
    ·have h':¬i=other:=fun z=>h (decide_eq_true z)
     rwa[8,8,a,_,_,pV o,6,6,hS,kaL (by simp[eo]),?_]
     rwa[⟨o,rfl,rfl,fun j e=>?_,?_⟩,?_]
     ·subst e
      have:=hg i j eo
      lia
     ·rw[he]
      show decide (other∈up ps i)=_
      rw[up_eq hg eo]
      have:¬other=i:=fun z=>h' z.symm
      simp[this]
     ·cases o with
      |none=>exact Nat.succ_pos _
      |some j=>
       have:=hg i j eo
       show((j:Int)).toNat+1<((i:Int)).toNat+1
       lia
  ·rintro σ H' Q' Q'' hq ⟨v,h1,h2,h3⟩
   rwa[v,h1,h2,by obtain⟨b,e,q⟩:=h3;exact⟨b,e,hq _ _ q⟩]
theorem qI:kar ["cut","weights","total","parts","reached","given","weight","share"] ["cut","weights"] (kai khA):=by ac_rfl
theorem klb(W:WB K mg d base):FO P w W 1 d.X2 d.X3 ["cut","weights"] (kjw K):=by
 exists W.Xe.F,qI
 ·obtain⟨c,a,ws,rfl,hS,hn,hs,hc0,hc1,hl,k⟩:=h
  refine⟨_,kab (psl (i:=2) qI.nd (kao (r:=rSum K) (kbO rfl) (by rfl) W.B.sum b_sum (kaa (pv 1) kae)))
   (kab (ps_if (kan op_eq (pv 2) kaf (kau _)) (kag (kap (kbq (N:=["weight"]) (CompScope.plain rfl (by cutsat) (by cutsat) (by cutsat) (nd1 _)) rfl (kaC (K:=K) (pv 1)) (fun _ _ _ _=>pgn (i:=0) (nd1 _)) (fun _ _ _ _=>kaf)))) (kav))
   (kab (psl (i:=3) qI.nd (kaM kae))
   (kab (psl (i:=4) qI.nd kaf)
   (kab (psl (i:=5) qI.nd kaf)
   (kab (kbo PassesOwn.never rfl (kaC (K:=K) (pv 1)) (pgn (i:=6) qI.nd)
   (kab (klT (i:=4) qI.nd rfl (Or.inl rfl) (pv 6) kki)
   (kab (psl (i:=7) qI.nd (pe_op kk8 (pe_op kdD (pv 0) (pv 4)) (pv 2)))
   (kab (ka1 (pe_bm Mt MH MI ka8 (pv 3) (kaa (pe_op kcy (pv 7) (pv 5)) kae)))
   (kag (psl (i:=5) qI.nd (pv 7)))))))
   (kag (kap (pv 3)))))))),?_⟩
  rwa[8,a,ws,6,hS,8,6,8,?_]
  refine ite2 (fun h=>?_) (fun h=>?_)
  ·have h0:ws.sum=0:=by
    have e:V.int ws.sum=V.int 0:=of_decide_eq_true h
    injection e
   rwa[8,a,6,⟨_,hS⟩,kaW (xs:=ws.map V.int) (fun i σ ys H'=>H'=H∧ys=NI i (V.int 0)∧∃v,σ=[v]) ⟨rfl,rfl,none,rfl⟩ ?_ ?_ ?_ ?_]
   ·rw[ND]
    exact NR (kas hl)
   ·rintro i σ ys H' hi ⟨rfl,rfl,v,rfl⟩
    rwa[hS,by simp]
   ·rintro i x σ ys H' hx ⟨rfl,rfl,v,rfl⟩
    rwa[6,by rw[E6],8]
   ·rintro σ ys H' ⟨rfl,rfl,v,rfl⟩ D hD
    have:=k D hD
    rw[klg h0] at this
    rw[ND]
    exact this
  ·have h0:¬ws.sum=0:=fun e=>h (by rw[e];simp)
   have hpos:0<ws.sum:=by
    have:=kbC hn
    lia
   rwa[by decide,fun p hp=>?_]
   have s1:∀o,Same H (upd H p o):=fun o=>kam hp
   refine⟨_,rfl,a,rfl,⟨_,(s1 _).seq hS⟩,ka7 (K:=K) (a:=a) (xs:=ws.map V.int) (fun i σ H'=>H'=upd H p (.lst (((NK i).map (part c ws)).map V.int))∧
    ∃(v6 v7:Option V),σ=[some (.int c),some (.ref a),some (.int ws.sum),some (.ref p),some (.int (pre ws i)),some (.int (c*pre ws i/ws.sum)),v6,v7])
    ⟨rfl,none,none,by simp[kk3];rfl⟩ (fun i σ H' _ ⟨e,_⟩=>by rw[e];exact(s1 _).seq hS) ?_ ?_⟩
   ·rintro i x σ H' hi ⟨rfl,v6,v7,rfl⟩
    have hil:i<(ws.map V.int).length:=(NT.mp hi).1
    rw[ND] at hil
    obtain⟨z,ez,rfl⟩:∃z,ws[i]?>>z∧x=V.int z:=by
     rw[NO] at hi
     cases e:ws[i]? with
     |none=>rw[e] at hi;cases hi
     |some z=>rw[e] at hi;exact⟨z,rfl,(Option.some.inj hi).symm⟩
    have ep:=kez ez
    rwa[8,8,9,?_]
    rwa[8,8,9, .inl ⟨by lia,by lia⟩,8,9,⟨hpos,by lia⟩,?_]
    rwa[8, .inl ⟨rfl,_,SqL.of kad⟩,8,8,9,p,9,kad,kas (by simp;lia),?_]
    rwa[8,?_,some (.int z),some (.int (c*(pre ws i+z)/ws.sum)),?_]
    ·rw[kmg,Mx,NL,NL]
     show upd H p (.lst (_++[V.int (c*(pre ws i+z)/ws.sum-c*pre ws i/ws.sum)]))=upd H p (.lst (_++[V.int (part c ws i)]))
     unfold part
     rw[ep]
    ·rw[ep]
     rfl
   ·rintro σ H' ⟨rfl,v6,v7,rfl⟩
    rwa[8,?_]
    have:=k p hp
    rw[kj7 h0] at this
    rw[ND]
    exact this
theorem kf0:kar ["self","kind","needs","most","member","once","lone"] ["self","kind","needs","most","member","once","lone"] (kai ka4):=by ac_rfl
theorem kdH(W:WB K mg d base):FO P w W 1 d.Zv d.qM ["self","kind","needs","most","member","once","lone"] (kex d.qi):=by
 exists W.QM.F,kf0
 ·obtain⟨x,dx,M,rfl,hx,k⟩:=h
  refine⟨_,kab (kaz (pv 0) (pv 1) rfl)
   (kab (kaz (pv 0) (pv 2) rfl)
   (kab (kaz (pv 0) (pv 3) rfl)
   (kab (kaz (pv 0) (pv 4) rfl)
   (kab (kaz (pv 0) (pv 5) rfl)
   (kag (kaz (pv 0) (pv 6) rfl)))))),?_⟩
  rwa[8,8,x,d.qi,dx,[],6,hx,W.qi.cl,W.QL,by decide,?_]
  rwa[8,8,x,d.qi,dx,8,kad,W.qi.cl,W.VP,few (NJ (kal (n:=0) (NG _)) (by decide)),?_]
  rwa[8,8,x,d.qi,dx,8,kad,W.qi.cl,W.Xm,few (NJ (kal (kal (n:=0) (NG _))) (by decide)),?_]
  rwa[8,8,x,d.qi,dx,8,kad,W.qi.cl,W.VQ,few (NJ (kal (kal (kal (n:=0) (NG _)))) (by decide)),?_]
  rwa[8,8,x,d.qi,dx,8,kad,W.qi.cl,W.VR,few (NJ (kal (kal (kal (kal (n:=0) (NG _))))) (by decide)),?_]
  rwa[8,8,x,d.qi,dx,8,kad,W.qi.cl,W.Xn,few (NJ (kal (kal (kal (kal (kal (n:=0) (NG _)))))) (by decide)),?_]
  refine k _ (But.trans (But.trans (But.trans (But.trans (But.trans kaw kaw) kaw) kaw) kaw) kaw) ⟨dx,_,kad,?_,?_,?_,?_,?_,?_⟩ <;> ac_nf
theorem keO:kar ["self","marks"] ["self","marks"] (kai kaU):=by ac_rfl
theorem kbg(W:WB K mg d base):FO P w W 3 d.Q4 d.Q5 ["self","marks"] (kfy K d.qi):=by
 exists W.qw.F,keO
 ·obtain⟨x,C,dx,fs,mv,rfl,hx,hC,hN,hl,hm,k⟩:=h
  exists XE,kdH,W
  rwa[_,kag (kaz (pv 0) (keA (kan keb (pv 1) kbf (kau _)) (kk4 (W.QM.mk' W.qi) XE hr rfl W.qi.m W.b6_Marks_init (show Vals [.non, .int 0, .non, .bl false, .bl false, .bl false] [.none, .int 0 d.tok1_Marks_init, .none, .bool false, .bool false, .bool false] from(.cons rfl (.cons ⟨_,rfl⟩ (.cons rfl (.cons rfl (.cons rfl (.cons rfl .nil))))))) pass0) (pv 1)) rfl),?_]
  rcases hm with rfl|⟨mA,rfl⟩
  ·rwa[8,6,8,iteT ?_]
   refine kit (M:=mks0) fun H1 mA s1 f1 hM=>?_
   rwa[8,x,C,dx,fs,6,s1 _ _ hx,hC,hN,by lia,?_]
   have hne:mA≠x:=(kaj hx f1).symm
   refine k _ mA ((But.of_same s1).trans (kaw (nx (s1 _ _ hx)))) (.inr ⟨rfl,f1,?_⟩) kad
   exact hM.but hne (kaw (nx (s1 _ _ hx)))
  ·rwa[8,6,8,iteF ?_]
   rwa[8,8,x,C,dx,fs,6,hx,hC,hN,by lia,?_]
   exact k _ mA kaw (.inl rfl) kad
theorem khx:kar ["self","amount","marks"] ["self","amount","marks"] (kai kbt):=by ac_rfl
theorem khE(W:WB K mg d base):FO P w W 4 d.Zw d.Q6 ["self","amount","marks"] (kd8 d.c_Off d.qi (fun so=>∃(a:Int),so=.off a)):=by
 refine FunD.ok W.Xo.F khx (fun vs H Q E h=>?_) (fun cdv A outer s H vs Q E hr h=>?_)
 ·obtain⟨x,dx,so,mv,⟨a,rfl⟩,rfl,_⟩:=h
  rfl
 ·obtain⟨x,dx,so,mv,⟨a,rfl⟩,rfl,hx,hm,k⟩:=h
  exists qJ,kbg,W
  refine⟨_,kab (ka1 (keW W.QC qJ hr rfl W.qC.m W.qw.F.kp W.qw.b .nil pass0 (kaa (pv 0) (kaa (pv 2) kae))))
   (kag (kaz (pv 0) (pv 1) rfl)),?_⟩
  rwa[8,8,x,d.c_Off,dx,[],mv,6,hx,W.c_Off.cl,W.VT,by decide,hm,fun H1 mA b1 hM h1=>?_]
  rwa[8,8,x,d.c_Off,dx,8,h1,W.c_Off.cl,W.VS,few (NJ (kal (n:=0) (NG _)) (by decide)),?_]
  refine k _ mA _ (b1.trans kaw) ?_ kad ?_ ?_
  ·exact hM.but hx kaw
  ·ac_nf
  ·show MB _ _=_
   ac_nf
theorem kfZ:kar ["self","share","by_line","marks"] ["self","share","by_line","marks"] (kai ka3):=by ac_rfl
theorem kgh(W:WB K mg d base):FO P w W 4 d.Zx d.QI ["self","share","by_line","marks"] (kd8 d.qj d.qi (fun so=>∃(sh:Int)(bb:Bool),so=.share sh bb)):=by
 refine FunD.ok W.Xp.F kfZ (fun vs H Q E h=>?_) (fun cdv A outer s H vs Q E hr h=>?_)
 ·obtain⟨x,dx,so,mv,⟨sh,bb,rfl⟩,rfl,_⟩:=h
  rfl
 ·obtain⟨x,dx,so,mv,⟨sh,bb,rfl⟩,rfl,hx,hm,k⟩:=h
  exists qJ,kbg,W
  refine⟨_,kab (ka1 (keW W.QC qJ hr rfl W.qC.m W.qw.F.kp W.qw.b .nil pass0 (kaa (pv 0) (kaa (pv 3) kae))))
   (kab (kaz (pv 0) (pv 1) rfl)
   (kag (kaz (pv 0) (pv 2) rfl))),?_⟩
  rwa[8,8,x,d.qj,dx,[],mv,6,hx,W.qj.cl,W.VW,by decide,hm,fun H1 mA b1 hM h1=>?_]
  rwa[8,8,x,d.qj,dx,8,h1,W.qj.cl,W.VU,few (NJ (kal (n:=0) (NG _)) (by decide)),?_]
  rwa[8,8,x,d.qj,dx,8,kad,W.qj.cl,W.VV,few (NJ (kal (kal (n:=0) (NG _))) (by decide)),?_]
  refine k _ mA _ ((b1.trans kaw).trans kaw) ?_ kad ?_ ?_
  ·exact hM.but hx (But.trans kaw kaw)
  ·ac_nf
  ·rwa[by ac_nf,by ac_nf]
theorem kem:kar ["self","many","marks"] ["self","many","marks"] (kai kaO):=by ac_rfl
theorem keu(W:WB K mg d base):FO P w W 4 d.Zy d.Q7 ["self","many","marks"] (kd8 d.ql d.qi (fun so=>∃(n:Int),so=.cheap n)):=by
 refine FunD.ok W.Xq.F kem (fun vs H Q E h=>?_) (fun cdv A outer s H vs Q E hr h=>?_)
 ·obtain⟨x,dx,so,mv,⟨n,rfl⟩,rfl,_⟩:=h
  rfl
 ·obtain⟨x,dx,so,mv,⟨n,rfl⟩,rfl,hx,hm,k⟩:=h
  exists qJ,kbg,W
  refine⟨_,kab (ka1 (keW W.QC qJ hr rfl W.qC.m W.qw.F.kp W.qw.b .nil pass0 (kaa (pv 0) (kaa (pv 2) kae))))
   (kag (kaz (pv 0) (pv 1) rfl)),?_⟩
  rwa[8,8,x,d.ql,dx,[],mv,6,hx,W.ql.cl,W.VY,by decide,hm,fun H1 mA b1 hM h1=>?_]
  rwa[8,8,x,d.ql,dx,8,h1,W.ql.cl,W.VX,few (NJ (kal (n:=0) (NG _)) (by decide)),?_]
  refine k _ mA _ (b1.trans kaw) ?_ kad ?_ ?_
  ·exact hM.but hx kaw
  ·ac_nf
  ·show MB _ _=_
   ac_nf
theorem kfq:kar ["self","many","price","marks"] ["self","many","price","marks"] (kai kaY):=by ac_rfl
theorem kfu(W:WB K mg d base):FO P w W 4 d.Zz d.Q8 ["self","many","price","marks"] (kd8 d.qk d.qi (fun so=>∃(n:Int)(pp:Int),so=.bund n pp)):=by
 refine FunD.ok W.Xr.F kfq (fun vs H Q E h=>?_) (fun cdv A outer s H vs Q E hr h=>?_)
 ·obtain⟨x,dx,so,mv,⟨n,pp,rfl⟩,rfl,_⟩:=h
  rfl
 ·obtain⟨x,dx,so,mv,⟨n,pp,rfl⟩,rfl,hx,hm,k⟩:=h
  exists qJ,kbg,W
  refine⟨_,kab (ka1 (keW W.QC qJ hr rfl W.qC.m W.qw.F.kp W.qw.b .nil pass0 (kaa (pv 0) (kaa (pv 3) kae))))
   (kab (kaz (pv 0) (pv 1) rfl)
   (kag (kaz (pv 0) (pv 2) rfl))),?_⟩
  rwa[8,8,x,d.qk,dx,[],mv,6,hx,W.qk.cl,W.V2,by decide,hm,fun H1 mA b1 hM h1=>?_]
  rwa[8,8,x,d.qk,dx,8,h1,W.qk.cl,W.VZ,few (NJ (kal (n:=0) (NG _)) (by decide)),?_]
  rwa[8,8,x,d.qk,dx,8,kad,W.qk.cl,W.V1,few (NJ (kal (kal (n:=0) (NG _))) (by decide)),?_]
  refine k _ mA _ ((b1.trans kaw).trans kaw) ?_ kad ?_ ?_
  ·exact hM.but hx (But.trans kaw kaw)
  ·ac_nf
  ·rwa[by ac_nf,by ac_nf]
theorem ken:kar ["self","marks"] ["self","marks"] (kai kaP):=by ac_rfl
theorem kev(W:WB K mg d base):FO P w W 4 d.ZA d.Q9 ["self","marks"] (kd8 d.qm d.qi (fun so=>so=.carr)):=by
 exists W.Xs.F,ken
 ·obtain⟨x,dx,so,mv,rfl,rfl,hx,hm,k⟩:=h
  exists qJ,kbg,W
  rwa[_,kag (ka1 (keW W.QC qJ hr rfl W.qC.m W.qw.F.kp W.qw.b .nil pass0 (kaa (pv 0) (kaa (pv 1) kae)))),?_]
  rwa[8,8,x,d.qm,dx,[],mv,6,hx,W.qm.cl,W.V3,by decide,hm,fun H1 mA b1 hM h1=>?_]
  refine k _ mA _ b1 hM h1 ?_ trivial
  ac_nf
theorem kgT:kar ["self","kind","price","many","special"] ["self","kind","price","many","special"] (kai kbc):=by ac_rfl
theorem kc3(W:WB K mg d base):FO P w W 1 d.ZC d.Xa ["self","kind","price","many","special"] (khr d.qe):=by
 exists W.qT.F,kgT
 ·obtain⟨x,dx,r,rfl,hx,k⟩:=h
  refine⟨_,kab (kaz (pv 0) (pv 1) rfl)
   (kab (kaz (pv 0) (pv 2) rfl)
   (kab (kaz (pv 0) (pv 3) rfl)
   (kag (kaz (pv 0) (pv 4) rfl)))),?_⟩
  rwa[8,8,x,d.qe,dx,[],6,hx,W.qe.cl,W.QN,by decide,?_]
  rwa[8,8,x,d.qe,dx,8,kad,W.qe.cl,W.Qo,few (NJ (kal (n:=0) (NG _)) (by decide)),?_]
  rwa[8,8,x,d.qe,dx,8,kad,W.qe.cl,W.qO,few (NJ (kal (kal (n:=0) (NG _))) (by decide)),?_]
  rwa[8,8,x,d.qe,dx,8,kad,W.qe.cl,W.Qp,few (NJ (kal (kal (kal (n:=0) (NG _)))) (by decide)),?_]
  refine k _ (But.trans (But.trans (But.trans kaw kaw) kaw) kaw) ⟨dx,_,kad,?_,?_,?_,?_⟩
  ·rw[kac,if_neg (by cutsat),kac,if_neg (by cutsat),kac,if_neg (by cutsat),kac,if_pos rfl]
  ·rw[kac,if_neg (by cutsat),kac,if_neg (by cutsat),kac,if_pos rfl]
  ·rw[kac,if_neg (by cutsat),kac,if_pos rfl]
  ·rw[kac,if_pos rfl]
theorem kfr:kar ["self","lines","carriage","member"] ["self","lines","carriage","member"] (kai kaZ):=by ac_rfl
theorem kbM(W:WB K mg d base):FO P w W 1 d.ZD d.QJ ["self","lines","carriage","member"] (kht K d.qf):=by
 exists W.qD.F,kfr
 ·obtain⟨x,dx,l,cg,m,xs,rfl,hx,hl,k⟩:=h
  refine⟨_,kab (kaz (pv 0) (kaF (r:=kaS K) kax (by rfl) W.B.list ka9 (kaa (pv 1) kae)) rfl)
   (kab (kaz (pv 0) (pv 2) rfl)
   (kag (kaz (pv 0) (pv 3) rfl))),?_⟩
  rwa[8,l,8, .inl hl,fun l' hl'=>?_]
  have s1:=kam (o:=.lst xs) hl'
  have nlx:l'≠x:=fun e=>by
   rw[e,hx] at hl'
   cases hl'
  rwa[8,x,d.qf,dx,[],6,s1 _ _ hx,W.qf.cl,W.qz,by decide,?_]
  rwa[8,8,x,d.qf,dx,8,kad,W.qf.cl,W.Qq,few (NJ (kal (n:=0) (NG _)) (by decide)),?_]
  rwa[8,8,x,d.qf,dx,8,kad,W.qf.cl,W.Qb,few (NJ (kal (kal (n:=0) (NG _))) (by decide)),?_]
  refine k _ l' ((((But.of_same s1).trans kaw).trans kaw).trans kaw) hl' ?_ ⟨dx,_,kad,?_,?_,?_⟩
  ·rw[kak nlx,kak nlx,kak nlx,kad]
  ·rw[kac,if_neg (by cutsat),kac,if_neg (by cutsat),kac,if_pos rfl]
  ·rw[kac,if_neg (by cutsat),kac,if_pos rfl]
  ·rw[kac,if_pos rfl]
theorem kdS:kar ["line","member"] ["line","member"] (kai kbT):=by ac_rfl
theorem kd0(W:WB K mg d base):FO P w W 1 d.X6 d.X7 ["line","member"] (kjs d.qe):=by
 exists W.Vl.F,kdS
 ·obtain⟨x,m,r,rfl,⟨dx,fs,hx,lk,lp,lm,ls⟩,k⟩:=h
  refine⟨_,kab (ps_if (PW.pt (kbn (ka0 (pv 1)) (kba (kan kdZ (kah (K:=K) (pv 0) rfl) kbf (kau _))))) (kag (kap (kah (K:=K) (pv 0) rfl))) (kav))
   (kag (kap (kah (K:=K) (pv 0) rfl))),?_⟩
  rwa[8,m,6,?_]
  cases m with
  |false=>
   refine iteF (iteF ⟨_,rfl,x,d.qe,dx,fs,_,rfl,hx,W.qe.cl,W.Qo,lp,?_⟩)
   exact k
  | true=>
   refine iteT ⟨_,rfl,x,d.qe,dx,fs,_,rfl,hx,W.qe.cl,W.Qp,ls,rfl,_,rfl,?_⟩
   cases e:r.ex with
   | none=>
    rw[e] at ls
    show if(!decide (V.non=V.non))=true then _ else _
    rw[show(!decide (V.non=V.non))=false by simp]
    refine iteF ⟨_,rfl,x,d.qe,dx,fs,_,rfl,hx,W.qe.cl,W.Qo,lp,?_⟩
    have ep:prc true r=r.pr:=by
     unfold prc
     rw[if_pos rfl,e]
     rfl
    rw[ep] at k
    exact k
   | some z=>
    rw[e] at ls
    show if(!decide (V.int z=V.non))=true then _ else _
    rw[show(!decide (V.int z=V.non))=true by simp]
    refine iteT ⟨_,rfl,x,d.qe,dx,fs,_,rfl,hx,W.qe.cl,W.Qp,ls,?_⟩
    have ep:prc true r=z:=by
     unfold prc
     rw[if_pos rfl,e]
     rfl
    rw[ep] at k
    exact k
theorem QS:kar ["self","basket","number","line","price"] ["self","basket"] (kai kcd):=by ac_rfl
theorem kcO(W:WB K mg d base):FO P w W 2 d.ZE d.ZF ["self","basket"] (kdx d.qe d.qf d.qd):=by
 exists W.Qs.F,QS
 ·obtain⟨x,dx,b,l,cg,m,ls,rs,rfl,hx,⟨dxb,fsb,hb,lbl,lbc,lbm⟩,hl,hL,hn,hok,k⟩:=h
  exists UR,kd0,W
  refine⟨_,kab (kaz (pv 0) (kaM kae) rfl)
   (kab (kaz (pv 0) (kaM kae) rfl)
   (kab (kaz (pv 0) (kah (K:=K) (pv 1) rfl) rfl)
   (kab (kaz (pv 0) (kaM kae) rfl)
   (kag (kbo PassesOwn.never rfl (kjX rfl W.B.enum (kaa (kah (K:=K) (pv 1) rfl) kae)) (kbJ (K:=K) (n:=2) rfl (kaD (pgn (i:=2) QS.nd) (kaD (pgn (i:=3) QS.nd) kbI)))
   (kab (psl (i:=4) QS.nd (pcl UR hr W.Vl (kaa (pv 3) (kaa (kah (K:=K) (pv 1) rfl) kae))))
   (kab (ka1 (pe_bm Mt DH DI ke9 (kah (K:=K) (pv 0) rfl) (kaa (pe_op kj2 (kaM (kaa (pv 2) kae)) (kah (K:=K) (pv 3) rfl)) kae)))
   (kab (ka1 (pe_bm Mt DH DI ke9 (kah (K:=K) (pv 0) rfl) (kaa (pe_op kj2 (kaM (kaa (pv 4) kae)) (kah (K:=K) (pv 3) rfl)) kae)))
   (kag (ka1 (pe_bm Mt MH MI ka8 (kah (K:=K) (pv 0) rfl) (kaa pe_bl kae)))))))))))),?_⟩
  have nbx:b≠x:=ne_of hb hx (by
   intro z
   injection z with _ _ z
   rw[z] at lbl
   cases lbl)
  have nlx:l≠x:=ne_of hl hx (by intro z;cases z)
  exists Y4
  rwa[by decide,fun o ho=>?_]
  have nox:o≠x:=(kaj hx ho).symm
  nomatch x,d.qd,dx,[],6,kam ho _ _ hx,W.qd.cl,W.qU,by decide,?_
  have b1:But x H (upd (upd H o (.lst [])) x (.ins d.qd dx (putF "owners" (.ref o) []))):=(But.of_same (kam ho)).trans kaw
  symm
  exists Y4
  rwa[by decide,fun p hp=>?_]
  have npx:p≠x:=fun e=>by
   rw[e,kad] at hp
   cases hp
  have nop:o≠p:=fun e=>by
   rw[←e,kak nox,kad] at hp
   cases hp
  have hp0:H p=none:=by
   cases e:H p with
   |none=>rfl
   |some u=>
    obtain⟨u',e'⟩:=kgp (b1 p u npx e)
    rw[e'] at hp
    cases hp
  nomatch x,d.qd,dx,8,kam hp _ _ kad,W.qd.cl,W.qA,few (NJ (kal (n:=0) (NG _)) (by decide)),?_
  have b2:=(b1.same (kam (o:=.lst []) hp)).trans (kaw (o:=.ins d.qd dx (putF "prices" (.ref p) (putF "owners" (.ref o) []))))
  nomatch b,d.qf,dxb,fsb,8,b2 b _ nbx hb,W.qf.cl,W.Qq,lbc,8,x,d.qd,dx,8,kad,W.qd.cl,W.Qc,few (NJ (kal (kal (n:=0) (NG _))) (by decide)),?_
  have b3:=b2.trans (kaw (o:=.ins d.qd dx (putF "carriage" (.int cg) (putF "prices" (.ref p) (putF "owners" (.ref o) [])))))
  symm
  exists Y4
  rwa[by decide,fun mk hm=>?_]
  have nmx:mk≠x:=fun e=>by
   rw[e,kad] at hm
   cases hm
  have hm0:H mk=none:=by
   cases e:H mk with
   |none=>rfl
   |some u=>
    obtain⟨u',e'⟩:=kgp (b3 mk u nmx e)
    rw[e'] at hm
    cases hm
  have nom:o≠mk:=fun e=>by
   rw[←e,kak nox,kak nox,kak nop,kak nox,kad] at hm
   cases hm
  have npm:p≠mk:=fun e=>by
   rw[←e,kak npx,kak npx,kad] at hm
   cases hm
  nomatch x,d.qd,dx,8,kam hm _ _ kad,W.qd.cl,W.Qr,few (NJ (kal (kal (kal (n:=0) (NG _)))) (by decide)),?_
  have b4:=(b3.same (kam (o:=.lst []) hm)).trans (kaw (o:=.ins d.qd dx (putF "marked" (.ref mk) (putF "carriage" (.int cg) (putF "prices" (.ref p) (putF "owners" (.ref o) []))))))
  have Di:Ds H x o p mk:=⟨ho,hp0,hm0,nox,npx,nmx,nop,nom,npm⟩
  have Z0:S3 H x d.qd dx (putF "marked" (.ref mk) (putF "carriage" (.int cg) (putF "prices" (.ref p) (putF "owners" (.ref o) [])))) o p mk [] [] [] (upd (upd (upd (upd (upd (upd (upd H o (.lst [])) x (.ins d.qd dx (putF "owners" (.ref o) []))) p (.lst [])) x (.ins d.qd dx (putF "prices" (.ref p) (putF "owners" (.ref o) []))))
    x (.ins d.qd dx (putF "carriage" (.int cg) (putF "prices" (.ref p) (putF "owners" (.ref o) []))))) mk (.lst [])) x (.ins d.qd dx (putF "marked" (.ref mk) (putF "carriage" (.int cg) (putF "prices" (.ref p) (putF "owners" (.ref o) [])))))):=by
   symm
   exists Y6
   rwa[b4,kad,?_,?_,?_]
   ·rw[kak nox,kak nom,kak nox,kak nox,kak nop,kak nox,kad]
   ·rw[kak npx,kak npm,kak npx,kak npx,kad]
   ·rw[kak nmx,kad]
  have l1:(putF "marked" (.ref mk) (putF "carriage" (.int cg) (putF "prices" (.ref p) (putF "owners" (.ref o) [])))).lookup ("owners" :Str)>>(.ref o):=by
   rw[kac,if_neg (by cutsat),kac,if_neg (by cutsat),kac,if_neg (by cutsat),kac,if_pos rfl]
  have l2:(putF "marked" (.ref mk) (putF "carriage" (.int cg) (putF "prices" (.ref p) (putF "owners" (.ref o) [])))).lookup ("prices" :Str)>>(.ref p):=by
   rw[kac,if_neg (by cutsat),kac,if_neg (by cutsat),kac,if_pos rfl]
  have l3:(putF "marked" (.ref mk) (putF "carriage" (.int cg) (putF "prices" (.ref p) (putF "owners" (.ref o) [])))).lookup ("carriage" :Str)>>(.int cg):=by
   rw[kac,if_neg (by cutsat),kac,if_pos rfl]
  have l4:(putF "marked" (.ref mk) (putF "carriage" (.int cg) (putF "prices" (.ref p) (putF "owners" (.ref o) [])))).lookup ("marked" :Str)>>(.ref mk):=by
   rw[kac,if_pos rfl]
  have l5:(putF "marked" (.ref mk) (putF "carriage" (.int cg) (putF "prices" (.ref p) (putF "owners" (.ref o) [])))).lookup ("whole" :Str)=none:=by
   rw[kac,if_neg (by cutsat),kac,if_neg (by cutsat),kac,if_neg (by cutsat),kac,if_neg (by cutsat)]
   rfl
  have lfs:(putF "marked" (.ref mk) (putF "carriage" (.int cg) (putF "prices" (.ref p) (putF "owners" (.ref o) [])))).length≤10:=NJ (kal (kal (kal (kal (n:=0) (NG _))))) (by decide)
  generalize putF "marked" (.ref mk) (putF "carriage" (.int cg) (putF "prices" (.ref p) (putF "owners" (.ref o) [])))=fs at *
  generalize (upd (upd (upd (upd (upd (upd (upd H o (.lst [])) x (.ins d.qd dx (putF "owners" (.ref o) []))) p (.lst [])) x (.ins d.qd dx (putF "prices" (.ref p) (putF "owners" (.ref o) []))))
    x (.ins d.qd dx (putF "carriage" (.int cg) (putF "prices" (.ref p) (putF "owners" (.ref o) []))))) mk (.lst [])) x (.ins d.qd dx fs))=Hs at *
  symm
  exists Y4
  refine⟨_,rfl,b,d.qf,dxb,fsb,_,rfl,Z0.bt b _ nbx hb,W.qf.cl,W.qz,lbl,l,_,rfl,Z0.bt l _ nlx hl,klu (xs:=ls.map V.ref) (fun i σ H'=>(∃v2 v3 v4:Option V,σ=[some (.ref x),some (.ref b),v2,v3,v4])∧
   S3 H x d.qd dx fs o p mk ((own (rs.take i)).map V.int) ((prs m (rs.take i)).map V.int) (NI i (.bl false)) H') ⟨⟨none,none,none,rfl⟩,Z0⟩ (fun i σ H' _ ⟨_,Z⟩=>Z.bt l _ nlx hl) ?_ ?_⟩
  ·rintro i y t σ H1 hy ⟨⟨v2,v3,v4,rfl⟩,Z⟩ ht
   have hll:=hL.len
   have hil:i<(ls.map V.ref).length:=(NT.mp hy).1
   rw[ND] at hil
   obtain⟨lx,el,rfl⟩:∃lx,ls[i]?>>lx∧y=V.ref lx:=by
    rw[NO] at hy
    cases e:ls[i]? with
    |none=>rw[e] at hy;cases hy
    |some z=>rw[e] at hy;exact⟨z,rfl,(Option.some.inj hy).symm⟩
   obtain⟨r,er⟩:∃r,rs[i]?>>r:=⟨rs[i]'(by lia),by simp[show i<rs.length by lia]⟩
   have hr':r.Ok:=hok r (NM er)
   obtain⟨dxl,fsl,hlx,lk1,lk2,lk3,lk4⟩:=hL.get el er
   have nlxx:lx≠x:=ne_of hlx hx (by
    intro z
    injection z with _ _ z
    rw[z] at lk1
    cases lk1)
   have hmn0:=hr'.mn0
   have hmn1:=hr'.mn1
   have Z1:=Z.same (kam (o:=.tup [.int (i:Nat),V.ref lx]) ht)
   have lo1:((own (rs.take i)).map V.int).length≤720:=by
    rw[ND]
    have:=kj1 (rs.take i) fun r hr=>hok r (Ei hr)
    rw[NS] at this
    lia
   have lp1:((prs m (rs.take i)).map V.int).length≤720:=by
    rw[ND]
    have:=kjT m (rs.take i) fun r hr=>hok r (Ei hr)
    rw[NS] at this
    lia
   symm
   exists Y6
   rwa[t,8,SqT.of kad,6,_,8,9,?_]
   nofun
   exists Y6
   rwa[8,8,b,d.qf,dxb,fsb,8,Z1.bt b _ nbx hb,W.qf.cl,W.Qb,lbm,lx,m,r,6,⟨dxl,fsl,Z1.bt lx _ nlxx hlx,lk1,lk2,lk3,lk4⟩,?_]
   nofun
   exists Y6
   rwa[8,x,d.qd,dx,fs,8,Z1.ob,W.qd.cl,W.qU,l1, .inl ⟨rfl,_,SqL.of Z1.ho⟩,8,(by show 1≤sizeLine;decide),fun t1 ht1=>?_]
   have Z2:=Z1.same (kam (o:=.lst [V.int (i:Nat)]) ht1)
   nofun
   exists Y6
   rwa[8,lx,d.qe,dxl,fsl,8,Z2.bt lx _ nlxx hlx,W.qe.cl,W.qO,lk3,t1,9,kad,by lia,by lia,NR (kas (by simp;lia)),fun t2 ht2=>?_]
   have Z3:=Z2.same (kam (o:=.lst (NI r.mn.toNat [V.int (i:Nat)]).flatten) ht2)
   nofun
   exists Y6
   rwa[o,t2,9,Z3.ho,kad,NR (kas (by rw[rep1,ML];lia)),?_]
   have Z4:=Z3.setO (d:=(own (rs.take i)).map V.int++(NI r.mn.toNat [V.int (i:Nat)]).flatten) Di
   nofun
   exists Y6
   rwa[8,x,d.qd,dx,fs,8,Z4.ob,W.qd.cl,W.qA,l2, .inl ⟨rfl,_,SqL.of Z4.hp⟩,8,(by show 1≤sizeLine;decide),fun t3 ht3=>?_]
   have Z5:=Z4.same (kam (o:=.lst [V.int (prc m r)]) ht3)
   nofun
   exists Y6
   rwa[8,lx,d.qe,dxl,fsl,8,Z5.bt lx _ nlxx hlx,W.qe.cl,W.qO,lk3,t3,9,kad,by lia,by lia,NR (kas (by simp;lia)),fun t4 ht4=>?_]
   have Z6:=Z5.same (kam (o:=.lst (NI r.mn.toNat [V.int (prc m r)]).flatten) ht4)
   nofun
   exists Y6
   rwa[p,t4,9,Z6.hp,kad,NR (kas (by rw[rep1,ML];lia)),?_]
   have Z7:=Z6.setP (d:=(prs m (rs.take i)).map V.int++(NI r.mn.toNat [V.int (prc m r)]).flatten) Di
   nofun
   exists Y6
   rwa[8,x,d.qd,dx,fs,8,Z7.ob,W.qd.cl,W.Qr,l4, .inl ⟨rfl,_,SqL.of Z7.hm⟩,mk,9,Z7.hm,kas (by simp;lia),?_]
   have Z8:=Z7.setM (d:=NI i (V.bl false)++[V.bl false]) Di
   nofun
   exists Y6
   rwa[⟨_,_,_,rfl⟩,?_]
   have e1:(own (rs.take i)).map V.int++(NI r.mn.toNat [V.int (i:Nat)]).flatten=(own (rs.take (i+1))).map V.int:=by
    rw[take_snoc er,kk6,NL,rep1,kjJ,NS,Ee (by lia)]
   have e2:(prs m (rs.take i)).map V.int++(NI r.mn.toNat [V.int (prc m r)]).flatten=(prs m (rs.take (i+1))).map V.int:=by
    rw[take_snoc er,kk2,NL,rep1,kjJ]
   have e3:NI i (V.bl false)++[V.bl false]=NI (i+1) (V.bl false):=by rw[E6]
   rw[←e1,←e2,←e3]
   nofun
   exact Z8
  ·rintro σ H' ⟨⟨v2,v3,v4,rfl⟩,Z⟩
   have hll:=hL.len
   have e:(ls.map V.ref).length=rs.length:=by rw[ND,hll]
   rw[e,Ma] at Z
   nofun
   exact k H' o p mk Z.bt ho hp0 hm0 ⟨dx,fs,Z.ob,l1,l2,l3,l4,l5⟩ Z.ho Z.hp Z.hm ⟨dx,fs,Z.ob,lfs⟩
theorem kdT:kar ["self"] ["self"] (kai kbW):=by ac_rfl
theorem kcA(W:WB K mg d base):FO P w W 1 d.ZG d.ZH ["self"] (kjk d.qd):=by
 exists W.Qt.F,kdT
 ·obtain⟨x,o,p,mk,cg,ns,rfl,⟨dx,fs,hx,l1,l2,l3,l4,l5⟩,hp,k⟩:=h
  rwa[_,kag (kap (pe_op kbu (kao (r:=rSum K) (kbO rfl) (by rfl) W.B.sum b_sum (kaa (kah (K:=K) (pv 0) rfl) kae)) (kah (K:=K) (pv 0) rfl))),?_]
  rwa[8,x,d.qd,dx,fs,8,hx,W.qd.cl,W.qA,l2,p,ns,6,SqL.of hp,8,x,d.qd,dx,fs,8,hx,W.qd.cl,W.Qc,l3,9,k]
inductive klO(K:NF)(CM:Addr)(vs:List V)(H:Hp)(Q:VK)(E_:XK):Prop
 |ct(mA a:Addr)(M:Mks)(ps:List (Option Nat))(kn:Nat)(mk:Bool)(_:vs=[.ref mA, .ref a, .int kn, .bl mk])(_:MksIs CM H mA M)(_:SqL K H a (ps.map pV))(_:Good ps)(_:kn<ps.length)(_:Q (.bl (kHit ps M.kind kn&&(!M.lone|| !mk))) H):klO K CM vs H Q E_
theorem kmp:kar ["marks","parents","kind","marked"] ["marks","parents","kind","marked"] (kai kjH):=by ac_rfl
theorem kmD(W:WB K mg d base):FO P w W 2 d.Ya d.Yb ["marks","parents","kind","marked"] (klO K d.qi):=by
 exists W.Vm.F,kmp
 ·obtain⟨mA,a,M,ps,kn,mk,rfl,⟨dx,fs,hm,l1,l2,l3,l4,l5,l6⟩,hS,hg,hk,k⟩:=h
  exists US,kk9,W
  refine⟨_,kab (kcL (ps_if (PW.pt (kbn (ka0 (kah (K:=K) (pv 0) rfl)) (kba (ka0 (pv 3))))) (kag (kap pe_bl)) (kav)))
   (kag (kap (pe_or (kbY keb (kah (K:=K) (pv 0) rfl) kbf (kau _)) (kik (pcl US hr W.Vk (kaa (pv 1) (kaa (pv 2) (kaa (kah (K:=K) (pv 0) rfl) kae)))))))),?_⟩
  rwa[fun σ' H'=>σ'=[some (.ref mA),some (.ref a),some (.int kn),some (.bl mk)]∧H'=H∧(!M.lone|| !mk)=true,⟨_,rfl,mA,d.qi,dx,fs,_,rfl,hm,W.qi.cl,W.Xn,l6,M.lone,rfl,?_⟩,?_]
  ·cases e:M.lone with
   |false=>exact iteF (iteF ⟨rfl,rfl,rfl⟩)
   | true=>
    refine iteT ⟨_,rfl,mk,rfl,?_⟩
    cases mk with
    |false=>exact iteF ⟨rfl,rfl,rfl⟩
    |true=>
     refine iteT ?_
     rw[e,show(kHit ps M.kind kn&&(!true|| !true))=false by simp] at k
     exact k
  ·rintro σ' H' ⟨rfl,rfl,hh⟩
   rw[hh,Bool.and_true] at k
   cases ek:M.kind with
   |none=>
    rw[ek] at l1 k
    rwa[8,mA,d.qi,dx,fs,8,hm,W.qi.cl,W.QL,l1,6,8,?_]
    show if decide (V.non=V.non)=true then _ else _
    rw[show decide (V.non=V.non)=true by simp]
    exact iteT k
   |some kk=>
    rw[ek] at l1 k
    rwa[8,mA,d.qi,dx,fs,8,hm,W.qi.cl,W.QL,l1,6,8,?_]
    show if decide (V.int (kk:Nat)=V.non)=true then _ else _
    rw[show decide (V.int (kk:Nat)=V.non)=false by simp]
    exact iteF ⟨_,rfl,_,rfl,_,rfl,mA,d.qi,dx,fs,_,rfl,hm,W.qi.cl,W.QL,l1,a,ps,kn,kk,rfl,hS,hg,hk,k⟩
theorem V7:kar ["voucher","parents","basket","standing","fitting"] ["voucher","parents","basket","standing"] (kai keQ):=by ac_rfl
theorem kip(W:WB K mg d base):FO P w W 3 d.X8 d.X9 ["voucher","parents","basket","standing"] (kjB K d):=by
 exists W.Xf.F,V7
 ·obtain⟨v,a,b,x,Vc,ps,B,S,rfl,hV,hA,hB,hS,wf,vo,k⟩:=h
  obtain⟨mA,dxv,fsv,hv,lvm,_,hM,hh,htb⟩:=id hV
  obtain⟨l,ls,⟨dxb,fsb,hb,lb1,lb2,lb3⟩,hl,hL⟩:=id hB
  obtain⟨o,p,mk,⟨dxs,fss,hx,l1,l2,l3,l4,l5⟩,ho,hp,hmk⟩:=id hS
  exists UT,kmD,W
  refine⟨_,kab (psl (i:=4) V7.nd (kbq (N:=["line","marked","voucher","parents"]) (CompScope.of (N:=["line","marked","voucher","parents"]) (cap:=[none,none,some 0,some 1]) (kai keQ).names ["voucher","parents","basket","standing","fitting"] rfl rfl (by cutsat)) rfl (keU rfl W.B.zip (kaa (kah (K:=K) (pv 2) rfl) (kaa (kah (K:=K) (pv 3) rfl) kae))) (fun _ _ _ _=>kbJ (K:=K) (n:=2) rfl (kaD (pgn (i:=0) (show(["line","marked","voucher","parents"]:List Str).Nodup by cutsat)) (kaD (pgn (i:=1) (show(["line","marked","voucher","parents"]:List Str).Nodup by cutsat)) kbI))) (fun _ _ _ _=>(pcl UT hr W.Vm (kaa (kah (K:=K) (pv 2) rfl) (kaa (pv 3) (kaa (kah (K:=K) (pv 0) rfl) (kaa (pv 1) kae))))))))
   (kag (kap (kga (N:=["piece","owner","fitting"]) (CompScope.of (N:=["piece","owner","fitting"]) (cap:=[none,none,some 4]) (kai keQ).names ["voucher","parents","basket","standing","fitting"] rfl rfl (by cutsat)) rfl (kjX rfl W.B.enum (kaa (kah (K:=K) (pv 3) rfl) kae)) (fun _ _ _ _=>kbJ (K:=K) (n:=2) rfl (kaD (pgn (i:=0) (show(["piece","owner","fitting"]:List Str).Nodup by cutsat)) (kaD (pgn (i:=1) (show(["piece","owner","fitting"]:List Str).Nodup by cutsat)) kbI))) (fun _ _ _ _=>kf9 (ka0 (pe_ix (r:=rIxL K) kaG (pv 2) (pv 1) (fun _ _=>rfl)))) (fun _ _ _ _=>(pv 0))))),?_⟩
  have np:=wf.np
  have nl:=wf.nl
  have lenL:=hL.len
  have lenM:=wf.lm
  have emin:min (ls.map V.ref).length (S.mkd.map V.bl).length=B.rs.length:=by rw[ND,ND,lenL,lenM,MX]
  refine⟨_,rfl,b,d.qf,dxb,fsb,_,rfl,hb,W.qf.cl,W.qz,lb1,_,rfl,x,d.qd,dxs,fss,_,rfl,hx,W.qd.cl,W.Qr,l4,l,mk,_,_,rfl,hl,hmk,
   kgs (xs:=ls.map V.ref) (ys:=S.mkd.map V.bl) (fun i σ zs H'=>Same H H'∧zs=((NK i).map fun l=>hits ps (kds B) Vc.ms.kind Vc.ms.lone S.mkd l).map V.bl∧∃v0 v1:Option V,σ=[v0,v1,some (.ref v),some (.ref a)])
    ⟨Same.refl _,rfl,none,none,rfl⟩ (by rw[emin];exact NR (kas (by lia))) (fun i σ zs H' _ h=>⟨h.1 _ _ hl,h.1 _ _ hmk,by rw[h.2.1];simp⟩) ?_ ?_⟩
  ·rintro i y m t σ zs H1 hy hm ⟨s1,rfl,v0,v1,rfl⟩ ht
   obtain⟨lx,elx,rfl⟩:=kbZ hy
   obtain⟨mv,emv,rfl⟩:=kbj hm
   obtain⟨r,er,hr⟩:=hL.at elx
   have s2:=s1.trans (kam (o:=.tup [V.ref lx,V.bl mv]) ht)
   obtain⟨dxl,fsl,hlx,lk1,_⟩:=hr.same s2
   have hkd:=wf.kd r (NM er)
   obtain⟨kn,ekn⟩:=Int.eq_ofNat_of_zero_le hkd.1
   have hkn:kn<ps.length:=by lia
   rwa[t,8,SqT.of kad,6,_,8,9,?_]
   rwa[8,v,clsOf d Vc.so,dxv,fsv,8,s2 _ _ hv,cl_of W hh,na_of W hh,lvm,8,8,lx,d.qe,dxl,fsl,8,hlx,W.qe.cl,W.QN,lk1,8,mA,a,Vc.ms,ps,kn,mv,by rw[ekn];rfl,hM.same s2,s2.seq hA,wf.good,hkn,s2,?_,_,8]
   have e1:hits ps (kds B) Vc.ms.kind Vc.ms.lone S.mkd i=(kHit ps Vc.ms.kind kn&&(!Vc.ms.lone|| !mv)):=by
    unfold hits
    have e2:S.mkd.getD i false=mv:=by rw[N1,emv];rfl
    rw[e2,knj er,ekn,Int.toNat_natCast]
   rw[Mx,NL,NL,←e1]
   rfl
  rintro σ zs H1 ⟨s1,rfl,v0,v1,rfl⟩ D hD
  rw[emin]
  have s2:=s1.trans (kam (o:=.lst (((NK B.rs.length).map fun l=>hits ps (kds B) Vc.ms.kind Vc.ms.lone S.mkd l).map V.bl)) hD)
  have eD:(upd H1 D (.lst (((NK B.rs.length).map fun l=>hits ps (kds B) Vc.ms.kind Vc.ms.lone S.mkd l).map V.bl))) D>>(.lst (((NK B.rs.length).map fun l=>hits ps (kds B) Vc.ms.kind Vc.ms.lone S.mkd l).map V.bl)):=kad
  generalize upd H1 D (.lst (((NK B.rs.length).map fun l=>hits ps (kds B) Vc.ms.kind Vc.ms.lone S.mkd l).map V.bl))=H2 at *
  refine⟨_,rfl,x,d.qd,dxs,fss,_,rfl,s2 _ _ hx,W.qd.cl,W.qU,l1,o,_,rfl,s2 _ _ ho,
   ki1 (xs:=S.ow.map iV) (fun i σ ys H'=>Same H2 H'∧ys=((NK i).filter fun i=>hits ps (kds B) Vc.ms.kind Vc.ms.lone S.mkd (S.ow.getD i 0)).map iV∧∃v0 v1:Option V,σ=[v0,v1,some (.ref D)])
    ⟨Same.refl _,rfl,none,none,rfl⟩ (by rw[ND];exact NR (kas (by lia))) (fun i σ zs H' _ h=>⟨h.1 _ _ (s2 _ _ ho),by rw[h.2.1,ND];have:=Eg (fun i=>hits ps (kds B) Vc.ms.kind Vc.ms.lone S.mkd (S.ow.getD i 0)) (NK i);simpa using this⟩) ?_ ?_⟩
  ·rintro i y t σ zs H3 hy ⟨s3,rfl,v0,v1,rfl⟩ ht
   obtain⟨ln,eln,rfl⟩:=kbj hy
   have hln:=wf.line eln
   have s4:=s3.trans (kam (o:=.tup [V.int (i:Nat),iV ln]) ht)
   rwa[t,8,SqT.of kad,6,_,8,9,?_]
   rwa[8,8,D,_,9,SqL.of (s4 _ _ eD),kaL (v:=.bl (hits ps (kds B) Vc.ms.kind Vc.ms.lone S.mkd ln)) (by rw[NO,NO,EI hln];rfl),8,?_]
   have e1:S.ow.getD i 0=ln:=by rw[N1,eln];rfl
   have st:=klH (ps:=ps) (kk:=kds B) (kind:=Vc.ms.kind) (lone:=Vc.ms.lone) (S:=S) (i:=i)
   rw[e1] at st
   cases hh2:hits ps (kds B) Vc.ms.kind Vc.ms.lone S.mkd ln with
   |false=>exact iteF ⟨s4,by rw[st,hh2];simp,_,_,rfl⟩
   |true=>exact iteT ⟨_,rfl,s4,by rw[st,hh2,if_pos rfl,NL];rfl,_,_,rfl⟩
  ·rintro σ zs H3 ⟨s3,rfl,v0,v1,rfl⟩ D2 hD2
   rw[ND]
   have s4:=(s2.trans s3).trans (kam (o:=.lst ((abt ps (kds B) Vc.ms.kind Vc.ms.lone S).map iV)) hD2)
   exact k _ D2 s4 (none_of (s2.trans s3) hD2) kad
inductive kfz(CS:Addr)(vs:List V)(H:Hp)(Q:VK)(E_:XK):Prop
 |ct(x g:Addr)(S:Stnd)(is:List Nat)(_:vs=[.ref x, .ref g])(_:StndIs CS H x S)(_:H g>>(.lst (is.map iV)))(_:(∀i∈is,i<S.pr.length))(_:is.length≤720)(_:∀p,H p=none→Q (.ref p) (upd H p (.lst ((qs S.pr is).map V.int)))):kfz CS vs H Q E_
theorem kgR:kar ["standing","pieces"] ["standing","pieces"] (kai kcE):=by ac_rfl
theorem kec(W:WB K mg d base):FO P w W 1 d.Yt d.Yu ["standing","pieces"] (kfz d.qd):=by
 exists W.Xj.F,kgR
 ·obtain⟨x,g,S,is,rfl,⟨o,p,mk,⟨dxs,fss,hx,l1,l2,l3,l4,l5⟩,ho,hp,hmk⟩,hg,hi,hl,k⟩:=h
  rwa[_,kag (kap (kbq (N:=["piece","standing"]) (CompScope.of (N:=["piece","standing"]) (cap:=[none,some 0]) (kai kcE).names ["standing","pieces"] rfl rfl (by cutsat)) rfl (kaC (K:=K) (pv 1)) (fun _ _ _ _=>pgn (i:=0) (show(["piece","standing"]:List Str).Nodup by cutsat)) (fun _ _ _ _=>(pe_ix (r:=rIxL K) kaG (kah (K:=K) (pv 1) rfl) (pv 0) (fun _ _=>rfl))))),?_]
  rwa[8,g,6,⟨_,SqL.of hg⟩,kaW (xs:=is.map iV) (fun j σ ys H'=>H'=H∧ys=(qs S.pr (is.take j)).map V.int∧∃v,σ=[v,some (.ref x)]) ⟨rfl,rfl,none,rfl⟩ ?_ ?_ ?_ ?_]
  ·rw[ND]
   exact NR (kas (by lia))
  ·rintro j σ ys H' hj ⟨rfl,rfl,_⟩
   rwa[SqL.of hg,by rw[ND,kck,NS];rw[ND] at hj;lia]
  ·rintro j y σ ys H' hy ⟨rfl,rfl,v,rfl⟩
   obtain⟨n,en,rfl⟩:∃n,is[j]?>>n∧y=iV n:=kbj hy
   obtain⟨z,ez⟩:=at_of (hi n (NM en))
   rwa[8,x,d.qd,dxs,fss,8,hx,W.qd.cl,W.qA,l2,8,p,_,9,SqL.of hp,kaL (by rw[NO,ez];rfl),6,?_,8]
   rw[MT,en]
   simp[qs,ez]
  ·rintro σ ys H' ⟨rfl,rfl,v,rfl⟩ D hD
   rw[ND,Ma]
   exact k D hD
inductive kjq(CS:Addr)(vs:List V)(H:Hp)(Q:VK)(E_:XK):Prop
 |ct(x g:Addr)(S:Stnd)(is:List Nat)(_:vs=[.ref x, .ref g])(_:StndIs CS H x S)(_:H g>>(.lst (is.map iV)))(_:(∀i∈is,i<S.pr.length))(_:is.length≤720)(_:∀H',Same H H'→Q (.int (qs S.pr is).sum) H'):kjq CS vs H Q E_
theorem kej:kar ["standing","pieces"] ["standing","pieces"] (kai kb7):=by ac_rfl
theorem kcM(W:WB K mg d base):FO P w W 2 d.Yv d.Yw ["standing","pieces"] (kjq d.qd):=by
 exists W.Ql.F,kej
 ·obtain⟨x,g,S,is,rfl,hS,hg,hi,hl,k⟩:=h
  exists XF,kec,W
  rwa[_,kag (kap (kao (r:=rSum K) (kbO rfl) (by rfl) W.B.sum b_sum (kaa (pcl XF hr W.Xj (kaa (pv 0) (kaa (pv 1) kae))) kae))),?_]
  rwa[8,8,x,g,S,is,6,hS,hg,hi,hl,fun p hp=>⟨p,_,rfl,SqL.of kad,k _ (kam hp)⟩]
theorem XG:kar ["voucher","parents","basket","standing","marks","pieces"] ["voucher","parents","basket","standing"] (kai kdq):=by ac_rfl
theorem kgY(W:WB K mg d base):FO P w W 4 d.Yc d.Yd ["voucher","parents","basket","standing"] (klN K d):=by
 exists W.Vn.F,XG
 ·obtain⟨v,a,b,x,Vc,ps,B,S,rfl,hV,hA,hB,hS,wf,vo,k⟩:=h
  obtain⟨mA,dxv,fsv,hv,lvm,_,hM,hh,htb⟩:=id hV
  obtain⟨dxm,fsm,hm,m1,m2,m3,m4,m5,m6⟩:=id hM
  obtain⟨l,ls,⟨dxb,fsb,hb,lb1,lb2,lb3⟩,hl,hL⟩:=id hB
  exists XH,kip,W
  exists QD,kcM,W
  have hr2:Room 2 _:=hr.mono (by decide)
  refine⟨_,kab (psl (i:=4) XG.nd (kah (K:=K) (pv 0) rfl))
   (kab (kcL (ps_if (PW.pt (kbn (ka0 (kah (K:=K) (pv 4) rfl)) (kba (kdB (ka0 (kah (K:=K) (pv 2) rfl)))))) (kag (kap kbD)) (kav)))
   (kab (psl (i:=5) XG.nd (pcl XH hr W.Xf (kaa (pv 0) (kaa (pv 1) (kaa (pv 2) (kaa (pv 3) kae))))))
   (kab (ps_if (kan op_eq (kao (r:=kaJ K) kaq (by rfl) W.B.len b_len (kaa (pv 5) kae)) kaf (kau _)) (kag (kap kbD)) (kav))
   (kab (ps_if (kan op_lt (pcl QD hr2 W.Ql (kaa (pv 3) (kaa (pv 5) kae))) (kah (K:=K) (pv 4) rfl) (kau _)) (kag (kap kbD)) (kav))
   (kag (kap kbf)))))),?_⟩
  have np:=wf.np
  have habl:∀i∈abt ps (kds B) Vc.ms.kind Vc.ms.lone S,i<S.pr.length:=fun i hi=>by rw[wf.lp];exact kiM hi
  have lab:(abt ps (kds B) Vc.ms.kind Vc.ms.lone S).length≤720:=NJ (kfo _ _ _ _ _) np
  rwa[8,v,clsOf d Vc.so,dxv,fsv,8,hv,cl_of W hh,na_of W hh,lvm,?_]
  rwa[fun σ' H'=>σ'=[some (.ref v),some (.ref a),some (.ref b),some (.ref x),some (.ref mA),none]∧H'=H∧(Vc.ms.member&& !B.m)=false,⟨_,rfl,mA,d.qi,dxm,fsm,_,rfl,hm,W.qi.cl,W.VQ,m4,Vc.ms.member,rfl,?_⟩,?_]
  ·cases e:Vc.ms.member with
   |false=>exact iteF (iteF ⟨rfl,rfl,rfl⟩)
   | true=>
    refine iteT ⟨_,rfl,b,d.qf,dxb,fsb,_,rfl,hb,W.qf.cl,W.Qb,lb3,B.m,rfl,?_⟩
    cases e2:B.m with
    |true=>exact iteF ⟨rfl,rfl,rfl⟩
    |false=>
     refine iteT ?_
     have z:=k H (Same.refl _)
     unfold hindM at z
     rw[e,e2,if_pos (by decide)] at z
     exact z
  ·rintro σ' H' ⟨rfl,rfl,hh2⟩
   rwa[8,8,8,8,v,a,b,x,Vc,ps,B,S,6,hV,hA,hB,hS,wf,vo,fun H1 pa s1 f1 h1=>?_]
   rwa[8,pa,8, .inl (SqL.of h1),6,8,?_]
   have ed:decide (V.int (((abt ps (kds B) Vc.ms.kind Vc.ms.lone S).map iV).length:Nat)=V.int 0)=decide ((abt ps (kds B) Vc.ms.kind Vc.ms.lone S).length=0):=by
    rw[ND]
    by_cases h0:(abt ps (kds B) Vc.ms.kind Vc.ms.lone S).length=0
    ·rw[h0]
     rfl
    ·rw[decide_eq_false h0]
     refine decide_eq_false fun z=>h0 ?_
     injection z with z
     lia
   show if decide (V.int (((abt ps (kds B) Vc.ms.kind Vc.ms.lone S).map iV).length:Nat)=V.int 0)=true then _ else _
   rw[ed]
   by_cases h0:(abt ps (kds B) Vc.ms.kind Vc.ms.lone S).length=0
   ·rw[decide_eq_true h0]
    refine iteT ?_
    have z:=k H1 s1
    unfold hindM at z
    rw[hh2,if_neg (by decide),if_pos h0] at z
    exact z
   ·rw[decide_eq_false h0]
    refine iteF ⟨_,rfl,_,rfl,x,pa,S,_,rfl,hS.same s1,h1,habl,lab,fun H2 s2=>?_⟩
    have z:=k H2 (s1.trans s2)
    unfold hindM at z
    rw[hh2,if_neg (by decide),if_neg h0] at z
    rwa[8,mA,d.qi,dxm,fsm,8,(s1.trans s2) _ _ hm,W.qi.cl,W.VP,m2,9,8,?_]
    by_cases h2:(qs S.pr (abt ps (kds B) Vc.ms.kind Vc.ms.lone S)).sum<Vc.ms.needs
    ·rw[if_pos h2] at z
     rw[decide_eq_true h2]
     exact iteT z
    ·rw[if_neg h2] at z
     rw[decide_eq_false h2]
     exact iteF z
inductive kic(vs:List V)(H:Hp)(Q:VK)(E_:XK):Prop
 |ct(m:Option Int)(n:Int)(_:vs=[oV m, .int n])(_:Q (.int (atM m n)) H):kic vs H Q E_
theorem kiP:kar ["most","number"] ["most","number"] (kai keP):=by ac_rfl
theorem kiV(W:WB K mg d base):FO P w W 1 d.Yx d.Yy ["most","number"] kic:=by
 exists W.Vu.F,kiP
 ·obtain⟨m,n,rfl,k⟩:=h
  refine⟨_,kab (ps_if (kan keb (pv 0) kbf (kau _)) (kag (kap (pv 1))) (kav))
   (kag (kap (kao (kdc rfl) (by rfl) W.B.min b_min (kaa (pv 0) (kaa (pv 1) kae))))),?_⟩
  cases m with
  |none=>
   rwa[8,6,8,?_]
   show if decide (V.non=V.non)=true then _ else _
   rw[show decide (V.non=V.non)=true by simp]
   exact iteT ⟨_,rfl,k⟩
  | some z=>
   rwa[8,6,8,?_]
   show if decide (V.int z=V.non)=true then _ else _
   rw[show decide (V.int z=V.non)=false by simp]
   refine iteF ⟨_,rfl,_,rfl,_,_,rfl,?_⟩
   have e:atM (some z) n=if n<z then n else z:=by
    show min z n=_
    split <;> lia
   rw[e] at k
   exact k
inductive kgN(d:D)(vs:List V)(H:Hp)(Q:VK)(E_:XK):Prop
 |ct(v x:Addr)(V:Vch)(S:Stnd)(_:vs=[.ref v, .ref x])(_:VchIs d H v V)(_:StndIs d.qd H x S)(_:Q (.int (if kbS V.so=true then atM V.ms.most S.cg else 0)) H):kgN d vs H Q E_
theorem kdz:kar ["voucher","standing"] ["voucher","standing"] (kai kbF):=by ac_rfl
theorem kcm(W:WB K mg d base):FO P w W 2 d.Yk d.Yl ["voucher","standing"] (kgN d):=by
 exists W.Xh.F,kdz
 ·obtain⟨v,x,Vc,S,rfl,⟨mA,dxv,fsv,hv,lvm,_,⟨dxm,fsm,hm,m1,m2,m3,m4,m5,m6⟩,hh,htb⟩,⟨o,p,mk,⟨dxs,fss,hx,l1,l2,l3,l4,l5⟩,ho,hp,hmk⟩,k⟩:=h
  exists UU,kiV,W
  refine⟨_,kab (ps_if (ka0 (kao (r:=rIsi K) kbs (by rfl) W.B.isi b_isi (kaa (pv 0) (kaa (kcG (v:=.ref d.qm) (by rfl) W.Uq rfl) kae)))) (kag (kap (pcl UU hr W.Vu (kaa (kah (K:=K) (kah (K:=K) (pv 0) rfl) rfl) (kaa (kah (K:=K) (pv 1) rfl) kae))))) (kav))
   (kag (kap kaf)),?_⟩
  have I:=kl2 W hh
  rwa[8,_,_,_,8, .inr ⟨_,rfl⟩,TyOf.ins hv (cl_of W hh) I.ha I.hn I.ht I.hm,kg6 W hh,8,?_]
  cases e:kbS Vc.so with
  |false=>
   rw[e,if_neg NP] at k
   exact iteF k
  |true=>
   rw[e,if_pos rfl] at k
   exact iteT ⟨_,rfl,v,clsOf d Vc.so,dxv,fsv,_,rfl,hv,cl_of W hh,na_of W hh,lvm,mA,d.qi,dxm,fsm,_,rfl,hm,W.qi.cl,W.Xm,m3,_,rfl,x,d.qd,dxs,fss,_,rfl,hx,W.qd.cl,W.Qc,l3,_,_,rfl,k⟩
noncomputable def kvOf(G:List (Nat×List Nat))(gl:List Addr):List (Key×V):=Mg (fun p r=>(Sum.inl (p.1:Int),V.ref r)) G gl
theorem kiw:∀{G:List (Nat×List Nat)}{gl:List Addr},gl.length=G.length→(kvOf G gl).map Prod.snd=gl.map V.ref
 |[],[],_=>rfl
 |[],r::gl,h=>by cases h
 |p::G,[],h=>by cases h
 |p::G,r::gl,h=>by
  have ih:=kiw (G:=G) (gl:=gl) (by simpa using h)
  show V.ref r::(kvOf G gl).map Prod.snd=V.ref r::gl.map V.ref
  rw[ih]
theorem khM:∀{G:List (Nat×List Nat)}{gl:List Addr}(o a:Nat),gl.length=G.length→
  (atK (kvOf G gl) (Sum.inl (o:Int))=none∧ins G o a=G++[(o,[a])])∨∃(j:Nat)(g:List Nat)(r:Addr),G[j]?>>(o,g)∧gl[j]?>>r∧atK (kvOf G gl) (Sum.inl (o:Int))>>(.ref r)∧ins G o a=G.set j (o,g++[a])
 |[],gl,o,a,h=>.inl ⟨rfl,rfl⟩
 |(l,g)::G,[],o,a,h=>by cases h
 | (l,g)::G,r::gl,o,a,h=>by
  have hl:gl.length=G.length:=by simpa using h
  unfold ins
  by_cases e:l=o
  ·subst e
   exact .inr ⟨0,g,r,rfl,rfl,by simp[kvOf,atK],by rw[if_pos rfl];rfl⟩
  ·rw[if_neg e]
   have e':¬((l:Int)=(o:Int)):=fun z=>e (by lia)
   have ea:atK (kvOf ((l,g)::G) (r::gl)) (Sum.inl (o:Int))=atK (kvOf G gl) (Sum.inl (o:Int)):=by
    simp[kvOf,atK,EF,e']
   rcases khM o a hl with⟨h1,h2⟩|⟨j,g',r',h1,h2,h3,h4⟩
   ·exact .inl ⟨by rw[ea];exact h1,by rw[h2];rfl⟩
   ·exact .inr ⟨j+1,g',r',by simpa using h1,by simpa using h2,by rw[ea];exact h3,by rw[h4];rfl⟩
theorem kll{G:List (Nat×List Nat)}{gl:List Addr}{j o:Nat}{g g':List Nat}(h:G[j]?>>(o,g)):kvOf (G.set j (o,g')) gl=kvOf G gl:=by
 unfold kvOf
 apply List.ext_getElem?
 intro i
 rw[Ey,Ey]
 by_cases e:j=i
 ·subst e
  have hj:=at_lt h
  rw[M3 hj,h]
  cases gl[j]? <;> rfl
 ·rw[Ea e]
theorem kke{G:List (Nat×List Nat)}{gl:List Addr}{o:Nat}{g:List Nat}{e:Addr}(h:gl.length=G.length):kvOf (G++[(o,g)]) (gl++[e])=kvOf G gl++[(Sum.inl (o:Int), .ref e)]:=by
 unfold kvOf
 rw[List.zipWith_append h.symm]
 rfl
structure Ptd(H H':Hp)(dd:Addr)(gl:List Addr)(G:List (Nat×List Nat)):Prop where
 sm:Same H H'
 nd:gl.Nodup
 fg:∀r∈gl,H r=none∧r≠dd
 dk:H' dd>>(.dK (kvOf G gl))
 ls:P2 (fun r p=>H' r>>(.lst (p.2.map iV))) gl G
theorem Ptd.more{H H':Hp}{dd e:Addr}{gl:List Addr}{G:List (Nat×List Nat)}(h:Ptd H H' dd gl G)(fd:H dd=none)(he:H' e=none){o a:Nat}:
  Ptd H (upd (upd (upd H' e (.lst [])) dd (.dK (kvOf G gl++[(Sum.inl (o:Int), .ref e)]))) e (.lst [iV a])) dd (gl++[e]) (G++[(o,[a])]):=by
 have e0:H e=none:=none_of h.sm he
 have ned:e≠dd:=fun z=>by rw[z,h.dk] at he;cases he
 rwa[kat e0 (kat fd (h.sm.trans (kam he)) (kdj (nx h.dk)))  (kdj (nx kad)),?_,fun r hr=>?_,?_,?_]
 ·refine E5.mpr ⟨h.nd,by simp,fun x hx y hy z=>?_⟩
  rw[MO] at hy
  subst hy z
  obtain⟨i,hi⟩:=MZ.mp hx
  obtain⟨p,_,hp⟩:=h.ls.at hi
  rw[hp] at he
  cases he
 ·rcases Mj.mp hr with hr|hr
  ·exact h.fg r hr
  ·rw[MO] at hr
   subst hr
   rwa[e0,ned]
 ·rw[kak ned.symm,kad,kke h.ls.len]
 ·refine P2.snoc (P2.of h.ls.len fun i r p e1 e2=>?_) kad
  have hp:=h.ls.get e1 e2
  rw[kak (kaj hp he),kak (h.fg r (NM e1)).2,kak (kaj hp he)]
  exact hp
theorem Ptd.put{H H':Hp}{dd e r:Addr}{gl:List Addr}{G:List (Nat×List Nat)}(h:Ptd H H' dd gl G)(he:H' e=none){j o a:Nat}{g:List Nat}(h1:G[j]?>>(o,g))(h2:gl[j]?>>r):
  Ptd H (upd (upd H' e (.lst [])) r (.lst (g.map iV++[iV a]))) dd gl (G.set j (o,g++[a])):=by
 have hr:=h.fg r (NM h2)
 have hrv:=h.ls.get h2 h1
 rwa[kat hr.1 (h.sm.trans (kam he)),h.nd,h.fg,?_,P2.of (by rw[MD];exact h.ls.len) fun i r' p e1 e2=>?_]
 ·rw[kak hr.2.symm,kak (kaj h.dk he),h.dk,kll h1]
 ·by_cases eji:j=i
  ·subst eji
   rw[h2] at e1
   cases e1
   rw[M3 (at_lt h1)] at e2
   cases e2
   rw[kad,NL]
   rfl
  ·rw[Ea eji] at e2
   have hp:=h.ls.get e1 e2
   have hne:r'≠r:=fun z=>by
    subst z
    exact eji ((List.getElem?_inj (at_lt h2) h.nd).mp (h2.trans e1.symm))
   rw[kak hne,kak (kaj hp he)]
   exact hp
inductive kh4(CS:Addr)(vs:List V)(H:Hp)(Q:VK)(E_:XK):Prop
 |ct(x pa:Addr)(S:Stnd)(is:List Nat)(_:vs=[.ref x, .ref pa])(_:StndIs CS H x S)(_:H pa>>(.lst (is.map iV)))(_:(∀i∈is,i<S.ow.length))(_:is.length≤720)(_:∀(H':Hp)(p:Addr)(gl:List Addr),Same H H'→H p=none→H' p>>(.lst (gl.map V.ref))→P2 (fun r g=>H' r>>(.lst (g.map iV))) gl ((parted (fun i=>S.ow.getD i 0) is).map Prod.snd)→(∀r∈gl,H r=none)→Q (.ref p) H'):kh4 CS vs H Q E_
theorem P2.mapR{α β γ:Type}{R: α→γ→Prop}{f: β→γ}{as:List α}{bs:List β}(h:P2 (fun a b=>R a (f b)) as bs):P2 R as (bs.map f):=by
 induction h with
 |nil=>exact .nil
 |cons r t ih=>exact .cons r ih
theorem XI:kar ["standing","pieces","by_line","piece"] ["standing","pieces"] (kai kbU):=by ac_rfl
theorem kd1(W:WB K mg d base):FO P w W 1 d.Yo d.Yp ["standing","pieces"] (kh4 d.qd):=by
 exists W.Vr.F,XI
 ·obtain⟨x,pa,S,is,rfl,⟨o,p,mk,⟨dxs,fss,hx,l1,l2,l3,l4,l5⟩,ho,hp,hmk⟩,hpa,hi,hl,k⟩:=h
  refine⟨_,kab (psl (i:=2) XI.nd kk5)
   (kab (kbo PassesOwn.never rfl (kaC (K:=K) (pv 1)) (pgn (i:=3) XI.nd)
   (kag (ka1 (pe_bm Mt MH MI ka8 (pe_bm DS DR PySem.F.type_dict_setdefault kgj (pv 2) (kaa (pe_ix (r:=rIxL K) kaG (kah (K:=K) (pv 0) rfl) (pv 3) (fun _ _=>rfl)) (kaa (kaM kae) kae))) (kaa (pv 3) kae)))))
   (kag (kap (khC rfl (by rfl) W.B.list (pv 2))))),?_⟩
  refine fun dd hd=>?_
  have s1:=kam (o:=.dK []) hd
  refine⟨_,rfl,pa,rfl,⟨_,SqL.of (s1 _ _ hpa)⟩,ka7 (K:=K) (a:=pa) (xs:=is.map iV) (fun i σ H'=>(∃v3:Option V,σ=[some (.ref x),some (.ref pa),some (.ref dd),v3])∧∃gl,Ptd H H' dd gl (parted (fun i=>S.ow.getD i 0) (is.take i)))
   ⟨⟨none,rfl⟩,[],s1,by simp,fun r hr=>by simp at hr,kad, .nil⟩ (fun i σ H' _ h=>SqL.of (h.2.choose_spec.sm _ _ hpa)) ?_ ?_⟩
  ·rintro i y σ H1 hy ⟨⟨v3,rfl⟩,gl,Z⟩
   obtain⟨a,ea,rfl⟩:=kbj hy
   have hil:=at_lt ea
   obtain⟨ln,eln⟩:=at_of (hi a (NM ea))
   have eg:S.ow.getD a 0=ln:=by rw[N1,eln];rfl
   have enext:parted (fun i=>S.ow.getD i 0) (is.take (i+1))=ins (parted (fun i=>S.ow.getD i 0) (is.take i)) ln a:=by
    rw[kb5 ea,keY,eg]
   have lenG:=kfF (fun i=>S.ow.getD i 0) (is.take i)
   rw[NS] at lenG
   have lenK:(kvOf (parted (fun i=>S.ow.getD i 0) (is.take i)) gl).length<sizeLine:=by
    refine kas ?_
    unfold kvOf
    rw[Eh]
    lia
   rwa[8, .inr (.inr (.inl ⟨rfl, .inl ⟨_,Z.dk⟩⟩)),8,x,d.qd,dxs,fss,8,Z.sm _ _ hx,W.qd.cl,W.qU,l1,8,o,_,9,SqL.of (Z.sm _ _ ho),kaL (v:=.int (ln:Nat)) (by rw[NO,eln];rfl),by decide,fun e he=>?_]
   have ned:dd≠e:=kaj Z.dk he
   rwa[dd,kvOf (parted (fun i=>S.ow.getD i 0) (is.take i)) gl,(ln:Nat), .ref e,6,6,by rw[kak ned];exact Z.dk,lenK,fun v hv=>?_,fun hn=>?_]
   ·rcases khM (G:=parted (fun i=>S.ow.getD i 0) (is.take i)) ln a Z.ls.len with⟨h1,_⟩|⟨j,g,r,h1,h2,h3,h4⟩
    ·rw[h1] at hv
     cases hv
    ·rw[h3] at hv
     cases hv
     have hrv:=Z.ls.get h2 h1
     have gl20:g.length≤720:=by
      have eg':=(kc0 (fun i=>S.ow.getD i 0) (is.take i)).gs ln g (NM h1)
      rw[eg']
      refine NJ (Eg _ _) ?_
      rw[NS]
      lia
     have hr2:(upd H1 e (.lst [])) r>>(.lst (g.map iV)):=by rw[kak (kaj hrv he)];exact hrv
     rwa[.inl ⟨rfl,_,SqL.of hr2⟩,8,r,9,hr2,kas (by rw[ND];lia),⟨_,rfl⟩,gl,?_]
     rw[enext,h4]
     exact Z.put he h1 h2
   ·rcases khM (G:=parted (fun i=>S.ow.getD i 0) (is.take i)) ln a Z.ls.len with⟨_,h4⟩|⟨j,g,r,h1,h2,h3,h4⟩
    ·have he2:(upd (upd H1 e (.lst [])) dd (.dK (kvOf (parted (fun i=>S.ow.getD i 0) (is.take i)) gl++[(Sum.inl ((ln:Nat):Int), .ref e)]))) e>>(.lst []):=by rw[kak ned.symm,kad]
     rwa[.inl ⟨rfl,_,SqL.of he2⟩,8,e,[],8,6,he2,by decide,⟨_,rfl⟩,gl++[e],?_]
     rw[enext,h4]
     exact Z.more hd he
    ·rw[h3] at hn
     cases hn
  ·rintro σ H1 ⟨⟨v3,rfl⟩,gl,Z⟩
   rw[ND,Ma] at Z
   rwa[8,dd,8,Z.dk,fun l hl2=>?_]
   rw[kiw Z.ls.len]
   refine k _ l gl (Z.sm.trans (kam hl2)) (none_of Z.sm hl2) kad (P2.mapR (f:=Prod.snd) (R:=fun r g=>(upd H1 l (.lst (gl.map V.ref))) r>>(.lst (g.map iV))) (Z.ls.mono fun r p h=>kam hl2 _ _ h)) fun r hr=>(Z.fg r hr).1
inductive kgM(d:D)(vs:List V)(H:Hp)(Q:VK)(E_:XK):Prop
 |ct(x pa:Addr)(S:Stnd)(is:List Nat)(m:Nat)(_:vs=[.ref x, .ref pa, .int m])(_:StndIs d.qd H x S)(_:H pa>>(.lst (is.map iV)))(_:is.Pairwise (· < ·))(_:(∀i∈is,i<S.pr.length))(_:is.length<64)(_:2≤m)(_:m≤20)(_:Tbs d H)(_:∀(H':Hp)(p:Addr)(gl:List Addr),Same H H'→H p=none→H' p>>(.lst (gl.map V.ref))→P2 (fun r g=>H' r>>(.lst (g.map iV))) gl (grp m (fallP S.pr is))→(∀r∈gl,H r=none)→Q (.ref p) H'):kgM d vs H Q E_
theorem kmL{pr:List Int}{is:List Nat}{ms:List Int}(hs:is.Pairwise (· < ·))(hp:ms.Perm (is.map fun(i:Nat)=>(i:Int)))(hk:ms.Pairwise fun a b=> -(pr.getD a.toNat 0)< -(pr.getD b.toNat 0)∨(-(pr.getD a.toNat 0)= -(pr.getD b.toNat 0)∧a<b)):ms.map V.int=(fallP pr is).map iV:=by
 have e:ms=(ms.map Int.toNat).map fun(i:Nat)=>(i:Int):=by
  rw[N7]
  conv=>lhs;rw[←List.map_id ms]
  refine My fun z hz=>?_
  obtain⟨i,_,rfl⟩:=N3.mp (hp.mem_iff.mp hz)
  simp
 have hp2:(ms.map Int.toNat).Perm is:=by
  have:=hp.map Int.toNat
  rw[N7] at this
  have e2:is.map (Int.toNat∘fun(i:Nat)=>(i:Int))=is:=by
   conv=>rhs;rw[←List.map_id is]
   exact My fun i _=>rfl
  rwa [e2] at this
 have hk2:(ms.map Int.toNat).Pairwise (befP pr):=by
  rw[DA]
  refine hk.imp_of_mem fun {a b} ha hb h=>?_
  obtain⟨i,_,rfl⟩:=N3.mp (hp.mem_iff.mp ha)
  obtain⟨j,_,rfl⟩:=N3.mp (hp.mem_iff.mp hb)
  unfold befP
  simp only[Int.toNat_natCast] at h⊢
  lia
 rw[e,ki0 hs hp2 hk2,N7]
 rfl
theorem V8:kar ["standing","pieces","many","falling"] ["standing","pieces","many"] (kai kaI):=by ac_rfl
theorem kd2(W:WB K mg d base):FO P w W 1 d.Yq d.Q3 ["standing","pieces","many"] (kgM d):=by
 refine FunD.okC W.Xi.F V8 (fun vs H Q E h=>?_) (fun A outer s H vs Q E hr h=>?_)
 ·obtain⟨x,pa,S,is,m,rfl,_⟩:=h
  rfl
 ·obtain⟨x,pa,S,is,m,rfl,hS,hpa,hs,hi,h64,hm2,hm20,htb,k⟩:=h
  obtain⟨o,p,mk,⟨dxs,fss,hx,l1,l2,l3,l4,l5⟩,ho,hp,hmk⟩:=id hS
  refine⟨_,kab (psl (i:=3) V8.nd (kiS (N:=["piece","standing"]) (cap:=[some 0]) (pv 1) ⟨CompScope.of (N:=["piece","standing"]) (cap:=[none,some 0]) (kai kaI).names ["standing","pieces","many","falling"] rfl rfl (by cutsat),rfl,rfl,rfl,rfl,by cutsat⟩ rfl hr.depth W.code_falling_groups W.ck_falling_groups W.blt (by rfl) W.B.sorted (fun _ _ _ _ _=>rfl) (fun _ _ _ _ _=>(pe_un ki7 (pe_ix (r:=rIxL K) kaG (kah (K:=K) (pv 1) rfl) (pv 0) (fun _ _=>rfl)))) (by rfl)))
   (kag (kap (kbq (N:=["start","falling","many"]) (CompScope.of (N:=["start","falling","many"]) (cap:=[none,some 3,some 2]) (kai kaI).names ["standing","pieces","many","falling"] rfl rfl (by cutsat)) rfl (kiR rfl W.B.range (kaa kaf (kaa (pe_op kbu (pe_op kcy (kao (r:=kaJ K) kaq (by rfl) W.B.len b_len (kaa (pv 3) kae)) (pv 2)) kaf) (kaa (pv 2) kae)))) (fun _ _ _ _=>pgn (i:=0) (show(["start","falling","many"]:List Str).Nodup by cutsat)) (fun _ _ _ _=>(kb3 (r:=rSlL K) kcD (pv 1) (kbX (pv 0)) (kbX (pe_op kbu (pv 0) (pv 2)))))))),?_⟩
  have htb':TbAt d.tP_falling_groups H:=htb
  obtain⟨qs0,eT,_⟩:=id htb'
  have npT:∀{b:Addr}{u:HO},H b>>u→(∀ps,u≠.tbl ps)→b≠d.tP_falling_groups:=fun {b u} e hn z=>by
   rw[z,eT] at e
   cases e
   exact hn _ rfl
  have ei:is.map iV=(is.map fun(i:Nat)=>(i:Int)).map V.int:=by rw[N7];rfl
  rwa[8,pa,is.map fun(i:Nat)=>(i:Int),fun a=> -(S.pr.getD a.toNat 0),6,SqL.of (by rw[←ei];exact hpa),by rw[ND];exact h64,?_,htb',npT hpa (fun ps z=>by cases z),fun H2 G n hn=>?_,fun H2 l ms G f1 f2 hpm hpw=>?_]
  ·rw[DA]
   exact hs.imp fun {a b} h=>by lia
  ·obtain⟨i,hin,rfl⟩:=N3.mp hn
   obtain⟨z,ez⟩:=at_of (hi i hin)
   have hx2:=G.kp _ _ (npT hx (fun ps z=>by cases z)) hx
   have hp2:=G.kp _ _ (npT hp (fun ps z=>by cases z)) hp
   rwa[8,x,d.qd,dxs,fss,8,hx2,W.qd.cl,W.qA,l2,8,p,_,9,SqL.of hp2,kaL (v:=.int z) (by rw[NO,ez];rfl),8,?_,6]
   show V.int (-z)=V.int (-(S.pr.getD ((i:Int)).toNat 0))
   rw[Int.toNat_natCast,N1,ez]
   rfl
  have s2:=G.same htb'
  rw[kmL hs hpm hpw]
  have lf:(fallP S.pr is).length=is.length:=(kbL S.pr is).length_eq
  have s3:=s2.trans (kam (o:=.lst ((fallP S.pr is).map iV)) f2)
  have el:(upd H2 l (.lst ((fallP S.pr is).map iV))) l>>(.lst ((fallP S.pr is).map iV)):=kad
  generalize upd H2 l (.lst ((fallP S.pr is).map iV))=H3 at *
  have ecnt:(Builtin.Range.rangeSize 0 ((((fallP S.pr is).map iV).length:Int)-(m:Int)+1) (m:Int)).toNat=(fallP S.pr is).length/m:=by
   rw[ND]
   exact khu (by lia)
  have lg:=khN m (fallP S.pr is)
  rwa[8,l,8, .inl (SqL.of el),8,9,9,8,0,_,8,by lia,?_,by lia,by lia,?_]
  ·rw[ND]
   lia
  rw[ecnt]
  refine kkI (n:=(fallP S.pr is).length/m) (fun i σ ys H'=>Same H3 H'∧(∃v0:Option V,σ=[v0,some (.ref l),some (.int m)])∧∃gl,ys=gl.map V.ref∧P2 (fun r g=>H' r>>(.lst (g.map iV))) gl ((grp m (fallP S.pr is)).take i)∧∀r∈gl,H r=none)
   ⟨Same.refl _,⟨none,rfl⟩,[],rfl, .nil,fun r hr=>by simp at hr⟩ ?_ ?_ ?_ ?_
  ·have:(grp m (fallP S.pr is)).length=(fallP S.pr is).length/m:=by simp[grp]
   exact NR (kas (by lia))
  ·rintro i σ ys H' hi' ⟨_,_,gl,rfl,hP,_⟩
   rw[ND,hP.len,NS]
   have:(grp m (fallP S.pr is)).length=(fallP S.pr is).length/m:=by simp[grp]
   lia
  ·rintro i σ ys H' hi' ⟨s4,⟨v0,rfl⟩,gl,rfl,hP,hfr⟩
   have eg:(grp m (fallP S.pr is))[i]?>>(((fallP S.pr is).drop (i*m)).take m):=by
    unfold grp
    rw[NO,EI hi']
    rfl
   have ecut:cutV ((fallP S.pr is).map iV) (some (0+(i:Int)*(m:Int))) (some (0+(i:Int)*(m:Int)+(m:Int)))=(((fallP S.pr is).drop (i*m)).take m).map iV:=by
    have:=kmT ((fallP S.pr is).map iV) (i*m) m
    rw[show(0:Int)+(i:Int)*(m:Int)=((i*m:Nat):Int) by rw[Int.zero_add,Int.natCast_mul],show((i*m:Nat):Int)+(m:Int)=((i*m+m:Nat):Int) by rw[Int.natCast_add],this,MS,Et]
   rwa[8,8,8,8,8,9,8,l,8,SqL.of (s4 _ _ el),fun r hr=>?_]
   rwa[s4.trans (kam hr),⟨_,rfl⟩,gl++[r],by rw[NL];rfl,?_,fun r' hr'=>?_]
   ·rw[kb5 eg,ecut]
    exact P2.snoc (hP.mono fun r' g e=>kam hr _ _ e) kad
   ·rcases Mj.mp hr' with h|h
    ·exact hfr r' h
    ·rw[MO] at h
     rw[h]
     exact(s3.trans s4).free hr
  ·rintro σ ys H' ⟨s4,⟨v0,rfl⟩,gl,rfl,hP,hfr⟩ D hD
   have el2:(grp m (fallP S.pr is)).length=(fallP S.pr is).length/m:=by simp[grp]
   rw[MN (by lia)] at hP
   exact k _ D gl ((s3.trans s4).trans (kam hD)) ((s3.trans s4).free hD) kad (hP.mono fun r g e=>kam hD _ _ e) hfr
theorem QT:kar ["voucher","standing","pieces","groups","lasts"] ["voucher","standing","pieces"] (kai kbh):=by ac_rfl
theorem kfs(W:WB K mg d base):FO P w W 3 d.Ym d.Yn ["voucher","standing","pieces"] (kh1 d):=by
 exists W.Vq.F,QT
 ·obtain⟨v,x,pa,⟨so,ms⟩,ps,B,S,rfl,⟨mA,dxv,fsv,hv,lvm,hso,hM,hh,htb⟩,hS,hpa,wf,vo,k⟩:=h
  exists QD,kcM,W
  exists UV,kd1,W
  exists V9,kd2,W
  have hr1:Room 1 _:=hr.mono (by decide)
  refine⟨_,kab (ps_if (ka0 (kao (r:=rIsi K) kbs (by rfl) W.B.isi b_isi (kaa (pv 0) (kaa (kcG (v:=.ref d.c_Off) (by rfl) W.g_Off rfl) kae)))) (kag (kap (kaM (kaa (kce (kaa (kao (kdc rfl) (by rfl) W.B.min b_min (kaa (kah (K:=K) (pv 0) rfl) (kaa (pcl QD hr W.Ql (kaa (pv 1) (kaa (pv 2) kae))) kae))) (kaa (pv 2) kae))) kae)))) (kav))
   (kab (ps_if (ka0 (kao (r:=rIsi K) kbs (by rfl) W.B.isi b_isi (kaa (pv 0) (kaa (kcG (v:=.ref d.qj) (by rfl) W.Ul rfl) kae)))) (kab (psl (i:=3) QT.nd (kjY (keA (ka0 (kah (K:=K) (pv 0) rfl)) (pcl UV hr1 W.Vr (kaa (pv 1) (kaa (pv 2) kae))) (kaM (kaa (pv 2) kae)))))
   (kag (kap (kbq (N:=["group","standing","voucher"]) (CompScope.of (N:=["group","standing","voucher"]) (cap:=[none,some 1,some 0]) (kai kbh).names ["voucher","standing","pieces","groups","lasts"] rfl rfl (by cutsat)) rfl (kaC (K:=K) (pv 3)) (fun _ _ _ _=>pgn (i:=0) (show(["group","standing","voucher"]:List Str).Nodup by cutsat)) (fun _ _ _ _=>(kce (kaa (pe_op kaB (pe_op kdD (pcl QD hr W.Ql (kaa (pv 1) (kaa (pv 0) kae))) (kah (K:=K) (pv 2) rfl)) kaf) (kaa (pv 0) kae)))))))) (kav))
   (kab (ps_if (ka0 (kao (r:=rIsi K) kbs (by rfl) W.B.isi b_isi (kaa (pv 0) (kaa (kcG (v:=.ref d.ql) (by rfl) W.Um rfl) kae)))) (kab (kf7 (N:=["group"]) (CompScope.plain rfl (by cutsat) (by cutsat) (by cutsat) (nd1 _)) rfl (kaC (K:=K) (pcl V9 hr1 W.Xi (kaa (pv 1) (kaa (pv 2) (kaa (kah (K:=K) (pv 0) rfl) kae))))) (fun _ _ _ _=>pgn (i:=0) (nd1 _)) (fun _ _ _ _=>(pe_ix (r:=rIxL K) kaG (pv 0) (pe_un ki7 kaf) (fun _ _=>rfl))) (pgn (i:=4) QT.nd))
   (kag (kap (kbq (N:=["last","standing"]) (CompScope.of (N:=["last","standing"]) (cap:=[none,some 1]) (kai kbh).names ["voucher","standing","pieces","groups","lasts"] rfl rfl (by cutsat)) rfl (kaC (K:=K) (pv 4)) (fun _ _ _ _=>pgn (i:=0) (show(["last","standing"]:List Str).Nodup by cutsat)) (fun _ _ _ _=>(kce (kaa (pe_ix (r:=rIxL K) kaG (kah (K:=K) (pv 1) rfl) (pv 0) (fun _ _=>rfl)) (kaa (kaM (kaa (pv 0) kae)) kae)))))))) (kav))
   (kab (ps_if (ka0 (kao (r:=rIsi K) kbs (by rfl) W.B.isi b_isi (kaa (pv 0) (kaa (kcG (v:=.ref d.qk) (by rfl) W.Uo rfl) kae)))) (kab (psl (i:=3) QT.nd (pcl V9 hr1 W.Xi (kaa (pv 1) (kaa (pv 2) (kaa (kah (K:=K) (pv 0) rfl) kae)))))
   (kag (kap (kbq (N:=["group","standing","voucher"]) (CompScope.of (N:=["group","standing","voucher"]) (cap:=[none,some 1,some 0]) (kai kbh).names ["voucher","standing","pieces","groups","lasts"] rfl rfl (by cutsat)) rfl (kaC (K:=K) (pv 3)) (fun _ _ _ _=>pgn (i:=0) (show(["group","standing","voucher"]:List Str).Nodup by cutsat)) (fun _ _ _ _=>(kce (kaa (kao (kcC rfl) (by rfl) W.B.max b_max (kaa (pe_op kcy (pcl QD hr W.Ql (kaa (pv 1) (kaa (pv 0) kae))) (kah (K:=K) (pv 2) rfl)) (kaa kaf kae))) (kaa (pv 0) kae)))))))) (kav))
   (kag (kap (kaM kae)))))),?_⟩
  have I:=kl2 W hh
  exists Y4
  rwa[8,_,_,_,8, .inr ⟨_,rfl⟩,TyOf.ins hv (cl_of W hh) I.ha I.hn I.ht I.hm,kmK W hh,8,?_]
  have lp:=wf.lp
  have np:=wf.np
  have habl:∀i∈abt ps (kds B) ms.kind ms.lone S,i<S.pr.length:=fun i hi=>by rw[lp];exact kiM hi
  have habo:∀i∈abt ps (kds B) ms.kind ms.lone S,i<S.ow.length:=fun i hi=>kiM hi
  have hand:=khl ps (kds B) ms.kind ms.lone S
  have lab:(abt ps (kds B) ms.kind ms.lone S).length≤720:=NJ (kfo _ _ _ _ _) np
  cases so with
  | off am=>
   have qn:=kbC (qs_nn wf.nn (abt ps (kds B) ms.kind ms.lone S))
   have ha:0≤am∧am≤1000000000000:=vo.so
   refine iteT ?_
   symm
   exists Y6
   rwa[8,v,d.c_Off,dxv,fsv,8,hv,W.c_Off.cl,W.VS,hso,8,8,x,pa,S,8,hS,hpa,habl,lab,fun H1 s1=>?_]
   nofun
   exists Y6
   rwa[_,8,8,(by show 2≤sizeLine;decide),fun t ht=>⟨(by show 1≤sizeLine;decide),fun l hl=>?_⟩]
   have emin:(if(qs S.pr (abt ps (kds B) ms.kind ms.lone S)).sum<am then(qs S.pr (abt ps (kds B) ms.kind ms.lone S)).sum else am)=min am (qs S.pr (abt ps (kds B) ms.kind ms.lone S)).sum:=by
    split <;> lia
   rw[emin] at hl⊢
   have s2:=s1.trans (kam (o:=.tup [.int (min am (qs S.pr (abt ps (kds B) ms.kind ms.lone S)).sum), .ref pa]) ht)
   have s3:=s2.trans (kam (o:=.lst [.ref t]) hl)
   nofun
   refine k _ l [t] [(min am (qs S.pr (abt ps (kds B) ms.kind ms.lone S)).sum,abt ps (kds B) ms.kind ms.lone S)] s3 (none_of s2 hl) kad (.cons ⟨pa,kam hl _ _ kad,s3 _ _ hpa, .inl rfl⟩ .nil) ?_ ?_ ?_ (by simp) ?_
   ·intro c g hc
    rw[MO] at hc
    cases hc
    nofun
    rwa[by lia,by lia,lab]
   ·simpa using hand
   ·simpa using habl
   ·simp[want]
  | share sh bl=>
   have hsh:1≤sh∧sh≤1000:=vo.so
   refine iteF ?_
   symm
   exists Y6
   rwa[8,_,_,_,8, .inr ⟨_,rfl⟩,TyOf.ins hv (cl_of W hh) I.ha I.hn I.ht I.hm,kdM W hh,8,iteT ?_]
   nofun
   exists Y6
   refine⟨fun gv H1=>∃(gp:Addr)(gl:List Addr)(gs:List (List Nat)),gv=.ref gp∧Same H H1∧H gp=none∧H1 gp>>(.lst (gl.map V.ref))∧P2 (fun r g=>H1 r>>(.lst (g.map iV))) gl gs∧(∀r∈gl,r=pa∨H r=none)∧gs.length≤720∧(∀g∈gs,g.length≤720)∧gs.flatten.Nodup∧(∀i∈gs.flatten,i<S.pr.length)∧
    spr S.pr.length gs.flatten (gs.map fun g=>dl ((qs S.pr g).sum*sh/1000) (qs S.pr g)).flatten=spr S.pr.length (abt ps (kds B) ms.kind ms.lone S) (want (.share sh bl) S.mkd.length ((abt ps (kds B) ms.kind ms.lone S).map fun i=>S.ow.getD i 0) (qs S.pr (abt ps (kds B) ms.kind ms.lone S))),?_,?_⟩
   ·rwa[8,v,d.qj,dxv,fsv,8,hv,W.qj.cl,W.VV,hso.2,bl,6,?_]
    cases bl with
    | true=>
     refine iteT ?_
     nofun
     exists Y10
     rwa[8,8,x,pa,S,8,hS,hpa,habo,lab,fun H1 p gl s1 f1 h1 hP hg=>⟨p,gl,_,rfl,s1,f1,h1,hP,fun r hr=>.inr (hg r hr),?_,?_,?_,?_,?_⟩]
     ·rw[ND]
      try first|apply Y10|apply Y6|apply Y4
      exact NJ (kfF _ _) lab
     ·intro g hg'
      rw[(kc0 (fun i=>S.ow.getD i 0) (abt ps (kds B) ms.kind ms.lone S)).snds] at hg'
      obtain⟨l,_,rfl⟩:=N3.mp hg'
      try first|apply Y10|apply Y6|apply Y4
      exact NJ (Eg _ _) lab
     ·have ok:=kc0 (fun i=>S.ow.getD i 0) (abt ps (kds B) ms.kind ms.lone S)
      rw[ok.snds]
      try first|apply Y10|apply Y6|apply Y4
      exact keX (f:=fun i=>S.ow.getD i 0) hand ok.nd
     ·intro i hi
      rw[(kc0 (fun i=>S.ow.getD i 0) (abt ps (kds B) ms.kind ms.lone S)).snds] at hi
      obtain⟨g,hg',hi'⟩:=M0.mp hi
      obtain⟨l,_,rfl⟩:=N3.mp hg'
      try first|apply Y10|apply Y6|apply Y4
      exact habl i (Mi.mp hi').1
     ·refine kiU (fun z=>z*sh/1000) hand fun i hi=>?_
      obtain⟨ln,eln⟩:=at_of (habo i hi)
      rw[N1,eln,wf.lm]
      try first|apply Y10|apply Y6|apply Y4
      exact wf.line eln
    |false=>
     refine iteF ?_
     nofun
     exists Y10
     rwa[8,(by show 1≤sizeLine;decide),fun p hp=>⟨p,[pa],[abt ps (kds B) ms.kind ms.lone S],rfl,kam hp,hp,kad, .cons (kam hp _ _ hpa) .nil,fun r hr=>.inl (by simpa using hr),by simp,fun g hg=>?_,by simpa using hand,by simpa using habl,by simp[want]⟩]
     rw[MO] at hg
     rw[hg]
     try first|apply Y10|apply Y6|apply Y4
     exact lab
   rintro gv H1 ⟨gp,gl,gs,rfl,s1,f1,h1,hP,hor,lgs,lg,gnd,glt,gsp⟩
   have lgl:=hP.len
   have gok:∀g∈gs,∀i∈g,i<S.pr.length:=fun g hg i hi=>glt i (M0.mpr ⟨g,hg,hi⟩)
   nofun
   exists Y6
   refine⟨_,rfl,gp,rfl,⟨_,SqL.of h1⟩,kaW (xs:=gl.map V.ref) (fun i σ ys H'=>Same H1 H'∧(∃v0:Option V,σ=[v0,some (.ref x),some (.ref v)])∧∃tl,ys=tl.map V.ref∧P2 (GrpAt H H' pa) tl ((gs.take i).map fun g=>((qs S.pr g).sum*sh/1000,g)))
    ⟨Same.refl _,⟨none,rfl⟩,[],rfl, .nil⟩ (by rw[ND];exact NR (kas (by lia))) ?_ ?_ ?_⟩
   ·rintro i σ ys H2 hi ⟨s2,_,tl,rfl,hT⟩
    nofun
    exists Y8
    rwa[SqL.of (s2 _ _ h1),?_]
    rw[ND,hT.len,ND,NS]
    rw[ND] at hi
    lia
   ·rintro i y σ ys H2 hy ⟨s2,⟨v0,rfl⟩,tl,rfl,hT⟩
    obtain⟨r,er,rfl⟩:=kbZ hy
    obtain⟨g,eg,hr⟩:=hP.at er
    have s12:=s1.trans s2
    have hg:=NM eg
    have sn:=kbC (qs_nn wf.nn g)
    have sl:=kjO wf (lg g hg) (gok g hg)
    exists 3
    exists Y8
    rwa[8,8,x,r,S,g,6,hS.same s12,s2 _ _ hr,gok g hg,lg g hg,fun H3 s3=>?_]
    have s13:=s12.trans s3
    exists 3
    exists Y8
    rwa[8,v,d.qj,dxv,fsv,8,s13 _ _ hv,W.qj.cl,W.VU,hso.1,9, .inl ⟨by lia,by lia⟩,7,8,(by show 2≤sizeLine;decide),fun t ht=>?_]
    have s4:=kam (o:=.tup [.int ((qs S.pr g).sum*sh/1000), .ref r]) ht
    exists 3
    exists Y8
    rwa[(s2.trans s3).trans s4,⟨_,rfl⟩,tl++[t],by rw[NL];rfl,?_]
    rw[kb5 eg,NL]
    exists 3
    refine P2.snoc (hT.mono fun t' q ⟨ga,a1,a2,a3⟩=>⟨ga,(s3.trans s4) _ _ a1,(s3.trans s4) _ _ a2,a3⟩) ⟨r,kad,((s2.trans s3).trans s4) _ _ hr,hor r (NM er)⟩
   ·rintro σ ys H2 ⟨s2,⟨v0,rfl⟩,tl,rfl,hT⟩ D hD
    rw[ND,lgl,Ma] at hT
    have s3:=kam (o:=.lst (tl.map V.ref)) hD
    have e1:(gs.map fun g=>((qs S.pr g).sum*sh/1000,g)).map Prod.snd=gs:=by
     rw[N7]
     exists 3
     exact List.map_id' gs
    exists 3
    refine k _ D tl _ ((s1.trans s2).trans s3) (none_of (s1.trans s2) hD) kad (hT.mono fun t' q ⟨ga,a1,a2,a3⟩=>⟨ga,s3 _ _ a1,s3 _ _ a2,a3⟩) ?_ (by rw[e1];exact gnd) (by rw[e1];exact glt) (by rw[ND];exact lgs) ?_
    ·intro c g hc
     obtain⟨g',hg',e⟩:=N3.mp hc
     cases e
     have sn:=kbC (qs_nn wf.nn g)
     have:=kfW sn hsh.1 hsh.2
     exists 3
     rwa[this.1,this.2,lg g hg']
    ·rw[e1,N7]
     exists 3
     exact gsp
  | cheap n=>
   have hn:2≤n∧n≤20:=vo.so
   obtain⟨m,rfl⟩:∃m:Nat,n=m:=⟨n.toNat,by lia⟩
   refine iteF ?_
   symm
   rwa[8,_,_,_,8, .inr ⟨_,rfl⟩,TyOf.ins hv (cl_of W hh) I.ha I.hn I.ht I.hm,kdM W hh,8,iteF ⟨_,rfl,_,_,_,_,rfl, .inr ⟨_,rfl⟩,TyOf.ins hv (cl_of W hh) I.ha I.hn I.ht I.hm,kc7 W hh,_,rfl,iteT ?_⟩]
   have hpw:(abt ps (kds B) ms.kind ms.lone S).Pairwise (· < ·):=Er.filter _ Dw
   have l64:(abt ps (kds B) ms.kind ms.lone S).length<64:=MR (kfo _ _ _ _ _) wf.n64
   symm
   exists Y6
   rwa[8,8,8,v,d.ql,dxv,fsv,8,hv,W.ql.cl,W.VX,hso,x,pa,S,_,m,6,hS,hpa,hpw,habl,l64,by lia,by lia,htb,fun H1 gp gl s1 f1 h1 hP0 hg=>?_]
   have hP:P2 (fun r g=>H1 r>>(.lst (g.map iV))) gl (grp m (fallP S.pr (abt ps (kds B) ms.kind ms.lone S))):=hP0
   clear hP0
   have lgl:=hP.len
   have lG:=khN m (fallP S.pr (abt ps (kds B) ms.kind ms.lone S))
   have lf:(fallP S.pr (abt ps (kds B) ms.kind ms.lone S)).length=(abt ps (kds B) ms.kind ms.lone S).length:=(kbL _ _).length_eq
   have hgr:∀{i:Nat}{g:List Nat},(grp m (fallP S.pr (abt ps (kds B) ms.kind ms.lone S)))[i]?>>g→0<g.length∧g[g.length-1]?>>(g.getLastD 0)∧g.getLastD 0∈abt ps (kds B) ms.kind ms.lone S:=fun {i g} eg=>by
    obtain⟨h1,h2,h3⟩:=kiz eg
    have h4:=khL (by lia) eg
    nofun
    exists Y8
    rwa[by lia,?_,(kbL _ _).mem_iff.mp (NM h4)]
    rw[h2,h3 _ (by lia)]
    exists 3
    exact h4
   have hla:∀a∈lasts (grp m (fallP S.pr (abt ps (kds B) ms.kind ms.lone S))),a∈abt ps (kds B) ms.kind ms.lone S:=fun a ha=>by
    obtain⟨g,hg',rfl⟩:=N3.mp ha
    obtain⟨j,hj⟩:=MZ.mp hg'
    nofun
    exact(hgr hj).2.2
   nofun
   exists Y6
   refine⟨gp,rfl,⟨_,SqL.of h1⟩,kaW (xs:=gl.map V.ref) (fun i σ ys H'=>Same H1 H'∧(∃v0:Option V,σ=[v0])∧ys=((lasts (grp m (fallP S.pr (abt ps (kds B) ms.kind ms.lone S)))).take i).map iV)
    ⟨Same.refl _,⟨none,rfl⟩,rfl⟩ (by rw[ND];exact NR (kas (by lia))) ?_ ?_ ?_⟩
   ·rintro i σ ys H2 hi ⟨s2,_,rfl⟩
    nofun
    exists Y8
    rwa[SqL.of (s2 _ _ h1),?_]
    rw[ND,NS,kdL]
    rw[ND] at hi
    lia
   ·rintro i y σ ys H2 hy ⟨s2,⟨v0,rfl⟩,rfl⟩
    obtain⟨r,er,rfl⟩:=kbZ hy
    obtain⟨g,eg,hr⟩:=hP.at er
    obtain⟨g0,g1,g2⟩:=hgr eg
    have al:atI (g.map iV) (-1)>>(iV (g.getLastD 0)):=kkP (by rw[ND,NO,g1];rfl) (by rw[ND];exact g0)
    exists 3
    exists Y8
    rwa[8,1,6,r,_,9,SqL.of (s2 _ _ hr),al,s2,⟨_,rfl⟩,?_]
    rw[kb5 (r:=g.getLastD 0) (by unfold lasts;rw[NO,eg];rfl),NL]
    rfl
   rintro σ ys H2 ⟨s2,⟨v0,rfl⟩,rfl⟩ D hD
   rw[ND,lgl,MN (by rw[kdL];exact NG _)]
   have s3:=s2.trans (kam (o:=.lst ((lasts (grp m (fallP S.pr (abt ps (kds B) ms.kind ms.lone S)))).map iV)) hD)
   have fD:H D=none:=none_of (s1.trans s2) hD
   have eD:(upd H2 D (.lst ((lasts (grp m (fallP S.pr (abt ps (kds B) ms.kind ms.lone S)))).map iV))) D>>(.lst ((lasts (grp m (fallP S.pr (abt ps (kds B) ms.kind ms.lone S)))).map iV)):=kad
   generalize upd H2 D (.lst ((lasts (grp m (fallP S.pr (abt ps (kds B) ms.kind ms.lone S)))).map iV))=H3 at *
   obtain⟨o,p,mk,⟨dxs,fss,hx,l1,l2,l3,l4,l5⟩,ho,hp,hmk⟩:=id hS
   have s13:=s1.trans s3
   have lL:=kdL (grp m (fallP S.pr (abt ps (kds B) ms.kind ms.lone S)))
   nofun
   exists Y6
   refine⟨_,rfl,D,rfl,⟨_,SqL.of eD⟩,kaW (xs:=(lasts (grp m (fallP S.pr (abt ps (kds B) ms.kind ms.lone S)))).map iV) (fun i σ ys H'=>Same H3 H'∧(∃v0:Option V,σ=[v0,some (.ref x)])∧∃tl,ys=tl.map V.ref∧P2 (GrpAt H H' pa) tl (((lasts (grp m (fallP S.pr (abt ps (kds B) ms.kind ms.lone S)))).take i).map fun a=>(S.pr.getD a 0,[a])))
    ⟨Same.refl _,⟨none,rfl⟩,[],rfl, .nil⟩ (by rw[ND];exact NR (kas (by lia))) ?_ ?_ ?_⟩
   ·rintro i σ ys H4 hi ⟨s4,_,tl,rfl,hT⟩
    nofun
    exists Y8
    rwa[SqL.of (s4 _ _ eD),?_]
    rw[ND,hT.len,ND,NS]
    rw[ND] at hi
    lia
   ·rintro i y σ ys H4 hy ⟨s4,⟨v0,rfl⟩,tl,rfl,hT⟩
    obtain⟨a,ea,rfl⟩:=kbj hy
    have ha:=hla a (NM ea)
    obtain⟨z,ez⟩:=at_of (habl a ha)
    have ez':S.pr.getD a 0=z:=by rw[N1,ez];rfl
    have s14:=s13.trans s4
    exists 3
    exists Y8
    rwa[8,x,d.qd,dxs,fss,8,s14 _ _ hx,W.qd.cl,W.qA,l2,8,p,_,9,SqL.of (s14 _ _ hp),kaL (v:=.int z) (by rw[NO,ez];rfl),8,(by show 1≤sizeLine;decide),fun q hq=>⟨(by show 2≤sizeLine;decide),fun t ht=>?_⟩]
    have s5:=(kam (o:=.lst [iV a]) hq).trans (kam (o:=.tup [.int z, .ref q]) ht)
    exists 3
    exists Y8
    rwa[s4.trans s5,⟨_,rfl⟩,tl++[t],by rw[NL];rfl,?_]
    rw[kb5 ea,NL]
    exists 3
    exact P2.snoc (hT.mono fun t' q' ⟨ga,a1,a2,a3⟩=>⟨ga,s5 _ _ a1,s5 _ _ a2,a3⟩) ⟨q,by show upd _ _ _ _>>(.tup [.int (S.pr.getD a 0), .ref q]);rw[ez'];exact kad,kam ht _ _ kad, .inr (none_of s14 hq)⟩
   ·rintro σ ys H4 ⟨s4,⟨v0,rfl⟩,tl,rfl,hT⟩ D2 hD2
    rw[ND,Ma] at hT
    have s5:=kam (o:=.lst (tl.map V.ref)) hD2
    have e1:((lasts (grp m (fallP S.pr (abt ps (kds B) ms.kind ms.lone S)))).map fun a=>(S.pr.getD a 0,[a])).map Prod.snd=(lasts (grp m (fallP S.pr (abt ps (kds B) ms.kind ms.lone S)))).map fun a=>[a]:=by
     rw[N7]
     rfl
    have e2:=kjC (fun i=>S.pr.getD i 0) (lasts (grp m (fallP S.pr (abt ps (kds B) ms.kind ms.lone S))))
    exists 3
    refine k _ D2 tl _ ((s13.trans s4).trans s5) (none_of (s13.trans s4) hD2) kad (hT.mono fun t' q ⟨ga,a1,a2,a3⟩=>⟨ga,s5 _ _ a1,s5 _ _ a2,a3⟩) ?_ (by rw[e1,e2.1];exact khK (by lia) (kfi hand)) (by rw[e1,e2.1];exact fun i hi=>habl i (hla i hi)) (by rw[ND];lia) ?_
    ·intro c g hc
     obtain⟨a,ha,e⟩:=N3.mp hc
     cases e
     have q0:(qs S.pr [a]).sum=S.pr.getD a 0:=by simp[qs]
     have q1:=kbC (qs_nn wf.nn [a])
     rw[q0] at q1⊢
     exists 3
     rwa[q1,Int.le_refl _,by simp]
    ·rw[e1,e2.1,N7]
     have e3:(lasts (grp m (fallP S.pr (abt ps (kds B) ms.kind ms.lone S)))).map ((fun p=>dl p.1 (qs S.pr p.2))∘fun a=>(S.pr.getD a 0,[a]))=(lasts (grp m (fallP S.pr (abt ps (kds B) ms.kind ms.lone S)))).map fun a=>[S.pr.getD a 0]:=
      My fun a _=>knq _
     rw[e3,e2.2]
     exists 3
     exact(kkL (by lia) hand).symm
  | bund n pc=>
   have hn:2≤n∧n≤20∧0≤pc∧pc≤1000000000000:=vo.so
   obtain⟨m,rfl⟩:∃m:Nat,n=m:=⟨n.toNat,by lia⟩
   refine iteF ?_
   symm
   rwa[8,_,_,_,8, .inr ⟨_,rfl⟩,TyOf.ins hv (cl_of W hh) I.ha I.hn I.ht I.hm,kdM W hh,8,iteF ⟨_,rfl,_,_,_,_,rfl, .inr ⟨_,rfl⟩,TyOf.ins hv (cl_of W hh) I.ha I.hn I.ht I.hm,kc7 W hh,_,rfl,iteF ⟨_,rfl,_,_,_,_,rfl, .inr ⟨_,rfl⟩,TyOf.ins hv (cl_of W hh) I.ha I.hn I.ht I.hm,kfI W hh,_,rfl,iteT ?_⟩⟩]
   have hpw:(abt ps (kds B) ms.kind ms.lone S).Pairwise (· < ·):=Er.filter _ Dw
   have l64:(abt ps (kds B) ms.kind ms.lone S).length<64:=MR (kfo _ _ _ _ _) wf.n64
   symm
   exists Y6
   rwa[8,8,8,v,d.qk,dxv,fsv,8,hv,W.qk.cl,W.VZ,hso.1,x,pa,S,_,m,6,hS,hpa,hpw,habl,l64,by lia,by lia,htb,fun H1 gp gl s1 f1 h1 hP0 hg=>?_]
   have hP:P2 (fun r g=>H1 r>>(.lst (g.map iV))) gl (grp m (fallP S.pr (abt ps (kds B) ms.kind ms.lone S))):=hP0
   clear hP0
   have lgl:=hP.len
   have lG:=khN m (fallP S.pr (abt ps (kds B) ms.kind ms.lone S))
   have lf:(fallP S.pr (abt ps (kds B) ms.kind ms.lone S)).length=(abt ps (kds B) ms.kind ms.lone S).length:=(kbL _ _).length_eq
   have gin:∀g∈grp m (fallP S.pr (abt ps (kds B) ms.kind ms.lone S)),∀i∈g,i∈abt ps (kds B) ms.kind ms.lone S:=fun g hg' i hi=>(kbL _ _).mem_iff.mp (kkq hg' i hi)
   have gok:∀g∈grp m (fallP S.pr (abt ps (kds B) ms.kind ms.lone S)),∀i∈g,i<S.pr.length:=fun g hg' i hi=>habl i (gin g hg' i hi)
   have lg:∀g∈grp m (fallP S.pr (abt ps (kds B) ms.kind ms.lone S)),g.length≤720:=fun g hg'=>by
    obtain⟨j,hj⟩:=MZ.mp hg'
    have:=(kiz hj).2.1
    lia
   generalize egs:grp m (fallP S.pr (abt ps (kds B) ms.kind ms.lone S))=gs at *
   nofun
   exists Y6
   refine⟨_,rfl,gp,rfl,⟨_,SqL.of h1⟩,kaW (xs:=gl.map V.ref) (fun i σ ys H'=>Same H1 H'∧(∃v0:Option V,σ=[v0,some (.ref x),some (.ref v)])∧∃tl,ys=tl.map V.ref∧P2 (GrpAt H H' pa) tl ((gs.take i).map fun g=>(max 0 ((qs S.pr g).sum-pc),g)))
    ⟨Same.refl _,⟨none,rfl⟩,[],rfl, .nil⟩ (by rw[ND];exact NR (kas (by lia))) ?_ ?_ ?_⟩
   ·rintro i σ ys H2 hi ⟨s2,_,tl,rfl,hT⟩
    nofun
    exists Y8
    rwa[SqL.of (s2 _ _ h1),?_]
    rw[ND,hT.len,ND,NS]
    rw[ND] at hi
    lia
   ·rintro i y σ ys H2 hy ⟨s2,⟨v0,rfl⟩,tl,rfl,hT⟩
    obtain⟨r,er,rfl⟩:=kbZ hy
    obtain⟨g,eg,hr⟩:=hP.at er
    have s12:=s1.trans s2
    have hg':=NM eg
    have sn:=kbC (qs_nn wf.nn g)
    exists 3
    exists Y8
    rwa[8,8,x,r,S,g,6,hS.same s12,s2 _ _ hr,gok g hg',lg g hg',fun H3 s3=>?_]
    have s13:=s12.trans s3
    exists 3
    exists Y8
    rwa[8,v,d.qk,dxv,fsv,8,s13 _ _ hv,W.qk.cl,W.V1,hso.2,9,?_]
    exists 3
    exists Y8
    rwa[_,8,8,(by show 2≤sizeLine;decide),fun t ht=>?_]
    have emax:(if(0:Int) > (qs S.pr g).sum-pc then 0 else(qs S.pr g).sum-pc)=max 0 ((qs S.pr g).sum-pc):=by
     split <;> lia
    rw[emax]
    have s4:=kam (o:=.tup [.int (max 0 ((qs S.pr g).sum-pc)), .ref r]) ht
    exists 3
    exists Y8
    rwa[(s2.trans s3).trans s4,⟨_,rfl⟩,tl++[t],by rw[NL];rfl,?_]
    rw[kb5 eg,NL]
    exists 3
    refine P2.snoc (hT.mono fun t' q ⟨ga,a1,a2,a3⟩=>⟨ga,(s3.trans s4) _ _ a1,(s3.trans s4) _ _ a2,a3⟩) ⟨r,kad,((s2.trans s3).trans s4) _ _ hr, .inr (hg r (NM er))⟩
   ·rintro σ ys H2 ⟨s2,⟨v0,rfl⟩,tl,rfl,hT⟩ D hD
    rw[ND,lgl,Ma] at hT
    have s3:=kam (o:=.lst (tl.map V.ref)) hD
    have e1:(gs.map fun g=>(max 0 ((qs S.pr g).sum-pc),g)).map Prod.snd=gs:=by
     rw[N7]
     exists 3
     exact List.map_id' gs
    exists 3
    refine k _ D tl _ ((s1.trans s2).trans s3) (none_of (s1.trans s2) hD) kad (hT.mono fun t' q ⟨ga,a1,a2,a3⟩=>⟨ga,s3 _ _ a1,s3 _ _ a2,a3⟩) ?_ (by rw[e1,←egs];exact kkp (kfi hand)) (by rw[e1];intro i hi;obtain⟨g,hg',hi'⟩:=M0.mp hi;exact gok g hg' i hi') (by rw[ND];lia) ?_
    ·intro c g hc
     obtain⟨g',hg',e⟩:=N3.mp hc
     cases e
     have sn:=kbC (qs_nn wf.nn g)
     exists 3
     rwa[by lia,by lia,lg g hg']
    ·rw[e1,N7,←egs]
     exists 3
     exact(klD (fun z=>max 0 (z-pc)) hand).symm
  |carr=>
   refine iteF ?_
   symm
   rwa[8,_,_,_,8, .inr ⟨_,rfl⟩,TyOf.ins hv (cl_of W hh) I.ha I.hn I.ht I.hm,kdM W hh,8,iteF ⟨_,rfl,_,_,_,_,rfl, .inr ⟨_,rfl⟩,TyOf.ins hv (cl_of W hh) I.ha I.hn I.ht I.hm,kc7 W hh,_,rfl,iteF ⟨_,rfl,_,_,_,_,rfl, .inr ⟨_,rfl⟩,TyOf.ins hv (cl_of W hh) I.ha I.hn I.ht I.hm,kfI W hh,_,rfl,iteF ?_⟩⟩]
   symm
   rwa[by decide,fun l hl=>?_]
   symm
   refine k _ l [] [] (kam hl) hl kad .nil (fun c g hc=>by simp at hc) (by simp) (by simp) (by simp) ?_
   symm
   exact(spr_zero (k:=0)).trans spr_zero.symm
inductive kjx(K:NF)(d:D)(vs:List V)(H:Hp)(Q:VK)(E_:XK):Prop
 |ct(v a b x:Addr)(V:Vch)(ps:List (Option Nat))(B:Bask)(S:Stnd)(_:vs=[.ref v, .ref a, .ref b, .ref x])(_:VchIs d H v V)(_:SqL K H a (ps.map pV))(_:BaskIs d.qe d.qf H b B)(_:StndIs d.qd H x S)(_:Wf ps B S)(_:VchOk ps V)(_:∀(H':Hp)(p:Addr),Same H H'→H p=none→H' p>>(.lst ((cutM V ps (kds B) S).1.map L2.V.int))→Q (.ref p) H'):kjx K d vs H Q E_
theorem qS:kar ["voucher","parents","basket","standing","pieces","wanted","cut","group","piece","part","most"] ["voucher","parents","basket","standing"] (kai kbV):=by ac_rfl
theorem kcz(W:WB K mg d base):FO P w W 4 d.Yi d.Yj ["voucher","parents","basket","standing"] (kjx K d):=by
 exists W.Xg.F,qS
 ·obtain⟨v,a,b,x,Vc,ps,B,S,rfl,hV,hA,hB,hS,wf,vo,k⟩:=h
  exists XH,kip,W
  exists UW,kfs,W
  exists Ua,klb,W
  exists XF,kec,W
  have hr1:Room 1 _:=hr.mono (by decide)
  refine⟨_,kab (psl (i:=4) qS.nd (pcl XH hr W.Xf (kaa (pv 0) (kaa (pv 1) (kaa (pv 2) (kaa (pv 3) kae))))))
   (kab (kf7 (N:=["price"]) (CompScope.plain rfl (by cutsat) (by cutsat) (by cutsat) (nd1 _)) rfl (kaC (K:=K) (kah (K:=K) (pv 3) rfl)) (fun _ _ _ _=>pgn (i:=0) (nd1 _)) (fun _ _ _ _=>kaf) (pgn (i:=5) qS.nd))
   (kab (kbo PassesOwn.never rfl (kaC (K:=K) (pcl UW hr W.Vq (kaa (pv 0) (kaa (pv 3) (kaa (pv 4) kae))))) (kbJ (K:=K) (n:=2) rfl (kaD (pgn (i:=6) qS.nd) (kaD (pgn (i:=7) qS.nd) kbI)))
   (kag (kbo PassesOwn.never rfl (keU rfl W.B.zip (kaa (pv 7) (kaa (pcl Ua hr1 W.Xe (kaa (pv 6) (kaa (pcl XF hr1 W.Xj (kaa (pv 3) (kaa (pv 7) kae))) kae))) kae))) (kbJ (K:=K) (n:=2) rfl (kaD (pgn (i:=8) qS.nd) (kaD (pgn (i:=9) qS.nd) kbI)))
   (kag (keT (pv 9) (kfD (pv 5) (pv 8) set_list))))))
   (kab (psl (i:=10) qS.nd (kah (K:=K) (kah (K:=K) (pv 0) rfl) rfl))
   (kab (ps_if (PW.pt (kbn (kan kdZ (pv 10) kbf (kau _)) (kba (kan op_gt (kao (r:=rSum K) (kbO rfl) (by rfl) W.B.sum b_sum (kaa (pv 5) kae)) (pv 10) (kau _))))) (kag (kap (pcl Ua hr1 W.Xe (kaa (pv 10) (kaa (pv 5) kae))))) (kav))
   (kag (kap (pv 5))))))),?_⟩
  have np:=wf.np
  have lp:=wf.lp
  exists Y4
  rwa[8,8,8,8,v,a,b,x,Vc,ps,B,S,6,hV,hA,hB,hS,wf,vo,fun H1 pa s1 f1 h1=>?_]
  have habl:∀i∈abt ps (kds B) Vc.ms.kind Vc.ms.lone S,i<S.pr.length:=fun i hi=>by rw[lp];exact kiM hi
  have hand:=khl ps (kds B) Vc.ms.kind Vc.ms.lone S
  have lab:(abt ps (kds B) Vc.ms.kind Vc.ms.lone S).length≤720:=NJ (kfo _ _ _ _ _) np
  obtain⟨o,p,mk,⟨dxs,fss,hx,l1,l2,l3,l4,l5⟩,ho,hp,hmk⟩:=id (hS.same s1)
  nomatch x,d.qd,dxs,fss,8,hx,W.qd.cl,W.qA,l2,p,6,⟨_,SqL.of hp⟩,kaW (xs:=S.pr.map V.int) (fun i σ ys H'=>H'=H1∧ys=(NI i (0:Int)).map V.int∧∃v,σ=[v]) ⟨rfl,rfl,none,rfl⟩ ?_ ?_ ?_ ?_
  ·rw[ND]
   symm
   exact NR (kas (by lia))
  ·rintro i σ ys H' hi ⟨rfl,rfl,_⟩
   symm
   rwa[SqL.of hp,by simp]
  ·rintro i y σ ys H' hy ⟨rfl,rfl,v,rfl⟩
   symm
   rwa[6,by rw[E6,NL];rfl,8]
  rintro σ ys H' ⟨rfl,rfl,v0,rfl⟩ w hw
  rw[ND]
  have s2:=s1.trans (kam (o:=.lst ((NI S.pr.length (0:Int)).map V.int)) hw)
  have hw0:H w=none:=none_of s1 hw
  have ew:(upd H' w (.lst ((NI S.pr.length (0:Int)).map V.int))) w>>(.lst ((NI S.pr.length (0:Int)).map V.int)):=kad
  have h1o:=h1
  have h1:=kam (o:=.lst ((NI S.pr.length (0:Int)).map V.int)) hw _ _ h1
  have nw:pa≠w:=kaj h1o hw
  generalize upd H' w (.lst ((NI S.pr.length (0:Int)).map V.int))=H2 at *
  nomatch 8,8,v,x,pa,Vc,ps,B,S,6,hV.same s2,hS.same s2,h1,wf,vo,fun H3 gp tl gl s3 f3 h3 hP hc hnd hlt hgl hsp=>?_
  have s03:=s2.trans s3
  have e3:=s3 _ _ ew
  have ngw:gp≠w:=fun e=>by rw[e,ew] at f3;cases f3
  symm
  exists Y4
  refine⟨gp,rfl,⟨_,SqL.of h3⟩,ka7 (K:=K) (a:=gp) (xs:=tl.map V.ref) (fun i σ H'=>(∃v8 v9 v10 v11 v12:Option V,σ=[some (.ref v),some (.ref a),some (.ref b),some (.ref x),some (.ref pa),some (.ref w),v8,v9,v10,v11,v12])∧But w H3 H'∧
    H' w>>(.lst ((spr S.pr.length ((gl.take i).map Prod.snd).flatten ((gl.take i).map fun p=>dl p.1 (qs S.pr p.2)).flatten).map V.int)))
   ⟨⟨none,none,none,none,none,rfl⟩,But.refl,by rw[e3];simp[kmm]⟩ (fun i σ H' _ h=>SqL.of (h.2.1 _ _ ngw h3)) ?_ ?_⟩
  ·rintro i y σ H4 hy ⟨⟨v8,v9,v10,v11,v12,rfl⟩,b4,h4⟩
   obtain⟨t,et,rfl⟩:=kbZ hy
   obtain⟨⟨c,g⟩,eg,ga,ht,hga,hor⟩:=hP.at et
   have hcg:=hc c g (NM eg)
   have hgl':∀i∈g,i<S.pr.length:=fun j hj=>hlt j (M0.mpr ⟨g,N3.mpr ⟨(c,g),NM eg,rfl⟩,hj⟩)
   have ngaw:ga≠w:=by
    rcases hor with rfl|hor
    ·exact nw
    ·exact fun e=>by rw[e,ew] at hor;cases hor
   have ntw:t≠w:=ne_of ht e3 (by intro z;cases z)
   have htt:H4 t>>(.tup [.int c, .ref ga]):=b4 _ _ ntw ht
   have hgg:H4 ga>>(.lst (g.map iV)):=b4 _ _ ngaw hga
   symm
   exists Y6
   rwa[t,8,SqT.of htt,6,_,8,9,?_]
   have hS4:StndIs d.qd H4 x S:=by
    nofun
    exact StndIs.same (H:=H) (kif hw0 s03 b4) hS
   have gnn:=qs_nn wf.nn g
   have gsum:=kjO wf hcg.2.2 hgl'
   have hg720:=hcg.2.2
   nofun
   exists Y6
   rwa[8,8,8,8,x,ga,S,g,6,hS4,hgg,hgl',hg720,fun p5 hp5=>?_]
   have s5:=kam (o:=.lst ((qs S.pr g).map V.int)) hp5
   nofun
   exists Y6
   rwa[c,p5,qs S.pr g,6,SqL.of kad,gnn,by lia,hcg.1,by lia,by rw[kck];lia,fun p6 hp6=>?_]
   have s6:=s5.trans (kam (o:=.lst ((dl c (qs S.pr g)).map V.int)) hp6)
   have h6:(upd (upd H4 p5 (.lst ((qs S.pr g).map V.int))) p6 (.lst ((dl c (qs S.pr g)).map V.int))) p6>>(.lst ((dl c (qs S.pr g)).map V.int)):=kad
   have n6:H4 p6=none:=none_of s5 hp6
   generalize upd (upd H4 p5 (.lst ((qs S.pr g).map V.int))) p6 (.lst ((dl c (qs S.pr g)).map V.int))=H6 at *
   have b6:=b4.same s6
   have w6:=s6 _ _ h4
   have n6w:p6≠w:=fun e=>by rw[e,h4] at n6;cases n6
   have ldl:(dl c (qs S.pr g)).length=g.length:=by rw[kfL,kck]
   have emin:min (g.map iV).length ((dl c (qs S.pr g)).map V.int).length=g.length:=by rw[ND,ND,ldl,MX]
   have ndt:∀(j n:Nat),g[j]?>>n→(((gl.take i).map Prod.snd).flatten++g.take j++[n]).Nodup:=fun j n hj=>by
    rw[MS]
    nofun
    exact keJ hnd (i:=i) (by rw[NO,eg];rfl) hj
   have lfl:((gl.take i).map Prod.snd).flatten.length=((gl.take i).map fun p=>dl p.1 (qs S.pr p.2)).flatten.length:=by
    rw[List.length_flatten,List.length_flatten,N7,N7]
    congr 1
    nofun
    refine My fun q _=>?_
    show q.2.length=(dl q.1 (qs S.pr q.2)).length
    rw[kfL,kck]
   nofun
   exists Y6
   refine⟨ga,p6,_,_,rfl,s6 _ _ hgg,h6,kku (xs:=g.map iV) (ys:=(dl c (qs S.pr g)).map V.int) (fun j σ H'=>(∃v8 v9 v10 v11 v12:Option V,σ=[some (.ref v),some (.ref a),some (.ref b),some (.ref x),some (.ref pa),some (.ref w),v8,v9,v10,v11,v12])∧But w H3 H'∧H' ga>>(.lst (g.map iV))∧H' p6>>(.lst ((dl c (qs S.pr g)).map V.int))∧
     H' w>>(.lst ((spr S.pr.length (((gl.take i).map Prod.snd).flatten++g.take j) (((gl.take i).map fun p=>dl p.1 (qs S.pr p.2)).flatten++(dl c (qs S.pr g)).take j)).map V.int)))
    ⟨⟨_,_,_,_,_,rfl⟩,b6,s6 _ _ hgg,h6,by rw[w6];simp⟩ (fun j σ H' _ h=>⟨h.2.2.1,h.2.2.2.1⟩) ?_ ?_⟩
   ·rintro j y1 y2 t2 σ H7 hy1 hy2 ⟨⟨v8,v9,v10,v11,v12,rfl⟩,b7,g7,d7,w7⟩ ht2
    obtain⟨n,en,rfl⟩:=kbj hy1
    obtain⟨z,ez,rfl⟩:=kbj hy2
    have hn:=hgl' n (NM en)
    have s8:=kam (o:=.tup [iV n,V.int z]) ht2
    nofun
    exists Y8
    rwa[t2,8,SqT.of kad,6,_,8,9,?_]
    exists 3
    exists Y8
    rwa[8,8,8,w,_,_,n,6,6,s8 _ _ w7,kd5 (by rw[ND,kdm];exact hn),⟨_,_,_,_,_,rfl⟩,(b7.same s8).trans kaw,?_,?_,?_]
    ·rw[kak ngaw]
     exists 3
     exact s8 _ _ g7
    ·rw[kak n6w]
     exists 3
     exact s8 _ _ d7
    ·rw[kad,←MU,kb5 en,kb5 ez,←Mr,←Mr]
     rw[kkX (by rw[NQ,NQ,lfl,NS,NS,ldl]) (ndt j n en) hn]
   ·rintro σ H7 ⟨⟨v8,v9,v10,v11,v12,rfl⟩,b7,g7,d7,w7⟩
    exists 3
    exists Y8
    rwa[⟨_,_,_,_,_,rfl⟩,b7,?_]
    rw[w7,emin,Ma,MN (EM ldl),kb5 eg]
    simp
  rintro σ H4 ⟨⟨v8,v9,v10,v11,v12,rfl⟩,b4,h4⟩
  have ltl:(tl.map V.ref).length=gl.length:=by rw[ND,hP.len]
  rw[ltl,Ma,hsp] at h4
  have s04:Same H H4:=kif hw0 s03 b4
  obtain⟨mA,dxv,fsv,hv,lvm,_,⟨dxm,fsm,hm,m1,m2,m3,m4,m5,m6⟩,hh,htb⟩:=id (hV.same s04)
  nomatch v,clsOf d Vc.so,dxv,fsv,8,hv,cl_of W hh,na_of W hh,lvm,mA,d.qi,dxm,fsm,8,hm,W.qi.cl,W.Xm,m3,?_
  have wle:=ki6 (so:=Vc.so) (n:=S.mkd.length) (lines:=(abt ps (kds B) Vc.ms.kind Vc.ms.lone S).map fun i=>S.ow.getD i 0) (qs_nn wf.nn (abt ps (kds B) Vc.ms.kind Vc.ms.lone S)) vo.so
  have cn:=klA (V:=Vc) (ps:=ps) (kk:=kds B) (S:=S)
  have cs:=fun(m:Int)(e:Vc.ms.most>>m)(h0:0≤m)=>klz (V:=Vc) (ps:=ps) (kk:=kds B) (S:=S) lp wle e h0
  have sabs:=kjO wf lab habl
  generalize ewant:want Vc.so S.mkd.length ((abt ps (kds B) Vc.ms.kind Vc.ms.lone S).map fun i=>S.ow.getD i 0) (qs S.pr (abt ps (kds B) Vc.ms.kind Vc.ms.lone S))=wn at *
  have fnn:Nn (spr S.pr.length (abt ps (kds B) Vc.ms.kind Vc.ms.lone S) wn):=(kgD wf.nn wle).nn
  have fsum:(spr S.pr.length (abt ps (kds B) Vc.ms.kind Vc.ms.lone S) wn).sum≤720000000000000:=by
   have h:=(kgD wf.nn wle).sum
   have h2:=kdR (b:=1000000000000) (q:=S.pr) fun z hz=>(wf.pr z hz).2
   lia
  cases em:Vc.ms.most with
  |none=>
   symm
   rwa[8,6,8,?_]
   show if(!decide (V.non=V.non))=true then _ else _
   rw[klY]
   refine iteF (iteF ⟨_,rfl,k _ w s04 hw0 ?_⟩)
   rw[h4,cn em]
  | some m=>
   have hm0:=vo.ms.most m em
   symm
   rwa[8,6,8,?_]
   show if(!decide (V.int m=V.non))=true then _ else _
   rw[klZ]
   refine iteT ?_
   symm
   exists Y6
   rwa[8,w,8,SqL.of h4,8,9,8,?_]
   by_cases hgt:(spr S.pr.length (abt ps (kds B) Vc.ms.kind Vc.ms.lone S) wn).sum > m
   ·rw[decide_eq_true hgt]
    refine iteT ?_
    nofun
    exists Y8
    rwa[8,8,m,w,8,SqL.of h4,fnn,by lia,hm0.1,by lia,by rw[kdm];lia,fun p7 hp7=>?_]
    exists 3
    refine k _ p7 (s04.trans (kam hp7)) (none_of s04 hp7) ?_
    rw[kad,cs m em hm0.1,if_pos hgt]
   ·rw[decide_eq_false hgt]
    refine iteF ?_
    exists 3
    rwa[8,k _ w s04 hw0 ?_]
    rw[h4,cs m em hm0.1,if_neg hgt]
theorem kmq:kar ["voucher","parents","basket","standing"] ["voucher","parents","basket","standing"] (kai kjI):=by ac_rfl
theorem kmE(W:WB K mg d base):FO P w W 5 d.Ye d.Yf ["voucher","parents","basket","standing"] (klQ K d):=by
 exists W.Vo.F,kmq
 ·obtain⟨v,a,b,x,Vc,ps,B,S,rfl,hV,hA,hB,hS,wf,vo,k⟩:=h
  exists XJ,kcz,W
  exists XM,kcm,W
  have hr2:Room 2 _:=hr.mono (by decide)
  rwa[_,kag (kap (kce (kaa (pcl XJ hr W.Xg (kaa (pv 0) (kaa (pv 1) (kaa (pv 2) (kaa (pv 3) kae))))) (kaa (pcl XM hr2 W.Xh (kaa (pv 0) (kaa (pv 3) kae))) kae)))),?_]
  rwa[8,8,8,8,v,a,b,x,Vc,ps,B,S,6,hV,hA,hB,hS,wf,vo,fun H1 p s1 f1 h1=>?_]
  rwa[8,8,v,x,Vc,S,6,hV.same s1,hS.same s1,(by show 2≤sizeLine;decide),fun t ht=>?_]
  rw[←kkw (ps:=ps) (kk:=kds B) (S:=S) vo]
  refine k _ t p (s1.trans (kam ht)) (none_of s1 ht) f1 ?_ (kam ht _ _ h1)
  exact kad
theorem klF{l:List Nat}{f g:Nat→Bool}(h:∀x∈l,f x=g x):l.any f=l.any g:=by
 induction l with
 |nil=>rfl
 |cons a l ih=>rw[Ed,Ed,h a N4,ih fun x hx=>h x (N2 _ hx)]
theorem khR{ow:List Nat}{cs:List Int}{i o l:Nat}(h:ow[i]?>>o):kdN (ow.take (i+1)) cs l=(kdN (ow.take i) cs l||(o==l&&decide (0<cs.getD i 0))):=by
 have hi:=at_lt h
 unfold kdN
 rw[NS,NS,Ee (by lia),Ee (by lia),Mx,List.any_append]
 congr 1
 ·refine klF fun j hj=>?_
  have hj':j<i:=by simpa using hj
  simp only[N1,EA]
  rw[if_pos (by lia),if_pos hj']
 ·simp only[Ed,List.any_nil,Bool.or_false]
  rw[N1,EA,if_pos (by lia),h]
  rfl
inductive kdi(d:D)(vs:List V)(H:Hp)(Q:VK)(E_:XK):Prop
 |ct(v x c:Addr)(V:Vch)(S:Stnd)(cs:List Int)(_:vs=[.ref v, .ref x, .ref c])(_:VchIs d H v V)(_:StndIs d.qd H x S)(_:H c>>(.lst (cs.map L2.V.int)))(_:cs.length=S.ow.length)(_:S.ow.length≤720)(_:S.mkd.length≤12)(_:(∀l∈S.ow,l<S.mkd.length))(_:∀(H':Hp)(p:Addr),Same H H'→H p=none→H' p>>(.lst (((NK S.mkd.length).map fun l=>S.mkd.getD l false||(V.ms.lone&&kdN S.ow cs l)).map L2.V.bl))→Q (.ref p) H'):kdi d vs H Q E_
theorem QU:kar ["voucher","standing","piece_cuts","marked","owner","cut"] ["voucher","standing","piece_cuts"] (kai kb8):=by ac_rfl
theorem kep(W:WB K mg d base):FO P w W 1 d.Yr d.Ys ["voucher","standing","piece_cuts"] (kdi d):=by
 exists W.Vt.F,QU
 ·obtain⟨v,x,c,Vc,S,cs,rfl,⟨mA,dxv,fsv,hv,lvm,_,⟨dxm,fsm,hm,m1,m2,m3,m4,m5,m6⟩,hh,htb⟩,⟨o,p,mk,⟨dxs,fss,hx,l1,l2,l3,l4,l5⟩,ho,hp,hmk⟩,hc,lc,lo,lmk,hw,k⟩:=h
  refine⟨_,kab (psl (i:=3) QU.nd (kaF (r:=kaS K) kax (by rfl) W.B.list ka9 (kaa (kah (K:=K) (pv 1) rfl) kae)))
   (kab (ps_if (ka0 (kah (K:=K) (kah (K:=K) (pv 0) rfl) rfl)) (kag (kbo PassesOwn.never rfl (keU rfl W.B.zip (kaa (kah (K:=K) (pv 1) rfl) (kaa (pv 2) kae))) (kbJ (K:=K) (n:=2) rfl (kaD (pgn (i:=4) QU.nd) (kaD (pgn (i:=5) QU.nd) kbI)))
   (kag (ps_if (kan op_gt (pv 5) kaf (kau _)) (kag (keT pe_bl (kfD (pv 3) (pv 4) set_list))) (kav))))) (kav))
   (kag (kap (pv 3)))),?_⟩
  have e0:S.mkd.map V.bl=((NK S.mkd.length).map fun l=>S.mkd.getD l false||kdN (S.ow.take 0) cs l).map V.bl:=by
   congr 1
   apply MY
   ·simp
   ·intro j h1 h2
    simp[kdN,h1]
  exists Y4
  rwa[8,x,d.qd,dxs,fss,8,hx,W.qd.cl,W.Qr,l4,mk,8, .inl (SqL.of hmk),fun q hq=>?_]
  have s1:=kam (o:=.lst (S.mkd.map V.bl)) hq
  nomatch v,clsOf d Vc.so,dxv,fsv,8,s1 _ _ hv,cl_of W hh,na_of W hh,lvm,mA,d.qi,dxm,fsm,8,s1 _ _ hm,W.qi.cl,W.Xn,m6,8,?_
  cases e:Vc.ms.lone with
  |false=>
   refine iteF ?_
   symm
   exists Y6
   rwa[8,k _ q s1 hq ?_]
   rw[e0]
   simp only[e,Dd,Bool.or_false]
   rw[kad]
   congr 2
   simp[kdN]
  | true=>
   refine iteT ?_
   have emin:min (S.ow.map iV).length (cs.map V.int).length=S.ow.length:=by rw[ND,ND,lc,MX]
   symm
   exists Y6
   refine⟨_,rfl,x,d.qd,dxs,fss,_,rfl,s1 _ _ hx,W.qd.cl,W.qU,l1,_,rfl,o,c,_,_,rfl,s1 _ _ ho,s1 _ _ hc,
    kku (xs:=S.ow.map iV) (ys:=cs.map V.int) (fun i σ H'=>(∃v4 v5:Option V,σ=[some (.ref v),some (.ref x),some (.ref c),some (.ref q),v4,v5])∧But q H H'∧H' q>>(.lst (((NK S.mkd.length).map fun l=>S.mkd.getD l false||kdN (S.ow.take i) cs l).map V.bl)))
     ⟨⟨none,none,rfl⟩,But.of_same s1,by rw[kad,e0]⟩ (fun i σ H' _ h=>⟨h.2.1 _ _ (kaj ho hq) ho,h.2.1 _ _ (kaj hc hq) hc⟩) ?_ ?_⟩
   ·rintro i y z t σ H1 hy hz ⟨⟨v4,v5,rfl⟩,b1,h1⟩ ht
    obtain⟨ln,eln,rfl⟩:=kbj hy
    obtain⟨cz,ecz,rfl⟩:=kbj hz
    have hln:=hw ln (NM eln)
    have st:=fun l=>khR (cs:=cs) (l:=l) eln
    have eg:cs.getD i 0=cz:=by rw[N1,ecz];rfl
    have tq:q≠t:=kaj h1 ht
    have b2:=b1.same (kam (o:=.tup [iV ln,V.int cz]) ht)
    have h2:=kam (o:=.tup [iV ln,V.int cz]) ht _ _ h1
    nofun
    exists Y8
    rwa[t,8,SqT.of kad,6,_,8,9,?_]
    exists 3
    exists Y8
    rwa[8,9,8,?_]
    by_cases hc0:cz > 0
    ·rw[decide_eq_true hc0]
     refine iteT ?_
     exists 3
     exists Y10
     rwa[8,8,q,_,_,ln,6,6,h2,kd5 (by simpa using hln),⟨_,_,rfl⟩,b2.trans kaw,?_]
     rw[kad,←MU]
     congr 3
     apply MY
     ·simp
     ·intro j g1 g2
      have hj:j<S.mkd.length:=by simpa using g1
      rw[Dv]
      simp only[Ew,EH]
      rw[st j,eg]
      by_cases hjl:ln=j
      ·subst hjl
       simp[hc0]
      ·rw[if_neg hjl,show(ln==j)=false by simpa using hjl]
       simp
    ·rw[decide_eq_false hc0]
     refine iteF ?_
     try first|apply Y10|apply Y8|apply Y6|apply Y4
     exists Y10
     rwa[⟨_,_,rfl⟩,b2,?_]
     rw[h2]
     congr 3
     try first|apply Y10|apply Y8|apply Y6|apply Y4
     refine My fun l _=>?_
     rw[st l,eg,show decide (0<cz)=false by simpa using hc0]
     simp
   ·rintro σ H1 ⟨⟨v4,v5,rfl⟩,b1,h1⟩
    rw[emin,Ma] at h1
    exists 3
    exists Y8
    rwa[8,k _ q (kkM b1 hq) hq ?_]
    rw[h1]
    simp only[e,Bool.true_and]
noncomputable def rmv(x:Addr)(H:Hp):Hp:=fun a=>if a=x then none else H a
theorem kfC{x:Addr}{H:Hp}:rmv x H x=none:=if_pos rfl
theorem kfB{x a:Addr}{H:Hp}(n:a≠x):rmv x H a=H a:=if_neg n
theorem kf5{x a:Addr}{H:Hp}{o:HO}(h:rmv x H a>>o):H a>>o:=by
 by_cases e:a=x
 ·subst e
  rw[kfC] at h
  cases h
 ·rw[kfB e] at h
  exact h
theorem keR{x:Addr}{H:Hp}(hx:NX H x):But x H (rmv x H):=fun b u n e=>ev_eq (by rw[kfB n];exact e) fun⟨ps,e1,t,hor⟩=>⟨ps,by rw[kfB n];exact e1,t,fun pos c ec=>by
 obtain⟨c',rfl,z2⟩:=hor pos c ec
 exact⟨c',rfl,by rw[kfB fun e=>hx _ (e▸z2)];exact z2⟩⟩
theorem kf4{x:Addr}{H:Hp}:Same (rmv x H) H:=fun b u e=>ev_eq (kf5 e) fun⟨ps,e1,t,hor⟩=>⟨ps,kf5 e1,t,fun pos c ec=>by
 obtain⟨c',rfl,z2⟩:=hor pos c ec
 exact⟨c',rfl,kf5 z2⟩⟩
theorem kbi{Hs H H':Hp}{x:Addr}(s:Same Hs H)(b:But x H H')(f:Hs x=none):Same Hs H':=fun c u e=>kbN (s c u e) fun u' e'=>b c u' (kaj e f) e'
theorem kjF{Hs H:Hp}{p:Addr}{xs:List V}(s:Same Hs H)(hp:H p>>(.lst xs)):Same (upd Hs p (.lst xs)) H:=fun b u e=>by
 by_cases eb:b=p
 ·subst eb
  rw[kad] at e
  cases e
  exact hp
 ·rw[kak eb] at e
  have h:=s b u e
  cases u <;> first|exact h|refine⟨h.1,fun⟨ps,e1,t,hor⟩=>h.2 ⟨ps,by rw[kak eb] at e1;exact e1,t,fun pos c ec=>?_⟩⟩
  obtain⟨c',rfl,z2⟩:=hor pos c ec
  rwa[c',6,?_]
  by_cases ec':c'=p
  ·subst ec'
   rw[kad] at z2
   cases z2
  ·rw[kak ec'] at z2
   exact z2
inductive StndN(C:Addr)(H0 H:Hp)(x:Addr)(S:Stnd):Prop
 |ct(_:H0 x=none)(o p mk:Addr)(_:StandAt C H x o p mk S.cg)(_:H0 o=none)(_:H0 p=none)(_:H0 mk=none)(_:H o>>(.lst (S.ow.map iV)))(_:H p>>(.lst (S.pr.map V.int)))(_:H mk>>(.lst (S.mkd.map V.bl))):StndN C H0 H x S
theorem StndN.is{C x:Addr}{H0 H:Hp}{S:Stnd}:StndN C H0 H x S→StndIs C H x S:=by rintro⟨_,o,p,mk,h,_,_,_,h1,h2,h3⟩;exact⟨o,p,mk,h,h1,h2,h3⟩
theorem kbe{H0 H:Hp}{q a:Addr}(hq:H0 q≠none)(f:H0 a=none):rmv q H a=H a:=kfB fun e=>hq (e▸f)
theorem StndN.rmv{C x q:Addr}{H0 H:Hp}{S:Stnd}(hq:H0 q≠none):StndN C H0 H x S→StndIs C (rmv q H) x S:=by rintro⟨f,o,p,mk,⟨dx,fs,hx,r⟩,f1,f2,f3,h1,h2,h3⟩;exact⟨o,p,mk,⟨dx,fs,(kbe hq f).trans hx,r⟩,(kbe hq f1).trans h1,(kbe hq f2).trans h2,(kbe hq f3).trans h3⟩
inductive WayN(d:D)(m:Nat)(H0 H:Hp)(w t b x:Addr)(hand:List Int)(used:List Nat):Prop
 |ct(_:H0 w=none)(dx:Addr)(fs:List (Str×V))(h u:Addr)(_:H0 h=none)(_:H0 u=none)(_:H w>>(.ins d.c_Way dx fs))(_:fs.lookup ("till" :Str)>>(.ref t))(_:fs.lookup ("basket" :Str)>>(.ref b))(_:fs.lookup ("hand" :Str)>>(.ref h))(_:fs.lookup ("used" :Str)>>(.ref u))(_:fs.lookup ("standing" :Str)>>(.ref x))(_:fs.lookup ("word_for" :Str)=none)(_:fs.lookup ("behind" :Str)=none)(_:fs.lookup ("is_let_by" :Str)=none)(_:fs.lookup ("followers" :Str)=none)(_:fs.length≤m)(_:H h>>(.lst (hand.map V.int)))(_:H u>>(.lst (used.map iV))):WayN d m H0 H w t b x hand used
theorem WayN.at{d:D}{m:Nat}{H0 H:Hp}{w t b x:Addr}{hand:List Int}{used:List Nat}:WayN d m H0 H w t b x hand used→WayAt d m H w t b x hand used:=by rintro⟨_,dx,fs,h,u,_,_,h1,h2,h3,h4,h5,h6,h7,h8,h9,h10,h11,h12,h13⟩;exact⟨dx,fs,h,u,h1,h2,h3,h4,h5,h6,h7,h8,h9,h10,h11,h12,h13⟩
theorem WayN.rmv{d:D}{m:Nat}{H0 H:Hp}{w t b x q:Addr}{hand:List Int}{used:List Nat}(hq:H0 q≠none):WayN d m H0 H w t b x hand used→WayAt d m (rmv q H) w t b x hand used:=by rintro⟨f,dx,fs,h,u,f1,f2,g,h2,h3,h4,h5,h6,h7,h8,h9,h10,h11,h12,h13⟩;exact⟨dx,fs,h,u,(kbe hq f).trans g,h2,h3,h4,h5,h6,h7,h8,h9,h10,h11,(kbe hq f1).trans h12,(kbe hq f2).trans h13⟩
inductive kid(K:NF)(d:D)(vs:List V)(H:Hp)(Q:VK)(E_:XK):Prop
 |ct(v a b x:Addr)(V:Vch)(ps:List (Option Nat))(B:Bask)(S:Stnd)(_:vs=[.ref v, .ref a, .ref b, .ref x])(_:VchIs d H v V)(_:SqL K H a (ps.map pV))(_:BaskIs d.qe d.qf H b B)(_:StndIs d.qd H x S)(_:Wf ps B S)(_:VchOk ps V)(_:∀(H':Hp)(x':Addr),Same H H'→H x'=none→StndN d.qd H H' x' (aftM V ps (kds B) S)→Q (.ref x') H'):kid K d vs H Q E_
theorem XO:kar ["voucher","parents","basket","standing","piece_cuts","left"] ["voucher","parents","basket","standing"] (kai khB):=by ac_rfl
theorem klc(W:WB K mg d base):FO P w W 5 d.Yg d.Yh ["voucher","parents","basket","standing"] (kid K d):=by
 exists W.Vp.F,XO
 ·obtain⟨v,a,b,x,Vc,ps,B,S,rfl,hV,hA,hB,hS,wf,vo,k⟩:=h
  exists XJ,kcz,W
  exists XQ,kcO,W
  exists XM,kcm,W
  exists UX,kep,W
  have hr1:Room 1 _:=hr.mono (by decide)
  have hr2:Room 2 _:=hr.mono (by decide)
  have hr3:Room 3 _:=hr.mono (by decide)
  refine⟨_,kab (psl (i:=4) XO.nd (pcl XJ hr W.Xg (kaa (pv 0) (kaa (pv 1) (kaa (pv 2) (kaa (pv 3) kae))))))
   (kab (psl (i:=5) XO.nd (kaT (W.Qs.mk' W.qd) XQ hr3 rfl W.qd.m W.Qs.b .nil pass0 (kaa (pv 2) kae)))
   (kab (kaz (pv 5) (kaF (r:=kaS K) kax (by rfl) W.B.list ka9 (kaa (kah (K:=K) (pv 3) rfl) kae)) rfl)
   (kab (kaz (pv 5) (kbq (N:=["price","cut"]) (CompScope.plain rfl (by cutsat) (by cutsat) (by cutsat) (show(["price","cut"]:List Str).Nodup by cutsat)) rfl (keU rfl W.B.zip (kaa (kah (K:=K) (pv 3) rfl) (kaa (pv 4) kae))) (fun _ _ _ _=>kbJ (K:=K) (n:=2) rfl (kaD (pgn (i:=0) (show(["price","cut"]:List Str).Nodup by cutsat)) (kaD (pgn (i:=1) (show(["price","cut"]:List Str).Nodup by cutsat)) kbI))) (fun _ _ _ _=>(pe_op kcy (pv 0) (pv 1)))) rfl)
   (kab (kaz (pv 5) (pe_op kcy (kah (K:=K) (pv 3) rfl) (pcl XM hr2 W.Xh (kaa (pv 0) (kaa (pv 3) kae)))) rfl)
   (kab (kaz (pv 5) (pcl UX hr1 W.Vt (kaa (pv 0) (kaa (pv 3) (kaa (pv 4) kae)))) rfl)
   (kag (kap (pv 5)))))))),?_⟩
  have np:=wf.np
  have lp:=wf.lp
  have lcut:(cutM Vc ps (kds B) S).1.length=S.pr.length:=(kl8 wf.nn wf.cg.1 vo.so fun m e=>(vo.ms.most m e).1).1.1
  exists Y4
  rwa[8,8,8,8,v,a,b,x,Vc,ps,B,S,6,hV,hA,hB,hS,wf,vo,fun H1 pc s1 f1 h1=>?_]
  obtain⟨l,ls,hb1,hl1,hL1⟩:=id (hB.same s1)
  nomatch kj6 hb1 hl1 hL1 wf.nl wf.ok fun H2 y s2 f2 dxy fsy hy ly lyw=>?_
  have fy:H y=none:=none_of s1 f2
  have s02:=s1.trans s2
  obtain⟨o,p,mk,⟨dxs,fss,hx,l1,l2,l3,l4,l5⟩,ho,hp,hmk⟩:=id hS
  nomatch x,d.qd,dxs,fss,8,s02 _ _ hx,W.qd.cl,W.qU,l1,o,8, .inl (SqL.of (s02 _ _ ho)),fun q1 hq1=>?_
  have n1:q1≠y:=(kaj hy hq1).symm
  nomatch y,d.qd,dxy,fsy,6,kam hq1 _ _ hy,W.qd.cl,W.qU,few (by lia),?_
  have s3:Same H (upd (upd H2 q1 (.lst (S.ow.map iV))) y (.ins d.qd dxy (putF "owners" (.ref q1) fsy))):=kat fy (s02.trans (kam hq1))
  have e3:(upd (upd H2 q1 (.lst (S.ow.map iV))) y (.ins d.qd dxy (putF "owners" (.ref q1) fsy))) q1>>(.lst (S.ow.map iV)):=by rw[kak n1,kad]
  have y3:(upd (upd H2 q1 (.lst (S.ow.map iV))) y (.ins d.qd dxy (putF "owners" (.ref q1) fsy))) y>>(.ins d.qd dxy (putF "owners" (.ref q1) fsy)):=kad
  have c3:(upd (upd H2 q1 (.lst (S.ow.map iV))) y (.ins d.qd dxy (putF "owners" (.ref q1) fsy))) pc>>(.lst ((cutM Vc ps (kds B) S).1.map V.int)):=by
   rw[kak (kaj h1 f2)]
   symm
   exact kam hq1 _ _ (s2 _ _ h1)
  have f3:=NJ (kal (f:="owners") (v:=.ref q1) ly) (by decide:11≤20)
  generalize upd (upd H2 q1 (.lst (S.ow.map iV))) y (.ins d.qd dxy (putF "owners" (.ref q1) fsy))=H3 at *
  have emin:min (S.pr.map V.int).length ((cutM Vc ps (kds B) S).1.map V.int).length=S.pr.length:=by rw[ND,ND,lcut,MX]
  symm
  exists Y4
  refine⟨_,rfl,x,d.qd,dxs,fss,_,rfl,s3 _ _ hx,W.qd.cl,W.qA,l2,_,rfl,p,pc,_,_,rfl,s3 _ _ hp,c3,
   kgs (xs:=S.pr.map V.int) (ys:=(cutM Vc ps (kds B) S).1.map V.int) (fun i σ zs H'=>Same H3 H'∧zs=((Mg (· - ·) S.pr (cutM Vc ps (kds B) S).1).take i).map V.int∧∃v0 v1:Option V,σ=[v0,v1])
    ⟨Same.refl _,rfl,none,none,rfl⟩ (by rw[emin];exact NR (kas (by lia))) (fun i σ zs H' hi h=>⟨h.1 _ _ (s3 _ _ hp),h.1 _ _ c3,by rw[h.2.1,ND,NS,Eh,lcut];rw[emin] at hi;lia⟩) ?_ ?_⟩
  ·rintro i y1 y2 t σ zs H4 hy1 hy2 ⟨s4,rfl,v0,v1,rfl⟩ ht
   obtain⟨z1,ez1,rfl⟩:=kbj hy1
   obtain⟨z2,ez2,rfl⟩:=kbj hy2
   symm
   exists Y6
   rwa[t,8,SqT.of kad,6,_,8,9,8,8,9,s4.trans (kam ht),?_,_,8]
   rw[kb5 (r:=z1-z2) (by rw[Ey,ez1,ez2]),NL]
   rfl
  rintro σ zs H4 ⟨s4,rfl,v0,v1,rfl⟩ q2 hq2
  rw[emin,MN (by rw[Eh,lcut];lia)]
  have n2:q2≠y:=(kaj (s4 _ _ y3) hq2).symm
  have n12:q1≠q2:=kaj (s4 _ _ e3) hq2
  have s5:=kam (o:=.lst ((Mg (· - ·) S.pr (cutM Vc ps (kds B) S).1).map V.int)) hq2
  nomatch y,d.qd,dxy,8,s5 _ _ (s4 _ _ y3),W.qd.cl,W.qA,few f3,?_
  have s6:Same H (upd (upd H4 q2 (.lst ((Mg (· - ·) S.pr (cutM Vc ps (kds B) S).1).map V.int))) y (.ins d.qd dxy (putF "prices" (.ref q2) (putF "owners" (.ref q1) fsy)))):=kat fy ((s3.trans s4).trans s5) (nx (s5 _ _ (s4 _ _ y3)))
  have e6:(upd (upd H4 q2 (.lst ((Mg (· - ·) S.pr (cutM Vc ps (kds B) S).1).map V.int))) y (.ins d.qd dxy (putF "prices" (.ref q2) (putF "owners" (.ref q1) fsy)))) q1>>(.lst (S.ow.map iV)):=by
   rw[kak n1]
   symm
   exact s5 _ _ (s4 _ _ e3)
  have p6:(upd (upd H4 q2 (.lst ((Mg (· - ·) S.pr (cutM Vc ps (kds B) S).1).map V.int))) y (.ins d.qd dxy (putF "prices" (.ref q2) (putF "owners" (.ref q1) fsy)))) q2>>(.lst ((Mg (· - ·) S.pr (cutM Vc ps (kds B) S).1).map V.int)):=by rw[kak n2,kad]
  have y6:(upd (upd H4 q2 (.lst ((Mg (· - ·) S.pr (cutM Vc ps (kds B) S).1).map V.int))) y (.ins d.qd dxy (putF "prices" (.ref q2) (putF "owners" (.ref q1) fsy)))) y>>(.ins d.qd dxy (putF "prices" (.ref q2) (putF "owners" (.ref q1) fsy))):=kad
  have c6:(upd (upd H4 q2 (.lst ((Mg (· - ·) S.pr (cutM Vc ps (kds B) S).1).map V.int))) y (.ins d.qd dxy (putF "prices" (.ref q2) (putF "owners" (.ref q1) fsy)))) pc>>(.lst ((cutM Vc ps (kds B) S).1.map V.int)):=by
   rw[kak (kaj h1 f2)]
   symm
   exact s5 _ _ (s4 _ _ c3)
  have f6:=NJ (kal (f:="prices") (v:=.ref q2) (kal (f:="owners") (v:=.ref q1) ly)) (by decide:12≤20)
  generalize upd (upd H4 q2 (.lst ((Mg (· - ·) S.pr (cutM Vc ps (kds B) S).1).map V.int))) y (.ins d.qd dxy (putF "prices" (.ref q2) (putF "owners" (.ref q1) fsy)))=H6 at *
  nomatch x,d.qd,dxs,fss,8,s6 _ _ hx,W.qd.cl,W.Qc,l3,8,8,v,x,Vc,S,6,hV.same s6,hS.same s6,9,?_
  rw[←kkw (ps:=ps) (kk:=kds B) (S:=S) vo]
  nomatch y,d.qd,dxy,8,y6,W.qd.cl,W.Qc,few f6,?_
  have s7:Same H (upd H6 y (.ins d.qd dxy (putF "carriage" (.int (S.cg-(cutM Vc ps (kds B) S).2)) (putF "prices" (.ref q2) (putF "owners" (.ref q1) fsy))))):=kat fy s6
  have e7:(upd H6 y (.ins d.qd dxy (putF "carriage" (.int (S.cg-(cutM Vc ps (kds B) S).2)) (putF "prices" (.ref q2) (putF "owners" (.ref q1) fsy))))) q1>>(.lst (S.ow.map iV)):=by rw[kak n1];exact e6
  have p7:(upd H6 y (.ins d.qd dxy (putF "carriage" (.int (S.cg-(cutM Vc ps (kds B) S).2)) (putF "prices" (.ref q2) (putF "owners" (.ref q1) fsy))))) q2>>(.lst ((Mg (· - ·) S.pr (cutM Vc ps (kds B) S).1).map V.int)):=by rw[kak n2];exact p6
  have y7:(upd H6 y (.ins d.qd dxy (putF "carriage" (.int (S.cg-(cutM Vc ps (kds B) S).2)) (putF "prices" (.ref q2) (putF "owners" (.ref q1) fsy))))) y>>(.ins d.qd dxy (putF "carriage" (.int (S.cg-(cutM Vc ps (kds B) S).2)) (putF "prices" (.ref q2) (putF "owners" (.ref q1) fsy)))):=kad
  have c7:(upd H6 y (.ins d.qd dxy (putF "carriage" (.int (S.cg-(cutM Vc ps (kds B) S).2)) (putF "prices" (.ref q2) (putF "owners" (.ref q1) fsy))))) pc>>(.lst ((cutM Vc ps (kds B) S).1.map V.int)):=by rw[kak (kaj h1 f2)];exact c6
  have f7:=NJ (kal (f:="carriage") (v:=.int (S.cg-(cutM Vc ps (kds B) S).2)) (kal (f:="prices") (v:=.ref q2) (kal (f:="owners") (v:=.ref q1) ly))) (by decide:13≤20)
  generalize upd H6 y (.ins d.qd dxy (putF "carriage" (.int (S.cg-(cutM Vc ps (kds B) S).2)) (putF "prices" (.ref q2) (putF "owners" (.ref q1) fsy))))=H7 at *
  nomatch 8,8,v,x,pc,Vc,S,8,hV.same s7,hS.same s7,c7,by rw[lcut,lp],np,by rw[wf.lm];exact wf.nl,fun l hl=>?_,fun H8 q3 s8 f8 h8=>?_
  ·obtain⟨i,hi⟩:=MZ.mp hl
   rw[wf.lm]
   symm
   exact wf.line hi
  have n3:q3≠y:=(kaj y7 f8).symm
  nomatch y,d.qd,dxy,8,s8 _ _ y7,W.qd.cl,W.Qr,few f7,?_
  nomatch k _ y (kat fy (s7.trans s8) (nx (s8 _ _ y7))) fy ⟨fy,q1,q2,q3,⟨dxy,_,kad,?_,?_,?_,?_,?_⟩,none_of s02 hq1,none_of (s3.trans s4) hq2,none_of s7 f8,?_,?_,?_⟩
  ·ac_nf
  ·ac_nf
  ·ac_nf
   rfl
  ·ac_nf
  ·rw[kac,if_neg (by cutsat),kac,if_neg (by cutsat),kac,if_neg (by cutsat),kac,if_neg (by cutsat)]
   symm
   exact lyw
  ·rw[kak n1]
   symm
   exact s8 _ _ e7
  ·rw[kak n2]
   symm
   exact s8 _ _ p7
  ·rw[kak n3]
   symm
   exact h8
inductive kfU(d:D)(vs:List V)(H:Hp)(Q:VK)(E_:XK):Prop
 |ct(H0:Hp)(x dx p vl rl:Addr)(ps vs' rs:List V)(bk:Str)(_:vs=[.ref x, .ref p, .ref vl, .ref rl, .str bk])(_:H0 x=none)(_:Same H0 H)(_:H x>>(.ins d.qg dx []))(_:H0 p>>(.lst ps))(_:H0 vl>>(.lst vs'))(_:H0 rl>>(.lst rs))(_:∀(H':Hp)(p' vl' rl':Addr)(fs:List (Str×V)),Same H0 H'→H0 p'=none→H0 vl'=none→H0 rl'=none→H' p'>>(.lst ps)→H' vl'>>(.lst vs')→H' rl'>>(.lst rs)→H' x>>(.ins d.qg dx fs)→fs.lookup ("parents" :Str)>>(.ref p')→fs.lookup ("vouchers" :Str)>>(.ref vl')→fs.lookup ("rules" :Str)>>(.ref rl')→fs.lookup ("back" :Str)>>(.str bk)→Q .non H'):kfU d vs H Q E_
theorem kgS:kar ["self","parents","vouchers","rules","back"] ["self","parents","vouchers","rules","back"] (kai kbb):=by ac_rfl
theorem ked(W:WB K mg d base):FO P w W 1 d.ZU d.Xb ["self","parents","vouchers","rules","back"] (kfU d):=by
 exists W.Qw.F,kgS
 ·obtain⟨H0,x,dx,p,vl,rl,ps,vs',rs,bk,rfl,fx,s0,hx,hp,hvl,hrl,k⟩:=h
  refine⟨_,kab (kaz (pv 0) (kaF (r:=kaS K) kax (by rfl) W.B.list ka9 (kaa (pv 1) kae)) rfl)
   (kab (kaz (pv 0) (kaF (r:=kaS K) kax (by rfl) W.B.list ka9 (kaa (pv 2) kae)) rfl)
   (kab (kaz (pv 0) (kaF (r:=kaS K) kax (by rfl) W.B.list ka9 (kaa (pv 3) kae)) rfl)
   (kag (kaz (pv 0) (pv 4) rfl)))),?_⟩
  exists Y4
  rwa[8,p,8, .inl (SqL.of (s0 _ _ hp)),fun p' hp'=>?_]
  have n1:=kam (o:=.lst ps) hp'
  have fp:=s0.free hp'
  have np:p'≠x:=(kaj hx hp').symm
  have e1:(upd H p' (.lst ps)) p'>>(.lst ps):=kad
  have s1:=s0.trans n1
  have hx1:=n1 _ _ hx
  clear n1
  generalize upd H p' (.lst ps)=H1 at *
  nomatch x,d.qg,dx,[],6,hx1,W.qg.cl,W.Qv,by decide,?_
  have s2:Same H0 (upd H1 x (.ins d.qg dx (putF "parents" (.ref p') []))):=kat fx s1 (nx hx1)
  have e2:(upd H1 x (.ins d.qg dx (putF "parents" (.ref p') []))) p'>>(.lst ps):=by rw[kak np];exact e1
  have hx2:(upd H1 x (.ins d.qg dx (putF "parents" (.ref p') []))) x>>(.ins d.qg dx (putF "parents" (.ref p') [])):=kad
  generalize upd H1 x (.ins d.qg dx (putF "parents" (.ref p') []))=H2 at *
  nomatch vl,8, .inl (SqL.of (s2 _ _ hvl)),fun v' hv'=>?_
  have n3:=kam (o:=.lst vs') hv'
  have fv:=s2.free hv'
  have nv:v'≠x:=(kaj hx2 hv').symm
  have s3:=s2.trans n3
  have e3:=n3 _ _ e2
  have ev3:(upd H2 v' (.lst vs')) v'>>(.lst vs'):=kad
  have hx3:=n3 _ _ hx2
  clear n3
  generalize upd H2 v' (.lst vs')=H3 at *
  nomatch x,d.qg,dx,8,hx3,W.qg.cl,W.qW,few (NJ (kal (n:=0) (NG _)) (by decide)),?_
  have s4:Same H0 (upd H3 x (.ins d.qg dx (putF "vouchers" (.ref v') (putF "parents" (.ref p') [])))):=kat fx s3 (nx hx3)
  have e4:(upd H3 x (.ins d.qg dx (putF "vouchers" (.ref v') (putF "parents" (.ref p') [])))) p'>>(.lst ps):=by rw[kak np];exact e3
  have ev4:(upd H3 x (.ins d.qg dx (putF "vouchers" (.ref v') (putF "parents" (.ref p') [])))) v'>>(.lst vs'):=by rw[kak nv];exact ev3
  have hx4:(upd H3 x (.ins d.qg dx (putF "vouchers" (.ref v') (putF "parents" (.ref p') [])))) x>>(.ins d.qg dx (putF "vouchers" (.ref v') (putF "parents" (.ref p') []))):=kad
  generalize upd H3 x (.ins d.qg dx (putF "vouchers" (.ref v') (putF "parents" (.ref p') [])))=H4 at *
  nomatch rl,8, .inl (SqL.of (s4 _ _ hrl)),fun r' hr'=>?_
  have n5:=kam (o:=.lst rs) hr'
  have fr:=s4.free hr'
  have nr:r'≠x:=(kaj hx4 hr').symm
  have s5:=s4.trans n5
  have e5:=n5 _ _ e4
  have ev5:=n5 _ _ ev4
  have er5:(upd H4 r' (.lst rs)) r'>>(.lst rs):=kad
  have hx5:=n5 _ _ hx4
  clear n5
  generalize upd H4 r' (.lst rs)=H5 at *
  nomatch x,d.qg,dx,8,hx5,W.qg.cl,W.qQ,few (NJ (kal (kal (n:=0) (NG _))) (by decide)),?_
  have s6:Same H0 (upd H5 x (.ins d.qg dx (putF "rules" (.ref r') (putF "vouchers" (.ref v') (putF "parents" (.ref p') []))))):=kat fx s5 (nx hx5)
  have hx6:(upd H5 x (.ins d.qg dx (putF "rules" (.ref r') (putF "vouchers" (.ref v') (putF "parents" (.ref p') []))))) x>>(.ins d.qg dx (putF "rules" (.ref r') (putF "vouchers" (.ref v') (putF "parents" (.ref p') [])))):=kad
  nomatch 8,x,d.qg,dx,8,hx6,W.qg.cl,W.QQ,few (NJ (kal (kal (kal (n:=0) (NG _)))) (by decide)),?_
  symm
  refine k _ p' v' r' _ (kat fx s6 (nx hx6)) fp fv fr ?_ ?_ ?_ kad ?_ ?_ ?_ ?_
  ·rw[kak np,kak np];exact e5
  ·rw[kak nv,kak nv];exact ev5
  ·rw[kak nr,kak nr];exact er5
  ·ac_nf
  ·ac_nf
  ·ac_nf
  ·ac_nf
theorem kmG{d:D}{H:Hp}{p vl rl:Addr}{T:TillD}{va ra:List Addr}{R:Addr→Hp→Prop}{E:XK}(hp:H p>>(.lst (T.ps.map pV)))(hvl:H vl>>(.lst (va.map V.ref)))(hv:P2 (fun a V=>VchIs d H a V) va T.vs)(hrl:H rl>>(.lst (ra.map V.ref)))(hr:P2 (fun a r=>RulIs H a r) ra T.rs)
  (k:∀(H':Hp)(x:Addr),Same H H'→H x=none→TillIs d H' x T→R x H'):
  ∀x dx,H x=none→H dx=none→dx≠x→kfU d [.ref x, .ref p, .ref vl, .ref rl, .str T.bk] (upd (upd H dx (.own x)) x (.ins d.qg dx [])) (fun v H2=>v=.non∧R x H2) E:=
 fun x dx nx nd _=>⟨H,x,dx,p,vl,rl,_,_,_,_,rfl,nx,ka2 nx nd,kad,hp,hvl,hrl,fun H' p' vl' rl' fs s f1 f2 f3 h1 h2 h3 hx l1 l2 l3 l4=>⟨rfl,k H' x s nx ⟨dx,fs,p',vl',rl',va,ra,hx,l1,l2,l3,l4,h1,h2,hv.mono fun a V h=>h.same s,h3,hr.mono fun a r h=>s _ _ h⟩⟩⟩
inductive khq(f:List Rul→List Nat→Nat→Bool)(vs:List V)(H:Hp)(Q:VK)(E_:XK):Prop
 |ct(rl u:Addr)(ra:List Addr)(rs:List Rul)(used:List Nat)(n:Nat)(_:vs=[.ref rl, .ref u,iV n])(_:H rl>>(.lst (ra.map V.ref)))(_:P2 (fun a r=>RulIs H a r) ra rs)(_:H u>>(.lst (used.map iV)))(_:Q (.bl (f rs used n)) H):khq f vs H Q E_
theorem kkR{f:Rul→Bool}{rs:List Rul}{i:Nat}{r:Rul}(e:rs[i]?>>r)(h:f r=true):rs.any f=true:=List.any_eq_true.mpr ⟨r,NM e,h⟩
theorem kmc{f:Rul→Bool}{rs:List Rul}{n:Nat}(hn:n=rs.length)(h:∀r∈rs.take n,f r=false):rs.any f=false:=by
 rw[hn,Ma] at h
 cases e:rs.any f with
 |false=>rfl
 |true=>
  obtain⟨r,hr,e2⟩:=List.any_eq_true.mp e
  rw[h r hr] at e2
  cases e2
theorem kcg{f:Rul→Bool}{rs:List Rul}{i:Nat}{r:Rul}(e:rs[i]?>>r)(h:∀q∈rs.take i,f q=false)(hr:f r=false):∀q∈rs.take (i+1),f q=false:=fun q hq=>by
 rw[MT,e] at hq
 rcases Mj.mp hq with z|z
 ·exact h q z
 ·have e2:q=r:=by simpa using z
  rw[e2]
  exact hr
theorem QV:kar ["rules","used","number","word","one","other"] ["rules","used","number"] (kai kco):=by ac_rfl
theorem ke2(W:WB K mg d base):FO P w W 1 d.YF d.YG ["rules","used","number"] (khq kfG):=by
 exists W.Vy.F,QV
 ·obtain⟨rl,u,ra,rs,used,n,rfl,hrl,hr,hu,k⟩:=h
  refine⟨_,kab (kbo PassesOwn.never rfl (kaC (K:=K) (pv 0)) (kbJ (K:=K) (n:=3) rfl (kaD (pgn (i:=3) QV.nd) (kaD (pgn (i:=4) QV.nd) (kaD (pgn (i:=5) QV.nd) kbI))))
   (kag (ps_if (PW.pt (kbn (kan op_eq (pv 3) kbD (kau _)) (kba (PW.pt (pw_or (PW.pt (kbn (kan op_eq (pv 4) (pv 2) (kau _)) (kba (kan kc1 (pv 5) (pv 1) (by with_unfolding_all rfl))))) (kea (PW.pt (kbn (kan op_eq (pv 5) (pv 2) (kau _)) (kba (kan kc1 (pv 4) (pv 1) (by with_unfolding_all rfl))))))))))) (kag (kap pe_bl)) (kav))))
   (kag (kap pe_bl)),?_⟩
  refine⟨_,rfl,rl,rfl,⟨_,SqL.of hrl⟩,ka7 (xs:=ra.map V.ref) (fun i σ H'=>H'=H∧(∀r∈rs.take i,nevR used n r=false)∧∃v3 v4 v5:Option V,σ=[some (.ref rl),some (.ref u),some (iV n),v3,v4,v5])
   ⟨rfl,(fun r hr=>by simp at hr),none,none,none,rfl⟩ (fun i σ H' _ h=>by rw[h.1];exact SqL.of hrl) ?_ ?_⟩
  ·rintro i y σ H' hy ⟨rfl,hno,v3,v4,v5,rfl⟩
   obtain⟨a,ea,rfl⟩:=kbZ hy
   obtain⟨r,er,hra⟩:=hr.at ea
   have yes:nevR used n r=true→Q (.bl true) H':=fun e=>by
    have z:=kkR (f:=nevR used n) er e
    unfold kfG at k
    rw[z] at k
    exact k
   rwa[a,8,SqT.of hra,6,_,8,_,8,9,?_]
   rwa[8,6,8,?_]
   show if decide (V.str r.w=V.str "never")=true then _ else _
   rw[eq_str]
   by_cases hw:r.w=("never" :Str)
   ·rw [decide_eq_true hw]
    refine iteT ⟨_,rfl,_,rfl,rfl,_,rfl,?_⟩
    show if decide (iV r.a=iV n)=true then _ else _
    rw[kfK]
    by_cases ha:r.a=n
    ·rw[decide_eq_true ha]
     refine iteT ⟨_,rfl,_,rfl,u,_,rfl, .inl (SqL.of hu),rfl,kbK _,_,rfl,?_⟩
     rw[if_neg NP,kc8]
     cases hb:used.contains r.b with
     |true=>exact iteT (iteT (yes (by unfold nevR;rw[decide_eq_true hw,decide_eq_true ha,hb];rfl)))
     | false=>
      refine iteF ⟨_,rfl,_,rfl,rfl,_,rfl,?_⟩
      show if decide (iV r.b=iV n)=true then _ else _
      rw[kfK]
      by_cases hc:r.b=n
      ·rw[decide_eq_true hc]
       refine iteT ⟨_,rfl,_,rfl,u,_,rfl, .inl (SqL.of hu),rfl,kbK _,_,rfl,?_⟩
       rw[if_neg NP,kc8]
       cases hd:used.contains r.a with
       |true=>exact iteT (yes (by unfold nevR;rw[decide_eq_true hw,decide_eq_true ha,hb,decide_eq_true hc,hd];rfl))
       |false=>exact iteF ⟨rfl,kcg er hno (by unfold nevR;rw[decide_eq_true hw,decide_eq_true ha,hb,decide_eq_true hc,hd];rfl),_,_,_,rfl⟩
      ·rw[decide_eq_false hc]
       exact iteF (iteF ⟨rfl,kcg er hno (by unfold nevR;rw[decide_eq_true hw,decide_eq_true ha,hb,decide_eq_false hc];rfl),_,_,_,rfl⟩)
    ·rw[decide_eq_false ha]
     refine iteF (iteF ⟨_,rfl,_,rfl,rfl,_,rfl,?_⟩)
     show if decide (iV r.b=iV n)=true then _ else _
     rw[kfK]
     by_cases hc:r.b=n
     ·rw[decide_eq_true hc]
      refine iteT ⟨_,rfl,_,rfl,u,_,rfl, .inl (SqL.of hu),rfl,kbK _,_,rfl,?_⟩
      rw[if_neg NP,kc8]
      cases hd:used.contains r.a with
      |true=>exact iteT (yes (by unfold nevR;rw[decide_eq_true hw,decide_eq_false ha,decide_eq_true hc,hd];rfl))
      |false=>exact iteF ⟨rfl,kcg er hno (by unfold nevR;rw[decide_eq_true hw,decide_eq_false ha,decide_eq_true hc,hd];rfl),_,_,_,rfl⟩
     ·rw[decide_eq_false hc]
      exact iteF (iteF ⟨rfl,kcg er hno (by unfold nevR;rw[decide_eq_true hw,decide_eq_false ha,decide_eq_false hc];rfl),_,_,_,rfl⟩)
   ·rw[decide_eq_false hw]
    refine iteF (iteF ⟨rfl,kcg er hno ?_,_,_,_,rfl⟩)
    unfold nevR
    rw[decide_eq_false hw]
    rfl
  ·rintro σ H' ⟨rfl,hno,v3,v4,v5,rfl⟩
   have z:=kmc (by rw[ND];exact hr.len) hno
   unfold kfG at k
   rw[z] at k
   exact k
theorem QW:kar ["rules","used","number","word","one","other"] ["rules","used","number"] (kai kcp):=by ac_rfl
theorem ke3(W:WB K mg d base):FO P w W 1 d.YH d.YI ["rules","used","number"] (khq kfN):=by
 exists W.Vz.F,QW
 ·obtain⟨rl,u,ra,rs,used,n,rfl,hrl,hr,hu,k⟩:=h
  refine⟨_,kab (kbo PassesOwn.never rfl (kaC (K:=K) (pv 0)) (kbJ (K:=K) (n:=3) rfl (kaD (pgn (i:=3) QW.nd) (kaD (pgn (i:=4) QW.nd) (kaD (pgn (i:=5) QW.nd) kbI))))
   (kag (ps_if (PW.pt (kbn (kan op_eq (pv 3) kbD (kau _)) (kbn (kan op_eq (pv 4) (pv 2) (kau _)) (kba (kan kc1 (pv 5) (pv 1) (by with_unfolding_all rfl)))))) (kag (kap pe_bl)) (kav))))
   (kag (kap pe_bl)),?_⟩
  refine⟨_,rfl,rl,rfl,⟨_,SqL.of hrl⟩,ka7 (xs:=ra.map V.ref) (fun i σ H'=>H'=H∧(∀r∈rs.take i,ahdR used n r=false)∧∃v3 v4 v5:Option V,σ=[some (.ref rl),some (.ref u),some (iV n),v3,v4,v5])
   ⟨rfl,(fun r hr=>by simp at hr),none,none,none,rfl⟩ (fun i σ H' _ h=>by rw[h.1];exact SqL.of hrl) ?_ ?_⟩
  ·rintro i y σ H' hy ⟨rfl,hno,v3,v4,v5,rfl⟩
   obtain⟨a,ea,rfl⟩:=kbZ hy
   obtain⟨r,er,hra⟩:=hr.at ea
   have yes:ahdR used n r=true→Q (.bl true) H':=fun e=>by
    have z:=kkR (f:=ahdR used n) er e
    unfold kfN at k
    rw[z] at k
    exact k
   rwa[a,8,SqT.of hra,6,_,8,_,8,9,?_]
   rwa[8,6,8,?_]
   show if decide (V.str r.w=V.str "ahead")=true then _ else _
   rw[eq_str]
   by_cases hw:r.w=("ahead" :Str)
   ·rw[decide_eq_true hw]
    refine iteT ⟨_,rfl,_,rfl,rfl,_,rfl,?_⟩
    show if decide (iV r.a=iV n)=true then _ else _
    rw[kfK]
    by_cases ha:r.a=n
    ·rw[decide_eq_true ha]
     refine iteT ⟨_,rfl,_,rfl,u,_,rfl, .inl (SqL.of hu),rfl,kbK _,_,rfl,?_⟩
     rw[if_neg NP,kc8]
     cases hb:used.contains r.b with
     |true=>exact iteT (yes (by unfold ahdR;rw[decide_eq_true hw,decide_eq_true ha,hb];rfl))
     |false=>exact iteF ⟨rfl,kcg er hno (by unfold ahdR;rw[decide_eq_true hw,decide_eq_true ha,hb];rfl),_,_,_,rfl⟩
    ·rw[decide_eq_false ha]
     exact iteF (iteF ⟨rfl,kcg er hno (by unfold ahdR;rw[decide_eq_true hw,decide_eq_false ha];rfl),_,_,_,rfl⟩)
   ·rw[decide_eq_false hw]
    refine iteF (iteF ⟨rfl,kcg er hno ?_,_,_,_,rfl⟩)
    unfold ahdR
    rw[decide_eq_false hw]
    rfl
  ·rintro σ H' ⟨rfl,hno,v3,v4,v5,rfl⟩
   have z:=kmc (by rw[ND];exact hr.len) hno
   unfold kfN at k
   rw[z] at k
   exact k
inductive kgO(vs:List V)(H:Hp)(Q:VK)(E_:XK):Prop
 |ct(rl u:Addr)(ra:List Addr)(rs:List Rul)(order:List Nat)(_:vs=[.ref rl, .ref u])(_:H rl>>(.lst (ra.map V.ref)))(_:P2 (fun a r=>RulIs H a r) ra rs)(_:H u>>(.lst (order.map iV)))(_:Q (pV (onlyM rs order)) H):kgO vs H Q E_
theorem kiC{f:Rul→Bool}:∀{rs:List Rul}{i:Nat}{r:Rul},rs[i]?>>r→f r=true→(∀q∈rs.take i,f q=false)→rs.find? f>>r
 |[],i,r,e,_,_=>by simp at e
 |q::rs,0,r,e,h,_=>by
  have e2:q=r:=by simpa using e
  subst e2
  simp[h]
 |q::rs,i+1,r,e,h,hno=>by
  have h1:=hno q (by simp)
  rw[List.find?_cons_of_neg (by rw[h1];simp)]
  exact kiC (by simpa using e) h fun z hz=>hno z (by simp[hz])
theorem kmR{f:Rul→Bool}{rs:List Rul}{n:Nat}(hn:n=rs.length)(h:∀r∈rs.take n,f r=false):rs.find? f=none:=by
 rw[hn,Ma] at h
 exact List.find?_eq_none.mpr fun r hr=>by rw[h r hr];simp
theorem QX:kar ["rules","order","word","one","other"] ["rules","order"] (kai kbE):=by ac_rfl
theorem kcl(W:WB K mg d base):FO P w W 1 d.YJ d.YK ["rules","order"] kgO:=by
 exists W.Xk.F,QX
 ·obtain⟨rl,u,ra,rs,order,rfl,hrl,hr,hu,k⟩:=h
  refine⟨_,kab (kbo PassesOwn.never rfl (kaC (K:=K) (pv 0)) (kbJ (K:=K) (n:=3) rfl (kaD (pgn (i:=2) QX.nd) (kaD (pgn (i:=3) QX.nd) (kaD (pgn (i:=4) QX.nd) kbI))))
   (kag (ps_if (PW.pt (kbn (kan op_eq (pv 2) kbD (kau _)) (kbn (kan kc1 (pv 3) (pv 1) (by with_unfolding_all rfl)) (kba (kan kgW (pv 4) (pv 1) (by with_unfolding_all rfl)))))) (kag (kap (pv 3))) (kav))))
   (kag (kap kbf)),?_⟩
  refine⟨_,rfl,rl,rfl,⟨_,SqL.of hrl⟩,ka7 (xs:=ra.map V.ref) (fun i σ H'=>H'=H∧(∀r∈rs.take i,loneM order r=false)∧∃v3 v4 v5:Option V,σ=[some (.ref rl),some (.ref u),v3,v4,v5])
   ⟨rfl,(fun r hr=>by simp at hr),none,none,none,rfl⟩ (fun i σ H' _ h=>by rw[h.1];exact SqL.of hrl) ?_ ?_⟩
  ·rintro i y σ H' hy ⟨rfl,hno,v3,v4,v5,rfl⟩
   obtain⟨a,ea,rfl⟩:=kbZ hy
   obtain⟨r,er,hra⟩:=hr.at ea
   rwa[a,8,SqT.of hra,6,_,8,_,8,9,?_]
   rwa[8,6,8,?_]
   show if decide (V.str r.w=V.str "only")=true then _ else _
   rw[eq_str]
   by_cases hw:r.w=("only" :Str)
   ·rw[decide_eq_true hw]
    refine iteT ⟨_,rfl,_,rfl,u,_,rfl, .inl (SqL.of hu),rfl,kbK _,_,rfl,?_⟩
    rw[if_neg NP,kc8]
    cases ha:order.contains r.a with
    | true=>
     refine iteT ⟨_,rfl,_,rfl,u,_,rfl, .inl (SqL.of hu),rfl,kbK _,_,rfl,?_⟩
     rw[if_pos rfl,kc8]
     cases hb:order.contains r.b with
     |true=>exact iteF ⟨rfl,kcg er hno (by unfold loneM;rw[decide_eq_true hw,ha,hb];rfl),_,_,_,rfl⟩
     |false=>
      refine iteT ⟨_,rfl,?_⟩
      have z:=kiC (f:=loneM order) er (by unfold loneM;rw[decide_eq_true hw,ha,hb];rfl) hno
      unfold onlyM at k
      rw[z] at k
      exact k
    |false=>exact iteF (iteF ⟨rfl,kcg er hno (by unfold loneM;rw[decide_eq_true hw,ha];rfl),_,_,_,rfl⟩)
   ·rw[decide_eq_false hw]
    refine iteF (iteF ⟨rfl,kcg er hno ?_,_,_,_,rfl⟩)
    unfold loneM
    rw[decide_eq_false hw]
    rfl
  ·rintro σ H' ⟨rfl,hno,v3,v4,v5,rfl⟩
   have z:=kmR (by rw[ND];exact hr.len) hno
   unfold onlyM at k
   rw[z] at k
   exact k
inductive khZ(d:D)(vs:List V)(H:Hp)(Q:VK)(E_:XK):Prop
 |ct(t h u:Addr)(T:TillD)(hand:List Int)(used:List Nat)(n:Nat)(V:Vch)(_:vs=[.ref t, .ref h, .ref u,iV n])(_:TillIs d H t T)(_:H h>>(.lst (hand.map L2.V.int)))(_:H u>>(.lst (used.map iV)))(_:T.vs[n]?>>V)(_:hand.length=T.vs.length)(_:Q (sV (wordM V T.rs hand used n)) H):khZ d vs H Q E_
theorem kei:kar ["till","hand","used","number"] ["till","hand","used","number"] (kai kb6):=by ac_rfl
theorem keo(W:WB K mg d base):FO P w W 2 d.YD d.YE ["till","hand","used","number"] (khZ d):=by
 exists W.Vx.F,kei
 ·obtain⟨t,h,u,T,hand,used,n,Vc,rfl,hT,hh,hu,hn,hl,k⟩:=h
  obtain⟨dx,fs,p,vl,rl,va,ra,ht,t1,t2,t3,t4,hp,hvl,hva,hrl,hra⟩:=hT
  exists UY,ke2,W
  exists UZ,ke3,W
  refine⟨_,kab (ps_if (kan op_gt (pe_op kbu (pe_bm Mt DX DY kis (pv 2) (kaa (pv 3) kae)) kaf) (pe_ix (r:=rIxL K) kaG (pv 1) (pv 3) (fun _ _=>rfl)) (kau _)) (kag (kap kbD)) (kav))
   (kab (ps_if (PW.pt (kbn (ka0 (kah (K:=K) (kah (K:=K) (pe_ix (r:=rIxL K) kaG (kah (K:=K) (pv 0) rfl) (pv 3) (fun _ _=>rfl)) rfl) rfl)) (kba (kan kc1 (pv 3) (pv 2) (by with_unfolding_all rfl))))) (kag (kap kbD)) (kav))
   (kab (ps_if (ka0 (pcl UY hr W.Vy (kaa (kah (K:=K) (pv 0) rfl) (kaa (pv 2) (kaa (pv 3) kae))))) (kag (kap kbD)) (kav))
   (kab (ps_if (ka0 (pcl UZ hr W.Vz (kaa (kah (K:=K) (pv 0) rfl) (kaa (pv 2) (kaa (pv 3) kae))))) (kag (kap kbD)) (kav))
   (kag (kap kbf))))),?_⟩
  obtain⟨v,ev⟩:=at_of (xs:=va) (i:=n) (by rw[hva.len];exact at_lt hn)
  obtain⟨Vc',eV',hV⟩:=hva.at ev
  rw[hn] at eV'
  cases eV'
  obtain⟨mA,dxv,fsv,hv,lvm,_,⟨dxm,fsm,hm,m1,m2,m3,m4,m5,m6⟩,hh',_⟩:=id hV
  obtain⟨z,ez⟩:=at_of (xs:=hand) (i:=n) (by rw[hl];exact at_lt hn)
  have eu:H u>>(.lst ((used.map fun(i:Nat)=>(i:Int)).map V.int)):=by rw[hu,N7];rfl
  have eg:hand.getD n 0=z:=by rw[N1,ez];rfl
  rwa[8, .inl ⟨rfl,_,SqL.of hu⟩,8,u,9,eu,9,8,8,h,_,9,SqL.of hh,kaL (v:=.int z) (by rw[NO,ez];rfl),9,8,?_]
  rw[kgu]
  unfold wordM at k
  rw[eg] at k
  by_cases c1:z<(used.count n:Int)+1
  ·rw[if_pos c1] at k
   rw[show decide ((used.count n:Int)+1 > z)=true from decide_eq_true c1]
   exact iteT k
  rw[if_neg c1] at k
  rw[show decide ((used.count n:Int)+1 > z)=false from decide_eq_false c1]
  refine iteF ?_
  rwa[8,t,d.qg,dx,fs,8,ht,W.qg.cl,W.qW,t2,8,vl,_,9,SqL.of hvl,kaL (v:=.ref v) (by rw[NO,ev];rfl),v,clsOf d Vc.so,dxv,fsv,8,hv,cl_of W hh',na_of W hh',lvm,mA,d.qi,dxm,fsm,8,hm,W.qi.cl,W.VR,m5,Vc.ms.once,6,?_]
  cases ho:Vc.ms.once with
  | true=>
   rw[ho,Bool.true_and] at k
   refine iteT ⟨_,rfl,_,rfl,u,_,rfl, .inl (SqL.of hu),rfl,kbK _,_,rfl,?_⟩
   rw[if_neg NP,kc8]
   cases hc:used.contains n with
   |true=>
    rw[hc,if_pos rfl] at k
    exact iteT k
   | false=>
    rw[hc,if_neg NP] at k
    refine iteF ?_
    rwa[8,t,d.qg,dx,fs,8,ht,W.qg.cl,W.qQ,t3,8,8,rl,u,ra,T.rs,used,n,6,hrl,hra,hu,8,?_]
    cases h1:kfG T.rs used n with
    |true=>
     rw[h1,if_pos rfl] at k
     exact iteT k
    | false=>
     rw[h1,if_neg NP] at k
     refine iteF ⟨_,rfl,t,d.qg,dx,fs,_,rfl,ht,W.qg.cl,W.qQ,t3,_,rfl,_,rfl,rl,u,ra,T.rs,used,n,rfl,hrl,hra,hu,_,rfl,?_⟩
     cases h2:kfN T.rs used n with
     |true=>
      rw[h2,if_pos rfl] at k
      exact iteT k
     |false=>
      rw[h2,if_neg NP] at k
      exact iteF k
  | false=>
   rw[ho,Dd,if_neg NP] at k
   refine iteF (iteF ?_)
   rwa[8,t,d.qg,dx,fs,8,ht,W.qg.cl,W.qQ,t3,8,8,rl,u,ra,T.rs,used,n,6,hrl,hra,hu,8,?_]
   cases h1:kfG T.rs used n with
   |true=>
    rw[h1,if_pos rfl] at k
    exact iteT k
   | false=>
    rw[h1,if_neg NP] at k
    refine iteF ⟨_,rfl,t,d.qg,dx,fs,_,rfl,ht,W.qg.cl,W.qQ,t3,_,rfl,_,rfl,rl,u,ra,T.rs,used,n,rfl,hrl,hra,hu,_,rfl,?_⟩
    cases h2:kfN T.rs used n with
    |true=>
     rw[h2,if_pos rfl] at k
     exact iteT k
    |false=>
     rw[h2,if_neg NP] at k
     exact iteF k
inductive kjm(d:D)(vs:List V)(H:Hp)(Q:VK)(E_:XK):Prop
 |ct(H0:Hp)(w dx t b h:Addr)(hand:List Int)(B:Bask)(_:vs=[.ref w, .ref t, .ref b, .ref h])(_:H0 w=none)(_:Same H0 H)(_:H w>>(.ins d.c_Way dx []))(_:H0 h>>(.lst (hand.map V.int)))(_:BaskIs d.qe d.qf H0 b B)(_:B.rs.length≤12)(_:(∀r∈B.rs,r.Ok))(_:∀(H':Hp)(x:Addr),Same H0 H'→H0 x=none→WayN d 5 H0 H' w t b x hand []→StndIs d.qd H' x (stnd0 B)→Q .non H'):kjm d vs H Q E_
theorem khw:kar ["self","till","basket","hand"] ["self","till","basket","hand"] (kai kdV):=by ac_rfl
theorem kcf(W:WB K mg d base):FO P w W 4 d.ZI d.ZJ ["self","till","basket","hand"] (kjm d):=by
 exists W.qx.F,khw
 ·obtain⟨H0,wy,dx,t,b,h,hand,B,rfl,fw,s0,hw,hh,hb,hB,hok,k⟩:=h
  exists XQ,kcO,W
  refine⟨_,kab (kaz (pv 0) (pv 1) rfl)
   (kab (kaz (pv 0) (pv 2) rfl)
   (kab (kaz (pv 0) (kaF (r:=kaS K) kax (by rfl) W.B.list ka9 (kaa (pv 3) kae)) rfl)
   (kab (kaz (pv 0) (kaM kae) rfl)
   (kag (kaz (pv 0) (kaT (W.Qs.mk' W.qd) XQ hr rfl W.qd.m W.Qs.b .nil pass0 (kaa (pv 2) kae)) rfl))))),?_⟩
  exists Y4
  rwa[8,8,wy,d.c_Way,dx,[],6,hw,W.c_Way.cl,W.qE,by decide,?_]
  have s1:Same H0 (upd H wy (.ins d.c_Way dx (putF "till" (.ref t) []))):=kat fw s0 (nx hw)
  have hw1:(upd H wy (.ins d.c_Way dx (putF "till" (.ref t) []))) wy>>(.ins d.c_Way dx (putF "till" (.ref t) [])):=kad
  generalize upd H wy (.ins d.c_Way dx (putF "till" (.ref t) []))=H1 at *
  nomatch 8,wy,d.c_Way,dx,8,hw1,W.c_Way.cl,W.QO,few (NJ (kal (n:=0) (NG _)) (by decide)),?_
  have s2:Same H0 (upd H1 wy (.ins d.c_Way dx (putF "basket" (.ref b) (putF "till" (.ref t) [])))):=kat fw s1 (nx hw1)
  have hw2:(upd H1 wy (.ins d.c_Way dx (putF "basket" (.ref b) (putF "till" (.ref t) [])))) wy>>(.ins d.c_Way dx (putF "basket" (.ref b) (putF "till" (.ref t) []))):=kad
  generalize upd H1 wy (.ins d.c_Way dx (putF "basket" (.ref b) (putF "till" (.ref t) [])))=H2 at *
  nomatch h,8, .inl (SqL.of (s2 _ _ hh)),fun h' hh'=>?_
  have n3:=kam (o:=.lst (hand.map V.int)) hh'
  have nh:h'≠wy:=(kaj hw2 hh').symm
  have s3:=s2.trans n3
  have e3:(upd H2 h' (.lst (hand.map V.int))) h'>>(.lst (hand.map V.int)):=kad
  have hw3:=n3 _ _ hw2
  clear n3
  generalize upd H2 h' (.lst (hand.map V.int))=H3 at *
  nomatch wy,d.c_Way,dx,8,hw3,W.c_Way.cl,W.Xt,few (NJ (kal (kal (n:=0) (NG _))) (by decide)),?_
  have s4:Same H0 (upd H3 wy (.ins d.c_Way dx (putF "hand" (.ref h') (putF "basket" (.ref b) (putF "till" (.ref t) []))))):=kat fw s3 (nx hw3)
  have e4:(upd H3 wy (.ins d.c_Way dx (putF "hand" (.ref h') (putF "basket" (.ref b) (putF "till" (.ref t) []))))) h'>>(.lst (hand.map V.int)):=by rw[kak nh];exact e3
  have hw4:(upd H3 wy (.ins d.c_Way dx (putF "hand" (.ref h') (putF "basket" (.ref b) (putF "till" (.ref t) []))))) wy>>(.ins d.c_Way dx (putF "hand" (.ref h') (putF "basket" (.ref b) (putF "till" (.ref t) [])))):=kad
  generalize upd H3 wy (.ins d.c_Way dx (putF "hand" (.ref h') (putF "basket" (.ref b) (putF "till" (.ref t) []))))=H4 at *
  symm
  exists Y4
  rwa[by decide,fun u hu=>?_]
  have n5:=kam (o:=.lst []) hu
  have nu:u≠wy:=(kaj hw4 hu).symm
  have s5:=s4.trans n5
  have e5:=n5 _ _ e4
  have eu5:(upd H4 u (.lst [])) u>>(.lst (([]:List Nat).map iV)):=kad
  have hw5:=n5 _ _ hw4
  clear n5
  generalize upd H4 u (.lst [])=H5 at *
  nomatch wy,d.c_Way,dx,8,hw5,W.c_Way.cl,W.qP,few (NJ (kal (kal (kal (n:=0) (NG _)))) (by decide)),?_
  have s6:Same H0 (upd H5 wy (.ins d.c_Way dx (putF "used" (.ref u) (putF "hand" (.ref h') (putF "basket" (.ref b) (putF "till" (.ref t) [])))))):=kat fw s5 (nx hw5)
  have e6:(upd H5 wy (.ins d.c_Way dx (putF "used" (.ref u) (putF "hand" (.ref h') (putF "basket" (.ref b) (putF "till" (.ref t) [])))))) h'>>(.lst (hand.map V.int)):=by rw[kak nh];exact e5
  have eu6:(upd H5 wy (.ins d.c_Way dx (putF "used" (.ref u) (putF "hand" (.ref h') (putF "basket" (.ref b) (putF "till" (.ref t) [])))))) u>>(.lst (([]:List Nat).map iV)):=by rw[kak nu];exact eu5
  have hw6:(upd H5 wy (.ins d.c_Way dx (putF "used" (.ref u) (putF "hand" (.ref h') (putF "basket" (.ref b) (putF "till" (.ref t) [])))))) wy>>(.ins d.c_Way dx (putF "used" (.ref u) (putF "hand" (.ref h') (putF "basket" (.ref b) (putF "till" (.ref t) []))))):=kad
  generalize upd H5 wy (.ins d.c_Way dx (putF "used" (.ref u) (putF "hand" (.ref h') (putF "basket" (.ref b) (putF "till" (.ref t) [])))))=H6 at *
  nomatch kmH (hb.same s6) hB hok fun H7 x s7 f7 hx=>?_
  have hw7:=s7 _ _ hw6
  have fx:H0 x=none:=s6.free f7
  have nxw:x≠wy:=(kaj hw6 f7).symm
  nomatch wy,d.c_Way,dx,8,hw7,W.c_Way.cl,W.qV,few (NJ (kal (kal (kal (kal (n:=0) (NG _))))) (by decide)),?_
  symm
  refine k _ x (kat fw (s6.trans s7) (nx hw7)) fx ⟨fw,dx,_,h',u,none_of s2 hh',none_of s4 hu,kad,?_,?_,?_,?_,?_,?_,?_,?_,?_,?_,?_,?_⟩ ?_
  ·ac_nf
  ·ac_nf
  ·ac_nf
  ·ac_nf
  ·ac_nf
  ·ac_nf
   rfl
  ·ac_nf
   rfl
  ·ac_nf
   rfl
  ·ac_nf
   rfl
  ·exact NJ (kal (kal (kal (kal (kal (n:=0) (NG _)))))) (by decide)
  ·rw[kak nh];exact s7 _ _ e6
  ·rw[kak nu];exact s7 _ _ eu6
  ·obtain⟨o,pp,mm,⟨dxs,fss,hxs,q⟩,ho,hpp,hmm⟩:=hx
   symm
   rwa[o,pp,mm,⟨dxs,fss,by rw[kak nxw];exact hxs,q⟩,by rw[kak (ne_of ho hw7 (by intro z;cases z))];exact ho,by rw[kak (ne_of hpp hw7 (by intro z;cases z))];exact hpp,by rw[kak (ne_of hmm hw7 (by intro z;cases z))];exact hmm]
theorem kg0{d:D}{H:Hp}{t b h:Addr}{hand:List Int}{B:Bask}{R:Addr→Hp→Prop}{E:XK}(hh:H h>>(.lst (hand.map V.int)))(hb:BaskIs d.qe d.qf H b B)(hB:B.rs.length≤12)(hok:∀r∈B.rs,r.Ok)
  (k:∀(H':Hp)(w x:Addr),Same H H'→H w=none→H x=none→WayN d 5 H H' w t b x hand []→StndIs d.qd H' x (stnd0 B)→R w H'):
  ∀w dx,H w=none→H dx=none→dx≠w→kjm d [.ref w, .ref t, .ref b, .ref h] (upd (upd H dx (.own w)) w (.ins d.c_Way dx [])) (fun v H2=>v=.non∧R w H2) E:=
 fun w dx nw nd _=>⟨H,w,dx,t,b,h,hand,B,rfl,nw,ka2 nw nd,kad,hh,hb,hB,hok,fun H' x s f hW hx=>⟨rfl,k H' w x s nw f hW hx⟩⟩
inductive kgE(d:D)(vs:List V)(H:Hp)(Q:VK)(E_:XK):Prop
 |ct(wy t b x:Addr)(T:TillD)(B:Bask)(S:Stnd)(hand:List Int)(used:List Nat)(n:Nat)(V:Vch)(_:vs=[.ref wy,iV n])(_:WayIs d H wy t b x hand used)(_:TillIs d H t T)(_:BaskIs d.qe d.qf H b B)(_:StndIs d.qd H x S)(_:Wf T.ps B S)(_:VchOk T.ps V)(_:T.vs[n]?>>V)(_:hand.length=T.vs.length)(_:∀(H':Hp),Same H H'→Q (dueM V T B hand used S n) H'):kgE d vs H Q E_
theorem Ub:kar ["self","number","word"] ["self","number"] (kai kcw):=by ac_rfl
theorem kbA(W:WB K mg d base):FO P w W 5 d.ZK d.ZL ["self","number"] (kgE d):=by
 exists W.qF.F,Ub
 ·obtain⟨wy,t,b,x,T,B,S,hand,used,n,Vc,rfl,hW,hT,hB,hS,wf,vo,hn,hl,k⟩:=h
  obtain⟨dxw,fsw,h,u,hw,w1,w2,w3,w4,w5,w6,w7,w8,w9,w10,hh,hu⟩:=id hW
  obtain⟨dx,fs,p,vl,rl,va,ra,ht,t1,t2,t3,t4,hp,hvl,hva,hrl,hra⟩:=id hT
  exists U0,keo,W
  exists U1,kgY,W
  have hr2:Room 2 _:=hr.mono (by decide)
  refine⟨_,kab (psl (i:=2) Ub.nd (pcl U0 hr2 W.Vx (kaa (kah (K:=K) (pv 0) rfl) (kaa (kah (K:=K) (pv 0) rfl) (kaa (kah (K:=K) (pv 0) rfl) (kaa (pv 1) kae))))))
   (kab (ps_if (kan kdZ (pv 2) kbf (kau _)) (kag (kap (pv 2))) (kav))
   (kag (kap (pcl U1 hr W.Vn (kaa (pe_ix (r:=rIxL K) kaG (kah (K:=K) (kah (K:=K) (pv 0) rfl) rfl) (pv 1) (fun _ _=>rfl)) (kaa (kah (K:=K) (kah (K:=K) (pv 0) rfl) rfl) (kaa (kah (K:=K) (pv 0) rfl) (kaa (kah (K:=K) (pv 0) rfl) kae)))))))),?_⟩
  obtain⟨v,ev⟩:=at_of (xs:=va) (i:=n) (by rw[hva.len];exact at_lt hn)
  obtain⟨Vc',eV',hV⟩:=hva.at ev
  rw[hn] at eV'
  cases eV'
  rwa[8,wy,d.c_Way,dxw,fsw,8,hw,W.c_Way.cl,W.qE,w1,8,wy,d.c_Way,dxw,fsw,8,hw,W.c_Way.cl,W.Xt,w3,8,wy,d.c_Way,dxw,fsw,8,hw,W.c_Way.cl,W.qP,w4,8,t,h,u,T,hand,used,n,Vc,6,hT,hh,hu,hn,hl,?_]
  unfold dueM at k
  cases e:wordM Vc T.rs hand used n with
  |some z=>
   rw[e] at k
   rwa[8,6,8,?_]
   show if(!decide (V.str z=V.non))=true then _ else _
   rw[show(!decide (V.str z=V.non))=true by simp]
   exact iteT ⟨_,rfl,k H (Same.refl _)⟩
  |none=>
   rw[e] at k
   rwa[8,6,8,?_]
   show if(!decide (V.non=V.non))=true then _ else _
   rw[show(!decide (V.non=V.non))=false by simp]
   refine iteF ⟨_,rfl,wy,d.c_Way,dxw,fsw,_,rfl,hw,W.c_Way.cl,W.qE,w1,t,d.qg,dx,fs,_,rfl,ht,W.qg.cl,W.qW,t2,_,rfl,vl,_,_,_,rfl,rfl,SqL.of hvl,kaL (v:=.ref v) (by rw[NO,ev];rfl),?_⟩
   rwa[8,wy,d.c_Way,dxw,fsw,8,hw,W.c_Way.cl,W.qE,w1,t,d.qg,dx,fs,8,ht,W.qg.cl,W.Qv,t1,8,wy,d.c_Way,dxw,fsw,8,hw,W.c_Way.cl,W.QO,w2,8,wy,d.c_Way,dxw,fsw,8,hw,W.c_Way.cl,W.qV,w5,?_]
   rwa[v,p,b,x,Vc,T.ps,B,S,6,hV,SqL.of hp,hB,hS,wf,vo,k]
inductive kib(d:D)(vs:List V)(H:Hp)(Q:VK)(E_:XK):Prop
 |ct(wy t b x:Addr)(T:TillD)(B:Bask)(S:Stnd)(hand:List Int)(used:List Nat)(n:Nat)(V:Vch)(_:vs=[.ref wy,iV n])(_:WayIs d H wy t b x hand used)(_:TillIs d H t T)(_:BaskIs d.qe d.qf H b B)(_:StndIs d.qd H x S)(_:Wf T.ps B S)(_:VchOk T.ps V)(_:T.vs[n]?>>V)(_:used.length<64)(_:∀(H':Hp)(wy' x':Addr),Same H H'→H wy'=none→WayN d 7 H H' wy' t b x' hand (used++[n])→StndN d.qd H H' x' (aftM V T.ps (kds B) S)→Q (.ref wy') H'):kib d vs H Q E_
theorem Uc:kar ["self","number","further"] ["self","number"] (kai kcY):=by ac_rfl
theorem kb4(W:WB K mg d base):FO P w W 6 d.ZM d.ZN ["self","number"] (kib d):=by
 exists W.qG.F,Uc
 ·obtain⟨wy,t,b,x,T,B,S,hand,used,n,Vc,rfl,hW,hT,hB,hS,wf,vo,hn,hl,k⟩:=h
  obtain⟨dxw,fsw,h,u,hw,w1,w2,w3,w4,w5,w6,w7,w8,w9,w10,hh,hu⟩:=id hW
  obtain⟨dx,fs,p,vl,rl,va,ra,ht,t1,t2,t3,t4,hp,hvl,hva,hrl,hra⟩:=id hT
  exists qK,kcf,W
  exists U2,klc,W
  refine⟨_,kab (psl (i:=2) Uc.nd (kaT (W.qx.mk' W.c_Way) qK hr rfl W.c_Way.m W.qx.b .nil pass0 (kaa (kah (K:=K) (pv 0) rfl) (kaa (kah (K:=K) (pv 0) rfl) (kaa (kah (K:=K) (pv 0) rfl) kae)))))
   (kab (kaz (pv 2) (pe_op ke0 (kah (K:=K) (pv 0) rfl) (kaM (kaa (pv 1) kae))) rfl)
   (kab (kaz (pv 2) (pcl U2 hr W.Vp (kaa (pe_ix (r:=rIxL K) kaG (kah (K:=K) (kah (K:=K) (pv 0) rfl) rfl) (pv 1) (fun _ _=>rfl)) (kaa (kah (K:=K) (kah (K:=K) (pv 0) rfl) rfl) (kaa (kah (K:=K) (pv 0) rfl) (kaa (kah (K:=K) (pv 0) rfl) kae))))) rfl)
   (kag (kap (pv 2))))),?_⟩
  obtain⟨v,ev⟩:=at_of (xs:=va) (i:=n) (by rw[hva.len];exact at_lt hn)
  obtain⟨Vc',eV',hV⟩:=hva.at ev
  rw[hn] at eV'
  cases eV'
  exists Y4
  rwa[8,wy,d.c_Way,dxw,fsw,8,hw,W.c_Way.cl,W.qE,w1,8,wy,d.c_Way,dxw,fsw,8,hw,W.c_Way.cl,W.QO,w2,8,wy,d.c_Way,dxw,fsw,8,hw,W.c_Way.cl,W.Xt,w3,kg0 hh hB wf.nl wf.ok fun H1 y x1 s1 fy fx1 hy hx1=>?_]
  obtain⟨_,dxy,fsy,h1,u1,fh1,_,hyy,y1,y2,y3,y4,y5,y6,y7,y8,y9,y10,hh1,hu1⟩:=hy
  nomatch wy,d.c_Way,dxw,fsw,8,s1 _ _ hw,W.c_Way.cl,W.qP,w4,8,(by show 1≤sizeLine;decide),fun q1 hq1=>?_
  have n2:=kam (o:=.lst [iV n]) hq1
  have eq1:(upd H1 q1 (.lst [iV n])) q1>>(.lst [iV n]):=kad
  have s2:=s1.trans n2
  have hy2:=n2 _ _ hyy
  have hh2:=n2 _ _ hh1
  clear n2
  generalize upd H1 q1 (.lst [iV n])=H2 at *
  symm
  exists Y4
  rwa[u,q1,9,s2 _ _ hu,eq1,NR (kas (by rw[ND];show _+1≤1000;lia)),fun q2 hq2=>?_]
  have n3:=kam (o:=.lst (used.map iV++[iV n])) hq2
  have eq2:(upd H2 q2 (.lst (used.map iV++[iV n]))) q2>>(.lst ((used++[n]).map iV)):=by rw[kad,NL];rfl
  have s3:=s2.trans n3
  have hy3:=n3 _ _ hy2
  have hh3:=n3 _ _ hh2
  have nq2:q2≠y:=(kaj hy2 hq2).symm
  clear n3
  generalize upd H2 q2 (.lst (used.map iV++[iV n]))=H3 at *
  have nh1:h1≠y:=ne_of hh3 hy3 (by intro z;cases z)
  nomatch y,d.c_Way,dxy,fsy,6,hy3,W.c_Way.cl,W.qP,few (NJ y10 (by decide)),?_
  have s4:Same H (upd H3 y (.ins d.c_Way dxy (putF "used" (.ref q2) fsy))):=kat fy s3 (nx hy3)
  have eq4:(upd H3 y (.ins d.c_Way dxy (putF "used" (.ref q2) fsy))) q2>>(.lst ((used++[n]).map iV)):=by rw[kak nq2];exact eq2
  have hh4:(upd H3 y (.ins d.c_Way dxy (putF "used" (.ref q2) fsy))) h1>>(.lst (hand.map V.int)):=by rw[kak nh1];exact hh3
  have hy4:(upd H3 y (.ins d.c_Way dxy (putF "used" (.ref q2) fsy))) y>>(.ins d.c_Way dxy (putF "used" (.ref q2) fsy)):=kad
  generalize upd H3 y (.ins d.c_Way dxy (putF "used" (.ref q2) fsy))=H4 at *
  nomatch wy,d.c_Way,dxw,fsw,8,s4 _ _ hw,W.c_Way.cl,W.qE,w1,t,d.qg,dx,fs,8,s4 _ _ ht,W.qg.cl,W.qW,t2,8,vl,_,9,SqL.of (s4 _ _ hvl),kaL (v:=.ref v) (by rw[NO,ev];rfl),?_
  nomatch wy,d.c_Way,dxw,fsw,8,s4 _ _ hw,W.c_Way.cl,W.qE,w1,t,d.qg,dx,fs,8,s4 _ _ ht,W.qg.cl,W.Qv,t1,8,wy,d.c_Way,dxw,fsw,8,s4 _ _ hw,W.c_Way.cl,W.QO,w2,8,wy,d.c_Way,dxw,fsw,8,s4 _ _ hw,W.c_Way.cl,W.qV,w5,?_
  symm
  exists Y4
  rwa[v,p,b,x,Vc,T.ps,B,S,6,hV.same s4,SqL.of (s4 _ _ hp),hB.same s4,hS.same s4,wf,vo,fun H5 x' s5 f5 ⟨_,o,pp,mm,⟨dxs,fss,hxs,q⟩,fo,fpp,fmm,ho,hpp,hmm⟩=>?_]
  have hy5:=s5 _ _ hy4
  have hh5:=s5 _ _ hh4
  have eq5:=s5 _ _ eq4
  have nx':x'≠y:=(kaj hy4 f5).symm
  nomatch y,d.c_Way,dxy,8,hy5,W.c_Way.cl,W.qV,few (NJ (kal y10) (by decide)),?_
  nomatch k _ y x' (kat fy (s4.trans s5) (nx hy5)) fy ⟨fy,dxy,_,h1,q2,fh1,none_of s2 hq2,kad,?_,?_,?_,?_,?_,?_,?_,?_,?_,?_,?_,?_⟩ ?_
  ·ac_nf
   symm
   exact y1
  ·ac_nf
   symm
   exact y2
  ·ac_nf
   symm
   exact y3
  ·ac_nf
  ·ac_nf
  ·ac_nf
   symm
   exact y6
  ·ac_nf
   symm
   exact y7
  ·ac_nf
   symm
   exact y8
  ·ac_nf
   symm
   exact y9
  ·exact NJ (kal (kal y10)) (by decide)
  ·rw[kak nh1];exact hh5
  ·rw[kak nq2];exact eq5
  ·rwa[none_of s4 f5,o,pp,mm,⟨dxs,fss,by rw[kak nx'];exact hxs,q⟩,none_of s4 fo,none_of s4 fpp,none_of s4 fmm,by rw[kak (ne_of ho hy5 (by intro z;cases z))];exact ho,by rw[kak (ne_of hpp hy5 (by intro z;cases z))];exact hpp,by rw[kak (ne_of hmm hy5 (by intro z;cases z))];exact hmm]
inductive kju(d:D)(vs:List V)(H:Hp)(Q:VK)(E_:XK):Prop
 |ct(wy t b x:Addr)(T:TillD)(hand:List Int)(used:List Nat)(_:vs=[.ref wy])(_:WayIs d H wy t b x hand used)(_:TillIs d H t T)(_:Q (.bl (onlyM T.rs used).isNone) H):kju d vs H Q E_
theorem kek:kar ["self"] ["self"] (kai kcc):=by ac_rfl
theorem kcN(W:WB K mg d base):FO P w W 2 d.ZQ d.ZR ["self"] (kju d):=by
 exists W.Qu.F,kek
 ·obtain⟨wy,t,b,x,T,hand,used,rfl,hW,hT,k⟩:=h
  obtain⟨dxw,fsw,h,u,hw,w1,w2,w3,w4,w5,w6,w7,w8,w9,w10,hh,hu⟩:=id hW
  obtain⟨dx,fs,p,vl,rl,va,ra,ht,t1,t2,t3,t4,hp,hvl,hva,hrl,hra⟩:=id hT
  exists XR,kcl,W
  rwa[_,kag (kap (kbY keb (pcl XR hr W.Xk (kaa (kah (K:=K) (kah (K:=K) (pv 0) rfl) rfl) (kaa (kah (K:=K) (pv 0) rfl) kae))) kbf (kau _))),?_]
  rwa[8,wy,d.c_Way,dxw,fsw,8,hw,W.c_Way.cl,W.qE,w1,t,d.qg,dx,fs,8,ht,W.qg.cl,W.qQ,t3,8,wy,d.c_Way,dxw,fsw,8,hw,W.c_Way.cl,W.qP,w4,rl,u,ra,T.rs,used,6,hrl,hra,hu,6,?_]
  cases e:onlyM T.rs used with
  |none=>
   rw[e] at k
   show Q (.bl (decide (V.non=V.non))) H
   rw[show decide (V.non=V.non)=true by simp]
   exact k
  |some z=>
   rw[e] at k
   show Q (.bl (decide (V.int (z:Int)=V.non))) H
   rw[show decide (V.int (z:Int)=V.non)=false by simp]
   exact k
noncomputable def canM(T:TillD)(B:Bask)(hand:List Int)(used:List Nat)(S:Stnd)(n:Nat):Bool:=match T.vs[n]? with
 |none=>false
 |some V=>decide (dueM V T B hand used S n=.non)
noncomputable def folM(T:TillD)(B:Bask)(hand:List Int)(used:List Nat)(S:Stnd):List Nat:=(NK T.vs.length).filter (canM T B hand used S)
theorem kiQ{p:Nat→Bool}{i:Nat}:(NK (i+1)).filter p=(NK i).filter p++(if p i=true then [i] else []):=by
 rw[Mx,M8,Ej,DG]
inductive kh8(d:D)(vs:List V)(H:Hp)(Q:VK)(E_:XK):Prop
 |ct(wy t b x:Addr)(T:TillD)(B:Bask)(S:Stnd)(hand:List Int)(used:List Nat)(_:vs=[.ref wy])(_:WayIs d H wy t b x hand used)(_:TillIs d H t T)(_:kb0 T)(_:BaskIs d.qe d.qf H b B)(_:StndIs d.qd H x S)(_:Wf T.ps B S)(_:hand.length=T.vs.length)(_:∀(H':Hp)(p:Addr),Same H H'→H p=none→H' p>>(.lst ((folM T B hand used S).map iV))→Q (.ref p) H'):kh8 d vs H Q E_
theorem kel:kar ["self"] ["self"] (kai kbw):=by ac_rfl
theorem ket(W:WB K mg d base):FO P w W 6 d.ZO d.ZP ["self"] (kh8 d):=by
 exists W.Xu.F,kel
 ·obtain⟨wy,t,b,x,T,B,S,hand,used,rfl,hW,hT,tok,hB,hS,wf,hl,kk⟩:=h
  obtain⟨dxw,fsw,h,u,hw,w1,w2,w3,w4,w5,w6,w7,w8,w9,w10,hh,hu⟩:=id hW
  obtain⟨dx,fs,p,vl,rl,va,ra,ht,t1,t2,t3,t4,hp,hvl,hva,hrl,hra⟩:=id hT
  exists qX,kbA,W
  rwa[_,kag (kap (kga (N:=["number","self"]) (CompScope.of (N:=["number","self"]) (cap:=[none,some 0]) (kai kbw).names ["self"] rfl rfl (by cutsat)) rfl (kcZ rfl W.B.range (kaa (kao (r:=kaJ K) kaq (by rfl) W.B.len b_len (kaa (kah (K:=K) (kah (K:=K) (pv 0) rfl) rfl) kae)) kae)) (fun _ _ _ _=>pgn (i:=0) (show(["number","self"]:List Str).Nodup by cutsat)) (fun _ _ _ _=>kf9 (kan keb (kbm (pv 1) W.c_Way.cl W.qF.me qX hr W.qF.b .nil pass0 (kaa (pv 0) kae)) kbf (kau _))) (fun _ _ _ _=>(pv 0)))),?_]
  have nv:=tok.nv
  have lva:=hva.len
  rwa[8,wy,d.c_Way,dxw,fsw,8,hw,W.c_Way.cl,W.qE,w1,t,d.qg,dx,fs,8,ht,W.qg.cl,W.qW,t2,vl,8, .inl (SqL.of hvl),8,by lia,by rw[ND];lia,?_]
  rw[show(((va.map V.ref).length:Nat):Int).toNat=T.vs.length by rw[ND];lia]
  refine kfk (fun i σ ys H'=>Same H H'∧ys=((NK i).filter (canM T B hand used S)).map iV∧∃v0:Option V,σ=[v0,some (.ref wy)]) ⟨Same.refl _,rfl,none,rfl⟩ (NR (kas (by lia))) ?_ ?_ ?_
  ·rintro i σ ys H' hi ⟨_,rfl,_⟩
   rw[ND]
   exact NJ (Eg _ _) (by rw[DD];exact NG _)
  ·rintro i σ ys H' hi ⟨s1,rfl,v0,rfl⟩
   rw[Int.zero_add]
   obtain⟨Vc,hV⟩:=at_of (xs:=T.vs) (i:=i) hi
   have vo:=tok.vs Vc (NM hV)
   rwa[8,wy,dxw,fsw,6,s1 _ _ hw,w6,8,wy,t,b,x,T,B,S,hand,used,i,Vc,6,hW.same s1,hT.same s1,hB.same s1,hS.same s1,wf,vo,hV,hl,fun H2 s2=>⟨rfl,_,rfl,?_⟩]
   have ec:canM T B hand used S i=decide (dueM Vc T B hand used S i=.non):=by unfold canM;rw[hV]
   rw[kiQ,ec]
   by_cases hn:dueM Vc T B hand used S i=.non
   ·rw[decide_eq_true hn]
    refine iteT ⟨_,rfl,s1.trans s2,?_,_,rfl⟩
    rw[if_pos rfl,NL]
    rfl
   ·rw[decide_eq_false hn]
    refine iteF ⟨s1.trans s2,?_,_,rfl⟩
    rw[if_neg NP,MQ]
  ·rintro σ ys H' ⟨s1,rfl,v0,rfl⟩ q hq
   exact kk _ q (s1.trans (kam hq)) (s1.free hq) kad
noncomputable def remM(hand:List Int)(used:List Nat):Nat:=((NK hand.length).map fun m=>(hand.getD m 0-(used.count m:Int)).toNat).sum
theorem khY{f g:Nat→Nat}{n:Nat}:∀{L:Nat},n<L→f n=g n+1→(∀m,m≠n→f m=g m)→((NK L).map f).sum=((NK L).map g).sum+1
 |0,h,_,_=>by lia
 | L+1,h,h1,h2=>by
  rw[Mx,NL,NL,MJ,MJ]
  simp only[NW,Ec,Mb,EB]
  by_cases e:n=L
  ·subst e
   have:(NK n).map f=(NK n).map g:=My fun m hm=>h2 m (by have:=Da.mp hm;lia)
   rw[this,h1]
   lia
  ·rw[khY (by lia) h1 h2,h2 L (Ne.symm e)]
   lia
theorem kf6{hand:List Int}{used:List Nat}{n:Nat}(hn:n<hand.length)(h:(used.count n:Int)+1≤hand.getD n 0):remM hand used=remM hand (used++[n])+1:=by
 unfold remM
 refine khY hn ?_ fun m hm=>?_
 ·rw[List.count_append,show List.count n [n]=1 by simp]
  generalize hand.getD n 0=g at *
  lia
 ·rw[List.count_append]
  have:List.count m [n]=0:=by simp[Ne.symm hm]
  rw[this]
  simp
theorem kjK:∀(hand:List Int),(∀z∈hand,0≤z)→(remM hand []:Int)=hand.sum:=by
 intro hand h
 have key:∀(L:Nat),L≤hand.length→((((NK L).map fun m=>(hand.getD m 0-((([]:List Nat).count m:Nat):Int)).toNat).sum:Nat):Int)=(hand.take L).sum:=by
  intro L
  induction L with
  |zero=>intro _;rfl
  |succ L ih=>
   intro hL
   have hz:hand[L]?>>hand[L]:=MG (by lia)
   have e:hand.take (L+1)=hand.take L++[hand[L]]:=by rw[MT,hz];rfl
   have h0:=h hand[L] (Do _)
   rw[Mx,NL,MJ,e,MJ]
   simp only[NW,Ec,Mb,EB,List.count_nil]
   have eg:hand.getD L 0=hand[L]:=by rw[N1,hz];rfl
   rw[eg]
   have:=ih (by lia)
   simp only[List.count_nil] at this
   lia
 have:=key hand.length (NG _)
 rw[Ma] at this
 exact this
theorem kmb{p:Nat→Bool}{f:Nat→Nat}(h:∀m,p m=true→1≤f m):∀L:Nat,((NK L).filter p).length≤((NK L).map f).sum
 |0=>NG _
 | L+1=>by
  have ih:=kmb h L
  rw[Mx,M8,NQ,NL,MJ]
  simp only[NW,Ec,Mb,EB,Ej,DG]
  by_cases e:p L=true
  ·have:=h L e
   rw[if_pos e]
   simp
   lia
  ·rw[if_neg e]
   simp
   lia
noncomputable def fan:Nat→Nat
 |0=>1
 |r+1=>1+(r+1)*fan r
theorem kiB{α:Type}{f:Nat→List α}{k:Nat}:∀{l:List Nat},(∀n∈l,(f n).length≤k)→(l.flatMap f).length≤l.length*k
 |[],_=>by simp
 |a::l,h=>by
  have ih:=kiB (f:=f) (k:=k) (l:=l) fun n hn=>h n (N2 _ hn)
  rw[List.flatMap_cons,NQ,Md,Nat.add_mul,Nat.one_mul]
  have:=h a N4
  lia
theorem kiD:∀{r s:Nat},r≤s→fan r≤fan s
 |r,0,h=>by rw[Nat.le_zero.mp h];exact NG _
 | r,s+1,h=>by
  by_cases e:r=s+1
  ·rw[e];exact NG _
  ·have:=kiD (r:=r) (s:=s) (by lia)
   show fan r≤1+(s+1)*fan s
   have h2:fan s≤(s+1)*fan s:=Nat.le_mul_of_pos_left _ (by lia)
   lia
variable{T:TillD}{B:Bask}{hand:List Int}
theorem keG{used:List Nat}{S:Stnd}{n:Nat}(h:canM T B hand used S n=true):n<T.vs.length∧(used.count n:Int)+1≤hand.getD n 0:=by
 unfold canM at h
 cases e:T.vs[n]? with
 |none=>rw[e] at h;cases h
 | some V=>
  rw[e] at h
  rwa[at_lt e,?_]
  have h1:dueM V T B hand used S n=.non:=of_decide_eq_true h
  unfold dueM wordM at h1
  by_cases c1:hand.getD n 0<(used.count n:Int)+1
  ·rw[if_pos c1] at h1
   cases h1
  ·lia
theorem kl4{used:List Nat}{S:Stnd}(hl:hand.length=T.vs.length):(folM T B hand used S).length≤remM hand used:=by
 unfold folM remM
 rw[←hl]
 refine kmb (fun m hm=>?_) _
 have:=(keG hm).2
 lia
noncomputable def walkM(T:TillD)(B:Bask)(hand:List Int):List Nat→List Nat→Stnd→List Nat×Stnd
 |[],used,S=>(used,S)
 |n::ns,used,S=>match T.vs[n]? with
  |none=>(used,S)
  |some V=>if dueM V T B hand used S n=.non then walkM T B hand ns (used++[n]) (aftM V T.ps (kds B) S) else(used,S)
inductive kjn(d:D)(vs:List V)(H:Hp)(Q:VK)(E_:XK):Prop
 |ct(t b h o:Addr)(T:TillD)(B:Bask)(hand:List Int)(order:List Nat)(_:vs=[.ref t, .ref b, .ref h, .ref o])(_:TillIs d H t T)(_:kb0 T)(_:BaskIs d.qe d.qf H b B)(_:Wf T.ps B (stnd0 B))(_:H h>>(.lst (hand.map V.int)))(_:H o>>(.lst (order.map iV)))(_:hand.length=T.vs.length)(_:(∀n∈order,n<T.vs.length))(_:order.length<64)(_:∀(H':Hp)(wy x:Addr),Same H H'→H wy=none→WayIs d H' wy t b x hand (walkM T B hand order [] (stnd0 B)).1→StndIs d.qd H' x (walkM T B hand order [] (stnd0 B)).2→Wf T.ps B (walkM T B hand order [] (stnd0 B)).2→Q (.ref wy) H'):kjn d vs H Q E_
theorem QY:kar ["till","basket","hand","order","way","number"] ["till","basket","hand","order"] (kai kf1):=by ac_rfl
theorem kj3(W:WB K mg d base):FO P w W 7 d.YB d.YC ["till","basket","hand","order"] (kjn d):=by
 exists W.Vw.F,QY
 ·obtain⟨t,b,h,o,T,B,hand,order,rfl,hT,tok,hB,wf0,hh,ho,hl,hlt,h64,k⟩:=h
  exists qK,kcf,W
  exists qX,kbA,W
  exists qY,kb4,W
  have hr5:Room 5 _:=hr.mono (by decide)
  refine⟨_,kab (psl (i:=4) QY.nd (kaT (W.qx.mk' W.c_Way) qK hr5 rfl W.c_Way.m W.qx.b .nil pass0 (kaa (pv 0) (kaa (pv 1) (kaa (pv 2) kae)))))
   (kab (kbo PassesOwn.never rfl (kaC (K:=K) (pv 3)) (pgn (i:=5) QY.nd)
   (kab (ps_if (kan kdZ (kbm (pv 4) W.c_Way.cl W.qF.me qX hr5 W.qF.b .nil pass0 (kaa (pv 5) kae)) kbf (kau _)) (kag (kap (pv 4))) (kav))
   (kag (psl (i:=4) QY.nd (kbm (pv 4) W.c_Way.cl W.qG.me qY hr W.qG.b .nil pass0 (kaa (pv 5) kae))))))
   (kag (kap (pv 4)))),?_⟩
  generalize eR:walkM T B hand order [] (stnd0 B)=R at k
  exists Y4
  rwa[8,8,8,kg0 hh hB wf0.nl wf0.ok fun H1 y0 x0 s1 fy0 fx0 hy0N hx0=>?_]
  have hy0:=hy0N.at
  symm
  exists Y4
  refine⟨_,rfl,o,rfl,⟨_,SqL.of (s1 _ _ ho)⟩,ka7 (xs:=order.map iV) (fun i σ H'=>Same H H'∧∃(y x:Addr)(used:List Nat)(S:Stnd)(v5:Option V),WayIs d H' y t b x hand used∧H y=none∧StndIs d.qd H' x S∧Wf T.ps B S∧used.length=i∧walkM T B hand (order.drop i) used S=R∧σ=[some (.ref t),some (.ref b),some (.ref h),some (.ref o),some (.ref y),v5])
   ⟨s1,y0,x0,[],_,none,hy0.most (by decide),fy0,hx0,wf0,rfl,eR,rfl⟩ (fun i σ H' _ h=>SqL.of (h.1 _ _ ho)) ?_ ?_⟩
  ·rintro i yv σ H' hyv ⟨sI,y,x,used,S,v5,hY,fy,hx,wf,hul,hwalk,rfl⟩
   obtain⟨n,en,rfl⟩:∃n,order[i]?>>n∧yv=iV n:=kbj hyv
   have hi:=at_lt en
   obtain⟨Vc,hV⟩:=at_of (hlt n (NM en))
   have vo:=tok.vs Vc (NM hV)
   have ed:order.drop i=n::order.drop (i+1):=by
    obtain⟨h1,h2⟩:=NT.mp en
    rw[EJ h1,h2]
   rw[ed] at hwalk
   have hwk:=hwalk
   unfold walkM at hwk
   rw[hV] at hwk
   simp only at hwk
   obtain⟨dxw,fsw,hd,u,hw,w1,w2,w3,w4,w5,w6,w7,w8,w9,w10,hh',hu⟩:=id hY
   symm
   exists Y6
   rwa[8,y,dxw,fsw,6,hw,w6,8,y,t,b,x,T,B,S,hand,used,n,Vc,6,hY,hT.same sI,hB.same sI,hx,wf,vo,hV,hl,fun H2 s2=>⟨rfl,_,rfl,?_⟩]
   have s02:=sI.trans s2
   by_cases hn:dueM Vc T B hand used S n=.non
   ·rw[if_pos hn] at hwk
    rw[hn]
    rw[show(!decide (V.non=V.non))=false by simp]
    refine iteF ?_
    nofun
    exists Y8
    rwa[8,y,dxw,fsw,6,s2 _ _ hw,w7,8,y,t,b,x,T,B,S,hand,used,n,Vc,6,hY.same s2,hT.same s02,hB.same s02,hx.same s2,wf,vo,hV,by lia,fun H3 y' x' s3 fy' hY1 hx1=>?_]
    have hY':=hY1.at
    have hx':=hx1.is
    exists 3
    rwa[s02.trans s3,y',x',used++[n],_,_,hY',s02.free fy',hx',wf.after vo,by rw[NQ,hul];rfl,hwk,6]
   ·rw[if_neg hn] at hwk
    rw[show(!decide (dueM Vc T B hand used S n=V.non))=true by simp[hn]]
    refine iteT ?_
    exists 3
    exists Y8
    rwa[8,k H2 y x s02 fy ?_ ?_ ?_]
    ·rw[←hwk];exact hY.same s2
    ·rw[←hwk];exact hx.same s2
    ·rw[←hwk];exact wf
  ·rintro σ H' ⟨sI,y,x,used,S,v5,hY,fy,hx,wf,hul,hwalk,rfl⟩
   rw[ND,E7] at hwalk
   have hwk:=hwalk
   unfold walkM at hwk
   nofun
   exists Y6
   rwa[8,k H' y x sI fy ?_ ?_ ?_]
   ·rw[←hwk];exact hY
   ·rw[←hwk];exact hx
   ·rw[←hwk];exact wf
noncomputable def kdl(T:TillD)(B:Bask)(hand:List Int)(order:List Nat):Option (Nat×L2.V):=
 let r:=walkM T B hand order [] (stnd0 B)
 if r.1.length<order.length then match T.vs[order.getD r.1.length 0]? with
  |none=>none
  |some V=>some (r.1.length,dueM V T B hand r.1 r.2 (order.getD r.1.length 0))
 else if(onlyM T.rs r.1).isNone=true then none else some (r.1.length, .str "only")
def FltIs(H:Hp)(v:L2.V):Option (Nat×L2.V)→Prop
 |none=>v=.non
 |some (k,z)=>∃a,v=.ref a∧H a>>(.tup [iV k,z])
inductive kjv(d:D)(vs:List V)(H:Hp)(Q:VK)(E_:XK):Prop
 |ct(t b h o:Addr)(T:TillD)(B:Bask)(hand:List Int)(order:List Nat)(_:vs=[.ref t, .ref b, .ref h, .ref o])(_:TillIs d H t T)(_:kb0 T)(_:BaskIs d.qe d.qf H b B)(_:Wf T.ps B (stnd0 B))(_:H h>>(.lst (hand.map V.int)))(_:H o>>(.lst (order.map iV)))(_:hand.length=T.vs.length)(_:(∀n∈order,n<T.vs.length))(_:order.length<64)(_:∀(H':Hp)(v:L2.V),Same H H'→FltIs H' v (kdl T B hand order)→Q v H'):kjv d vs H Q E_
theorem XS:kar ["till","basket","hand","order","way","place"] ["till","basket","hand","order"] (kai khz):=by ac_rfl
theorem kla(W:WB K mg d base):FO P w W 8 d.Yz d.YA ["till","basket","hand","order"] (kjv d):=by
 exists W.Vv.F,XS
 ·obtain⟨t,b,h,o,T,B,hand,order,rfl,hT,tok,hB,wf0,hh,ho,hl,hlt,h64,k⟩:=h
  exists U3,kj3,W
  exists qX,kbA,W
  exists XT,kcN,W
  have hr2:Room 2 _:=hr.mono (by decide)
  have hr5:Room 5 _:=hr.mono (by decide)
  refine⟨_,kab (psl (i:=4) XS.nd (pcl U3 hr W.Vw (kaa (pv 0) (kaa (pv 1) (kaa (pv 2) (kaa (pv 3) kae))))))
   (kab (psl (i:=5) XS.nd (kao (r:=kaJ K) kaq (by rfl) W.B.len b_len (kaa (kah (K:=K) (pv 4) rfl) kae)))
   (kab (ps_if (kan op_lt (pv 5) (kao (r:=kaJ K) kaq (by rfl) W.B.len b_len (kaa (pv 3) kae)) (kau _)) (kag (kap (kce (kaa (pv 5) (kaa (kbm (pv 4) W.c_Way.cl W.qF.me qX hr5 W.qF.b .nil pass0 (kaa (pe_ix (r:=rIxL K) kaG (pv 3) (pv 5) (fun _ _=>rfl)) kae)) kae))))) (kav))
   (kab (ps_if (kdB (ka0 (kde (pv 4) W.c_Way.cl W.Qu.me XT hr2 W.Qu.b .nil pass0))) (kag (kap (kce (kaa (pv 5) (kaa kbD kae))))) (kav))
   (kag (kap kbf))))),?_⟩
  exists Y4
  rwa[8,8,8,8,t,b,h,o,T,B,hand,order,6,hT,tok,hB,wf0,hh,ho,hl,hlt,h64,fun H1 y x s1 fy hY hx wf=>?_]
  unfold kdl at k
  simp only at k
  generalize walkM T B hand order [] (stnd0 B)=r at *
  obtain⟨used,S⟩:=r
  simp only at *
  obtain⟨dxw,fsw,hd,u,hw,w1,w2,w3,w4,w5,w6,w7,w8,w9,w10,hh',hu⟩:=id hY
  nomatch y,d.c_Way,dxw,fsw,8,hw,W.c_Way.cl,W.qP,w4,u,8, .inl (SqL.of hu),?_
  rw[ND]
  nomatch 8,o,8, .inl (SqL.of (s1 _ _ ho)),9,8,?_
  rw[ND]
  by_cases hlen:used.length<order.length
  ·rw[if_pos hlen] at k
   rw[show decide ((used.length:Int)<(order.length:Int))=true by simp;exact hlen]
   obtain⟨n,en⟩:=at_of hlen
   have eg:order.getD used.length 0=n:=by rw[N1,en];rfl
   obtain⟨Vc,hV⟩:=at_of (hlt n (NM en))
   rw[eg,hV] at k
   have vo:=tok.vs Vc (NM hV)
   refine iteT ?_
   symm
   exists Y6
   rwa[8,8,y,dxw,fsw,6,hw,w6,8,8,o,_,9,SqL.of (s1 _ _ ho),kaL (v:=iV n) (by rw[NO,en];rfl),y,t,b,x,T,B,S,hand,used,n,Vc,6,hY,hT.same s1,hB.same s1,hx,wf,vo,hV,hl,fun H2 s2=>?_]
   nofun
   exists Y6
   rwa[(by show 2≤sizeLine;decide),fun q hq=>?_]
   nofun
   exact k _ _ ((s1.trans s2).trans (kam hq)) ⟨q,rfl,kad⟩
  ·rw[if_neg hlen] at k
   rw[show decide ((used.length:Int)<(order.length:Int))=false by simp;lia]
   refine iteF ?_
   nofun
   exists Y6
   rwa[8,y,dxw,fsw,6,hw,w8,y,t,b,x,T,hand,used,6,hY,hT.same s1,8,?_]
   cases e:(onlyM T.rs used).isNone with
   |true=>
    rw[e,if_pos rfl] at k
    refine iteF ?_
    nofun
    exact k H1 _ s1 rfl
   |false=>
    rw[e,if_neg NP] at k
    refine iteT ?_
    nofun
    exists Y8
    rwa[8,(by show 2≤sizeLine;decide),fun q hq=>?_]
    exists 3
    exact k _ _ (s1.trans (kam hq)) ⟨q,rfl,kad⟩
noncomputable def waysM(T:TillD)(B:Bask)(hand:List Int):Nat→List Nat→Stnd→List (List Nat×Stnd)
 |0,_,_=>[]
 |k+1,used,S=>(if(onlyM T.rs used).isNone=true then [(used,S)] else [])++(folM T B hand used S).flatMap fun n=>match T.vs[n]? with
  |none=>[]
  |some V=>waysM T B hand k (used++[n]) (aftM V T.ps (kds B) S)
def Deep(T:TillD)(B:Bask)(hand:List Int):Nat→List Nat→Stnd→Prop
 |0,_,_=>False
 |k+1,used,S=>∀n∈folM T B hand used S,∀V,T.vs[n]?>>V→Deep T B hand k (used++[n]) (aftM V T.ps (kds B) S)
theorem WayN.same{d:D}{m:Nat}{H0 H H':Hp}{w t b x:Addr}{hand:List Int}{used:List Nat}(s:Same H H'):WayN d m H0 H w t b x hand used→WayN d m H0 H' w t b x hand used:=by rintro⟨f,dx,fs,h,u,f1,f2,h1,h2,h3,h4,h5,h6,h7,h8,h9,h10,h11,h12,h13⟩;exact
 ⟨f,dx,fs,h,u,f1,f2,s _ _ h1,h2,h3,h4,h5,h6,h7,h8,h9,h10,h11,s _ _ h12,s _ _ h13⟩
theorem StndN.same{C x:Addr}{H0 H H':Hp}{S:Stnd}(s:Same H H'):StndN C H0 H x S→StndN C H0 H' x S:=by rintro⟨f,o,p,mk,⟨dx,fs,hx,r⟩,f1,f2,f3,h1,h2,h3⟩;exact⟨f,o,p,mk,⟨dx,fs,s _ _ hx,r⟩,f1,f2,f3,s _ _ h1,s _ _ h2,s _ _ h3⟩
def WayQ(d:D)(t b:Addr)(hand:List Int)(H0 H:Hp)(w:Addr)(q:List Nat×Stnd):Prop:=∃x,WayN d 7 H0 H w t b x hand q.1∧StndN d.qd H0 H x q.2
theorem WayQ.same{d:D}{t b w:Addr}{hand:List Int}{H0 H H':Hp}{q:List Nat×Stnd}(s:Same H H'):WayQ d t b hand H0 H w q→WayQ d t b hand H0 H' w q:=by rintro⟨x,h1,h2⟩;exact⟨x,h1.same s,h2.same s⟩
theorem WayQ.rmv{d:D}{t b w z:Addr}{hand:List Int}{H0 H1 H:Hp}{q:List Nat×Stnd}(s:Same H0 H1)(hz:H1 z≠none):WayQ d t b hand H1 H w q→WayQ d t b hand H0 (Vs.rmv z H) w q:=by rintro⟨x,⟨f,dx,fs,h,u,f1,f2,g,h2,h3,h4,h5,h6,h7,h8,h9,h10,h11,h12,h13⟩,⟨e,o,p,mk,⟨dy,gs,hx,r⟩,e1,e2,e3,k1,k2,k3⟩⟩;exact
 ⟨x,⟨none_of s f,dx,fs,h,u,none_of s f1,none_of s f2,(kbe hz f).trans g,h2,h3,h4,h5,h6,h7,h8,h9,h10,h11,(kbe hz f1).trans h12,(kbe hz f2).trans h13⟩,
  ⟨none_of s e,o,p,mk,⟨dy,gs,(kbe hz e).trans hx,r⟩,none_of s e1,none_of s e2,none_of s e3,(kbe hz e1).trans k1,(kbe hz e2).trans k2,(kbe hz e3).trans k3⟩⟩
inductive kfx(d:D)(n:Nat)(vs:List V)(H:Hp)(Q:VK)(E_:XK):Prop
 |ct(H0:Hp)(wy t b:Addr)(T:TillD)(B:Bask)(S:Stnd)(hand:List Int)(used:List Nat)(_:vs=[.ref wy])(_:Same H0 H)(_:WayQ d t b hand H0 H wy (used,S))(_:TillIs d H t T)(_:kb0 T)(_:BaskIs d.qe d.qf H b B)(_:Wf T.ps B S)(_:hand.length=T.vs.length)(_:Deep T B hand n used S)(_:used.length+n<64)(_:(waysM T B hand n used S).length≤1000)(_:∀(H':Hp)(p:Addr)(wl:List Addr),Same H H'→H p=none→H' p>>(.lst (wl.map V.ref))→P2 (fun w q=>WayQ d t b hand H0 H' w q) wl (waysM T B hand n used S)→Q (.ref p) H'):kfx d n vs H Q E_
theorem kjl{d:D}{vs:List V}{H:Hp}{Q:VK}{E:XK}(h:kfx d 0 vs H Q E):False:=by
 obtain⟨_,_,_,_,_,_,_,_,_,_,_,_,_,_,_,_,_,h,_⟩:=h
 exact h
theorem kg8{α β:Type}{f: α→List β}{l:List α}{i:Nat}{a: α}(h:l[i]?>>a):(l.take (i+1)).flatMap f=(l.take i).flatMap f++f a:=by
 rw[take_snoc h,List.flatMap_append,List.flatMap_cons,DJ,MQ]
theorem kmO{α β:Type}{f: α→List β}{l:List α}{i:Nat}:((l.take i).flatMap f).length≤(l.flatMap f).length:=by
 conv=>rhs;rw[←E4 i l,List.flatMap_append,NQ]
 lia
theorem XU:kar ["way","found","number"] ["way"] (kai kdp):=by ac_rfl
theorem kfp(W:WB K mg d base)(n:Nat)(G_rec:FO P w W (6+n) d.Qh d.Qi ["way"] ((kfx d) n)):FO P w W (6+n+1) d.Qh d.Qi ["way"] ((kfx d) (n+1)):=by
 refine FunD.ok W.Qm.F XU (fun vs H Q E h=>?_) (fun cdv A outer s H vs Q E hr h=>?_)
 ·obtain⟨H0,wy,t,b,T,B,S,hand,used,rfl,_⟩:=h
  rfl
 ·obtain⟨H0,wy,t,b,T,B,S,hand,used,rfl,s0,hq,hT,tok,hB,wf,hl,hdp,h64,hlen,kk⟩:=h
  exists XT,kcN,W
  exists U4,ket,W
  exists qY,kb4,W
  have hr2:Room 2 _:=hr.mono (by lia)
  have hr6:Room 6 _:=hr.mono (by lia)
  refine⟨_,kab (psl (i:=1) XU.nd (kjY (keA (ka0 (kde (pv 0) W.c_Way.cl W.Qu.me XT hr2 W.Qu.b .nil pass0)) (kaM (kaa (pv 0) kae)) (kaM kae))))
   (kab (kbo PassesOwn.never rfl (kaC (K:=K) (kde (pv 0) W.c_Way.cl W.Xu.me U4 hr6 W.Xu.b .nil pass0)) (pgn (i:=2) XU.nd)
   (kag (ka1 (pe_bm Mt DH DI ke9 (pv 1) (kaa (kjZ G_rec hr rfl W.Qm.m W.Qm.F.kp W.Qm.b .nil pass0 (kaa (kbm (pv 0) W.c_Way.cl W.qG.me qY hr6 W.qG.b .nil pass0 (kaa (pv 2) kae)) kae)) kae)))))
   (kag (kap (pv 1)))),?_⟩
  obtain⟨x,hY,hS⟩:=id hq
  have hYI:=hY.at
  have hSI:=hS.is
  obtain⟨dxw,fsw,hd,u,hw,w1,w2,w3,w4,w5,w6,w7,w8,w9,w10,hh,hu⟩:=id hYI
  have hws:waysM T B hand (n+1) used S=(if(onlyM T.rs used).isNone=true then [(used,S)] else [])++(folM T B hand used S).flatMap fun m=>match T.vs[m]? with
   |none=>[]
   |some V=>waysM T B hand n (used++[m]) (aftM V T.ps (kds B) S):=rfl
  generalize hpre:(if(onlyM T.rs used).isNone=true then [(used,S)] else [])=pre at hws
  have hdp':∀m∈folM T B hand used S,∀V,T.vs[m]?>>V→Deep T B hand n (used++[m]) (aftM V T.ps (kds B) S):=hdp
  generalize hfm:(fun m=>match T.vs[m]? with
   |none=>[]
   |some V=>waysM T B hand n (used++[m]) (aftM V T.ps (kds B) S))=fm at hws
  rwa[fun v H1=>∃(fo:Addr)(wl:List Addr),v=.ref fo∧Same H H1∧H fo=none∧H1 fo>>(.lst (wl.map V.ref))∧P2 (fun w q=>WayQ d t b hand H0 H w q) wl pre,?_,?_]
  ·rwa[8,wy,dxw,fsw,6,hw,w8,wy,t,b,x,T,hand,used,6,hYI,hT,8,?_]
   cases e:(onlyM T.rs used).isNone with
   |true=>
    rw[e,if_pos rfl] at hpre
    subst hpre
    exact iteT ⟨_,rfl,(by show 1≤sizeLine;decide),fun fo ffo=>⟨fo,[wy],rfl,kam ffo,ffo,kad, .cons hq .nil⟩⟩
   |false=>
    rw[e,if_neg NP] at hpre
    subst hpre
    exact iteF ⟨(by show 0≤sizeLine;decide),fun fo ffo=>⟨fo,[],rfl,kam ffo,ffo,kad, .nil⟩⟩
  rintro v H1 ⟨fo,wl0,rfl,s1,ffo,efo0,hwl0⟩
  rwa[8,wy,dxw,fsw,6,s1 _ _ hw,w9,wy,t,b,x,T,B,S,hand,used,6,hYI.same s1,hT.same s1,tok,hB.same s1,hSI.same s1,wf,hl,fun H2 fl s2 ffl efl=>?_]
  have s02:=s1.trans s2
  refine⟨fl,rfl,⟨_,SqL.of efl⟩,ka7 (xs:=(folM T B hand used S).map iV) (fun i σ H'=>Same H H'∧H' fl>>(.lst ((folM T B hand used S).map iV))∧∃(Hw:Hp)(wl:List Addr)(v2:Option V),Same Hw H'∧Same H0 Hw∧Hw fo=none∧H' fo>>(.lst (wl.map V.ref))∧P2 (fun w q=>WayQ d t b hand H0 Hw w q) wl (pre++((folM T B hand used S).take i).flatMap fm)∧σ=[some (.ref wy),some (.ref fo),v2])
   ⟨s02,efl,H,wl0,none,s02,s0,ffo,s2 _ _ efo0,by rw[List.take_zero,DJ,MQ];exact hwl0,rfl⟩ (fun i σ H' _ h=>SqL.of h.2.1) ?_ ?_⟩
  ·rintro i y σ H' hy ⟨sI,efl',Hw,wl,v2,sw,s0w,fwo,efo,hwl,rfl⟩
   obtain⟨m,em,rfl⟩:∃m,(folM T B hand used S)[i]?>>m∧y=iV m:=kbj hy
   have hmem:=NM em
   have hm:m<T.vs.length:=by
    unfold folM at hmem
    exact Da.mp (Mi.mp hmem).1
   obtain⟨Vc,hV⟩:=at_of hm
   have vo:=tok.vs Vc (NM hV)
   have efm:fm m=waysM T B hand n (used++[m]) (aftM Vc T.ps (kds B) S):=by rw[←hfm];simp only[hV]
   have hle:=kmO (f:=fm) (l:=folM T B hand used S) (i:=i+1)
   rw[kg8 em,NQ] at hle
   rw[hws,NQ] at hlen
   have lwl:=hwl.len
   rw[NQ] at lwl
   rwa[8, .inl ⟨rfl,_,SqL.of efo⟩,8,wy,dxw,fsw,6,sI _ _ hw,w7,8,wy,t,b,x,T,B,S,hand,used,m,Vc,6,hYI.same sI,hT.same sI,hB.same sI,hSI.same sI,wf,vo,hV,by lia,fun H4 wy' x' s4 f4 hY' hx'=>?_]
   have s04:=sI.trans s4
   rwa[H',wy',t,b,T,B,aftM Vc T.ps (kds B) S,hand,used++[m],6,s4,⟨x',hY',hx'⟩,hT.same s04,tok,hB.same s04,wf.after vo,hl,hdp' m hmem Vc hV,(by rw[NQ,MM];lia),(by rw[←efm];lia),fun H5 p5 wl5 s5 f5 e5 hwl5=>?_]
   have s15:=s4.trans s5
   have efo5:=s15 _ _ efo
   rw[←efm] at hwl5
   have l5:=hwl5.len
   rwa[fo,p5,9,efo5,e5,NR (kas (by rw[ND,ND];lia)),?_]
   rw[←NL]
   have hfo':H' fo≠none:=by rw[efo];intro z;cases z
   have nfl:fl≠fo:=fun e=>by
    rw[e] at ffl
    rw[efo0] at ffl
    cases ffl
   have bw:=keR (x:=fo) (H:=H5) (nx efo5)
   have sw5:=kbi (sw.trans s15) bw fwo
   have s0H':Same H0 H':=s0.trans sI
   rwa[kat ffo (sI.trans s15) (nx efo5),by rw[kak nfl];exact s15 _ _ efl',Vs.rmv fo H5,wl++wl5,_,kbi kf4 (kaw (nx efo5)) kfC,s0w.trans sw5,kfC,kad,?_,6]
   rw[kg8 em,←Mr]
   exact P2.append (hwl.mono fun w q h=>h.same sw5) (hwl5.mono fun w q h=>h.rmv s0H' hfo')
  ·rintro σ H' ⟨sI,_,Hw,wl,v2,sw,s0w,fwo,efo,hwl,rfl⟩
   rw[ND,Ma,←hws] at hwl
   rwa[8,kk H' fo wl sI ffo efo (hwl.mono fun w q h=>h.same sw)]
theorem kdE(W:WB K mg d base):∀n:Nat,FO P w W (6+n) d.Qh d.Qi ["way"] ((kfx d) n)
 |0=>⟨fun _ _ _ _ h=>(kjl h).elim,fun _ _ _ _ _ _ _ _ _ _ _ _ _ h=>(kjl h).elim⟩
 |n+1=>kfp W n (kdE W n)
theorem kgX(W:WB K mg d base):FO P w W 16 d.Qh d.Qi ["way"] ((kfx d) 10):=kdE W 10
theorem kkD(hl:hand.length=T.vs.length):∀(k:Nat)(used:List Nat)(S:Stnd),remM hand used<k→Deep T B hand k used S
 |0,_,_,h=>by lia
 |k+1,used,S,h=>fun n hn V _=>by
  have hc:=(Mi.mp hn).2
  obtain⟨h1,h2⟩:=keG hc
  have:=kf6 (hand:=hand) (used:=used) (n:=n) (by lia) h2
  exact kkD hl k _ _ (by lia)
theorem khW{T:TillD}{B:Bask}{hand:List Int}(hl:hand.length=T.vs.length):∀(k:Nat)(used:List Nat)(S:Stnd),(waysM T B hand k used S).length≤fan (remM hand used)
 |0,_,_=>by unfold waysM;exact Mf _
 | k+1,used,S=>by
  have h0:(if(onlyM T.rs used).isNone=true then [(used,S)] else []).length≤1:=by split <;> simp
  unfold waysM
  rw[NQ]
  cases er:remM hand used with
  |zero=>
   have hf:=kl4 (T:=T) (B:=B) (used:=used) (S:=S) hl
   rw[er] at hf
   have:folM T B hand used S=[]:=List.length_eq_zero_iff.mp (Nat.le_zero.mp hf)
   rw[this,DJ]
   show _+0≤1
   lia
  | succ r=>
   have hf:=kl4 (T:=T) (B:=B) (used:=used) (S:=S) hl
   rw[er] at hf
   show _≤1+(r+1)*fan r
   refine NJ (Nat.add_le_add h0 (kiB (k:=fan r) (fun n hn=>?_))) (Nat.add_le_add_left (Nat.mul_le_mul_right _ hf) 1)
   cases e:T.vs[n]? with
   |none=>exact Mf _
   |some V=>
    have hc:=(Mi.mp hn).2
    obtain⟨h1,h2⟩:=keG hc
    have hd:=kf6 (hand:=hand) (used:=used) (n:=n) (by lia) h2
    have hi:=khW (B:=B) hl k (used++[n]) (aftM V T.ps (kds B) S)
    rw[show remM hand (used++[n])=r by lia] at hi
    exact hi
theorem kko{S:Stnd}(hl:hand.length=T.vs.length)(hn:∀z∈hand,0≤z)(h5:hand.sum≤5):Deep T B hand 10 [] S∧(waysM T B hand 10 [] S).length≤1000:=by
 have e:=kjK hand hn
 have h:remM hand []≤5:=by lia
 rwa[kkD hl 10 [] S (by lia),NJ (khW hl 10 [] S) (NJ (kiD h) (by decide))]
theorem P2.memO{α β:Type}{R: α→β→Prop}:∀{as:List α}{bs:List β},P2 R as bs→∀a∈as,∃b∈bs,R a b
 |_,_, .nil,a,h=>by simp at h
 | _,_, .cons (a:=x) (b:=y) r t,a,h=>by
  rcases N5.mp h with rfl|h
  ·rwa[y,by simp,r]
  ·obtain⟨b,hb,q⟩:=P2.memO t a h
   rwa[b,N2 _ hb,q]
theorem kkU{d:D}{m:Nat}{H:Hp}{w t b x:Addr}{hand:List Int}{used:List Nat}(hm:m≤7):WayAt d m H w t b x hand used→WayN d 7 (fun _=>none) H w t b x hand used:=by rintro⟨dx,fs,h,u,h1,h2,h3,h4,h5,h6,h7,h8,h9,h10,h11,h12,h13⟩;exact
 ⟨rfl,dx,fs,h,u,rfl,rfl,h1,h2,h3,h4,h5,h6,h7,h8,h9,h10,NJ h11 hm,h12,h13⟩
theorem kjg{C x:Addr}{H:Hp}{S:Stnd}:StndIs C H x S→StndN C (fun _=>none) H x S:=by rintro⟨o,p,mk,h,h1,h2,h3⟩;exact⟨rfl,o,p,mk,h,rfl,rfl,rfl,h1,h2,h3⟩
theorem kjG{H:Hp}:Same (fun _=>none) H:=fun b u e=>by cases e
inductive kh5(d:D)(vs:List V)(H:Hp)(Q:VK)(E_:XK):Prop
 |ct(t b h:Addr)(T:TillD)(B:Bask)(hand:List Int)(_:vs=[.ref t, .ref b, .ref h])(_:TillIs d H t T)(_:kb0 T)(_:BaskIs d.qe d.qf H b B)(_:Wf T.ps B (stnd0 B))(_:H h>>(.lst (hand.map V.int)))(_:hand.length=T.vs.length)(_:Deep T B hand 10 [] (stnd0 B))(_:(waysM T B hand 10 [] (stnd0 B)).length≤1000)(_:∀(H':Hp)(p:Addr)(ol:List Addr),Same H H'→H p=none→H' p>>(.lst (ol.map V.ref))→P2 (fun o q=>H o=none∧H' o>>(.lst (q.map iV))) ol ((waysM T B hand 10 [] (stnd0 B)).map Prod.fst)→ol.Nodup→(∀o∈ol,o≠p)→Q (.ref p) H'):kh5 d vs H Q E_
theorem kjE:kar ["till","basket","hand"] ["till","basket","hand"] (kai kf3):=by ac_rfl
theorem kj4(W:WB K mg d base):FO P w W 17 d.YN d.YO ["till","basket","hand"] (kh5 d):=by
 exists W.VA.F,kjE
 ·obtain⟨t,b,h,T,B,hand,rfl,hT,tok,hB,wf0,hh,hl,hdp,hlen,kk⟩:=h
  exists U5,kgX,W
  exists qK,kcf,W
  have hr5:Room 5 _:=hr.mono (by decide)
  rwa[_,kag (kap (kbq (N:=["way"]) (CompScope.plain rfl (by cutsat) (by cutsat) (by cutsat) (nd1 _)) rfl (kaC (K:=K) (pcl U5 hr W.Qm (kaa (kaT (W.qx.mk' W.c_Way) qK hr5 rfl W.c_Way.m W.qx.b .nil pass0 (kaa (pv 0) (kaa (pv 1) (kaa (pv 2) kae)))) kae))) (fun _ _ _ _=>pgn (i:=0) (nd1 _)) (fun _ _ _ _=>(kaF (r:=kaS K) kax (by rfl) W.B.list ka9 (kaa (kah (K:=K) (pv 0) rfl) kae))))),?_]
  rwa[8,8,8,kg0 hh hB wf0.nl wf0.ok fun H1 y x s1 fy fx hy hx=>?_]
  rwa[fun _=>none,y,t,b,T,B,stnd0 B,hand,[],6,kjG,⟨x,kkU (by decide) hy.at,kjg hx⟩,hT.same s1,tok,hB.same s1,wf0,hl,hdp,by decide,hlen,fun H2 p wl s2 fp ep hwl=>?_]
  have hws:=hwl.len
  have s02:=s1.trans s2
  rwa[p,6,⟨_,SqL.of ep⟩,kaW (xs:=wl.map V.ref) (fun i σ ys H'=>Same H2 H'∧∃(ol:List Addr)(v0:Option V),ys=ol.map V.ref∧P2 (fun o q=>H o=none∧H' o>>(.lst (q.map iV))) ol (((waysM T B hand 10 [] (stnd0 B)).map Prod.fst).take i)∧ol.Nodup∧σ=[v0]) ⟨Same.refl _,[],none,rfl, .nil,EU,rfl⟩ (by rw[ND];exact NR (kas (by lia))) ?_ ?_ ?_]
  ·rintro i σ ys H' hi ⟨s3,ol,v0,rfl,hol,_,rfl⟩
   rw[ND] at hi
   rwa[SqL.of (s3 _ _ ep),by rw[ND,hol.len,NS,ND];lia]
  ·rintro i y σ ys H' hy ⟨s3,ol,v0,rfl,hol,hnd,rfl⟩
   obtain⟨w,ew,rfl⟩:=kbZ hy
   obtain⟨q,eq,hw⟩:=hwl.at ew
   obtain⟨x',hW,_⟩:=hw.same s3
   obtain⟨_,dxw,fsw,hd,u,_,_,hwi,w1,w2,w3,w4,w5,w6,w7,w8,w9,w10,hh',hu⟩:=hW
   rwa[8,w,d.c_Way,dxw,fsw,8,hwi,W.c_Way.cl,W.qP,w4,u,8, .inl (SqL.of hu),fun o fo=>?_]
   have n4:=kam (o:=.lst (q.1.map iV)) fo
   rwa[s3.trans n4,ol++[o],_,by rw[NL];rfl,?_,?_,6]
   ·rw[take_snoc (show((waysM T B hand 10 [] (stnd0 B)).map Prod.fst)[i]?>>q.1 by rw[NO,eq];rfl)]
    exact P2.snoc (hol.mono fun o q h=>⟨h.1,n4 _ _ h.2⟩) ⟨(s02.trans s3).free fo,kad⟩
   ·rw[E5]
    rwa[hnd,by simp,fun a ha c hc=>?_]
    have e:c=o:=by simpa using hc
    rw[e]
    obtain⟨q',_,hq'⟩:=P2.memO hol a ha
    exact kaj hq'.2 fo
  ·rintro σ ys H' ⟨s3,ol,v0,rfl,hol,hnd,rfl⟩ D hD
   rw[ND,hws,←ND (f:=Prod.fst),Ma] at hol
   have n4:=kam (o:=.lst (ol.map V.ref)) hD
   refine kk _ D ol ((s02.trans s3).trans n4) ((s02.trans s3).free hD) kad (hol.mono fun o q h=>⟨h.1,n4 _ _ h.2⟩) hnd fun o ho=>?_
   obtain⟨q',_,hq'⟩:=P2.memO hol o ho
   exact kaj hq'.2 hD
structure Step where
 n:Nat
 cs:List Int
 c:Int
def StepIs(H:Hp)(a:Addr)(s:Step):Prop:=∃l,H a>>(.tup [iV s.n, .ref l, .int s.c])∧H l>>(.lst (s.cs.map V.int))
theorem StepIs.same{H H':Hp}{a:Addr}{t:Step}(s:Same H H'):StepIs H a t→StepIs H' a t:=by rintro⟨l,h1,h2⟩;exact⟨l,s _ _ h1,s _ _ h2⟩
def StepN(H0 H:Hp)(a:Addr)(s:Step):Prop:=H0 a=none∧∃l,H0 l=none∧H a>>(.tup [iV s.n, .ref l, .int s.c])∧H l>>(.lst (s.cs.map V.int))
theorem StepN.same{H0 H H':Hp}{a:Addr}{t:Step}(s:Same H H'):StepN H0 H a t→StepN H0 H' a t:=by rintro⟨f,l,g,h1,h2⟩;exact⟨f,l,g,s _ _ h1,s _ _ h2⟩
theorem StepN.but{H0 H H':Hp}{a x:Addr}{t:Step}(b:But x H H')(hx:H0 x≠none):StepN H0 H a t→StepN H0 H' a t:=by rintro⟨f,l,g,h1,h2⟩;exact⟨f,l,g,b _ _ (fun e=>hx (e▸f)) h1,b _ _ (fun e=>hx (e▸g)) h2⟩
structure BillD where
 order:List Nat
 steps:List Step
 pr:List Int
 cg:Int
 total:Int
inductive BillIs(d:D)(H0 H:Hp)(b:Addr)(B:BillD):Prop
 |ct(dx:Addr)(fs:List (Str×V))(o s p:Addr)(sa:List Addr)(_:H b>>(.ins d.qh dx fs))(_:fs.lookup ("order" :Str)>>(.ref o))(_:fs.lookup ("steps" :Str)>>(.ref s))(_:fs.lookup ("prices" :Str)>>(.ref p))(_:fs.lookup ("carriage" :Str)>>(.int B.cg))(_:fs.lookup ("total" :Str)>>(.int B.total))(_:H0 b=none)(_:H0 o=none)(_:H0 s=none)(_:H0 p=none)(_:H o>>(.lst (B.order.map iV)))(_:H s>>(.lst (sa.map V.ref)))(_:P2 (fun a t=>StepN H0 H a t) sa B.steps)(_:H p>>(.lst (B.pr.map V.int))):BillIs d H0 H b B
theorem BillIs.same{d:D}{H0 H H':Hp}{b:Addr}{B:BillD}(z:Same H H'):BillIs d H0 H b B→BillIs d H0 H' b B:=by rintro⟨dx,fs,o,s,p,sa,h1,h2,h3,h4,h5,h6,f1,f2,f3,f4,h7,h8,h9,h10⟩;exact
 ⟨dx,fs,o,s,p,sa,z _ _ h1,h2,h3,h4,h5,h6,f1,f2,f3,f4,z _ _ h7,z _ _ h8,h9.mono fun a t h=>h.same z,z _ _ h10⟩
theorem BillIs.but{d:D}{H0 H H':Hp}{b x:Addr}{B:BillD}(z:But x H H')(hx:H0 x≠none):BillIs d H0 H b B→BillIs d H0 H' b B:=by rintro⟨dx,fs,o,s,p,sa,h1,h2,h3,h4,h5,h6,f1,f2,f3,f4,h7,h8,h9,h10⟩;exact
 ⟨dx,fs,o,s,p,sa,z _ _ (fun e=>hx (e▸f1)) h1,h2,h3,h4,h5,h6,f1,f2,f3,f4,z _ _ (fun e=>hx (e▸f2)) h7,z _ _ (fun e=>hx (e▸f3)) h8,h9.mono fun a t h=>h.but z hx,z _ _ (fun e=>hx (e▸f4)) h10⟩
inductive khs(d:D)(vs:List V)(H:Hp)(Q:VK)(E_:XK):Prop
 |ct(H0:Hp)(b dx o s x:Addr)(order:List Nat)(steps:List Step)(S:Stnd)(sa:List Addr)(_:vs=[.ref b, .ref o, .ref s, .ref x])(_:H0 b=none)(_:Same H0 H)(_:H b>>(.ins d.qh dx []))(_:H0 o>>(.lst (order.map iV)))(_:H0 s>>(.lst (sa.map V.ref)))(_:P2 (fun a t=>StepIs H0 a t) sa steps)(_:steps.length<64)(_:StndIs d.qd H0 x S)(_:∀H',Same H0 H'→BillIs d H0 H' b ⟨order,steps,S.pr,S.cg,S.pr.sum+S.cg⟩→Q .non H'):khs d vs H Q E_
theorem kgU:kar ["self","order","steps","standing"] ["self","order","steps","standing"] (kai kdr):=by ac_rfl
theorem kgZ(W:WB K mg d base):FO P w W 2 d.ZS d.ZT ["self","order","steps","standing"] (khs d):=by
 exists W.Xx.F,kgU
 ·obtain⟨H0,b,dx,o,st,x,order,steps,S,sa,rfl,fb,s0,hb,ho,hst,hsa,h64,hS,kk⟩:=h
  obtain⟨ow,pp,mm,⟨dxs,fss,hxs,l1,l2,l3,l4,l5⟩,how,hpp,hmm⟩:=id hS
  exists XW,kcA,W
  refine⟨_,kab (kaz (pv 0) (kaF (r:=kaS K) kax (by rfl) W.B.list ka9 (kaa (pv 1) kae)) rfl)
   (kab (kaz (pv 0) (kbq (N:=["number","piece_cuts","carriage_cut"]) (CompScope.plain rfl (by cutsat) (by cutsat) (by cutsat) (show(["number","piece_cuts","carriage_cut"]:List Str).Nodup by cutsat)) rfl (kaC (K:=K) (pv 2)) (fun _ _ _ _=>kbJ (K:=K) (n:=3) rfl (kaD (pgn (i:=0) (show(["number","piece_cuts","carriage_cut"]:List Str).Nodup by cutsat)) (kaD (pgn (i:=1) (show(["number","piece_cuts","carriage_cut"]:List Str).Nodup by cutsat)) (kaD (pgn (i:=2) (show(["number","piece_cuts","carriage_cut"]:List Str).Nodup by cutsat)) kbI)))) (fun _ _ _ _=>(kce (kaa (pv 0) (kaa (kaF (r:=kaS K) kax (by rfl) W.B.list ka9 (kaa (pv 1) kae)) (kaa (pv 2) kae)))))) rfl)
   (kab (kaz (pv 0) (kaF (r:=kaS K) kax (by rfl) W.B.list ka9 (kaa (kah (K:=K) (pv 3) rfl) kae)) rfl)
   (kab (kaz (pv 0) (kah (K:=K) (pv 3) rfl) rfl)
   (kag (kaz (pv 0) (kde (pv 3) W.qd.cl W.Qt.me XW hr W.Qt.b .nil pass0) rfl))))),?_⟩
  exists Y4
  rwa[8,o,8, .inl (SqL.of (s0 _ _ ho)),fun o' ho'=>?_]
  have n1:=kam (o:=.lst (order.map iV)) ho'
  have fo:=s0.free ho'
  have no:o'≠b:=(kaj hb ho').symm
  have e1:(upd H o' (.lst (order.map iV))) o'>>(.lst (order.map iV)):=kad
  have s1:=s0.trans n1
  have hb1:=n1 _ _ hb
  clear n1
  generalize upd H o' (.lst (order.map iV))=H1 at *
  nomatch b,d.qh,dx,[],6,hb1,W.qh.cl,W.Xv,by decide,?_
  have s2:Same H0 (upd H1 b (.ins d.qh dx (putF "order" (.ref o') []))):=kat fb s1 (nx hb1)
  have e2:(upd H1 b (.ins d.qh dx (putF "order" (.ref o') []))) o'>>(.lst (order.map iV)):=by rw[kak no];exact e1
  have hb2:(upd H1 b (.ins d.qh dx (putF "order" (.ref o') []))) b>>(.ins d.qh dx (putF "order" (.ref o') [])):=kad
  generalize upd H1 b (.ins d.qh dx (putF "order" (.ref o') []))=H2 at *
  symm
  exists Y4
  refine⟨_,rfl,st,rfl,⟨_,SqL.of (s2 _ _ hst)⟩,kaW (xs:=sa.map V.ref) (fun i σ ys H'=>Same H2 H'∧∃(ta:List Addr)(v0 v1 v2:Option V),ys=ta.map V.ref∧P2 (fun a t=>StepN H0 H' a t) ta (steps.take i)∧σ=[v0,v1,v2])
   ⟨Same.refl _,[],none,none,none,rfl, .nil,rfl⟩ (by rw[ND,hsa.len];exact NR (kas (by lia))) ?_ ?_ ?_⟩
  ·rintro i σ ys H' hi ⟨s3,ta,v0,v1,v2,rfl,hT,rfl⟩
   symm
   exists Y6
   rwa[SqL.of (s3 _ _ (s2 _ _ hst)),?_]
   rw[ND,hT.len,NS]
   rw[ND,hsa.len] at hi
   lia
  ·rintro i y σ ys H' hy ⟨s3,ta,v0,v1,v2,rfl,hT,rfl⟩
   obtain⟨a,ea,rfl⟩:=kbZ hy
   obtain⟨t,et,l,ha,hl⟩:=hsa.at ea
   have s03:=s2.trans s3
   nofun
   exists Y6
   rwa[a,8,SqT.of (s03 _ _ ha),6,_,8,_,8,9,?_]
   nofun
   exists Y6
   rwa[8,8,l,8, .inl (SqL.of (s03 _ _ hl)),fun l' hl'=>⟨_,rfl,(by show 3≤sizeLine;decide),fun q hq=>?_⟩]
   have n4:=kam (o:=.lst (t.cs.map V.int)) hl'
   have n5:=kam (o:=.tup [iV t.n,V.ref l',V.int t.c]) hq
   nofun
   exists Y6
   rwa[s3.trans (n4.trans n5),ta++[q],_,_,_,by rw[NL];rfl,?_,6]
   rw[kb5 et]
   nofun
   exact P2.snoc (hT.mono fun a t h=>h.same (n4.trans n5)) ⟨s03.free (n4.free hq),l',s03.free hl',kad,n5 _ _ kad⟩
  rintro σ ys H3 ⟨s3,ta,v0,v1,v2,rfl,hT,rfl⟩ sp hsp
  rw[ND,hsa.len,Ma] at hT
  have n4:=kam (o:=.lst (ta.map V.ref)) hsp
  have s03:=s2.trans s3
  have fsp:=s03.free hsp
  have hb3:=s3 _ _ hb2
  have nsp:sp≠b:=(kaj hb3 hsp).symm
  have s4:=s03.trans n4
  have e4:=n4 _ _ (s3 _ _ e2)
  have es4:(upd H3 sp (.lst (ta.map V.ref))) sp>>(.lst (ta.map V.ref)):=kad
  have hT4:P2 (fun a t=>StepN H0 (upd H3 sp (.lst (ta.map V.ref))) a t) ta steps:=hT.mono fun a t h=>h.same n4
  have hb4:=n4 _ _ hb3
  clear n4
  generalize upd H3 sp (.lst (ta.map V.ref))=H4 at *
  nomatch b,d.qh,dx,8,hb4,W.qh.cl,W.Ur,few (NJ (kal (n:=0) (NG _)) (by decide)),?_
  have b5:But b H4 (upd H4 b (.ins d.qh dx (putF "steps" (.ref sp) (putF "order" (.ref o') [])))):=kaw (nx hb4)
  have s5:Same H0 (upd H4 b (.ins d.qh dx (putF "steps" (.ref sp) (putF "order" (.ref o') [])))):=kat fb s4 (nx hb4)
  have e5:(upd H4 b (.ins d.qh dx (putF "steps" (.ref sp) (putF "order" (.ref o') [])))) o'>>(.lst (order.map iV)):=by rw[kak no];exact e4
  have es5:(upd H4 b (.ins d.qh dx (putF "steps" (.ref sp) (putF "order" (.ref o') [])))) sp>>(.lst (ta.map V.ref)):=by rw[kak nsp];exact es4
  have hb5:(upd H4 b (.ins d.qh dx (putF "steps" (.ref sp) (putF "order" (.ref o') [])))) b>>(.ins d.qh dx (putF "steps" (.ref sp) (putF "order" (.ref o') []))):=kad
  have stepb:∀{H5:Hp},But b H4 H5→P2 (fun a t=>StepN H0 H5 a t) ta steps:=fun {H5} bt=>hT4.mono fun a t ⟨f,l,g,h1,h2⟩=>⟨f,l,g,bt _ _ (ne_of h1 hb4 (by intro z;cases z)) h1,bt _ _ (ne_of h2 hb4 (by intro z;cases z)) h2⟩
  generalize upd H4 b (.ins d.qh dx (putF "steps" (.ref sp) (putF "order" (.ref o') [])))=H5 at *
  nomatch x,d.qd,dxs,fss,8,s5 _ _ hxs,W.qd.cl,W.qA,l2,pp,8, .inl (SqL.of (s5 _ _ hpp)),fun p' hp'=>?_
  have n6:=kam (o:=.lst (S.pr.map V.int)) hp'
  have fp:=s5.free hp'
  have np:p'≠b:=(kaj hb5 hp').symm
  have s6:=s5.trans n6
  have b6:=b5.same n6
  have e6:=n6 _ _ e5
  have es6:=n6 _ _ es5
  have ep6:(upd H5 p' (.lst (S.pr.map V.int))) p'>>(.lst (S.pr.map V.int)):=kad
  have hb6:=n6 _ _ hb5
  clear n6
  generalize upd H5 p' (.lst (S.pr.map V.int))=H6 at *
  nomatch b,d.qh,dx,8,hb6,W.qh.cl,W.Xw,few (NJ (kal (kal (n:=0) (NG _))) (by decide)),?_
  have b7:But b H4 (upd H6 b (.ins d.qh dx (putF "prices" (.ref p') (putF "steps" (.ref sp) (putF "order" (.ref o') []))))):=b6.trans (kaw (nx hb6))
  have s7:Same H0 (upd H6 b (.ins d.qh dx (putF "prices" (.ref p') (putF "steps" (.ref sp) (putF "order" (.ref o') []))))):=kat fb s6 (nx hb6)
  have e7:(upd H6 b (.ins d.qh dx (putF "prices" (.ref p') (putF "steps" (.ref sp) (putF "order" (.ref o') []))))) o'>>(.lst (order.map iV)):=by rw[kak no];exact e6
  have es7:(upd H6 b (.ins d.qh dx (putF "prices" (.ref p') (putF "steps" (.ref sp) (putF "order" (.ref o') []))))) sp>>(.lst (ta.map V.ref)):=by rw[kak nsp];exact es6
  have ep7:(upd H6 b (.ins d.qh dx (putF "prices" (.ref p') (putF "steps" (.ref sp) (putF "order" (.ref o') []))))) p'>>(.lst (S.pr.map V.int)):=by rw[kak np];exact ep6
  have hb7:(upd H6 b (.ins d.qh dx (putF "prices" (.ref p') (putF "steps" (.ref sp) (putF "order" (.ref o') []))))) b>>(.ins d.qh dx (putF "prices" (.ref p') (putF "steps" (.ref sp) (putF "order" (.ref o') [])))):=kad
  generalize upd H6 b (.ins d.qh dx (putF "prices" (.ref p') (putF "steps" (.ref sp) (putF "order" (.ref o') []))))=H7 at *
  nomatch x,d.qd,dxs,fss,8,s7 _ _ hxs,W.qd.cl,W.Qc,l3,8,b,d.qh,dx,8,hb7,W.qh.cl,W.Us,few (NJ (kal (kal (kal (n:=0) (NG _)))) (by decide)),?_
  have s8:Same H0 (upd H7 b (.ins d.qh dx (putF "carriage" (.int S.cg) (putF "prices" (.ref p') (putF "steps" (.ref sp) (putF "order" (.ref o') [])))))):=kat fb s7 (nx hb7)
  have hb8:(upd H7 b (.ins d.qh dx (putF "carriage" (.int S.cg) (putF "prices" (.ref p') (putF "steps" (.ref sp) (putF "order" (.ref o') [])))))) b>>(.ins d.qh dx (putF "carriage" (.int S.cg) (putF "prices" (.ref p') (putF "steps" (.ref sp) (putF "order" (.ref o') []))))):=kad
  nomatch x,dxs,fss,6,s8 _ _ hxs,l5,x,ow,pp,mm,S.cg,S.pr,6,⟨dxs,fss,s8 _ _ hxs,l1,l2,l3,l4,l5⟩,s8 _ _ hpp,8,b,d.qh,dx,8,hb8,W.qh.cl,W.QP,few (NJ (kal (kal (kal (kal (n:=0) (NG _))))) (by decide)),?_
  symm
  refine kk _ (kat fb s8 (nx hb8)) ⟨dx,_,o',sp,p',ta,kad,?_,?_,?_,?_,?_,fb,fo,fsp,fp,?_,?_,stepb ((b7.trans (kaw (nx hb7))).trans (kaw (nx hb8))),?_⟩
  ·ac_nf
  ·ac_nf
  ·ac_nf
  ·ac_nf
  ·ac_nf
  ·rw[kak no,kak no];exact e7
  ·rw[kak nsp,kak nsp];exact es7
  ·rw[kak np,kak np];exact ep7
theorem kmI{d:D}{H:Hp}{o s x:Addr}{order:List Nat}{steps:List Step}{S:Stnd}{sa:List Addr}{R:Addr→Hp→Prop}{E:XK}(ho:H o>>(.lst (order.map iV)))(hs:H s>>(.lst (sa.map V.ref)))(hsa:P2 (fun a t=>StepIs H a t) sa steps)(h64:steps.length<64)(hS:StndIs d.qd H x S)
  (k:∀(H':Hp)(b:Addr),Same H H'→BillIs d H H' b ⟨order,steps,S.pr,S.cg,S.pr.sum+S.cg⟩→R b H'):
  ∀b dx,H b=none→H dx=none→dx≠b→khs d [.ref b, .ref o, .ref s, .ref x] (upd (upd H dx (.own b)) b (.ins d.qh dx [])) (fun v H2=>v=.non∧R b H2) E:=
 fun b dx nb nd _=>⟨H,b,dx,o,s,x,order,steps,S,sa,rfl,nb,ka2 nb nd,kad,ho,hs,hsa,h64,hS,fun H' z hB=>⟨rfl,k H' b z hB⟩⟩
theorem kdW{H:Hp}{sp o:Addr}{xs:List Addr}{ys:List V}(hsp:H sp>>(.lst (xs.map V.ref)))(h0:xs≠[])(ho:H o>>(.lst ys))(hy:∀y∈ys,∀r,y≠V.ref r):o≠sp:=fun z=>by
 rw[z,hsp] at ho
 injection ho with ho
 injection ho with ho
 cases xs with
 |nil=>exact h0 rfl
 |cons r xs=>exact hy (V.ref r) (by rw[←ho];simp) r rfl
theorem StndIs.butR{C sp x:Addr}{H H':Hp}{S:Stnd}{xs:List Addr}(b:But sp H H')(hsp:H sp>>(.lst (xs.map V.ref)))(h0:xs≠[]):StndIs C H x S→StndIs C H' x S:=by rintro⟨o,p,mk,⟨dx,fs,hx,q⟩,ho,hp,hm⟩;exact
 ⟨o,p,mk,⟨dx,fs,b _ _ (ne_of hx hsp (by intro z;cases z)) hx,q⟩,
  b _ _ (kdW hsp h0 ho fun y hy r e=>by obtain⟨n,_,rfl⟩:=N3.mp hy;cases e) ho,
  b _ _ (kdW hsp h0 hp fun y hy r e=>by obtain⟨n,_,rfl⟩:=N3.mp hy;cases e) hp,
  b _ _ (kdW hsp h0 hm fun y hy r e=>by obtain⟨n,_,rfl⟩:=N3.mp hy;cases e) hm⟩
theorem WayAt.butR{d:D}{m:Nat}{sp w t b x:Addr}{H H':Hp}{hand:List Int}{used:List Nat}{xs:List Addr}(z:But sp H H')(hsp:H sp>>(.lst (xs.map V.ref)))(h0:xs≠[]):WayAt d m H w t b x hand used→WayAt d m H' w t b x hand used:=by rintro⟨dx,fs,h,u,h1,h2,h3,h4,h5,h6,h7,h8,h9,h10,h11,h12,h13⟩;exact
 ⟨dx,fs,h,u,z _ _ (ne_of h1 hsp (by intro z;cases z)) h1,h2,h3,h4,h5,h6,h7,h8,h9,h10,h11,
  z _ _ (kdW hsp h0 h12 fun y hy r e=>by obtain⟨n,_,rfl⟩:=N3.mp hy;cases e) h12,
  z _ _ (kdW hsp h0 h13 fun y hy r e=>by obtain⟨n,_,rfl⟩:=N3.mp hy;cases e) h13⟩
noncomputable def billM(T:TillD)(B:Bask):List Nat→Stnd→List Step×Stnd
 |[],S=>([],S)
 |n::ns,S=>match T.vs[n]? with
  |none=>([],S)
  |some V=>(⟨n,(cutM V T.ps (kds B) S).1,(cutM V T.ps (kds B) S).2⟩::(billM T B ns (aftM V T.ps (kds B) S)).1,(billM T B ns (aftM V T.ps (kds B) S)).2)
noncomputable def kaX(T:TillD)(B:Bask)(order:List Nat):BillD:=⟨order,(billM T B order (stnd0 B)).1,(billM T B order (stnd0 B)).2.pr,(billM T B order (stnd0 B)).2.cg,(billM T B order (stnd0 B)).2.pr.sum+(billM T B order (stnd0 B)).2.cg⟩
inductive kh3(d:D)(vs:List V)(H:Hp)(Q:VK)(E_:XK):Prop
 |ct(t b h o:Addr)(T:TillD)(B:Bask)(hand:List Int)(order:List Nat)(_:vs=[.ref t, .ref b, .ref h, .ref o])(_:TillIs d H t T)(_:kb0 T)(_:BaskIs d.qe d.qf H b B)(_:Wf T.ps B (stnd0 B))(_:H h>>(.lst (hand.map V.int)))(_:H o>>(.lst (order.map iV)))(_:hand.length=T.vs.length)(_:(∀n∈order,n<T.vs.length))(_:order.length<64)(_:kdl T B hand order=none)(_:∀(H0 H':Hp)(bl:Addr),Same H H0→Same H0 H'→BillIs d H0 H' bl (kaX T B order)→Q (.ref bl) H'):kh3 d vs H Q E_
theorem qZ:kar ["till","basket","hand","order","due","way","steps","number","told"] ["till","basket","hand","order"] (kai kf2):=by ac_rfl
theorem ke1(W:WB K mg d base):FO P w W 9 d.YL d.YM ["till","basket","hand","order"] (kh3 d):=by
 exists W.QK.F,qZ
 ·obtain⟨t,b,h,o,T,B,hand,order,rfl,hT,tok,hB,wf0,hh,ho,hl,hlt,h64,hf,kk⟩:=h
  exists U6,kla,W
  exists qK,kcf,W
  exists U7,kmE,W
  exists qY,kb4,W
  exists U8,kgZ,W
  have hr3:Room 3 _:=hr.mono (by decide)
  have hr5:Room 5 _:=hr.mono (by decide)
  have hr6:Room 6 _:=hr.mono (by decide)
  refine⟨_,kab (psl (i:=4) qZ.nd (pcl U6 hr W.Vv (kaa (pv 0) (kaa (pv 1) (kaa (pv 2) (kaa (pv 3) kae))))))
   (kab (ps_if (kan kdZ (pv 4) kbf (kau _)) (kag (ps_no)) (kav))
   (kab (psl (i:=5) qZ.nd (kaT (W.qx.mk' W.c_Way) qK hr5 rfl W.c_Way.m W.qx.b .nil pass0 (kaa (pv 0) (kaa (pv 1) (kaa (pv 2) kae)))))
   (kab (psl (i:=6) qZ.nd (kaM kae))
   (kab (kbo PassesOwn.never rfl (kaC (K:=K) (pv 3)) (pgn (i:=7) qZ.nd)
   (kab (psl (i:=8) qZ.nd (pcl U7 hr5 W.Vo (kaa (pe_ix (r:=rIxL K) kaG (kah (K:=K) (pv 0) rfl) (pv 7) (fun _ _=>rfl)) (kaa (kah (K:=K) (pv 0) rfl) (kaa (pv 1) (kaa (kah (K:=K) (pv 5) rfl) kae))))))
   (kab (ka1 (pe_bm Mt MH MI ka8 (pv 6) (kaa (kce (kaa (pv 7) (kaa (pe_ix (r:=rIxT K) kix (pv 8) kaf (fun _ _=>rfl)) (kaa (pe_ix (r:=rIxT K) kix (pv 8) kaf (fun _ _=>rfl)) kae)))) kae)))
   (kag (psl (i:=5) qZ.nd (kbm (pv 5) W.c_Way.cl W.qG.me qY hr6 W.qG.b .nil pass0 (kaa (pv 7) kae)))))))
   (kag (kap (kaT (W.Xx.mk' W.qh) U8 hr3 rfl W.qh.m W.Xx.b .nil pass0 (kaa (pv 3) (kaa (pv 6) (kaa (kah (K:=K) (pv 5) rfl) kae)))))))))),?_⟩
  exists Y4
  rwa[8,8,8,8,t,b,h,o,T,B,hand,order,6,hT,tok,hB,wf0,hh,ho,hl,hlt,h64,fun H1 v s1 hF=>?_]
  rw[hf] at hF
  have ev:v=.non:=hF
  subst ev
  nomatch 6,8,?_
  show if(!decide (V.non=V.non))=true then _ else _
  rw[show(!decide (V.non=V.non))=false by simp]
  refine iteF ?_
  nomatch 8,8,kg0 (s1 _ _ hh) (hB.same s1) wf0.nl wf0.ok fun H2 y0 x0 s2 fy0 fx0 hy0N hx0=>?_
  have hy0:=hy0N.at
  have s02:=s1.trans s2
  symm
  exists Y4
  rwa[by decide,fun sp fsp=>?_]
  generalize hgH3:upd H2 sp _=H3
  obtain⟨n3,(esp0:H3 sp>>(.lst (([]:List Addr).map V.ref)))⟩:=kay hgH3 fsp
  have fsp0:=s02.free fsp
  generalize eR:billM T B order (stnd0 B)=R at *
  symm
  exists Y4
  refine⟨_,rfl,o,rfl,⟨_,SqL.of ((s02.trans n3) _ _ ho)⟩,ka7 (xs:=order.map iV) (fun i σ H'=>Same H2 H'∧∃(y x:Addr)(used:List Nat)(S:Stnd)(sa:List Addr)(st:List Step)(v7 v8:Option V),WayIs d H' y t b x hand used∧StndIs d.qd H' x S∧(sa=[]→WayIs d H2 y t b x hand used∧StndIs d.qd H2 x S)∧Wf T.ps B S∧used.length=i∧H' sp>>(.lst (sa.map V.ref))∧P2 (fun a t=>StepIs H' a t) sa st∧st.length=i∧st++(billM T B (order.drop i) S).1=R.1∧(billM T B (order.drop i) S).2=R.2∧σ=[some (.ref t),some (.ref b),some (.ref h),some (.ref o),some .non,some (.ref y),some (.ref sp),v7,v8])
   ⟨n3,y0,x0,[],_,[],[],none,none,(hy0.most (by decide)).same n3,hx0.same n3,(fun _=>⟨hy0.most (by decide),hx0⟩),wf0,rfl,esp0, .nil,rfl,by rw[M5,eR];rfl,by rw[M5,eR],rfl⟩ (fun i σ H' _ h=>SqL.of ((s02.trans h.1) _ _ ho)) ?_ ?_⟩
  ·rintro i yv σ H' hyv ⟨sI,y,x,used,S,sa,st,v7,v8,hY,hx,h2,wf,hul,hsp,hsa,hsl,hR1,hR2,rfl⟩
   obtain⟨n,en,rfl⟩:∃n,order[i]?>>n∧yv=iV n:=kbj hyv
   have hi:=at_lt en
   obtain⟨Vc,hV⟩:=at_of (hlt n (NM en))
   have vo:=tok.vs Vc (NM hV)
   have ed:order.drop i=n::order.drop (i+1):=by
    obtain⟨z1,z2⟩:=NT.mp en
    rw[EJ z1,z2]
   rw[ed] at hR1 hR2
   unfold billM at hR1 hR2
   rw[hV] at hR1 hR2
   simp only at hR1 hR2
   have s0I:=s02.trans sI
   obtain⟨dxw,fsw,hd,u,hw,w1,w2,w3,w4,w5,w6,w7,w8,w9,w10,hh',hu⟩:=id hY
   obtain⟨dx,fs,p,vl,rl,va,ra,ht,t1,t2,t3,t4,hp,hvl,hva,hrl,hra⟩:=id (hT.same s0I)
   obtain⟨vv,evv⟩:=at_of (xs:=va) (i:=n) (by rw[hva.len];exact at_lt hV)
   obtain⟨Vc',eV',hVv⟩:=hva.at evv
   rw[hV] at eV'
   cases eV'
   symm
   exists Y6
   rwa[8,t,d.qg,dx,fs,8,ht,W.qg.cl,W.qW,t2,8,vl,_,9,SqL.of hvl,kaL (v:=.ref vv) (by rw[NO,evv];rfl),?_]
   nofun
   exists Y6
   rwa[8,t,d.qg,dx,fs,8,ht,W.qg.cl,W.Qv,t1,8,8,y,d.c_Way,dxw,fsw,8,hw,W.c_Way.cl,W.qV,w5,?_]
   nofun
   exists Y6
   rwa[vv,p,b,x,Vc,T.ps,B,S,6,hVv,SqL.of hp,hB.same s0I,hx,wf,vo,fun H4 tt pc s4 ft fpc htt hpc=>?_]
   have hsp4:=s4 _ _ hsp
   nofun
   exists Y6
   rwa[8, .inl ⟨rfl,_,SqL.of hsp4⟩,8,8,tt,_,9,SqT.of htt,6,8,tt,_,9,SqT.of htt,6,(by show 3≤sizeLine;decide),fun q hq=>?_]
   have n5:=kam (o:=.tup [iV n,V.ref pc,V.int (cutM Vc T.ps (kds B) S).2]) hq
   have eq5:(upd H4 q (.tup [iV n,V.ref pc,V.int (cutM Vc T.ps (kds B) S).2])) q>>(.tup [iV n,V.ref pc,V.int (cutM Vc T.ps (kds B) S).2]):=kad
   have s5:=s4.trans n5
   have hsp5:=n5 _ _ hsp4
   have hpc5:=n5 _ _ hpc
   have npc:pc≠sp:=(kaj hsp fpc).symm
   clear n5
   generalize upd H4 q (.tup [iV n,V.ref pc,V.int (cutM Vc T.ps (kds B) S).2])=H5 at *
   nofun
   exists Y6
   rwa[sp,9,hsp5,kas (by rw[ND,hsa.len];lia),?_]
   have b6:But sp H5 (upd H5 sp (.lst (sa.map V.ref++[V.ref q]))):=kaw (nx hsp5)
   have s6:Same H2 (upd H5 sp (.lst (sa.map V.ref++[V.ref q]))):=kat fsp (sI.trans s5) (nx hsp5)
   have esp6:(upd H5 sp (.lst (sa.map V.ref++[V.ref q]))) sp>>(.lst ((sa++[q]).map V.ref)):=by rw[kad,NL];rfl
   generalize upd H5 sp (.lst (sa.map V.ref++[V.ref q]))=H6 at *
   have hYx:WayIs d H6 y t b x hand used∧StndIs d.qd H6 x S:=by
    by_cases h0:sa=[]
    ·rwa[(h2 h0).1.same s6,(h2 h0).2.same s6]
    ·rwa[(hY.same s5).butR b6 hsp5 h0,(hx.same s5).butR b6 hsp5 h0]
   have hst:P2 (fun a t=>StepIs H6 a t) (sa++[q]) (st++[⟨n,(cutM Vc T.ps (kds B) S).1,(cutM Vc T.ps (kds B) S).2⟩]):=by
    nofun
    refine P2.snoc ?_ ⟨pc,b6 _ _ (ne_of eq5 hsp5 (by intro z;cases z)) eq5,b6 _ _ npc hpc5⟩
    by_cases h0:sa=[]
    ·subst h0
     cases hsa
     nofun
     exact .nil
    ·refine hsa.mono fun a t zz=>?_
     obtain⟨l,g1,g2⟩:=zz
     have g1':=s5 _ _ g1
     have g2':=s5 _ _ g2
     nofun
     exists Y10
     rwa[l,b6 _ _ (ne_of g1' hsp5 (by intro z;cases z)) g1',b6 _ _ ?_ g2']
     try first|apply Y10|apply Y6|apply Y4
     exact kdW hsp5 h0 g2' fun y hy r e=>by obtain⟨n,_,rfl⟩:=N3.mp hy;cases e
   have s06:=s02.trans s6
   obtain⟨dxw',fsw',hd',u',hw',_,_,_,_,_,_,w7',_⟩:=id hYx.1
   nofun
   exists Y6
   rwa[8,y,dxw',fsw',6,hw',w7',8,y,t,b,x,T,B,S,hand,used,n,Vc,6,hYx.1,hT.same s06,hB.same s06,hYx.2,wf,vo,hV,by lia,fun H7 y' x' s7 fy' hY1 hx1=>?_]
   have hY':=hY1.at
   have hx':=hx1.is
   nofun
   exists Y6
   rwa[s6.trans s7,y',x',used++[n],_,sa++[q],_,_,_,hY',hx',(fun e=>by simp at e),wf.after vo,by rw[NQ,hul];rfl,s7 _ _ esp6,hst.mono fun a t h=>h.same s7,by rw[NQ,hsl];rfl,?_,hR2,6]
   rw[Mr]
   nofun
   exact hR1
  ·rintro σ H' ⟨sI,y,x,used,S,sa,st,v7,v8,hY,hx,h2,wf,hul,hsp,hsa,hsl,hR1,hR2,rfl⟩
   rw[ND,E7] at hR1 hR2
   unfold billM at hR1 hR2
   have e1:st=R.1:=by simpa using hR1
   have e2:S=R.2:=hR2
   obtain⟨dxw,fsw,hd,u,hw,w1,w2,w3,w4,w5,w6,w7,w8,w9,w10,hh',hu⟩:=id hY
   rw[ND] at hsl
   nofun
   exists Y6
   rwa[8,8,8,y,d.c_Way,dxw,fsw,8,hw,W.c_Way.cl,W.qV,w5,kmI ((s02.trans sI) _ _ ho) hsp hsa (by lia) hx fun H8 bl s8 hBl=>?_]
   nofun
   refine kk H' H8 bl (s02.trans sI) s8 ?_
   unfold kaX
   rw[eR,←e1,←e2]
   nofun
   exact hBl
theorem kkH(xs:List V)(a m:Nat)(h:a+m≤xs.length):cutV xs (some (a:Int)) (some ((a+m:Nat):Int))=(xs.drop a).take m:=by
 unfold cutV
 rw[HT.sIx_nat,HT.sIx_nat,Ee h,Ee (show a≤xs.length by lia)]
 congr 1
 lia
noncomputable def mans(rs:List Row):List Nat:=rs.map fun r=>r.mn.toNat
theorem kgV:∀(rs:List Row)(k:Nat),((rs.zipIdx k).map fun p=>NI p.1.mn.toNat p.2).flatten.length=(mans rs).sum
 |[],k=>rfl
 |r::rs,k=>by
  rw[Du,NW,Me,NQ,ML,kgV rs (k+1)]
  rfl
theorem keB(rs:List Row):(ownN rs).length=(mans rs).sum:=kgV rs 0
theorem kg2{rs:List Row}{i:Nat}{r:Row}(h:rs[i]?>>r):mans (rs.take (i+1))=mans (rs.take i)++[r.mn.toNat]:=by
 rw[take_snoc h]
 unfold mans
 rw[NL]
 rfl
theorem kj8(rs:List Row)(i:Nat):(mans (rs.take i)).sum≤(mans rs).sum:=by
 conv=>rhs;rw[←E4 i rs]
 unfold mans
 rw[NL,MJ]
 lia
theorem kef{H:Hp}{x y C C' dx dx':Addr}{fs fs':List (Str×V)}{g:Str}{v:V}(hx:H x>>(.ins C dx fs))(hy:H y>>(.ins C' dx' fs'))(l:fs'.lookup g>>v)(n:fs.lookup g=none):y≠x:=fun e=>by
 subst e
 rw[hx] at hy
 injection hy with hy
 injection hy with _ _ c
 rw[c,l] at n
 cases n
theorem kdd{f:Str}{y:V}:∀{fs:List (Str×V)}{v:V},fs.lookup f>>v→(putF f y fs).length=fs.length
 |[],v,h=>by cases h
 | (g,z)::r,v,h=>by
  rw[show putF f y ((g,z)::r)=(if g=f then(g,y)::r else(g,z)::putF f y r) from rfl]
  by_cases e:g=f
  ·rw[if_pos e]
   rfl
  ·rw[if_neg e]
   have hb:(f==g)=false:=beq_eq_false_iff_ne.mpr (Ne.symm e)
   have h':r.lookup f>>v:=by simpa only[MB,hb] using h
   show(putF f y r).length+1=r.length+1
   rw[kdd h']
def Foe(fs:List (Str×V)):Prop:=fs.lookup ("marks" :Str)=none∧fs.lookup ("kind" :Str)=none∧fs.lookup ("parents" :Str)=none∧fs.lookup ("lines" :Str)=none
section
variable{d:D}{H H':Hp}{x C dx:Addr}{fs:List (Str×V)}
theorem Tbs.butI(b:But x H H')(hx:H x>>(.ins C dx fs))(h:Tbs d H):Tbs d H':=by
 obtain⟨ps,e,t⟩:=id h
 exact(b _ _ (ne_of e hx (by intro z;cases z)) e).2 h
theorem VchIs.butI(b:But x H H')(hx:H x>>(.ins C dx fs))(foe:Foe fs){v:Addr}{V:Vch}:VchIs d H v V→VchIs d H' v V:=by rintro⟨mA,dv,fv,h1,h2,h3,⟨dm,fm,hm,l1,q⟩,h5,tb⟩;exact
 ⟨mA,dv,fv,b _ _ (kef hx h1 h2 foe.1) h1,h2,h3,⟨dm,fm,b _ _ (kef hx hm l1 foe.2.1) hm,l1,q⟩,h5,tb.butI b hx⟩
theorem TillIs.butI(b:But x H H')(hx:H x>>(.ins C dx fs))(foe:Foe fs){t:Addr}{T:TillD}:TillIs d H t T→TillIs d H' t T:=by
 rintro⟨dt,ft,p,vl,rl,va,ra,h1,h2,h3,h4,h5,h6,h7,h8,h9,h10⟩
 rwa[dt,ft,p,vl,rl,va,ra,b _ _ (kef hx h1 h2 foe.2.2.1) h1,h2,h3,h4,h5,b _ _ (ne_of h6 hx (by intro z;cases z)) h6,b _ _ (ne_of h7 hx (by intro z;cases z)) h7,h8.mono fun a V h=>h.butI b hx foe,b _ _ (ne_of h9 hx (by intro z;cases z)) h9,h10.mono fun a r h=>b _ _ (ne_of h hx (by intro z;cases z)) h]
theorem BaskIs.butI(b:But x H H')(hx:H x>>(.ins C dx fs))(foe:Foe fs){CL CB y:Addr}{B:Bask}:BaskIs CL CB H y B→BaskIs CL CB H' y B:=by
 rintro⟨l,ls,⟨db,fb,h1,h2,q⟩,h3,h4⟩
 rwa[l,ls,⟨db,fb,b _ _ (kef hx h1 h2 foe.2.2.2) h1,h2,q⟩,b _ _ (ne_of h3 hx (by intro z;cases z)) h3,h4.mono fun a r ⟨dl,fl,g1,g2,g3⟩=>⟨dl,fl,b _ _ (kef hx g1 g2 foe.2.1) g1,g2,g3⟩]
theorem kaQ(b:But x H H')(hx:H x>>(.ins C dx fs)){y:Addr}{xs:List V}(h:H y>>(.lst xs)):H' y>>(.lst xs):=b _ _ (ne_of h hx (by intro z;cases z)) h
end
structure AccD where
 T:TillD
 B:Bask
 pr:List Int
 hand:List Int
 order:List Nat
 fallen:List Nat
 many:List Int
 paid:Int
 owed:Int
noncomputable def accNo:List Str:=["take_back","has_left","pay_back","paid_behind","what_stays","due_again","go_through","marks","kind","parents","lines"]
structure AccF(fs:List (Str×V))(t b h fp o fa m:Addr)(paid owed:Int):Prop where
 l1:fs.lookup ("till" :Str)>>(.ref t)
 l2:fs.lookup ("basket" :Str)>>(.ref b)
 l3:fs.lookup ("hand" :Str)>>(.ref h)
 l4:fs.lookup ("first_prices" :Str)>>(.ref fp)
 l5:fs.lookup ("order" :Str)>>(.ref o)
 l6:fs.lookup ("fallen" :Str)>>(.ref fa)
 l7:fs.lookup ("many" :Str)>>(.ref m)
 l8:fs.lookup ("paid" :Str)>>(.int paid)
 l9:fs.lookup ("owed" :Str)>>(.int owed)
 l10:fs.length≤10
 l11:∀z∈accNo,fs.lookup z=none
theorem kaK{fs:List (Str×V)}{v:V}{f g:Str}{r:Option V}(h:fs.lookup g=r)(n:g≠f:=by cutsat):(putF f v fs).lookup g=r:=by
 rw[kac,if_neg n]
 exact h
theorem lk_at{fs:List (Str×V)}{v:V}{f:Str}:(putF f v fs).lookup f>>v:=by rw[kac,if_pos rfl]
theorem kcn{fs:List (Str×V)}{v:V}{f:Str}(h:∀z∈accNo,fs.lookup z=none)(n:f∉accNo:=by cutsat):∀z∈accNo,(putF f v fs).lookup z=none:=fun z hz=>kaK (h z hz) fun e=>n (e▸hz)
section
variable{fs:List (Str×V)}{t b h fp o fa m c:Addr}{p q z:Int}
theorem AccF.order(A:AccF fs t b h fp o fa m p q):AccF (putF "order" (.ref c) fs) t b h fp c fa m p q:=⟨kaK A.l1,kaK A.l2,kaK A.l3,kaK A.l4,lk_at,kaK A.l6,kaK A.l7,kaK A.l8,kaK A.l9,by rw[kdd A.l5];exact A.l10,kcn A.l11⟩
theorem AccF.fallen(A:AccF fs t b h fp o fa m p q):AccF (putF "fallen" (.ref c) fs) t b h fp o c m p q:=⟨kaK A.l1,kaK A.l2,kaK A.l3,kaK A.l4,kaK A.l5,lk_at,kaK A.l7,kaK A.l8,kaK A.l9,by rw[kdd A.l6];exact A.l10,kcn A.l11⟩
theorem AccF.many(A:AccF fs t b h fp o fa m p q):AccF (putF "many" (.ref c) fs) t b h fp o fa c p q:=⟨kaK A.l1,kaK A.l2,kaK A.l3,kaK A.l4,kaK A.l5,kaK A.l6,lk_at,kaK A.l8,kaK A.l9,by rw[kdd A.l7];exact A.l10,kcn A.l11⟩
theorem AccF.paid(A:AccF fs t b h fp o fa m p q):AccF (putF "paid" (.int z) fs) t b h fp o fa m z q:=⟨kaK A.l1,kaK A.l2,kaK A.l3,kaK A.l4,kaK A.l5,kaK A.l6,kaK A.l7,lk_at,kaK A.l9,by rw[kdd A.l8];exact A.l10,kcn A.l11⟩
theorem AccF.owed(A:AccF fs t b h fp o fa m p q):AccF (putF "owed" (.int z) fs) t b h fp o fa m p z:=⟨kaK A.l1,kaK A.l2,kaK A.l3,kaK A.l4,kaK A.l5,kaK A.l6,kaK A.l7,kaK A.l8,lk_at,by rw[kdd A.l9];exact A.l10,kcn A.l11⟩
theorem AccF.foe(A:AccF fs t b h fp o fa m p q):Foe fs:=⟨A.l11 _ (by cutsat),A.l11 _ (by cutsat),A.l11 _ (by cutsat),A.l11 _ (by cutsat)⟩
end
structure AccK(d:D)(Hs:Hp)(t b h fp o fa m:Addr)(A:AccD):Prop where
 T:TillIs d Hs t A.T
 B:BaskIs d.qe d.qf Hs b A.B
 h:Hs h>>(.lst (A.hand.map V.int))
 p:Hs fp>>(.lst (A.pr.map V.int))
 o:Hs o>>(.lst (A.order.map iV))
 f:Hs fa>>(.lst (A.fallen.map iV))
 m:Hs m>>(.lst (A.many.map V.int))
inductive AccIn(d:D)(Hs H:Hp)(x:Addr)(A:AccD):Prop
 |ct(dx t b h fp o fa m:Addr)(fs:List (Str×V))(_:H x>>(.ins d.qc dx fs))(_:AccF fs t b h fp o fa m A.paid A.owed)(_:AccK d Hs t b h fp o fa m A):AccIn d Hs H x A
section
variable{d:D}{Hs Hs' H H':Hp}{x:Addr}{A:AccD}
theorem AccK.kept{t b h fp o fa m:Addr}(s:Same Hs Hs')(k:AccK d Hs t b h fp o fa m A):AccK d Hs' t b h fp o fa m A:=⟨k.T.same s,k.B.same s,s _ _ k.h,s _ _ k.p,s _ _ k.o,s _ _ k.f,s _ _ k.m⟩
theorem AccIn.same(s:Same H H'):AccIn d Hs H x A→AccIn d Hs H' x A:=by rintro⟨dx,t,b,h,fp,o,fa,m,fs,hx,f,q⟩;exact⟨dx,t,b,h,fp,o,fa,m,fs,s _ _ hx,f,q⟩
theorem AccIn.but{y:Addr}(z:But y H H')(n:x≠y):AccIn d Hs H x A→AccIn d Hs H' x A:=by rintro⟨dx,t,b,h,fp,o,fa,m,fs,hx,f,q⟩;exact⟨dx,t,b,h,fp,o,fa,m,fs,z _ _ n hx,f,q⟩
theorem AccIn.kept(s:Same Hs Hs'):AccIn d Hs H x A→AccIn d Hs' H x A:=by rintro⟨dx,t,b,h,fp,o,fa,m,fs,hx,f,q⟩;exact⟨dx,t,b,h,fp,o,fa,m,fs,hx,f,q.kept s⟩
theorem AccIn.obj(h:AccIn d Hs H x A):∃(dx:Addr)(fs:List (Str×V)),H x>>(.ins d.qc dx fs)∧Foe fs:=by
 obtain⟨dx,t,b,h,fp,o,fa,m,fs,hx,f,q⟩:=h
 rwa[dx,fs,hx,f.foe]
theorem AccIn.rmv{y C dy:Addr}{gs:List (Str×V)}(hy:Hs y>>(.ins C dy gs))(foe:Foe gs):AccIn d Hs H x A→AccIn d (rmv y Hs) H x A:=fun⟨dx,t,b,h,fp,o,fa,m,fs,hx,f,q⟩=>
 have bt:=keR (nx hy)
 ⟨dx,t,b,h,fp,o,fa,m,fs,hx,f,q.T.butI bt hy foe,q.B.butI bt hy foe,kaQ bt hy q.h,kaQ bt hy q.p,kaQ bt hy q.o,kaQ bt hy q.f,kaQ bt hy q.m⟩
end
inductive TillN(d:D)(H0 H:Hp)(t:Addr)(T:TillD):Prop
 |ct(dx:Addr)(fs:List (Str×V))(p vl rl:Addr)(va ra:List Addr)(_:H0 p=none)(_:H0 vl=none)(_:H0 rl=none)(_:H t>>(.ins d.qg dx fs))(_:fs.lookup ("parents" :Str)>>(.ref p))(_:fs.lookup ("vouchers" :Str)>>(.ref vl))(_:fs.lookup ("rules" :Str)>>(.ref rl))(_:fs.lookup ("back" :Str)>>(.str T.bk))(_:H p>>(.lst (T.ps.map pV)))(_:H vl>>(.lst (va.map V.ref)))(_:P2 (fun a V=>VchIs d H a V) va T.vs)(_:H rl>>(.lst (ra.map V.ref)))(_:P2 (fun a r=>RulIs H a r) ra T.rs):TillN d H0 H t T
inductive BaskN(CL CB:Addr)(H0 H:Hp)(b:Addr)(B:Bask):Prop
 |ct(l:Addr)(ls:List Addr)(_:H0 l=none)(_:BaskAt CB H b l B.cg B.m)(_:H l>>(.lst (ls.map V.ref)))(_:Lines CL H ls B.rs):BaskN CL CB H0 H b B
section
variable{d:D}{H0 H H':Hp}{x C dx q:Addr}{fs:List (Str×V)}{t:Addr}{T:TillD}{B:Bask}{CL CB:Addr}{xs:List V}
theorem TillN.is:TillN d H0 H t T→TillIs d H t T:=by rintro⟨dt,ft,p,vl,rl,va,ra,_,_,_,h1,h2,h3,h4,h5,h6,h7,h8,h9,h10⟩;exact⟨dt,ft,p,vl,rl,va,ra,h1,h2,h3,h4,h5,h6,h7,h8,h9,h10⟩
theorem TillN.butI(b:But x H H')(hx:H x>>(.ins C dx fs))(foe:Foe fs):TillN d H0 H t T→TillN d H0 H' t T:=by
 rintro⟨dt,ft,p,vl,rl,va,ra,f1,f2,f3,h1,h2,h3,h4,h5,h6,h7,h8,h9,h10⟩
 rwa[dt,ft,p,vl,rl,va,ra,f1,f2,f3,b _ _ (kef hx h1 h2 foe.2.2.1) h1,h2,h3,h4,h5,b _ _ (ne_of h6 hx (by intro z;cases z)) h6,b _ _ (ne_of h7 hx (by intro z;cases z)) h7,h8.mono fun a V h=>h.butI b hx foe,b _ _ (ne_of h9 hx (by intro z;cases z)) h9,h10.mono fun a r h=>b _ _ (ne_of h hx (by intro z;cases z)) h]
theorem BaskN.is:BaskN CL CB H0 H x B→BaskIs CL CB H x B:=by rintro⟨l,ls,_,h1,h2,h3⟩;exact⟨l,ls,h1,h2,h3⟩
theorem BaskN.butI{y:Addr}(b:But x H H')(hx:H x>>(.ins C dx fs))(foe:Foe fs):BaskN CL CB H0 H y B→BaskN CL CB H0 H' y B:=by
 rintro⟨l,ls,f,⟨db,fb,h1,h2,q⟩,h3,h4⟩
 rwa[l,ls,f,⟨db,fb,b _ _ (kef hx h1 h2 foe.2.2.2) h1,h2,q⟩,b _ _ (ne_of h3 hx (by intro z;cases z)) h3,h4.mono fun a r ⟨dl,fl,g1,g2,g3⟩=>⟨dl,fl,b _ _ (kef hx g1 g2 foe.2.1) g1,g2,g3⟩]
theorem VchIs.butL(b:But q H H')(hq:H q>>(.lst xs)){v:Addr}{V:Vch}:VchIs d H v V→VchIs d H' v V:=fun⟨mA,dv,fv,h1,h2,h3,⟨dm,fm,hm,l1,r⟩,h5,tb⟩=>by
 have hn:∀{a C dx:Addr}{fs:List (Str×L2.V)},H a>>(.ins C dx fs)→a≠q:=fun h=>ne_of h hq (by intro z;cases z)
 rwa[mA,dv,fv,b _ _ (hn h1) h1,h2,h3,⟨dm,fm,b _ _ (hn hm) hm,l1,r⟩,h5,?_]
 obtain⟨ps,e,t⟩:=id tb
 exact(b _ _ (ne_of e hq (by intro z;cases z)) e).2 tb
theorem TillN.rmv(f0:H0 q≠none)(hq:H q>>(.lst xs)):TillN d H0 H t T→TillIs d (rmv q H) t T:=by
 rintro⟨dt,ft,p,vl,rl,va,ra,f1,f2,f3,h1,h2,h3,h4,h5,h6,h7,h8,h9,h10⟩
 have b:=keR (nx hq)
 rwa[dt,ft,p,vl,rl,va,ra,b _ _ (ne_of h1 hq (by intro z;cases z)) h1,h2,h3,h4,h5,(kbe f0 f1).trans h6,(kbe f0 f2).trans h7,h8.mono fun a V h=>h.butL b hq,(kbe f0 f3).trans h9,h10.mono fun a r h=>b _ _ (ne_of h hq (by intro z;cases z)) h]
theorem BaskN.rmv(f0:H0 q≠none)(hq:H q>>(.lst xs)):BaskN CL CB H0 H x B→BaskIs CL CB (rmv q H) x B:=by
 rintro⟨l,ls,f,⟨db,fb,h1,h2,r⟩,h3,h4⟩
 have b:=keR (nx hq)
 rwa[l,ls,⟨db,fb,b _ _ (ne_of h1 hq (by intro z;cases z)) h1,h2,r⟩,(kbe f0 f).trans h3,h4.mono fun a r ⟨dl,fl,g1,g2,g3⟩=>⟨dl,fl,b _ _ (ne_of g1 hq (by intro z;cases z)) g1,g2,g3⟩]
end
theorem kld{d:D}{H0 H:Hp}{p vl rl:Addr}{T:TillD}{va ra:List Addr}{R:Addr→Hp→Prop}{E:XK}(s0:Same H0 H)(hp:H p>>(.lst (T.ps.map pV)))(hvl:H vl>>(.lst (va.map V.ref)))(hv:P2 (fun a V=>VchIs d H a V) va T.vs)(hrl:H rl>>(.lst (ra.map V.ref)))(hr:P2 (fun a r=>RulIs H a r) ra T.rs)
  (k:∀(H':Hp)(x:Addr),Same H H'→H x=none→TillN d H0 H' x T→R x H'):
  ∀x dx,H x=none→H dx=none→dx≠x→kfU d [.ref x, .ref p, .ref vl, .ref rl, .str T.bk] (upd (upd H dx (.own x)) x (.ins d.qg dx [])) (fun v H2=>v=.non∧R x H2) E:=
 fun x dx nx nd _=>⟨H,x,dx,p,vl,rl,_,_,_,_,rfl,nx,ka2 nx nd,kad,hp,hvl,hrl,fun H' p' vl' rl' fs s f1 f2 f3 h1 h2 h3 hx l1 l2 l3 l4=>⟨rfl,k H' x s nx ⟨dx,fs,p',vl',rl',va,ra,none_of s0 f1,none_of s0 f2,none_of s0 f3,hx,l1,l2,l3,l4,h1,h2,hv.mono fun a V h=>h.same s,h3,hr.mono fun a r h=>s _ _ h⟩⟩⟩
theorem kdy{Hk H0 H':Hp}{x C dx:Addr}{fs fs':List (Str×V)}(h:upd Hk x (.ins C dx fs')=H')(hx:Hk x>>(.ins C dx fs))(fx:H0 x=none)(s:Same H0 Hk):But x Hk H'∧Same H0 H'∧H' x>>(.ins C dx fs'):=by
 subst h
 rwa[kaw (nx hx),kat fx s (nx hx),kad]
noncomputable def acc0(T:TillD)(B:Bask)(hand:List Int)(order:List Nat):AccD:=⟨T,B,(kaX T B order).pr,hand,order,[],B.rs.map fun r=>r.mn,(kaX T B order).total,0⟩
inductive kjA(d:D)(vs:List V)(H:Hp)(Q:VK)(E_:XK):Prop
 |ct(H0:Hp)(x dx t b h o:Addr)(T:TillD)(B:Bask)(hand:List Int)(order:List Nat)(_:vs=[.ref x, .ref t, .ref b, .ref h, .ref o])(_:H0 x=none)(_:Same H0 H)(_:H x>>(.ins d.qc dx []))(_:TillIs d H0 t T)(_:kb0 T)(_:BaskIs d.qe d.qf H0 b B)(_:Wf T.ps B (stnd0 B))(_:H0 h>>(.lst (hand.map V.int)))(_:H0 o>>(.lst (order.map iV)))(_:hand.length=T.vs.length)(_:(∀n∈order,n<T.vs.length))(_:order.length<64)(_:kdl T B hand order=none)(_:∀H',Same H0 H'→AccIn d H' H' x (acc0 T B hand order)→(∀q xs,H0 q>>(.lst xs)→AccIn d (rmv q H') H' x (acc0 T B hand order))→Q .non H'):kjA d vs H Q E_
theorem Ud:kar ["self","till","basket","hand","order","bill"] ["self","till","basket","hand","order"] (kai kcx):=by ac_rfl
theorem ke8(W:WB K mg d base):FO P w W 10 d.ZV d.ZW ["self","till","basket","hand","order"] (kjA d):=by
 exists W.Xy.F,Ud
 ·obtain⟨H0,x,dx,t,b,h,o,T,B,hand,order,rfl,fx,s0,hx,hT,tok,hB,wf0,hh,ho,hhl,hlt,h64,hf,k⟩:=h
  exists QE,ke1,W
  exists XX,ked,W
  exists q9,kbM,W
  have hr2:Room 2 _:=hr.mono (by decide)
  refine⟨_,kab (psl (i:=5) Ud.nd (pcl QE hr W.QK (kaa (pv 1) (kaa (pv 2) (kaa (pv 3) (kaa (pv 4) kae))))))
   (kab (kaz (pv 0) (kaT (W.Qw.mk' W.qg) XX hr2 rfl W.qg.m W.Qw.b .nil pass0 (kaa (kah (K:=K) (pv 1) rfl) (kaa (kah (K:=K) (pv 1) rfl) (kaa (kah (K:=K) (pv 1) rfl) (kaa (kah (K:=K) (pv 1) rfl) kae))))) rfl)
   (kab (kaz (pv 0) (kaT (W.qD.mk' W.qf) q9 hr2 rfl W.qf.m W.qD.b .nil pass0 (kaa (kah (K:=K) (pv 2) rfl) (kaa (kah (K:=K) (pv 2) rfl) (kaa (kah (K:=K) (pv 2) rfl) kae)))) rfl)
   (kab (kaz (pv 0) (kaF (r:=kaS K) kax (by rfl) W.B.list ka9 (kaa (pv 3) kae)) rfl)
   (kab (kaz (pv 0) (kah (K:=K) (pv 5) rfl) rfl)
   (kab (kaz (pv 0) (kaF (r:=kaS K) kax (by rfl) W.B.list ka9 (kaa (pv 4) kae)) rfl)
   (kab (kaz (pv 0) (kaM kae) rfl)
   (kab (kaz (pv 0) (kbq (N:=["line"]) (CompScope.plain rfl (by cutsat) (by cutsat) (by cutsat) (nd1 _)) rfl (kaC (K:=K) (kah (K:=K) (pv 2) rfl)) (fun _ _ _ _=>pgn (i:=0) (nd1 _)) (fun _ _ _ _=>(kah (K:=K) (pv 0) rfl))) rfl)
   (kab (kaz (pv 0) (kah (K:=K) (pv 5) rfl) rfl)
   (kag (kaz (pv 0) kaf rfl)))))))))),?_⟩
  exists Y4
  rwa[8,8,8,8,t,b,h,o,T,B,hand,order,6,hT.same s0,tok,hB.same s0,wf0,s0 _ _ hh,s0 _ _ ho,hhl,hlt,h64,hf,fun Hz H1 bl z0 z1 hBl=>?_]
  have len0:([]:List (Str×V)).length≤0:=NG _
  have hzx:Hz x≠none:=by
   rw[z0 _ _ hx]
   intro z
   cases z
  have S1:=(s0.trans z0).trans z1
  have hx1:=(z0.trans z1) _ _ hx
  obtain⟨dxt,fst,tp,vl,rl,va,ra,ht,t1,t2,t3,t4,htp,hvl,hva,hrl,hra⟩:=id (hT.same S1)
  nomatch t,d.qg,dxt,fst,8,ht,W.qg.cl,W.Qv,t1,8,t,d.qg,dxt,fst,8,ht,W.qg.cl,W.qW,t2,8,t,d.qg,dxt,fst,8,ht,W.qg.cl,W.qQ,t3,8,t,d.qg,dxt,fst,8,ht,W.qg.cl,W.QQ,t4,kld (T:=T) S1 htp hvl hva hrl hra fun H2 t' s2 ft' hT'=>?_
  have S2:=S1.trans s2
  have hx2:=s2 _ _ hx1
  nomatch x,d.qc,dx,8,hx2,W.qc.cl,W.QR,(by have:=len0;lia),?_
  generalize hH3:upd H2 x _=H3
  obtain⟨b3,S3,hx3⟩:=kdy hH3 hx2 fx S2
  have len1:=kal (f:="till") (v:=.ref t') len0
  obtain⟨l,ls,⟨dxb,fsb,hb,lbl,lbc,lbm⟩,hl,hL⟩:=id (hB.same S3)
  nomatch b,d.qf,dxb,fsb,8,hb,W.qf.cl,W.qz,lbl,8,b,d.qf,dxb,fsb,8,hb,W.qf.cl,W.Qq,lbc,8,b,d.qf,dxb,fsb,8,hb,W.qf.cl,W.Qb,lbm,kgk (SqL.of hl) fun H4 b' l' s4 fb' fl' hl' hb'=>?_
  have S4:=S3.trans s4
  have hx4:=s4 _ _ hx3
  have hB':BaskN d.qe d.qf H0 H4 b' B:=⟨l',ls,none_of S3 fl',hb',hl',hL.same s4⟩
  nomatch x,d.qc,dx,8,hx4,W.qc.cl,W.Qx,(by have:=len1;lia),?_
  generalize hH5:upd H4 x _=H5
  obtain⟨b5,S5,hx5⟩:=kdy hH5 hx4 fx S4
  have len2:=kal (f:="basket") (v:=.ref b') len1
  nomatch h,8, .inl (SqL.of (S5 _ _ hh)),fun h' fh'=>?_
  generalize hgH6:upd H5 h' _=H6
  obtain⟨s6,eh⟩:=kay hgH6 fh'
  have S6:=S5.trans s6
  have hx6:=s6 _ _ hx5
  nomatch x,d.qc,dx,8,hx6,W.qc.cl,W.V4,(by have:=len2;lia),?_
  generalize hH7:upd H6 x _=H7
  obtain⟨b7,S7,hx7⟩:=kdy hH7 hx6 fx S6
  have len3:=kal (f:="hand") (v:=.ref h') len2
  obtain⟨dx2,fs2,o2,sp,pp,sa,g1,g2,g3,g4,g5,g6,_,_,_,fpp,g7,g8,g9,g10⟩:=id ((((((hBl.same s2).but b3 hzx).same s4).but b5 hzx).same s6).but b7 hzx)
  nomatch bl,d.qh,dx2,fs2,8,g1,W.qh.cl,W.Xw,g4,?_
  nomatch x,d.qc,dx,8,hx7,W.qc.cl,W.V5,(by have:=len3;lia),?_
  generalize hH8:upd H7 x _=H8
  obtain⟨b8,S8,hx8⟩:=kdy hH8 hx7 fx S7
  have len4:=kal (f:="first_prices") (v:=.ref pp) len3
  nomatch o,8, .inl (SqL.of (S8 _ _ ho)),fun o' fo'=>?_
  generalize hgH9:upd H8 o' _=H9
  obtain⟨s9,eo⟩:=kay hgH9 fo'
  have S9:=S8.trans s9
  have hx9:=s9 _ _ hx8
  nomatch x,d.qc,dx,8,hx9,W.qc.cl,W.qu,(by have:=len4;lia),?_
  generalize hH10:upd H9 x _=H10
  obtain⟨b10,S10,hx10⟩:=kdy hH10 hx9 fx S9
  have len5:=kal (f:="order") (v:=.ref o') len4
  symm
  exists Y4
  rwa[by decide,fun fa ffa=>?_]
  generalize hgH11:upd H10 fa _=H11
  obtain⟨s11,efa⟩:=kay hgH11 ffa
  have S11:=S10.trans s11
  have hx11:=s11 _ _ hx10
  nomatch x,d.qc,dx,8,hx11,W.qc.cl,W.qR,(by have:=len5;lia),?_
  generalize hH12:upd H11 x _=H12
  obtain⟨b12,S12,hx12⟩:=kdy hH12 hx11 fx S11
  have len6:=kal (f:="fallen") (v:=.ref fa) len5
  obtain⟨l2,ls2,⟨dxb2,fsb2,hb2,lbl2,lbc2,lbm2⟩,hl2,hL2⟩:=id (hB.same S12)
  have hll:=hL2.len
  have hnl:=wf0.nl
  nomatch b,d.qf,dxb2,fsb2,8,hb2,W.qf.cl,W.qz,lbl2,l2,6,⟨_,SqL.of hl2⟩,kaW (xs:=ls2.map V.ref) (fun i σ ys H'=>H'=H12∧ys=((B.rs.take i).map fun r=>r.mn).map V.int∧∃v,σ=[v]) ⟨rfl,rfl,none,rfl⟩ (by rw[ND,hll];exact NR (kas (by lia))) ?_ ?_ ?_
  ·rintro i σ ys H' hi ⟨rfl,rfl,_⟩
   symm
   rwa[SqL.of hl2,by rw[ND,ND,NS];rw[ND] at hi;lia]
  ·rintro i y σ ys H' hy ⟨rfl,rfl,v,rfl⟩
   obtain⟨lx,el,rfl⟩:=kbZ hy
   obtain⟨r,er⟩:=at_of (xs:=B.rs) (i:=i) (by have:=at_lt el;lia)
   obtain⟨dxl,fsl,hlx,lk1,lk2,lk3,lk4⟩:=hL2.get el er
   symm
   exists Y6
   rwa[8,lx,d.qe,dxl,fsl,8,hlx,W.qe.cl,W.qO,lk3,6,?_,8]
   rw[take_snoc er,NL,NL]
   rfl
  ·rintro σ ys H' ⟨rfl,rfl,v,rfl⟩ m' fm'
   rw[ND,hll,Ma]
   generalize hgH13:upd H' m' _=H13
   obtain⟨s13,em⟩:=kay hgH13 fm'
   have S13:=S12.trans s13
   have hx13:=s13 _ _ hx12
   nofun
   exists Y6
   rwa[8,x,d.qc,dx,8,hx13,W.qc.cl,W.qp,(by have:=len6;lia),?_]
   generalize hH14:upd H13 x _=H14
   obtain⟨b14,S14,hx14⟩:=kdy hH14 hx13 fx S13
   have len7:=kal (f:="many") (v:=.ref m') len6
   obtain⟨dx3,fs3,o3,sp3,pp3,sa3,k1,_,_,_,_,k6,_⟩:=id ((((((((((hBl.same s2).but b3 hzx).same s4).but b5 hzx).same s6).but b7 hzx).but b8 hzx).same s9).but b10 hzx).same s11 |>.but b12 hzx |>.same s13 |>.but b14 hzx)
   nofun
   exists Y6
   rwa[8,bl,d.qh,dx3,fs3,8,k1,W.qh.cl,W.QP,k6,?_]
   nofun
   exists Y6
   rwa[8,x,d.qc,dx,8,hx14,W.qc.cl,W.qH,(by have:=len7;lia),?_]
   generalize hH15:upd H14 x _=H15
   obtain⟨b15,S15,hx15⟩:=kdy hH15 hx14 fx S14
   have len8:=kal (f:="paid") (v:=.int (kaX T B order).total) len7
   nofun
   exists Y6
   rwa[8,x,d.qc,dx,8,hx15,W.qc.cl,W.Qy,(by have:=len8;lia),?_]
   generalize hH16:upd H15 x _=H16
   obtain⟨b16,S16,hx16⟩:=kdy hH16 hx15 fx S15
   have len9:=kal (f:="owed") (v:=.int 0) len8
   have c13:=(b14.trans b15).trans b16
   have c11:=(b12.same s13).trans c13
   have c9:=(b10.same s11).trans c11
   have c7:=(b8.same s9).trans c9
   have c6:=b7.trans c7
   have c4:=(b5.same s6).trans c6
   have c2:=(b3.same s4).trans c4
   have foe0:Foe ([]:List (Str×V)):=⟨rfl,rfl,rfl,rfl⟩
   have foe1:Foe (putF "till" (.ref t') []):=⟨rfl,rfl,rfl,rfl⟩
   have fin:AccF (putF "owed" (.int 0) (putF "paid" (.int (kaX T B order).total) (putF "many" (.ref m') (putF "fallen" (.ref fa) (putF "order" (.ref o') (putF "first_prices" (.ref pp) (putF "hand" (.ref h') (putF "basket" (.ref b') (putF "till" (.ref t') []))))))))) t' b' h' pp o' fa m' (kaX T B order).total 0:=by
    nofun
    exists Y8
    rwa[?_,?_,?_,?_,?_,?_,?_,?_,?_,(by have:=len9;lia),?_]
    ·ac_nf
    ·ac_nf
    ·ac_nf
    ·ac_nf
    ·ac_nf
    ·ac_nf
    ·ac_nf
    ·ac_nf
    ·ac_nf
    ·exact kcn (kcn (kcn (kcn (kcn (kcn (kcn (kcn (kcn fun _ _=>rfl))))))))
   have zT:=hT'.butI c2 hx2 foe0
   have zB:=hB'.butI c4 hx4 foe1
   have z1:=kaQ c6 hx6 eh
   have z2:=kaQ c7 hx7 g10
   have z3:=kaQ c9 hx9 eo
   have z4:=kaQ c11 hx11 efa
   have z5:=kaQ c13 hx13 em
   nofun
   refine k H16 S16 ⟨dx,t',b',h',pp,o',fa,m',_,hx16,fin,zT.is,zB.is,z1,z2,z3,z4,z5⟩ fun q xs hq=>?_
   have hq0:H0 q≠none:=by rw[hq];intro z;cases z
   have hq1:=S16 _ _ hq
   nofun
   rwa[dx,t',b',h',pp,o',fa,m',_,hx16,fin,zT.rmv hq0 hq1,zB.rmv hq0 hq1,(kbe hq0 (none_of S5 fh')).trans z1,(kbe hq0 (none_of (s0.trans z0) fpp)).trans z2,(kbe hq0 (none_of S8 fo')).trans z3,(kbe hq0 (none_of S10 ffa)).trans z4,(kbe hq0 (none_of S12 fm')).trans z5]
theorem kne{d:D}{H:Hp}{t b h o:Addr}{T:TillD}{B:Bask}{hand:List Int}{order:List Nat}{R:Addr→Hp→Prop}{E:XK}(hT:TillIs d H t T)(tok:kb0 T)(hB:BaskIs d.qe d.qf H b B)(wf0:Wf T.ps B (stnd0 B))(hh:H h>>(.lst (hand.map V.int)))(ho:H o>>(.lst (order.map iV)))(hhl:hand.length=T.vs.length)(hlt:∀n∈order,n<T.vs.length)(h64:order.length<64)(hf:kdl T B hand order=none)
  (k:∀(H':Hp)(x:Addr),Same H H'→H x=none→AccIn d H' H' x (acc0 T B hand order)→(∀q xs,H q>>(.lst xs)→AccIn d (rmv q H') H' x (acc0 T B hand order))→R x H'):
  ∀x dx,H x=none→H dx=none→dx≠x→kjA d [.ref x, .ref t, .ref b, .ref h, .ref o] (upd (upd H dx (.own x)) x (.ins d.qc dx [])) (fun v H2=>v=.non∧R x H2) E:=
 fun x dx nx nd _=>⟨H,x,dx,t,b,h,o,T,B,hand,order,rfl,nx,ka2 nx nd,kad,hT,tok,hB,wf0,hh,ho,hhl,hlt,h64,hf,fun H' s hA hA'=>⟨rfl,k H' x s nx hA hA'⟩⟩
noncomputable def hasM(many:List Int)(l n:Int):Bool:=decide (0≤l)&&(decide (l<(many.length:Nat))&&(decide (1≤n)&&decide (n≤many.getD l.toNat 0)))
inductive kgL(d:D)(vs:List V)(H:Hp)(Q:VK)(E_:XK):Prop
 |ct(Hs:Hp)(x:Addr)(l n:Int)(A:AccD)(_:vs=[.ref x, .int l, .int n])(_:Same Hs H)(_:AccIn d Hs H x A)(_:Q (.bl (hasM A.many l n)) H):kgL d vs H Q E_
theorem kdo:kar ["self","line","many"] ["self","line","many"] (kai kby):=by ac_rfl
theorem kdv(W:WB K mg d base):FO P w W 1 d.ZZ d.Z9 ["self","line","many"] (kgL d):=by
 exists W.Xz.F,kdo
 ·obtain⟨Hs,x,l,n,A,rfl,sS,⟨dx,t,b,hd,fp,o',fa',m',fs,hx,F,k⟩,kk⟩:=h
  rwa[_,kag (kap (kim (kil op_le op_lt kaf (pv 1) (kao (r:=kaJ K) kaq (by rfl) W.B.len b_len (kaa (kah (K:=K) (pv 0) rfl) kae))) (kik (kil op_le op_le kaf (pv 2) (pe_ix (r:=rIxL K) kaG (kah (K:=K) (pv 0) rfl) (pv 1) (fun _ _=>rfl)))))),?_]
  rwa[8,9,8,?_]
  have hm':=k.m
  unfold hasM at kk
  by_cases h1:(0:Int)≤l
  case neg=>
   rw[decide_eq_false h1] at kk⊢
   exact iteF ⟨_,rfl,iteF kk⟩
  rw[decide_eq_true h1] at kk⊢
  refine iteT ⟨_,rfl,x,d.qc,dx,fs,_,rfl,hx,W.qc.cl,W.qp,F.l7,m',_,rfl, .inl (SqL.of (sS _ _ hm')),_,_,rfl,rfl,_,rfl,?_⟩
  rw[ND]
  by_cases h2:l<((A.many.length:Nat):Int)
  case neg=>
   rw[decide_eq_false h2] at kk⊢
   exact iteF kk
  rw[decide_eq_true h2] at kk⊢
  refine iteT ⟨_,rfl,_,_,rfl,rfl,_,rfl,?_⟩
  by_cases h3:(1:Int)≤n
  case neg=>
   rw[decide_eq_false h3] at kk⊢
   exact iteF kk
  rw[decide_eq_true h3] at kk⊢
  obtain⟨m,rfl⟩:=Int.eq_ofNat_of_zero_le h1
  have hm2:m<A.many.length:=by lia
  refine iteT ⟨_,rfl,x,d.qc,dx,fs,_,rfl,hx,W.qc.cl,W.qp,F.l7,_,rfl,m',_,_,_,rfl,rfl,SqL.of (sS _ _ hm'),kaL (v:=.int (A.many.getD m 0)) (by rw[NO,N1,MG hm2];rfl),_,_,rfl,rfl,?_⟩
  exact kk
inductive kgH(d:D)(vs:List V)(H:Hp)(Q:VK)(E_:XK):Prop
 |ct(Hs:Hp)(x:Addr)(n:Int)(A:AccD)(_:vs=[.ref x, .int n])(_:AccIn d Hs H x A)(_:∀H',But x H H'→AccIn d Hs H' x {A with paid:=A.paid-n}→Q (.int n) H'):kgH d vs H Q E_
theorem kdn:kar ["self","back"] ["self","back"] (kai kbx):=by ac_rfl
theorem kdu(W:WB K mg d base):FO P w W 1 d.Va d.Vb ["self","back"] (kgH d):=by
 exists W.QA.F,kdn
 ·obtain⟨Hs,x,n,A,rfl,⟨dx,t,b,hd,fp,o',fa',m',fs,hx,F,k⟩,kk⟩:=h
  refine⟨_,kab (kjR (pv 0) (pv 1) knl)
   (kag (kap (pv 1))),?_⟩
  rwa[8,x,d.qc,dx,fs,8,hx,W.qc.cl,W.qH,F.l8,8,9,dx,fs,hx,by have:=F.l10;lia,?_]
  rwa[8,kk _ (kaw (nx hx)) ⟨dx,t,b,hd,fp,o',fa',m',_,kad,F.paid,k.T,k.B,k.h,k.p,k.o,k.f,k.m⟩]
inductive kd9(d:D)(vs:List V)(H:Hp)(Q:VK)(E_:XK):Prop
 |ct(Hs:Hp)(x:Addr)(l:Nat)(e n:Nat)(A:AccD)(_:vs=[.ref x,iV l,iV e,iV n])(_:Same Hs H)(_:AccIn d Hs H x A)(_:A.B.rs.length≤12)(_:(∀r∈A.B.rs,r.Ok))(_:(mans (A.B.rs.take l)).sum+e+n≤A.pr.length)(_:∀H',Same H H'→Q (.int ((A.pr.drop ((mans (A.B.rs.take l)).sum+e)).take n).sum) H'):kd9 d vs H Q E_
theorem Ue:kar ["self","line","left","many","start"] ["self","line","left","many"] (kai kbd):=by ac_rfl
theorem kcS(W:WB K mg d base):FO P w W 1 d.Vd d.Ve ["self","line","left","many"] (kd9 d):=by
 exists W.XA.F,Ue
 ·obtain⟨Hs,x,l,e,n,A,rfl,sS,⟨dx,t,b,hd,fp,o',fa',m',fs,hx,F,k⟩,h12,hok,hle,kk⟩:=h
  refine⟨_,kab (psl (i:=4) Ue.nd (pe_op kbu (kao (r:=rSum K) (kbO rfl) (by rfl) W.B.sum b_sum (kaa (kbq (N:=["each"]) (CompScope.plain rfl (by cutsat) (by cutsat) (by cutsat) (nd1 _)) rfl (kaC (K:=K) (kb3 (r:=rSlL K) kcD (kah (K:=K) (kah (K:=K) (pv 0) rfl) rfl) kdY (kbX (pv 1)))) (fun _ _ _ _=>pgn (i:=0) (nd1 _)) (fun _ _ _ _=>(kah (K:=K) (pv 0) rfl))) kae)) (pv 2)))
   (kag (kap (kao (r:=rSum K) (kbO rfl) (by rfl) W.B.sum b_sum (kaa (kb3 (r:=rSlL K) kcD (kah (K:=K) (pv 0) rfl) (kbX (pv 4)) (kbX (pe_op kbu (pv 4) (pv 3)))) kae)))),?_⟩
  obtain⟨lb,ls,⟨dxb,fsb,hb,lbl,lbc,lbm⟩,hl,hL⟩:=id (k.B.same sS)
  have hll:=hL.len
  rwa[8,x,d.qc,dx,fs,8,hx,W.qc.cl,W.Qx,F.l2,b,d.qf,dxb,fsb,8,hb,W.qf.cl,W.qz,lbl,8,8,lb,8,SqL.of hl,fun p1 fp1=>?_]
  rw[kiJ,←MS]
  generalize hgH1:upd H p1 _=H1
  obtain⟨n1,e1⟩:=kay hgH1 fp1
  rwa[p1,6,⟨_,SqL.of e1⟩,kaW (xs:=(ls.take l).map V.ref) (fun i σ ys H'=>H'=H1∧ys=(((A.B.rs.take l).take i).map fun r=>r.mn).map V.int∧∃v,σ=[v]) ⟨rfl,rfl,none,rfl⟩ (by rw[ND,NS,hll];exact NR (kas (by lia))) ?_ ?_ ?_]
  ·rintro i σ ys H' hi ⟨rfl,rfl,_⟩
   rwa[SqL.of e1,by rw[ND,ND,NS,NS];rw[ND,NS,hll] at hi;lia]
  ·rintro i y σ ys H' hy ⟨rfl,rfl,v,rfl⟩
   obtain⟨lx,el,rfl⟩:=kbZ hy
   have hil:i<l:=by
    have:=at_lt el
    rw[NS] at this
    lia
   have el':ls[i]?>>lx:=by
    rw[EA,if_pos hil] at el
    exact el
   obtain⟨r,er⟩:=at_of (xs:=A.B.rs) (i:=i) (by have:=at_lt el';lia)
   obtain⟨dxl,fsl,hlx,lk1,lk2,lk3,lk4⟩:=hL.get el' er
   rwa[8,lx,d.qe,dxl,fsl,8,n1 _ _ hlx,W.qe.cl,W.qO,lk3,6,?_,8]
   rw[take_snoc (rs:=A.B.rs.take l) (by rw[EA,if_pos hil];exact er),NL,NL]
   rfl
  ·rintro σ ys H' ⟨rfl,rfl,v,rfl⟩ D hD
   rw[ND,show(A.B.rs.take l).take (ls.take l).length=A.B.rs.take l by rw[MN (by rw[NS,NS,hll];exact NG _)]]
   generalize hgH2:upd H' D _=H2
   obtain⟨n2,e2⟩:=kay hgH2 hD
   have s2:=n1.trans n2
   have esum:∀rs:List Row,(∀r∈rs,r.Ok)→(rs.map fun r=>r.mn).sum=(((mans rs).sum:Nat):Int):=fun rs hr=>by
    induction rs with
    |nil=>rfl
    |cons r rs ih=>
     have h0:=(hr r N4).mn0
     have:=ih fun r h=>hr r (N2 _ h)
     unfold mans at this⊢
     rw[NW,NW,Mb,Mb,this]
     lia
   rwa[D,8,SqL.of e2,8,9,?_]
   rw[esum (A.B.rs.take l) fun r h=>hok r (Ei h)]
   rwa[8,x,d.qc,dx,fs,8,s2 _ _ hx,W.qc.cl,W.V5,F.l4,8,8,8,8,9,8,fp,8,SqL.of ((sS.trans s2) _ _ k.p),fun p3 fp3=>?_]
   rw[show(((mans (A.B.rs.take l)).sum:Nat):Int)+((e:Nat):Int)=(((mans (A.B.rs.take l)).sum+e:Nat):Int) by lia,show(((mans (A.B.rs.take l)).sum+e:Nat):Int)+((n:Nat):Int)=(((mans (A.B.rs.take l)).sum+e+n:Nat):Int) by lia,kkH _ _ _ (by rw[ND];exact hle),←Et,←MS]
   rwa[p3,8,SqL.of kad,kk _ (s2.trans (kam fp3))]
noncomputable def kaN(B:Bask)(many:List Int):Bask:={B with rs:=Mg (fun(r:Row)(m:Int)=>{r with mn:=m}) B.rs many}
theorem ki4{rs:List Row}{many:List Int}{i:Nat}{r:Row}{z:Int}(h1:rs[i]?>>r)(h2:many[i]?>>z):(Mg (fun(r:Row)(m:Int)=>{r with mn:=m}) rs many)[i]?>>{r with mn:=z}:=by
 rw[Ey,h1,h2]
inductive keL(d:D)(vs:List V)(H:Hp)(Q:VK)(E_:XK):Prop
 |ct(Hs:Hp)(x:Addr)(A:AccD)(_:vs=[.ref x])(_:Same Hs H)(_:AccIn d Hs H x A)(_:A.many.length=A.B.rs.length)(_:A.B.rs.length≤12)(_:∀H' b',Same H H'→H b'=none→BaskIs d.qe d.qf H' b' (kaN A.B A.many)→Q (.ref b') H'):keL d vs H Q E_
theorem Ug:kar ["self","lines"] ["self"] (kai kbk):=by ac_rfl
theorem kc4(W:WB K mg d base):FO P w W 3 d.Vf d.Vg ["self"] (keL d):=by
 exists W.XB.F,Ug
 ·obtain⟨Hs,x,A,rfl,sS,⟨dx,t,b,hd,fp,o',fa',m',fs,hx,F,k⟩,hml,h12,kk⟩:=h
  exists QF,kc3,W
  exists q9,kbM,W
  refine⟨_,kab (kf7 (N:=["line","left"]) (CompScope.plain rfl (by cutsat) (by cutsat) (by cutsat) (show(["line","left"]:List Str).Nodup by cutsat)) rfl (keU rfl W.B.zip (kaa (kah (K:=K) (kah (K:=K) (pv 0) rfl) rfl) (kaa (kah (K:=K) (pv 0) rfl) kae))) (fun _ _ _ _=>kbJ (K:=K) (n:=2) rfl (kaD (pgn (i:=0) (show(["line","left"]:List Str).Nodup by cutsat)) (kaD (pgn (i:=1) (show(["line","left"]:List Str).Nodup by cutsat)) kbI))) (fun _ _ _ _=>(kaT (W.qT.mk' W.qe) QF hr rfl W.qe.m W.qT.b .nil pass0 (kaa (kah (K:=K) (pv 0) rfl) (kaa (kah (K:=K) (pv 0) rfl) (kaa (pv 1) (kaa (kah (K:=K) (pv 0) rfl) kae)))))) (pgn (i:=1) Ug.nd))
   (kag (kap (kaT (W.qD.mk' W.qf) q9 hr rfl W.qf.m W.qD.b .nil pass0 (kaa (pv 1) (kaa (kah (K:=K) (kah (K:=K) (pv 0) rfl) rfl) (kaa (kah (K:=K) (kah (K:=K) (pv 0) rfl) rfl) kae)))))),?_⟩
  obtain⟨l,ls,⟨dxb,fsb,hb,lbl,lbc,lbm⟩,hl,hL⟩:=id (k.B.same sS)
  have hm:=sS _ _ k.m
  have hll:=hL.len
  have emin:min (ls.map V.ref).length (A.many.map V.int).length=A.B.rs.length:=by rw[ND,ND,hll,hml,MX]
  have lzw:(kaN A.B A.many).rs.length=A.B.rs.length:=by unfold kaN;rw[Eh,hml,MX]
  refine⟨_,rfl,x,d.qc,dx,fs,_,rfl,hx,W.qc.cl,W.Qx,F.l2,b,d.qf,dxb,fsb,_,rfl,hb,W.qf.cl,W.qz,lbl,_,rfl,x,d.qc,dx,fs,_,rfl,hx,W.qc.cl,W.qp,F.l7,l,m',_,_,rfl,hl,hm,
   kgs (xs:=ls.map V.ref) (ys:=A.many.map V.int) (fun i σ zs H'=>Same H H'∧∃ns:List Addr,zs=ns.map V.ref∧Lines d.qe H' ns ((kaN A.B A.many).rs.take i)∧∃v0 v1:Option V,σ=[v0,v1])
    ⟨Same.refl _,[],rfl, .nil,none,none,rfl⟩ (by rw[emin];exact NR (kas (by lia))) (fun i σ zs H' hi ⟨s,ns,e,hn,_⟩=>⟨s _ _ hl,s _ _ hm,by rw[e,ND,hn.len,NS,lzw];rw[emin] at hi;lia⟩) ?_ ?_⟩
  ·rintro i y1 y2 tt σ zs H4 hy1 hy2 ⟨s4,ns,rfl,hn,v0,v1,rfl⟩ ht
   obtain⟨lx,el,rfl⟩:=kbZ hy1
   obtain⟨z,ez,rfl⟩:=kbj hy2
   obtain⟨r,er⟩:=at_of (xs:=A.B.rs) (i:=i) (by have:=at_lt el;lia)
   have n5:=kam (o:=.tup [.ref lx, .int z]) ht
   have s5:=s4.trans n5
   obtain⟨dxl,fsl,hlx,lk1,lk2,lk3,lk4⟩:=(hL.get el er).same s5
   rwa[tt,8,SqT.of kad,6,_,8,9,8,lx,d.qe,dxl,fsl,8,hlx,W.qe.cl,W.QN,lk1,8,lx,d.qe,dxl,fsl,8,hlx,W.qe.cl,W.Qo,lk2,8,8,lx,d.qe,dxl,fsl,8,hlx,W.qe.cl,W.Qp,lk4,khF (r:={r with mn:=z}) fun H6 y s6 fy hy=>?_]
   rwa[s5.trans s6,ns++[y],by rw[NL];rfl,?_,_,8]
   rw[take_snoc (show(kaN A.B A.many).rs[i]?=_ from ki4 er ez)]
   exact(hn.same (n5.trans s6)).snoc hy
  rintro σ zs H4 ⟨s4,ns,rfl,hn,v0,v1,rfl⟩ q hq
  rw[emin,←lzw,Ma] at hn
  generalize hgH5:upd H4 q _=H5
  obtain⟨n5,e5⟩:=kay hgH5 hq
  have s5:=s4.trans n5
  rwa[8,8,x,d.qc,dx,fs,8,s5 _ _ hx,W.qc.cl,W.Qx,F.l2,b,d.qf,dxb,fsb,8,s5 _ _ hb,W.qf.cl,W.Qq,lbc,8,x,d.qc,dx,fs,8,s5 _ _ hx,W.qc.cl,W.Qx,F.l2,b,d.qf,dxb,fsb,8,s5 _ _ hb,W.qf.cl,W.Qb,lbm,kgk (SqL.of e5) fun H6 y l' s6 fy fl' hl' hy=>?_]
  exact kk H6 y (s5.trans s6) (none_of s5 fy) ⟨l',ns,hy,hl',hn.same (n5.trans s6)⟩
noncomputable def thrM(T:TillD)(B:Bask)(hand:List Int):List Nat→List Nat→Stnd→List Nat×List Nat×Stnd
 |[],u,S=>(u,[],S)
 |n::ns,u,S=>match T.vs[n]? with
  |none=>(u,[],S)
  |some V=>if dueM V T B hand u S n=.non then thrM T B hand ns (u++[n]) (aftM V T.ps (kds B) S) else((thrM T B hand ns u S).1,n::(thrM T B hand ns u S).2.1,(thrM T B hand ns u S).2.2)
theorem kgl{Hs H H':Hp}{p:Addr}{xs:List V}(s:Same Hs H)(f:H p=none)(e:H' p>>(.lst xs))(s':Same H H'):Same Hs (upd Hs p (.lst xs))∧Same (upd Hs p (.lst xs)) H'∧(upd Hs p (.lst xs)) p>>(.lst xs)∧∀a,H a≠none→Hs a=none→(upd Hs p (.lst xs)) a=none:=
 ⟨kam (none_of s f),kjF (s.trans s') e,kad,fun a ha hs=>by rw[kak fun z:a=p=>ha (by rw[z];exact f)];exact hs⟩
theorem WayAt.butI{d:D}{m:Nat}{w t b x y C dx:Addr}{fs:List (Str×V)}{H H':Hp}{hand:List Int}{used:List Nat}(z:But y H H')(hy:H y>>(.ins C dx fs))(n:w≠y):WayAt d m H w t b x hand used→WayAt d m H' w t b x hand used:=by rintro⟨dw,fw,h,u,h1,h2,h3,h4,h5,h6,h7,h8,h9,h10,h11,h12,h13⟩;exact
 ⟨dw,fw,h,u,z _ _ n h1,h2,h3,h4,h5,h6,h7,h8,h9,h10,h11,kaQ z hy h12,kaQ z hy h13⟩
theorem StndIs.butI{S C x y dx:Addr}{fs:List (Str×V)}{H H':Hp}{T:Stnd}(z:But y H H')(hy:H y>>(.ins C dx fs))(n:x≠y):StndIs S H x T→StndIs S H' x T:=by rintro⟨o,p,mk,⟨ds,fs,h,r⟩,h1,h2,h3⟩;exact⟨o,p,mk,⟨ds,fs,z _ _ n h,r⟩,kaQ z hy h1,kaQ z hy h2,kaQ z hy h3⟩
noncomputable def thrOf(A:AccD)(B':Bask):List Nat×List Nat×Stnd:=thrM A.T B' A.hand A.order [] (stnd0 B')
inductive spThr(d:D)(vs:List V)(H:Hp)(Q:VK)(E_:XK):Prop
 |ct(Hs:Hp)(x bs:Addr)(A:AccD)(B':Bask)(_:vs=[.ref x, .ref bs])(_:Same Hs H)(_:Hs x=none)(_:AccIn d Hs H x A)(_:kb0 A.T)(_:BaskIs d.qe d.qf H bs B')(_:Wf A.T.ps B' (stnd0 B'))(_:A.hand.length=A.T.vs.length)(_:(∀n∈A.order,n<A.T.vs.length))(_:A.order.length+A.fallen.length≤8)(_:∀(Hs' H':Hp)(wy t xs:Addr),Same Hs Hs'→Same Hs' H'→(∀a,H a≠none→Hs a=none→Hs' a=none)→But x H H'→AccIn d Hs' H' x {A with order:=(thrOf A B').1,fallen:=A.fallen++(thrOf A B').2.1}→WayIs d H' wy t bs xs A.hand (thrOf A B').1→StndIs d.qd H' xs (thrOf A B').2.2→Q (.ref wy) H'):spThr d vs H Q E_
theorem QG:kar ["self","stays","way","falling","number"] ["self","stays"] (kai kbl):=by ac_rfl
theorem kc5(W:WB K mg d base):FO P w W 7 d.Vh d.Vi ["self","stays"] (spThr d):=by
 exists W.XC.F,QG
 ·obtain⟨Hs,x,bs,A,B',rfl,sS,fS,hA,tok,hB,wf0,hhl,hlt,h8,kk⟩:=h
  exists qK,kcf,W
  exists qX,kbA,W
  exists qY,kb4,W
  have hr5:Room 5 _:=hr.mono (by decide)
  refine⟨_,kab (psl (i:=2) QG.nd (kaT (W.qx.mk' W.c_Way) qK hr5 rfl W.c_Way.m W.qx.b .nil pass0 (kaa (kah (K:=K) (pv 0) rfl) (kaa (pv 1) (kaa (kah (K:=K) (pv 0) rfl) kae)))))
   (kab (psl (i:=3) QG.nd (kaM kae))
   (kab (kbo PassesOwn.never rfl (kaC (K:=K) (kah (K:=K) (pv 0) rfl)) (pgn (i:=4) QG.nd)
   (kag (ps_if (kan keb (kbm (pv 2) W.c_Way.cl W.qF.me qX hr5 W.qF.b .nil pass0 (kaa (pv 4) kae)) kbf (kau _)) (kag (psl (i:=2) QG.nd (kbm (pv 2) W.c_Way.cl W.qG.me qY hr W.qG.b .nil pass0 (kaa (pv 4) kae)))) (kag (ka1 (pe_bm Mt MH MI ka8 (pv 3) (kaa (pv 4) kae)))))))
   (kab (kaz (pv 0) (kaF (r:=kaS K) kax (by rfl) W.B.list ka9 (kaa (kah (K:=K) (pv 2) rfl) kae)) rfl)
   (kab (kaz (pv 0) (pe_op ke0 (kah (K:=K) (pv 0) rfl) (pv 3)) rfl)
   (kag (kap (pv 2))))))),?_⟩
  obtain⟨dx,t,b,hd,fpp,o',fa',m',fs,hx,F,k⟩:=id hA
  have hT:=k.T.same sS
  exists Y4
  rwa[8,x,d.qc,dx,fs,8,hx,W.qc.cl,W.QR,F.l1,8,8,x,d.qc,dx,fs,8,hx,W.qc.cl,W.V4,F.l3,kg0 (sS _ _ k.h) hB wf0.nl wf0.ok fun H1 y0 x0 s1 fy0 fx0 hy0 hx0=>?_]
  symm
  exists Y4
  rwa[by decide,fun p fp=>?_]
  generalize hgH2:upd H1 p _=H2
  obtain⟨n2,(ep0:H2 p>>(.lst (([]:List Nat).map iV)))⟩:=kay hgH2 fp
  have s12:=s1.trans n2
  have ho:=(sS.trans s12) _ _ k.o
  have fpS:=none_of (sS.trans s1) fp
  generalize eR:thrOf A B'=R at *
  unfold thrOf at eR
  symm
  exists Y4
  refine⟨_,rfl,x,d.qc,dx,fs,_,rfl,s12 _ _ hx,W.qc.cl,W.qu,F.l5,o',rfl,⟨_,SqL.of ho⟩,ka7 (xs:=A.order.map iV) (fun i σ H'=>Same H1 H'∧∃(Hw:Hp)(y xx:Addr)(used fell:List Nat)(S:Stnd)(v4:Option V),Same Hw H'∧Hw p=none∧y≠x∧xx≠x∧WayIs d Hw y t bs xx A.hand used∧StndIs d.qd Hw xx S∧Wf A.T.ps B' S∧H' p>>(.lst (fell.map iV))∧used.length+fell.length=i∧(thrM A.T B' A.hand (A.order.drop i) used S).1=R.1∧fell++(thrM A.T B' A.hand (A.order.drop i) used S).2.1=R.2.1∧(thrM A.T B' A.hand (A.order.drop i) used S).2.2=R.2.2∧σ=[some (.ref x),some (.ref bs),some (.ref y),some (.ref p),v4])
   ⟨n2,H1,y0,x0,[],[],_,none,n2,fp,(kaj hx fy0).symm,(kaj hx fx0).symm,hy0.at.most (by decide),hx0,wf0,ep0,rfl,by rw[M5,eR],by rw[M5,eR];rfl,by rw[M5,eR],rfl⟩ (fun i σ H' _ h=>SqL.of ((sS.trans (s1.trans h.1)) _ _ k.o)) ?_ ?_⟩
  ·rintro i yv σ H' hyv ⟨sI,Hw,y,xx,used,fell,S,v4,sw,fw,ny,nxx,hY,hS,wf,ep,hul,hR1,hR2,hR3,rfl⟩
   obtain⟨n,en,rfl⟩:∃n,A.order[i]?>>n∧yv=iV n:=kbj hyv
   have hi:=at_lt en
   obtain⟨Vc,hV⟩:=at_of (hlt n (NM en))
   have vo:=tok.vs Vc (NM hV)
   have ed:A.order.drop i=n::A.order.drop (i+1):=by
    obtain⟨h1,h2⟩:=NT.mp en
    rw[EJ h1,h2]
   rw[ed] at hR1 hR2 hR3
   unfold thrM at hR1 hR2 hR3
   rw[hV] at hR1 hR2 hR3
   simp only at hR1 hR2 hR3
   have s0I:=s1.trans sI
   have hYI:=hY.same sw
   have hSI:=hS.same sw
   obtain⟨dxw,fsw,hd',u,hw,w1,w2,w3,w4,w5,w6,w7,w8,w9,w10,hh',hu⟩:=id hYI
   symm
   exists Y6
   rwa[8,y,dxw,fsw,6,hw,w6,8,y,t,bs,xx,A.T,B',S,A.hand,used,n,Vc,6,hYI,hT.same s0I,hB.same s0I,hSI,wf,vo,hV,hhl,fun H3 s3=>⟨rfl,_,rfl,?_⟩]
   have s03:=s0I.trans s3
   have ep3:=s3 _ _ ep
   by_cases hn:dueM Vc A.T B' A.hand used S n=.non
   ·rw[if_pos hn] at hR1 hR2 hR3
    rw[hn,show decide (V.non=V.non)=true by simp]
    refine iteT ?_
    nofun
    exists Y8
    rwa[8,y,dxw,fsw,6,s3 _ _ hw,w7,8,y,t,bs,xx,A.T,B',S,A.hand,used,n,Vc,6,hYI.same s3,hT.same s03,hB.same s03,hSI.same s3,wf,vo,hV,by lia,fun H4 y' x' s4 fy' hY' hx'=>?_]
    have hp3:H3 p≠none:=by rw[ep3];intro z;cases z
    exists 3
    rwa[(sI.trans s3).trans s4,Vs.rmv p H4,y',x',used++[n],fell,_,_,kf4,kfC,(kaj (s03 _ _ hx) fy').symm,(kaj (s03 _ _ hx) hx'.1).symm,hY'.rmv hp3,hx'.rmv hp3,wf.after vo,s4 _ _ ep3,by rw[NQ];show _+1+_=_;lia,hR1,hR2,hR3,6]
   ·rw[if_neg hn] at hR1 hR2 hR3
    rw[show decide (dueM Vc A.T B' A.hand used S n=V.non)=false by simp[hn]]
    refine iteF ?_
    exists 3
    exists Y8
    rwa[8, .inl ⟨rfl,_,SqL.of ep3⟩,8,p,9,ep3,kas (by rw[ND];lia),?_]
    exists 3
    exists Y8
    rwa[kat fp (sI.trans s3) (nx ep3),Hw,y,xx,used,fell++[n],S,_,kbi (sw.trans s3) (kaw (nx ep3)) fw,fw,ny,nxx,hY,hS,wf,?_,by rw[NQ];show _+(_+1)=_;lia,hR1,?_,hR3,6]
    ·rw[kad,NL]
     rfl
    ·rw[Mr]
     exists 3
     exact hR2
  ·rintro σ H' ⟨sI,Hw,y,xx,used,fell,S,v4,sw,fw,ny,nxx,hY,hS,wf,ep,hul,hR1,hR2,hR3,rfl⟩
   rw[ND,E7] at hR1 hR2 hR3
   unfold thrM at hR1 hR2 hR3
   rw[MQ] at hR2
   simp only at hR1 hR2 hR3
   obtain⟨r1,r2,r3⟩:=R
   simp only at hR1 hR2 hR3 kk
   subst hR1 hR2 hR3
   rw[ND] at hul
   have s0I:=s1.trans sI
   have hYI:=hY.same sw
   obtain⟨dxw,fsw,hd',u,hw,w1,w2,w3,w4,w5,w6,w7,w8,w9,w10,hh',hu⟩:=id hYI
   nofun
   exists Y6
   rwa[8,y,d.c_Way,dxw,fsw,8,hw,W.c_Way.cl,W.qP,w4,u,8, .inl (SqL.of hu),fun q hq=>?_]
   generalize hgH5:upd H' q _=H5
   obtain⟨n5,e5⟩:=kay hgH5 hq
   have hx5:=(s0I.trans n5) _ _ hx
   nofun
   exists Y6
   rwa[8,x,d.qc,dx,fs,6,hx5,W.qc.cl,W.qu,by have:=F.l10;lia,?_]
   have nqx:q≠x:=(kaj (s0I _ _ hx) hq).symm
   have b6:But x H5 (upd H5 x (.ins d.qc dx (putF "order" (.ref q) fs))):=kaw (nx hx5)
   have hx6:(upd H5 x (.ins d.qc dx (putF "order" (.ref q) fs))) x>>(.ins d.qc dx (putF "order" (.ref q) fs)):=kad
   generalize upd H5 x (.ins d.qc dx (putF "order" (.ref q) fs))=H6 at *
   obtain⟨sk,sk',ek,fk⟩:=kgl (sS.trans s0I) hq e5 n5
   generalize upd Hs q (.lst (used.map iV))=Hs6 at *
   have fx6:Hs6 x=none:=fk x (by rw[s0I _ _ hx];intro z;cases z) fS
   have S6:=kbi sk' b6 fx6
   have F6:=F.order (c:=q)
   have ep6:=b6 _ _ (ne_of (n5 _ _ ep) hx5 (by intro z;cases z)) (n5 _ _ ep)
   nofun
   exists Y6
   rwa[8,x,d.qc,dx,_,8,hx6,W.qc.cl,W.qR,F6.l6,8,fa',p,9,S6 _ _ (sk _ _ k.f),ep6,NR (kas (by rw[ND,ND];lia)),fun q2 hq2=>?_]
   rw[←NL]
   generalize hgH7:upd H6 q2 _=H7
   obtain⟨n7,e7⟩:=kay hgH7 hq2
   have hx7:=n7 _ _ hx6
   nofun
   exists Y6
   rwa[8,x,d.qc,dx,8,hx7,W.qc.cl,W.qR,by have:=F6.l10;lia,?_]
   have b8:But x H7 (upd H7 x (.ins d.qc dx (putF "fallen" (.ref q2) (putF "order" (.ref q) fs)))):=kaw (nx hx7)
   have hx8:(upd H7 x (.ins d.qc dx (putF "fallen" (.ref q2) (putF "order" (.ref q) fs)))) x>>(.ins d.qc dx (putF "fallen" (.ref q2) (putF "order" (.ref q) fs))):=kad
   generalize upd H7 x (.ins d.qc dx (putF "fallen" (.ref q2) (putF "order" (.ref q) fs)))=H8 at *
   obtain⟨sl,sl',el,fl⟩:=kgl S6 hq2 e7 n7
   generalize upd Hs6 q2 (.lst ((A.fallen++fell).map iV))=Hs8 at *
   have fx8:Hs8 x=none:=fl x (by rw[hx6];intro z;cases z) fx6
   have S8:=kbi sl' b8 fx8
   have bw:=(b6.same n7).trans b8
   have foe:=F.foe
   nofun
   exists Y6
   rwa[8,kk Hs8 H8 y t xx (sk.trans sl) S8 (fun a ha hs=>fl a ?_ (fk a ?_ hs)) ((But.of_same (s0I.trans n5)).trans bw) ⟨dx,t,b,hd,fpp,q,q2,m',_,hx8,F6.fallen,k.T.same (sk.trans sl),k.B.same (sk.trans sl),(sk.trans sl) _ _ k.h,(sk.trans sl) _ _ k.p,sl _ _ ek,el,(sk.trans sl) _ _ k.m⟩ ((hYI.same n5).butI bw hx5 ny) (((hS.same sw).same n5).butI bw hx5 nxx)]
   ·exact fun z=>ha (none_of (s0I.trans n5) (But.free b6 hx6 z))
   ·exact fun z=>ha (none_of s0I z)
noncomputable def dueA(T:TillD)(B:Bask)(hand:List Int):Nat→List Nat→List Nat×List Nat×Stnd
 |0,o=>(o,[],stnd0 B)
 |n+1,o=>match onlyM T.rs (thrM T B hand o [] (stnd0 B)).1 with
  |none=>thrM T B hand o [] (stnd0 B)
  |some l=>((dueA T B hand n ((thrM T B hand o [] (stnd0 B)).1.filter fun m=>decide (m≠l))).1,(thrM T B hand o [] (stnd0 B)).2.1++(NI ((thrM T B hand o [] (stnd0 B)).1.count l) l++(dueA T B hand n ((thrM T B hand o [] (stnd0 B)).1.filter fun m=>decide (m≠l))).2.1),(dueA T B hand n ((thrM T B hand o [] (stnd0 B)).1.filter fun m=>decide (m≠l))).2.2)
theorem keI{T:TillD}{B:Bask}{hand:List Int}:∀{o u:List Nat}{S:Stnd},(∀n∈o,n<T.vs.length)→(thrM T B hand o u S).1.length+(thrM T B hand o u S).2.1.length=u.length+o.length
 |[],u,S,_=>by unfold thrM;rfl
 | n::o,u,S,h=>by
  obtain⟨V,hV⟩:=at_of (h n N4)
  have h':∀m∈o,m<T.vs.length:=fun m hm=>h m (N2 _ hm)
  unfold thrM
  rw[hV]
  simp only
  by_cases e:dueM V T B hand u S n=.non
  ·rw[if_pos e,keI h']
   simp only[NQ,Md,MV]
   lia
  ·rw[if_neg e]
   have:=keI (T:=T) (B:=B) (hand:=hand) (u:=u) (S:=S) h'
   simp only[Md]
   lia
theorem keH:∀{o u:List Nat}{S:Stnd}{m:Nat},m∈(thrM T B hand o u S).1→m∈u∨m∈o
 |[],u,S,m,h=>by unfold thrM at h;exact .inl h
 | n ::o,u,S,m,h=>by
  unfold thrM at h
  split at h
  ·exact .inl h
  ·split at h
   ·rcases keH h with h|h
    ·rcases Mj.mp h with h|h
     ·exact .inl h
     ·exact .inr (by rw[show m=n by simpa using h];simp)
    ·exact .inr (N2 _ h)
   ·rcases keH h with h|h
    ·exact .inl h
    ·exact .inr (N2 _ h)
theorem kgc{rs:List Rul}{o:List Nat}{l:Nat}(h:onlyM rs o>>l):l∈o:=by
 unfold onlyM at h
 obtain⟨r,h1,rfl⟩:=Option.map_eq_some_iff.mp h
 have h2:=List.find?_some h1
 unfold loneM at h2
 rw[Mz,Mz] at h2
 simpa using h2.2.1
theorem filter_lt{o:List Nat}{l:Nat}(h:l∈o):(o.filter fun m=>decide (m≠l)).length<o.length:=by
 have h1:(o.filter fun m=>decide (m≠l)).length≤o.length:=Eg _ _
 have h2:(o.filter fun m=>decide (m≠l)).length≠o.length:=fun e=>by
  have h3:=List.length_filter_eq_length_iff.mp e l h
  simp at h3
 lia
section
variable{d:D}{Hs Hs' H H1:Hp}{x t b h fp o fa m q C dx:Addr}{A A':AccD}{fs gs:List (Str×V)}{xs:List V}
theorem khV(sS:Same Hs H)(fx:Hs x=none)(hx:H x>>(.ins d.qc dx fs))(n:Same H H1)(hq:H q=none)(eq:H1 q>>(.lst xs))(mk:∀Hs',Same Hs Hs'→Hs' q>>(.lst xs)→AccIn d Hs' (upd H1 x (.ins d.qc dx gs)) x A'):
  ∃Hs',Same Hs Hs'∧Same Hs' (upd H1 x (.ins d.qc dx gs))∧Hs' x=none∧(∀a,H a≠none→Hs a=none→Hs' a=none)∧But x H (upd H1 x (.ins d.qc dx gs))∧AccIn d Hs' (upd H1 x (.ins d.qc dx gs)) x A':=by
 obtain⟨s1,s2,e,f⟩:=kgl sS hq eq n
 have bt:But x H1 (upd H1 x (.ins d.qc dx gs)):=kaw (nx (n _ _ hx))
 have f2:=f x (by rw[hx];intro z;cases z) fx
 rwa[_,s1,kbi s2 bt f2,f2,f,(But.of_same n).trans bt,mk _ s1 e]
theorem AccK.fallen{L:List Nat}(k:AccK d Hs t b h fp o fa m A)(s:Same Hs Hs')(e:Hs' q>>(.lst (L.map iV))):AccK d Hs' t b h fp o q m {A with fallen:=L}:=⟨k.T.same s,k.B.same s,s _ _ k.h,s _ _ k.p,s _ _ k.o,e,s _ _ k.m⟩
theorem AccK.order{L:List Nat}(k:AccK d Hs t b h fp o fa m A)(s:Same Hs Hs')(e:Hs' q>>(.lst (L.map iV))):AccK d Hs' t b h fp q fa m {A with order:=L}:=⟨k.T.same s,k.B.same s,s _ _ k.h,s _ _ k.p,e,s _ _ k.f,s _ _ k.m⟩
theorem AccK.many{L:List Int}(k:AccK d Hs t b h fp o fa m A)(s:Same Hs Hs')(e:Hs' q>>(.lst (L.map V.int))):AccK d Hs' t b h fp o fa q {A with many:=L}:=⟨k.T.same s,k.B.same s,s _ _ k.h,s _ _ k.p,s _ _ k.o,s _ _ k.f,e⟩
end
noncomputable def dueOf(n:Nat)(A:AccD)(B':Bask):List Nat×List Nat×Stnd:=dueA A.T B' A.hand n A.order
inductive spDue(d:D)(n:Nat)(vs:List V)(H:Hp)(Q:VK)(E_:XK):Prop
 |ct(Hs:Hp)(x bs:Addr)(A:AccD)(B':Bask)(_:vs=[.ref x, .ref bs])(_:A.order.length<n)(_:Same Hs H)(_:Hs x=none)(_:AccIn d Hs H x A)(_:kb0 A.T)(_:BaskIs d.qe d.qf H bs B')(_:Wf A.T.ps B' (stnd0 B'))(_:A.hand.length=A.T.vs.length)(_:(∀n∈A.order,n<A.T.vs.length))(_:A.order.length+A.fallen.length≤8)(_:∀(Hs' H':Hp),Same Hs Hs'→Same Hs' H'→(∀a,H a≠none→Hs a=none→Hs' a=none)→But x H H'→AccIn d Hs' H' x {A with order:=(dueOf n A B').1,fallen:=A.fallen++(dueOf n A B').2.1}→Q (.int ((dueOf n A B').2.2.pr.sum+(dueOf n A B').2.2.cg)) H'):spDue d n vs H Q E_
theorem klP{d:D}{vs:List V}{H:Hp}{Q:VK}{E:XK}(h:spDue d 0 vs H Q E):False:=by
 obtain⟨_,_,_,_,_,_,h,_⟩:=h
 lia
theorem kiK{x a:Addr}{H H':Hp}{o:HO}(b:But x H H')(hx:H' x>>o)(ha:H a≠none):H' a≠none:=fun z=>ha (But.free b hx z)
theorem kkK{l:Nat}{o:List Nat}:o.count l+(o.filter fun m=>decide (m≠l)).length=o.length:=by
 induction o with
 |nil=>rfl
 | cons a o ih=>
  rw[EG,Ej,Md]
  by_cases e:a=l
  ·subst e
   rw[beq_self_eq_true,if_pos rfl,decide_eq_false (fun h=>h rfl),if_neg NP]
   lia
  ·have e1:(a==l)=false:=beq_eq_false_iff_ne.mpr e
   rw[e1,if_neg NP,decide_eq_true e,if_pos rfl,Md]
   lia
theorem klv{l n:Nat}:(NI n [pV (some l)]).flatten=(NI n l).map iV:=by
 induction n with
 |zero=>rfl
 |succ n ih=>rw[ME,ME,Me,ih,NW];rfl
theorem XY:kar ["self","stays","way","lonely"] ["self","stays"] (kai ka5):=by ac_rfl
theorem kcR(W:WB K mg d base)(n:Nat)(G_rec:FO P w W (7+n) d.Qj d.Qk ["self","stays"] (spDue d n)):FO P w W (7+n+1) d.Qj d.Qk ["self","stays"] (spDue d (n+1)):=by
 exists W.QB.F,XY
 ·obtain⟨Hs,x,bs,A,B',rfl,hn,sS,fS,hA,tok,hB,wf0,hhl,hlt,h8,kk⟩:=h
  exists U9,kc5,W
  exists XR,kcl,W
  exists XW,kcA,W
  have hr1:Room 1 _:=hr.mono (by lia)
  have hr7:Room 7 _:=hr.mono (by lia)
  refine⟨_,kab (psl (i:=2) XY.nd (kbm (pv 0) W.qc.cl W.XC.me U9 hr7 W.XC.b .nil pass0 (kaa (pv 1) kae)))
   (kab (psl (i:=3) XY.nd (pcl XR hr1 W.Xk (kaa (kah (K:=K) (kah (K:=K) (pv 0) rfl) rfl) (kaa (kah (K:=K) (pv 0) rfl) kae))))
   (kab (ps_if (kan keb (pv 3) kbf (kau _)) (kag (kap (kde (kah (K:=K) (pv 2) rfl) W.qd.cl W.Qt.me XW hr1 W.Qt.b .nil pass0))) (kav))
   (kab (kaz (pv 0) (pe_op ke0 (kah (K:=K) (pv 0) rfl) (pe_op kj2 (kaM (kaa (pv 3) kae)) (pe_bm Mt DX DY kis (kah (K:=K) (pv 0) rfl) (kaa (pv 3) kae)))) rfl)
   (kab (kaz (pv 0) (kga (N:=["number","lonely"]) (CompScope.of (N:=["number","lonely"]) (cap:=[none,some 3]) (kai ka5).names ["self","stays","way","lonely"] rfl rfl (by cutsat)) rfl (kaC (K:=K) (kah (K:=K) (pv 0) rfl)) (fun _ _ _ _=>pgn (i:=0) (show(["number","lonely"]:List Str).Nodup by cutsat)) (fun _ _ _ _=>kf9 (kan op_ne (pv 0) (pv 1) (kau _))) (fun _ _ _ _=>(pv 0))) rfl)
   (kag (kap (kbm (pv 0) W.qc.cl W.QB.me G_rec hr W.QB.b .nil pass0 (kaa (pv 1) kae)))))))),?_⟩
  obtain⟨dx,t,b,hd,fpp,o',fa',m',fs,hx,F,k⟩:=id hA
  exists Y4
  rwa[8,x,dx,fs,6,hx,F.l11 _ (by cutsat),8,Hs,x,bs,A,B',6,sS,fS,hA,tok,hB,wf0,hhl,hlt,h8,fun Hs1 H1 wy t1 xs s1 S1 f1 b1 hA1 hY hS=>?_]
  have hlen:=keI (T:=A.T) (B:=B') (hand:=A.hand) (u:=[]) (S:=stnd0 B') hlt
  have hmem:=fun m=>keH (T:=A.T) (B:=B') (hand:=A.hand) (o:=A.order) (u:=[]) (S:=stnd0 B') (m:=m)
  have eU:dueOf (n+1) A B'=(match onlyM A.T.rs (thrOf A B').1 with
   |none=>thrOf A B'
   |some l=>((dueA A.T B' A.hand n ((thrOf A B').1.filter fun m=>decide (m≠l))).1,(thrOf A B').2.1++(NI ((thrOf A B').1.count l) l++(dueA A.T B' A.hand n ((thrOf A B').1.filter fun m=>decide (m≠l))).2.1),(dueA A.T B' A.hand n ((thrOf A B').1.filter fun m=>decide (m≠l))).2.2)):=rfl
  rw[eU] at kk
  rw[show thrM A.T B' A.hand A.order [] (stnd0 B')=thrOf A B' from rfl] at hlen hmem
  clear eU
  generalize thrOf A B'=R at *
  obtain⟨r1,r2,S'⟩:=R
  simp only at *
  obtain⟨dx1,t2,b2,hd1,fp1,o1,fa1,m1,fs1,hx1,F1,k1⟩:=id hA1
  obtain⟨dxt,fst,tp,vl,rl,va,ra,ht,t1',t2',t3',t4',htp,hvl,hva,hrl,hra⟩:=id (k1.T.same S1)
  have ho1:=S1 _ _ k1.o
  nomatch x,d.qc,dx1,fs1,8,hx1,W.qc.cl,W.QR,F1.l1,t2,d.qg,dxt,fst,8,ht,W.qg.cl,W.qQ,t3',8,x,d.qc,dx1,fs1,8,hx1,W.qc.cl,W.qu,F1.l5,rl,o1,ra,A.T.rs,r1,6,hrl,hra,ho1,?_
  nomatch 6,8,?_
  cases e:onlyM A.T.rs r1 with
  |none=>
   rw[e] at kk
   simp only at kk
   show if decide (V.non=V.non)=true then _ else _
   rw[show decide (V.non=V.non)=true by simp]
   obtain⟨dxw,fsw,hd',u,hw,w1,w2,w3,w4,w5,w6,w7,w8,w9,w10,hh',hu⟩:=id hY
   obtain⟨ow,pp,mm,⟨dxs,fss,hxs,l1,l2,l3,l4,l5⟩,how,hpp,hmm⟩:=id hS
   refine iteT ?_
   symm
   rwa[8,wy,d.c_Way,dxw,fsw,8,hw,W.c_Way.cl,W.qV,w5,xs,dxs,fss,6,hxs,l5,xs,ow,pp,mm,S'.cg,S'.pr,6,⟨dxs,fss,hxs,l1,l2,l3,l4,l5⟩,hpp,kk Hs1 H1 s1 S1 f1 b1 hA1]
  | some l=>
   rw[e] at kk
   simp only at kk
   have hl:=kgc e
   have hcl:=kkK (l:=l) (o:=r1)
   have hlt1:=filter_lt hl
   show if decide (iV l=V.non)=true then _ else _
   rw[show decide (iV l=V.non)=false from decide_eq_false (by intro z;cases z)]
   refine iteF ?_
   have eo1:H1 o1>>(.lst ((r1.map fun(i:Nat)=>(i:Int)).map V.int)):=by rw[ho1,N7];rfl
   symm
   exists Y6
   rwa[8,x,d.qc,dx1,fs1,8,hx1,W.qc.cl,W.qR,F1.l6,8,(by show 1≤sizeLine;decide),fun q1 hq1=>?_]
   generalize hgH2:upd H1 q1 _=H2
   obtain⟨n2,e2⟩:=kay hgH2 hq1
   have hc8:r1.count l≤8:=by simp only[MV] at hlen;lia
   nofun
   exists Y6
   rwa[8,x,d.qc,dx1,fs1,8,n2 _ _ hx1,W.qc.cl,W.qu,F1.l5, .inl ⟨rfl,_,SqL.of (n2 _ _ ho1)⟩,8,o1,9,n2 _ _ eo1,q1,9,e2,by lia,by rw[kgu];lia,by rw[kgu,Int.toNat_natCast];exact NR (kas (by show 1*_≤1000;lia)),fun q2 hq2=>?_]
   rw[kgu,Int.toNat_natCast,klv]
   generalize hg3:upd H2 q2 _=H3
   obtain⟨n3,e3⟩:=kay hg3 hq2
   have s13:=n2.trans n3
   nofun
   exists Y6
   rwa[fa1,q2,9,(S1.trans s13) _ _ k1.f,e3,NR (kas (by rw[ND,ND,NQ,ML];simp only[MV] at hlen;lia)),fun q3 hq3=>?_]
   rw[←NL]
   generalize hg4:upd H3 q3 _=H4
   obtain⟨n4,e4⟩:=kay hg4 hq3
   nofun
   exists Y6
   rwa[8,x,d.qc,dx1,fs1,6,(s13.trans n4) _ _ hx1,W.qc.cl,W.qR,by have:=F1.l10;lia,?_]
   obtain⟨Hs5,p1,p2,p3,p4,p5,hA5⟩:=khV (A':={A with order:=r1,fallen:=A.fallen++r2++NI (r1.count l) l}) (gs:=putF "fallen" (.ref q3) fs1) (S1.trans s13) (f1 x (by rw[hx];intro z;cases z) fS) (s13 _ _ hx1) n4 hq3 e4 fun Hs' s e=>⟨dx1,t2,b2,hd1,fp1,o1,q3,m1,_,kad,F1.fallen,k1.fallen s e⟩
   generalize upd H4 x (.ins d.qc dx1 (putF "fallen" (.ref q3) fs1))=H5 at *
   obtain⟨dx5,t5,b5,hd5,fp5,o5,fa5,m5,fs5,hx5,F5,k5⟩:=id hA5
   have ho5:=p2 _ _ k5.o
   nofun
   exists Y6
   rwa[8,x,d.qc,dx5,fs5,8,hx5,W.qc.cl,W.qu,F5.l5,o5,6,⟨_,SqL.of ho5⟩,kgt (J:=Itl K o5) (n:=(r1.map iV).length) (fun i σ ys H'=>H'=H5∧ys=((r1.take i).filter fun m=>decide (m≠l)).map iV∧∃v,σ=[v,some (iV l)]) ⟨rfl,rfl,none,rfl⟩ (by rw[ND];exact NR (kas (by simp only[MV] at hlen;lia))) ?_ (fun i σ ys H' hi p=>⟨_,_,SqL.of (p.1▸ho5),MG hi⟩) (fun σ ys H' p=>⟨_,SqL.of (p.1▸ho5),NG _⟩) ?_ ?_]
   ·rintro i σ ys H' hi ⟨rfl,rfl,_⟩
    rw[ND]
    nofun
    exact NJ (Eg _ _) (by rw[NS];lia)
   ·rintro i σ ys H' y H'' hi ⟨rfl,rfl,v,rfl⟩ ⟨rfl,hy⟩
    obtain⟨m,em,rfl⟩:∃m,r1[i]?>>m∧y=iV m:=kbj (hy _ (SqL.of ho5))
    nofun
    exists Y8
    rwa[8,8,6,8,?_]
    rw[take_snoc em,M8,NL]
    by_cases e1:m=l
    ·subst e1
     rw[show(!decide (iV m=iV m))=false by simp]
     refine iteF ?_
     exists 3
     exists Y10
     rwa[6,?_,8]
     rw[Ej,decide_eq_false (fun h=>h rfl),if_neg NP]
     try first|apply Y10|apply Y8|apply Y6|apply Y4
     exact(MQ _).symm
    ·show if(!decide (iV m=iV l))=true then _ else _
     rw[show(!decide (iV m=iV l))=true from by rw[kfK,decide_eq_false e1];rfl]
     refine iteT ?_
     try first|apply Y10|apply Y8|apply Y6|apply Y4
     exists Y10
     rwa[8,6,?_,8]
     rw[Ej,decide_eq_true e1,if_pos rfl]
     rfl
   ·rintro σ ys H' ⟨rfl,rfl,v,rfl⟩ q6 hq6
    rw[ND,Ma]
    generalize hg7:upd H' q6 _=H7
    obtain⟨n7,e7⟩:=kay hg7 hq6
    exists 3
    exists Y8
    rwa[8,x,d.qc,dx5,fs5,6,n7 _ _ hx5,W.qc.cl,W.qu,by have:=F5.l10;lia,?_]
    obtain⟨Hs8,u1,u2,u3,u4,u5,hA8⟩:=khV (A':={A with order:=r1.filter fun m=>decide (m≠l),fallen:=A.fallen++r2++NI (r1.count l) l}) (gs:=putF "order" (.ref q6) fs5) p2 p3 hx5 n7 hq6 e7 fun Hs' s e=>⟨dx5,t5,b5,hd5,fp5,q6,fa5,m5,_,kad,F5.order,k5.order s e⟩
    generalize upd H7 x (.ins d.qc dx5 (putF "order" (.ref q6) fs5))=H8 at *
    obtain⟨dx8,t8,b8,hd8,fp8,o8,fa8,m8,fs8,hx8,F8,k8⟩:=id hA8
    have hc1:=(b1.same s13)
    have hc2:=hc1.trans p5
    have hc3:=hc2.trans u5
    exists 3
    exists Y8
    rwa[8,x,dx8,fs8,6,hx8,F8.l11 _ (by cutsat),8,Hs8,x,bs,_,B',6,?_,u2,u3,hA8,tok,hB.butI hc3 hx F.foe,wf0,hhl,?_,?_,fun Hs9 H9 v1 v2 v3 v4 hA9=>?_]
    ·show(r1.filter fun m=>decide (m≠l)).length<n
     simp only[MV] at hlen
     lia
    ·intro m hm
     have h1:=(Mi.mp hm).1
     rcases hmem m h1 with h|h
     ·cases h
     ·exact hlt m h
    ·show(r1.filter fun m=>decide (m≠l)).length+(A.fallen++r2++NI (r1.count l) l).length≤8
     rw[NQ,NQ,ML]
     simp only[MV] at hlen
     lia
    ·refine kk Hs9 H9 (((s1.trans p1).trans u1).trans v1) v2 (fun a ha hs=>v3 a (kiK hc3 hx8 ha) (u4 a (kiK hc2 hx5 ha) (p4 a (kiK hc1 (s13 _ _ hx1) ha) (f1 a ha hs)))) (hc3.trans v4) ?_
     rw[←Mr,←Mr]
     exists 3
     exact hA9
theorem kbQ(W:WB K mg d base):∀n:Nat,FO P w W (7+n) d.Qj d.Qk ["self","stays"] (spDue d n)
 |0=>⟨fun _ _ _ _ h=>(klP h).elim,fun _ _ _ _ _ _ _ _ _ _ _ _ _ h=>(klP h).elim⟩
 |n+1=>kcR W n (kbQ W n)
theorem kdh(W:WB K mg d base):FO P w W 16 d.Qj d.Qk ["self","stays"] (spDue d 9):=kbQ W 9
theorem kiy(i j:Int):(if j > i then j else i)=max i j:=by split <;> lia
noncomputable def due1(A:AccD)(l:Nat)(k:Int):List Nat×List Nat×Stnd:=dueOf 9 {A with many:=A.many.set l k} (kaN A.B (A.many.set l k))
noncomputable def owes(r:List Nat×List Nat×Stnd):Int:=r.2.2.pr.sum+r.2.2.cg
noncomputable def backA(A:AccD)(l:Nat)(k:Int):Int:=max (A.paid-owes (due1 A l k)) 0
noncomputable def tookA(A:AccD)(l:Nat)(k:Int):AccD:={A with many:=A.many.set l k,order:=(due1 A l k).1,fallen:=A.fallen++(due1 A l k).2.1,paid:=A.paid-backA A l k,owed:=max (owes (due1 A l k)-(A.paid-backA A l k)) 0}
structure AccOk(A:AccD):Prop where
 tok:kb0 A.T
 nl:A.B.rs.length≤12
 ml:A.many.length=A.B.rs.length
 hl:A.hand.length=A.T.vs.length
 lt:∀n∈A.order,n<A.T.vs.length
 l8:A.order.length+A.fallen.length≤8
noncomputable def bkS(A:AccD)(l:Nat)(k:Int)(n:Nat):Int:=((A.pr.drop ((mans (A.B.rs.take l)).sum+k.toNat)).take n).sum
noncomputable def backB(A:AccD)(l:Nat)(k:Int)(n:Nat):Int:=if A.T.bk=("again" :Str) then backA A l k else bkS A l k n
noncomputable def tookB(A:AccD)(l:Nat)(k:Int)(n:Nat):AccD:=if A.T.bk=("again" :Str) then tookA A l k else {A with many:=A.many.set l k,paid:=A.paid-bkS A l k n}
theorem klp{many:List Int}{l:Nat}{n z:Int}(hz:many[l]?>>z)(h1:1≤n)(h2:n≤z):hasM many ((l:Nat):Int) n=true:=by
 have hl:=at_lt hz
 have e:many.getD ((l:Nat):Int).toNat 0=z:=by rw[Int.toNat_natCast,N1,hz];rfl
 unfold hasM
 rw[e,decide_eq_true (by lia),decide_eq_true (by lia),decide_eq_true h1,decide_eq_true h2]
 rfl
def TakeB(d:D)(vs:List V)(H:Hp)(Q:VK):Prop:=∃(Hs:Hp)(x:Addr)(l n:Nat)(z:Int)(A:AccD),vs=[.ref x,iV l,iV n]∧Same Hs H∧Hs x=none∧AccIn d Hs H x A∧AccOk A∧((A.T.bk=("again" :Str)∧Wf A.T.ps (kaN A.B (A.many.set l (z-n))) (stnd0 (kaN A.B (A.many.set l (z-n)))))∨(A.T.bk=("shares" :Str)∧(∀r∈A.B.rs,r.Ok)∧(mans (A.B.rs.take l)).sum+z.toNat≤A.pr.length))∧A.many[l]?>>z∧1≤n∧(n:Int)≤z∧
 ∀Hs' H',Same Hs Hs'→Same Hs' H'→(∀a,H a≠none→Hs a=none→Hs' a=none)→But x H H'→AccIn d Hs' H' x (tookB A l (z-n) n)→Q (.int (backB A l (z-n) n)) H'
def TakeN(d:D)(vs:List V)(H:Hp)(E:XK):Prop:=∃(Hs:Hp)(x:Addr)(l n:Int)(A:AccD),vs=[.ref x, .int l, .int n]∧Same Hs H∧AccIn d Hs H x A∧hasM A.many l n=false∧E (.ref d.qt) none H
def kmn(d:D):Sp:=fun vs H Q E=>TakeB d vs H Q∨TakeN d vs H E
theorem QZ:kar ["self","line","many","left","due","back"] ["self","line","many"] (kai kbp):=by ac_rfl
theorem kbP(W:WB K mg d base):FnOk P w K mg base (CX1 P w) 17 d.ZX d.ZY ["self","line","many"] (kmn d):=by
 refine FunD.okX W.Qz.F QZ (fun vs H Q E h=>?_) (fun cdv A outer s H vs Q E hr h=>?_)
 ·rcases h with⟨Hs,x,l,n,z,A,rfl,_⟩|⟨Hs,x,l,n,A,rfl,_⟩
  ·rfl
  ·rfl
 ·have h0:=h
  exists Ja,kdv,W
  exists Uh,kdu,W
  exists Jb,kcS,W
  exists Jc,kdh,W
  exists Jd,kc4,W
  have hr1:Room 1 _:=hr.mono (by decide)
  have hr3:Room 3 _:=hr.mono (by decide)
  refine⟨_,kab (ps_if (kdB (ka0 (kbm (pv 0) W.qc.cl W.Xz.me Ja hr1 W.Xz.b .nil pass0 (kaa (pv 1) (kaa (pv 2) kae))))) (kag (kjQ (km9 W.kin W.V6 W.UQ) PySem.F.excBase_ValueError rz_cx rfl)) (kav))
   (kab (psl (i:=3) QZ.nd (pe_op kcy (pe_ix (r:=rIxL K) kaG (kah (K:=K) (pv 0) rfl) (pv 1) (fun _ _=>rfl)) (pv 2)))
   (kab (kaz (pv 0) (pe_op ke0 (pe_op ke0 (kb3 (r:=rSlL K) kcD (kah (K:=K) (pv 0) rfl) kdY (kbX (pv 1))) (kaM (kaa (pv 3) kae))) (kb3 (r:=rSlL K) kcD (kah (K:=K) (pv 0) rfl) (kbX (pe_op kbu (pv 1) kaf)) kdY)) rfl)
   (kab (ps_if (kan op_eq (kah (K:=K) (kah (K:=K) (pv 0) rfl) rfl) kbD (kau _)) (kag (kap (kbm (pv 0) W.qc.cl W.QA.me Uh hr1 W.QA.b .nil pass0 (kaa (kbm (pv 0) W.qc.cl W.XA.me Jb hr1 W.XA.b .nil pass0 (kaa (pv 1) (kaa (pv 3) (kaa (pv 2) kae)))) kae)))) (kav))
   (kab (psl (i:=4) QZ.nd (kbm (pv 0) W.qc.cl W.QB.me Jc hr W.QB.b .nil pass0 (kaa (kde (pv 0) W.qc.cl W.XB.me Jd hr3 W.XB.b .nil pass0) kae)))
   (kab (psl (i:=5) QZ.nd (kbm (pv 0) W.qc.cl W.QA.me Uh hr1 W.QA.b .nil pass0 (kaa (kao (kcC rfl) (by rfl) W.B.max b_max (kaa (pe_op kcy (kah (K:=K) (pv 0) rfl) (pv 4)) (kaa kaf kae))) kae)))
   (kab (kaz (pv 0) (kao (kcC rfl) (by rfl) W.B.max b_max (kaa (pe_op kcy (pv 4) (kah (K:=K) (pv 0) rfl)) (kaa kaf kae))) rfl)
   (kag (kap (pv 5))))))))),?_⟩
  rcases h with⟨Hs,x,l,n,z,A,rfl,sS,fS,hA,ok,hmode,hz,hn1,hn2,kk⟩|⟨Hs,x,l,n,A,rfl,sS,hA,hno,kk⟩
  case inr=>
   obtain⟨dx,t,b,hd,fp,o',fa',m',fs,hx,F,k⟩:=id hA
   exists Y6
   rwa[8,x,dx,fs,6,hx,F.l11 _ (by cutsat),8,8,Hs,x,l,n,A,6,sS,hA,8,?_]
   rw[hno]
   refine iteT ?_
   try apply Y6
   exact kk
  obtain⟨dx,t,b,hd,fp,o',fa',m',fs,hx,F,k⟩:=id hA
  have hl:=at_lt hz
  have hm':=sS _ _ k.m
  exists Y4
  rwa[8,x,dx,fs,6,hx,F.l11 _ (by cutsat),8,8,Hs,x,l,n,A,6,sS,hA,8,?_]
  rw[klp hz (by lia) hn2]
  refine iteF ?_
  have hat:atI (A.many.map V.int) ((l:Nat):Int)>>(V.int z):=kaL (v:=V.int z) (by rw[NO,hz];rfl)
  nomatch x,d.qc,dx,fs,8,hx,W.qc.cl,W.qp,F.l7,8,m',_,9,SqL.of hm',hat,8,9,?_
  have ht12:A.many.length≤12:=by rw[ok.ml];exact ok.nl
  nomatch x,d.qc,dx,fs,8,hx,W.qc.cl,W.qp,F.l7,8,8,m',8,SqL.of hm',fun p1 fp1=>?_
  rw[kiJ,←MS]
  generalize hg1:upd H p1 _=H1
  obtain⟨n1,e1⟩:=kay hg1 fp1
  nomatch (by show 1≤sizeLine;decide),fun p2 fp2=>?_
  generalize hg2:upd H1 p2 _=H2
  obtain⟨n2,e2⟩:=kay hg2 fp2
  symm
  exists Y4
  rwa[p1,p2,9,n2 _ _ e1,e2,NR (kas (by rw[ND,NS];show _+1≤1000;lia)),fun p3 fp3=>?_]
  generalize hg3:upd H2 p3 _=H3
  obtain⟨n3,e3⟩:=kay hg3 fp3
  have s3:=(n1.trans n2).trans n3
  nomatch x,d.qc,dx,fs,8,s3 _ _ hx,W.qc.cl,W.qp,F.l7,8,9,8,m',8,SqL.of (s3 _ _ hm'),fun p4 fp4=>?_
  rw[show((l:Nat):Int)+1=((l+1:Nat):Int) by lia,klC,←Et]
  generalize hg4:upd H3 p4 _=H4
  obtain⟨n4,e4⟩:=kay hg4 fp4
  have emany:(A.many.take l).map V.int++[V.int (z-n)]++(A.many.drop (l+1)).map V.int=(A.many.set l (z-n)).map V.int:=by
   rw[List.set_eq_take_append_cons_drop,if_pos hl,NL,NW,Mr]
   rfl
  symm
  exists Y4
  rwa[p3,p4,9,n4 _ _ e3,e4,NR (kas (by rw[NQ,ND,ND,NS,Eo];show _+1+_≤1000;lia)),fun p5 fp5=>?_]
  rw[emany]
  generalize hg5:upd H4 p5 _=H5
  obtain⟨n5,e5⟩:=kay hg5 fp5
  have s4:=s3.trans n4
  have hx4:=s4 _ _ hx
  nomatch x,d.qc,dx,fs,6,n5 _ _ hx4,W.qc.cl,W.qp,by have:=F.l10;lia,?_
  obtain⟨Hs6,p1',p2',p3',p4',p5',hA6⟩:=khV (A':={A with many:=A.many.set l (z-n)}) (gs:=putF "many" (.ref p5) fs) (sS.trans s4) fS hx4 n5 fp5 e5 fun Hs' s e=>⟨dx,t,b,hd,fp,o',fa',p5,_,kad,F.many,k.many s e⟩
  generalize upd H5 x (.ins d.qc dx (putF "many" (.ref p5) fs))=H6 at *
  obtain⟨dx6,t6,b6,hd6,fp6,o6,fa6,m6,fs6,hx6,F6,k6⟩:=id hA6
  have c6:But x H H6:=(But.of_same s4).trans p5'
  have f6:∀a,H a≠none→Hs a=none→Hs6 a=none:=fun a ha hs=>p4' a (fun z=>ha (none_of s4 z)) hs
  obtain⟨dxt,fst,tp,vl,rl,va,ra,ht,t1,t2,t3,t4,_⟩:=k6.T.same p2'
  nomatch x,d.qc,dx6,fs6,8,hx6,W.qc.cl,W.QR,F6.l1,t6,d.qg,dxt,fst,8,ht,W.qg.cl,W.QQ,t4,6,8,?_
  show if decide (V.str A.T.bk=V.str "shares")=true then _ else _
  rcases hmode with⟨hbk,wf⟩|⟨hbk,hok,hle⟩
  case inr=>
   rw[hbk,show decide (V.str "shares"=V.str "shares")=true by simp]
   have nag:¬A.T.bk=("again" :Str):=by rw[hbk];cutsat
   obtain⟨zk,ezk⟩:=Int.eq_ofNat_of_zero_le (show 0≤z-(n:Int) by lia)
   have etk:backB A l (z-n) n=((A.pr.drop ((mans (A.B.rs.take l)).sum+zk)).take n).sum:=by
    unfold backB bkS
    rw[if_neg nag,ezk,Int.toNat_natCast]
   have ett:tookB A l (z-n) n= {A with many:=A.many.set l (z-n),paid:=A.paid-backB A l (z-n) n}:=by
    unfold tookB backB
    rw[if_neg nag,if_neg nag]
   rw[etk] at ett kk
   rw[ett] at kk
   refine iteT ?_
   symm
   exists Y6
   rwa[8,x,dx6,fs6,6,hx6,F6.l11 _ (by cutsat),8,x,dx6,fs6,6,hx6,F6.l11 _ (by cutsat),8,8,8,Hs6,x,l,zk,n,_,?_,p2',hA6,ok.nl,hok,(by show(mans (A.B.rs.take l)).sum+zk+n≤A.pr.length;lia),fun H7 s7=>?_]
   ·show [V.ref x,iV l,V.int (z-n),iV n]=[V.ref x,iV l,V.int ((zk:Nat):Int),iV n]
    rw[ezk]
   ·rwa[Hs6,x,_,8,hA6.same s7,fun H8 b8 hA8=>kk Hs6 H8 p1' (kbi (p2'.trans s7) b8 p3') f6 ((c6.same s7).trans b8) hA8]
  have ett:tookB A l (z-n) n=tookA A l (z-n):=by unfold tookB;rw[if_pos hbk]
  have etk:backB A l (z-n) n=backA A l (z-n):=by unfold backB;rw[if_pos hbk]
  rw[ett,etk] at kk
  rw[hbk,show decide (V.str "again"=V.str "shares")=false by rw[eq_str];cutsat]
  have ml':(A.many.set l (z-n)).length=A.B.rs.length:=by rw[MD];exact ok.ml
  refine iteF ?_
  nomatch x,dx6,fs6,6,hx6,F6.l11 _ (by cutsat),8,x,dx6,fs6,6,hx6,F6.l11 _ (by cutsat),Hs6,x,8,p2',hA6,ml',ok.nl,fun H7 bs s7 fbs hBs=>?_
  symm
  exists Y4
  rwa[Hs6,x,bs,_,8,(by have:=ok.l8;show A.order.length<9;lia),p2'.trans s7,p3',hA6.same s7,ok.tok,hBs,wf,ok.hl,ok.lt,ok.l8,fun Hs8 H8 v1 v2 v3 v4 hA8=>?_]
  have c8:But x H H8:=(c6.same s7).trans v4
  have f8:∀a,H a≠none→Hs a=none→Hs8 a=none:=fun a ha hs=>v3 a (fun z=>kiK c6 hx6 ha (none_of s7 z)) (f6 a ha hs)
  obtain⟨dx8,t8,b8,hd8,fp8,o8,fa8,m8,fs8,hx8,F8,k8⟩:=id hA8
  nomatch x,dx8,fs8,6,hx8,F8.l11 _ (by cutsat),8,x,d.qc,dx8,fs8,8,hx8,W.qc.cl,W.qH,F8.l8,8,9,_,8,Hs8,x,_,8,hA8,fun H9 b9 hA9=>?_
  rw[kiy] at hA9⊢
  obtain⟨dx9,t9,b9',hd9,fp9,o9,fa9,m9,fs9,hx9,F9,k9⟩:=id hA9
  nomatch 8,x,d.qc,dx9,fs9,8,hx9,W.qc.cl,W.qH,F9.l8,9,_,8,8,x,d.qc,dx9,fs9,6,hx9,W.qc.cl,W.Qy,by have:=F9.l10;lia,?_
  rw[kiy]
  have b10:But x H9 (upd H9 x (.ins d.qc dx9 (putF "owed" (.int (max (owes (due1 A l (z-n))-(A.paid-backA A l (z-n))) 0)) fs9))):=kaw (nx hx9)
  have fx8:Hs8 x=none:=f8 x (by rw[hx];intro z;cases z) fS
  symm
  rwa[8,kk Hs8 _ (p1'.trans v1) (kbi (kbi v2 b9 fx8) b10 fx8) f8 ((c8.trans b9).trans b10) ⟨dx9,t9,b9',hd9,fp9,o9,fa9,m9,_,kad,F9.owed,k9.T,k9.B,k9.h,k9.p,k9.o,k9.f,k9.m⟩]
theorem kfX:kar ["_law_found"] ["_law_found"] (kai kcT):=by ac_rfl
theorem kgd(W:WB K mg d base):FO P w W 1 d.YQ d.YR ["_law_found"] kh0:=by
 exists W.Xl.F,kfX
 ·obtain⟨n,rfl,k⟩:=h
  rwa[_,kag (kap (kim (kao (r:=rIsi K) kbs (by rfl) W.B.isi b_isi (kaa (pv 0) (kaa (khD (v:=.ty "int") (by rfl) W.B.int b_int rfl) kae))) (kik (km7 (kao (r:=rIsi K) kbs (by rfl) W.B.isi b_isi (kaa (pv 0) (kaa (khD (v:=.ty "bool") (by rfl) W.B.bool knt rfl) kae))))))),?_]
  rwa[8,_,_,_,8, .inl ⟨_,rfl⟩,TyOf.int _,kcI _ _,8,iteT ⟨_,rfl,_,_,_,_,rfl, .inl ⟨_,rfl⟩,TyOf.int _,kg5 _,_,rfl,k⟩]
inductive kia(K:NF)(vs:List V)(H:Hp)(Q:VK)(E_:XK):Prop
 |ct(a:Addr)(ns:List Int)(n:Int)(_:vs=[.ref a, .int n])(_:SqL K H a (ns.map V.int))(_:0≤n)(_:∀z:Int,Q (.int z) H):kia K vs H Q E_
theorem keN:kar ["_law_script","_law_k"] ["_law_script","_law_k"] (kai kcv):=by ac_rfl
theorem kc2(W:WB K mg d base):FO P w W 1 d.YS d.YT ["_law_script","_law_k"] (kia K):=by
 exists W.Qa.F,keN
 ·obtain⟨a,ns,n,rfl,hS,n0,kk⟩:=h
  refine⟨_,kab (ps_if (kan op_lt (pv 1) (kao (r:=kaJ K) kaq (by rfl) W.B.len b_len (kaa (pv 0) kae)) (kau _)) (kag (kap (pe_ix (r:=rIxL K) kaG (pv 0) (pv 1) (fun _ _=>rfl)))) (kav))
   (kag (kap kaf)),?_⟩
  obtain⟨m,rfl⟩:=Int.eq_ofNat_of_zero_le n0
  rwa[8,8,a,8, .inl hS,9,8,ite2 (fun h=>?_) (fun _=>kk 0)]
  have hn:m<ns.length:=by
   have:(m:Int)<((ns.map V.int).length:Nat):=by simpa using h
   rw[ND] at this
   lia
  obtain⟨z,ez⟩:=at_of hn
  rwa[8,8,a,_,9,hS,kaL (v:=.int z) (by rw[NO,ez];rfl),kk z]
theorem khv:kar ["_law_cell","_law_factor","_law_prime"] ["_law_cell","_law_factor","_law_prime"] (kai kdU):=by ac_rfl
theorem kbr(W:WB K mg d base):FO P w W 1 d.YU d.YV ["_law_cell","_law_factor","_law_prime"] spMix:=by
 exists W.qy.F,khv
 ·obtain⟨c,f,p,rfl,hf,hp,k⟩:=h
  rwa[_,kag (kap (pe_op kaA (pe_op kdD (pv 0) (pv 1)) (pv 2))),?_]
  rwa[8,8,9, .inr hf,8,9,hp,k]
inductive kjy(vs:List V)(H:Hp)(Q:VK)(E_:XK):Prop
 |ct(c:Int)(_:vs=[.int c])(_:∀z:Int,0≤z→z≤1000000000000→Q (.int z) H):kjy vs H Q E_
theorem Ui:kar ["_law_cell","_law_how"] ["_law_cell"] (kai kcu):=by ac_rfl
theorem ke7(W:WB K mg d base):FO P w W 2 d.YW d.YX ["_law_cell"] kjy:=by
 exists W.VB.F,Ui
 ·obtain⟨c,rfl,kk⟩:=h
  exists qr,kbr,W
  refine⟨_,kab (psl (i:=1) Ui.nd (pe_op kaA (pv 0) kaf))
   (kab (ps_if (kan op_eq (pv 1) kaf (kau _)) (kag (kap (pe_op kaA (pe_op kaB (pv 0) kaf) kaf))) (kav))
   (kab (ps_if (kan op_eq (pv 1) kaf (kau _)) (kag (kap (pe_op kaA (pe_op kdD (pe_op kaB (pv 0) kaf) kaf) kaf))) (kav))
   (kab (ps_if (kan op_eq (pv 1) kaf (kau _)) (kag (kap (pe_op kcy kaf (pe_op kaA (pe_op kaB (pv 0) kaf) kaf)))) (kav))
   (kab (ps_if (kan op_eq (pv 1) kaf (kau _)) (kag (kap (pe_op kdD kaf (pe_op kaA (pe_op kaB (pv 0) kaf) kaf)))) (kav))
   (kag (kap (pe_op kbu kaf (pe_op kaA (pcl qr hr W.qy (kaa (pv 0) (kaa kaf (kaa kaf kae)))) kaf)))))))),?_⟩
  rwa[8,9,(by show(0:Int)<5;decide),?_]
  rwa[8,6,8,ite2 (fun _=>?_) (fun _=>?_)]
  ·rwa[8,7,9,(by show(0:Int)<7;decide),kk (c/5%7) (by lia) (by lia)]
  rwa[8,6,8,ite2 (fun _=>?_) (fun _=>?_)]
  ·rwa[8,7,9, .inr ⟨by decide,by decide⟩,9,(by show(0:Int)<1000000000001;decide),kk (c/5*2862933555777941757%1000000000001) (by lia) (by lia)]
  rwa[8,6,8,ite2 (fun _=>?_) (fun _=>?_)]
  ·rwa[8,7,9,(by show(0:Int)<3;decide),9,kk (1000000000000-c/5%3) (by lia) (by lia)]
  rwa[8,6,8,ite2 (fun _=>?_) (fun _=>?_)]
  ·rwa[8,7,9,(by show(0:Int)<40;decide),9, .inl ⟨by decide,by decide⟩,kk (100*(c/5%40)) (by lia) (by lia)]
  rwa[8,c,48271,2147483647,6,⟨by decide,by decide⟩,by decide,9,(by show(0:Int)<5000;decide),9,kk (1+c*48271%2147483647%5000) (by lia) (by lia)]
inductive kh9(vs:List V)(H:Hp)(Q:VK)(E_:XK):Prop
 |ct(c s:Int)(_:vs=[.int c, .int s])(_:∀z:Int,0≤z→z≤1000000000000→Q (.int z) H):kh9 vs H Q E_
theorem keM:kar ["_law_cell","_law_scale"] ["_law_cell","_law_scale"] (kai kct):=by ac_rfl
theorem kbz(W:WB K mg d base):FO P w W 3 d.YY d.YZ ["_law_cell","_law_scale"] kh9:=by
 exists W.qN.F,keM
 ·obtain⟨c,s',rfl,kk⟩:=h
  exists Je,ke7,W
  refine⟨_,kab (ps_if (kan op_eq (pv 1) kaf (kau _)) (kag (kap (pe_op kaA (pv 0) kaf))) (kav))
   (kab (ps_if (kan op_eq (pv 1) kaf (kau _)) (kag (kap (pe_op kdD kaf (pe_op kaA (pv 0) kaf)))) (kav))
   (kab (ps_if (kan op_eq (pv 1) kaf (kau _)) (kag (kap (pe_op kaA (pe_op kdD (pv 0) kaf) kaf))) (kav))
   (kag (kap (pcl Je hr W.VB (kaa (pv 0) kae)))))),?_⟩
  rwa[8,6,8,ite2 (fun _=>?_) (fun _=>?_)]
  ·rwa[8,9,(by show(0:Int)<10;decide),kk (c%10) (by lia) (by lia)]
  rwa[8,6,8,ite2 (fun _=>?_) (fun _=>?_)]
  ·rwa[8,9,(by show(0:Int)<60;decide),9, .inl ⟨by decide,by decide⟩,kk (50*(c%60)) (by lia) (by lia)]
  rwa[8,6,8,ite2 (fun _=>?_) (fun _=>?_)]
  ·rwa[8,9, .inr ⟨by decide,by decide⟩,9,(by show(0:Int)<1000000000001;decide),kk (c*2862933555777941757%1000000000001) (by lia) (by lia)]
  rwa[8,c,6,kk]
inductive kh6(d:D)(vs:List V)(H:Hp)(Q:VK)(E_:XK):Prop
 |ct(c:Int)(n:Nat)(s m:Int)(_:vs=[.int c,iV n, .int s, .int m])(_:0<n)(_:0≤m)(_:m≤7)(_:∀(H':Hp)(x:Addr)(r:Row),Same H H'→H x=none→LineAt d.qe H' x r→r.Ok→(0≤r.kd∧r.kd<(n:Int))→r.mn≤m→Q (.ref x) H'):kh6 d vs H Q E_
theorem Qd:kar ["_law_cell","_law_kinds","_law_scale","_law_most","_law_mixed","_law_special","_law_many"] ["_law_cell","_law_kinds","_law_scale","_law_most"] (kai kcr):=by ac_rfl
theorem ke5(W:WB K mg d base):FO P w W 4 d.Y0 d.Y1 ["_law_cell","_law_kinds","_law_scale","_law_most"] (kh6 d):=by
 exists W.VC.F,Qd
 ·obtain⟨c,n,s',m,rfl,hn,hm0,hm7,kk⟩:=h
  exists qr,kbr,W
  exists qB,kbz,W
  exists QF,kc3,W
  have hr1:Room 1 _:=hr.mono (by decide)
  have hr2:Room 2 _:=hr.mono (by decide)
  refine⟨_,kab (psl (i:=4) Qd.nd (pcl qr hr1 W.qy (kaa (pv 0) (kaa kaf (kaa kaf kae)))))
   (kab (psl (i:=5) Qd.nd kbf)
   (kab (kcL (ps_if (kan op_eq (pe_op kaA (pv 4) kaf) kaf (kau _)) (kag (psl (i:=5) Qd.nd (pcl qB hr W.qN (kaa (pe_op kaB (pv 0) kaf) (kaa (pv 2) kae))))) (kav)))
   (kab (psl (i:=6) Qd.nd (pe_op kaA (pe_op kaB (pv 4) kaf) kaf))
   (kab (kcL (ps_if (kan op_eq (pe_op kaA (pe_op kaB (pv 4) kaf) kaf) kaf (kau _)) (kag (psl (i:=6) Qd.nd (pe_op kaA (pe_op kaB (pv 4) kaf) kaf))) (kav)))
   (kag (kap (kaT (W.qT.mk' W.qe) QF hr2 rfl W.qe.m W.qT.b .nil pass0 (kaa (pe_op kaA (pe_op kaB (pv 4) kaf) (pv 1)) (kaa (pcl qB hr W.qN (kaa (pe_op kaB (pv 0) kaf) (kaa (pv 2) kae))) (kaa (kao (kdc rfl) (by rfl) W.B.min b_min (kaa (pv 6) (kaa (pv 3) kae))) (kaa (pv 5) kae))))))))))),?_⟩
  rwa[8,c,16807,2147483399,6,⟨by decide,by decide⟩,by decide,?_]
  have hx0:0≤c*16807%2147483399:=by lia
  generalize c*16807%2147483399=mx at *
  rwa[fun σ' H'=>H'=H∧∃sp:Option Int,(∀z,sp>>z→0≤z∧z≤1000000000000)∧σ'=[some (.int c),some (iV n),some (.int s'),some (.int m),some (.int mx),some (oV sp),none],?_,?_]
  ·rwa[8,9,(by show(0:Int)<3;decide),6,8,ite2 (fun _=>?_) (fun _=>⟨rfl,none,(fun z e=>by cases e),rfl⟩)]
   rwa[8,7,8,_,8,fun z z0 z1=>⟨rfl,some z,(fun y e=>by cases e;exact⟨z0,z1⟩),rfl⟩]
  rintro σ' H' ⟨rfl,sp,hsp,rfl⟩
  rwa[8,7,9,(by show(0:Int)<4;decide),?_]
  rwa[fun σ' H2=>H2=H'∧∃mn:Int,0≤mn∧mn≤7∧σ'=[some (.int c),some (iV n),some (.int s'),some (.int m),some (.int mx),some (oV sp),some (.int mn)],?_,?_]
  ·rwa[8,7,9,(by show(0:Int)<8;decide),6,8,ite2 (fun _=>?_) (fun _=>⟨rfl,mx/3%4,by lia,by lia,rfl⟩)]
   rwa[8,7,9,(by show(0:Int)<8;decide),6,mx/96%8,by lia,by lia,6]
  rintro σ' H2 ⟨rfl,mn,hmn0,hmn7,rfl⟩
  have k0:0≤mx/768%(n:Int):=Int.emod_nonneg _ (by lia)
  have k1:mx/768%(n:Int)<(n:Int):=Int.emod_lt_of_pos _ (by lia)
  rwa[8,7,8,9,(by show(0:Int)<(n:Int);lia),8,7,8,_,8,fun pz p0 p1=>?_]
  have hq:0≤(if m<mn then m else mn)∧(if m<mn then m else mn)≤m:=by split <;> lia
  rwa[8,8,_,8,8,khF (r:=⟨mx/768%(n:Int),pz,if m<mn then m else mn,sp⟩) fun H1 y s1 fy hy=>?_]
  generalize (if m<mn then m else mn)=q at *
  exact kk H1 y _ s1 fy hy ⟨p0,p1,hq.1,(by show q≤60;lia),hsp⟩ ⟨k0,k1⟩ hq.2
inductive kgI(d:D)(vs:List V)(H:Hp)(Q:VK)(E_:XK):Prop
 |ct(c:Int)(ps:List (Option Nat))(s:Int)(_:vs=[.int c,iV ps.length, .int s])(_:0<ps.length)(_:∀(H':Hp)(x:Addr)(M:Mks),Same H H'→H x=none→MksIs d.qi H' x M→MksOk ps M→Q (.ref x) H'):kgI d vs H Q E_
theorem qL:kar ["_law_cell","_law_kinds","_law_scale","_law_mixed","_law_kind","_law_needs","_law_most","_law_more"] ["_law_cell","_law_kinds","_law_scale"] (kai kca):=by ac_rfl
theorem ker(W:WB K mg d base):FO P w W 4 d.Y2 d.Y3 ["_law_cell","_law_kinds","_law_scale"] (kgI d):=by
 exists W.VD.F,qL
 ·obtain⟨c,ps,s',rfl,hn,kk⟩:=h
  exists qr,kbr,W
  exists qB,kbz,W
  exists XE,kdH,W
  have hr1:Room 1 _:=hr.mono (by decide)
  have hr2:Room 2 _:=hr.mono (by decide)
  refine⟨_,kab (psl (i:=3) qL.nd (pcl qr hr1 W.qy (kaa (pv 0) (kaa kaf (kaa kaf kae)))))
   (kab (psl (i:=4) qL.nd kbf)
   (kab (kcL (ps_if (kan op_eq (pe_op kaA (pv 3) kaf) kaf (kau _)) (kag (psl (i:=4) qL.nd (pe_op kaA (pe_op kaB (pv 3) kaf) (pv 1)))) (kav)))
   (kab (psl (i:=5) qL.nd kaf)
   (kab (kcL (ps_if (kan op_eq (pe_op kaA (pe_op kaB (pv 3) kaf) kaf) kaf (kau _)) (kag (psl (i:=5) qL.nd (pcl qB hr W.qN (kaa (pe_op kaB (pv 0) kaf) (kaa (pv 2) kae))))) (kav)))
   (kab (psl (i:=6) qL.nd kbf)
   (kab (kcL (ps_if (kan op_eq (pe_op kaA (pe_op kaB (pv 3) kaf) kaf) kaf (kau _)) (kag (psl (i:=6) qL.nd (pcl qB hr W.qN (kaa (pe_op kaB (pv 0) kaf) (kaa (pv 2) kae))))) (kav)))
   (kab (psl (i:=7) qL.nd (pe_op kaB (pv 3) kaf))
   (kag (kap (kaT (W.QM.mk' W.qi) XE hr2 rfl W.qi.m W.QM.b .nil pass0 (kaa (pv 4) (kaa (pv 5) (kaa (pv 6) (kaa (kbY op_eq (pe_op kaA (pv 7) kaf) kaf (kau _)) (kaa (kbY op_eq (pe_op kaA (pe_op kaB (pv 7) kaf) kaf) kaf (kau _)) (kaa (kbY op_eq (pe_op kaA (pe_op kaB (pv 7) kaf) kaf) kaf (kau _)) kae)))))))))))))))),?_⟩
  rwa[8,c,39373,2147483587,6,⟨by decide,by decide⟩,by decide,?_]
  have hx0:0≤c*39373%2147483587:=by lia
  generalize c*39373%2147483587=mx at *
  rwa[fun σ' H'=>H'=H∧∃kd:Option Nat,(∀k,kd>>k→k<ps.length)∧σ'=[some (.int c),some (iV ps.length),some (.int s'),some (.int mx),some (pV kd),none,none,none],?_,?_]
  ·rwa[8,9,(by show(0:Int)<2;decide),6,8,ite2 (fun _=>?_) (fun _=>⟨rfl,none,(fun z e=>by cases e),rfl⟩)]
   have k0:0≤mx/2%(ps.length:Int):=Int.emod_nonneg _ (by lia)
   have k1:mx/2%(ps.length:Int)<(ps.length:Int):=Int.emod_lt_of_pos _ (by lia)
   rwa[8,7,8,9,(by show(0:Int)<(ps.length:Int);lia),6,some (mx/2%(ps.length:Int)).toNat,(fun k e=>by cases e;lia),?_]
   show _=[some (V.int c),some (iV ps.length),some (V.int s'),some (V.int mx),some (V.int (((mx/2%(ps.length:Int)).toNat:Nat):Int)),none,none,none]
   rw[Int.toNat_of_nonneg k0]
   rfl
  rintro σ' H' ⟨rfl,kd,hkd,rfl⟩
  rwa[fun σ' H2=>H2=H'∧∃nd:Int,(0≤nd∧nd≤1000000000000)∧σ'=[some (.int c),some (iV ps.length),some (.int s'),some (.int mx),some (pV kd),some (.int nd),none,none],?_,?_]
  ·rwa[8,7,9,(by show(0:Int)<4;decide),6,8,ite2 (fun _=>?_) (fun _=>⟨rfl,0,⟨by decide,by decide⟩,rfl⟩)]
   rwa[8,7,8,_,8,fun z z0 z1=>⟨rfl,z,⟨z0,z1⟩,rfl⟩]
  rintro σ' H2 ⟨rfl,nd,hnd,rfl⟩
  rwa[fun σ' H3=>H3=H2∧∃mo:Option Int,(∀z,mo>>z→0≤z∧z≤1000000000000)∧σ'=[some (.int c),some (iV ps.length),some (.int s'),some (.int mx),some (pV kd),some (.int nd),some (oV mo),none],?_,?_]
  ·rwa[8,7,9,(by show(0:Int)<4;decide),6,8,ite2 (fun _=>?_) (fun _=>⟨rfl,none,(fun z e=>by cases e),rfl⟩)]
   rwa[8,7,8,_,8,fun z z0 z1=>⟨rfl,some z,(fun y e=>by cases e;exact⟨z0,z1⟩),rfl⟩]
  rintro σ' H3 ⟨rfl,mo,hmo,rfl⟩
  rwa[8,7,?_]
  have fin:∀b1 b2 b3:Bool,∀x dx,H3 x=none→H3 dx=none→dx≠x→kex d.qi [.ref x,pV kd, .int nd,oV mo, .bl b1, .bl b2, .bl b3] (upd (upd H3 dx (.own x)) x (.ins d.qi dx [])) (fun v H2=>v=.non∧Q (.ref x) H2) E0:=fun b1 b2 b3=>kit (M:=⟨kd,nd,mo,b1,b2,b3⟩) fun H1 x s1 fx hM=>kk H1 x _ s1 fx hM ⟨hkd,hnd,hmo⟩
  rwa[8,8,8,8,9,(by show(0:Int)<9;decide),6,8,7,9,(by show(0:Int)<4;decide),6,8,7,9,(by show(0:Int)<4;decide),6,?_]
  exact fin _ _ _
theorem at3V{a b c:V}{i:Int}(h0:0≤i)(h3:i<3):∃v,atI [a,b,c] i>>v∧(v=a∨v=b∨v=c):=by
 obtain⟨n,rfl⟩:=Int.eq_ofNat_of_zero_le h0
 have hn:n<3:=by lia
 match n,hn with
 |0,_=>exact⟨a,rfl, .inl rfl⟩
 |1,_=>exact⟨b,rfl, .inr (.inl rfl)⟩
 |2,_=>exact⟨c,rfl, .inr (.inr rfl)⟩
inductive kgF(d:D)(vs:List V)(H:Hp)(Q:VK)(E_:XK):Prop
 |ct(c:Int)(ps:List (Option Nat))(s:Int)(_:vs=[.int c,iV ps.length, .int s])(_:0<ps.length)(_:Tbs d H)(_:∀(H':Hp)(x:Addr)(V:Vch),Same H H'→H x=none→VchIs d H' x V→VchOk ps V→Q (.ref x) H'):kgF d vs H Q E_
theorem XZ:kar ["_law_cell","_law_kinds","_law_scale","_law_mixed","_law_marks"] ["_law_cell","_law_kinds","_law_scale"] (kai kbG):=by ac_rfl
theorem kdF(W:WB K mg d base):FO P w W 6 d.Y5 d.Y7 ["_law_cell","_law_kinds","_law_scale"] (kgF d):=by
 exists W.VE.F,XZ
 ·obtain⟨c,ps,s',rfl,hn,htb0,kk⟩:=h
  exists qr,kbr,W
  exists Jf,ker,W
  exists Jg,khE,W
  exists qB,kbz,W
  exists Jh,kgh,W
  exists Ji,keu,W
  exists Jj,kfu,W
  exists Jk,kev,W
  have hr1:Room 1 _:=hr.mono (by decide)
  have hr3:Room 3 _:=hr.mono (by decide)
  have hr4:Room 4 _:=hr.mono (by decide)
  refine⟨_,kab (psl (i:=3) XZ.nd (pcl qr hr1 W.qy (kaa (pv 0) (kaa kaf (kaa kaf kae)))))
   (kab (psl (i:=4) XZ.nd (pcl Jf hr4 W.VD (kaa (pv 0) (kaa (pv 1) (kaa (pv 2) kae)))))
   (kab (ps_if (kan op_eq (pe_op kaA (pv 3) kaf) kaf (kau _)) (kag (kap (kaT (W.Xo.mk' W.c_Off) Jg hr rfl W.c_Off.m W.Xo.b .nil pass0 (kaa (pcl qB hr3 W.qN (kaa (pe_op kaB (pv 0) kaf) (kaa (pv 2) kae))) (kaa (pv 4) kae))))) (kav))
   (kab (ps_if (kan op_eq (pe_op kaA (pv 3) kaf) kaf (kau _)) (kag (kap (kaT (W.Xp.mk' W.qj) Jh hr rfl W.qj.m W.Xp.b .nil pass0 (kaa (pe_ix (r:=rIxL K) kaG (kaM (kaa kaf (kaa kaf (kaa (pe_op kbu kaf (pe_op kaA (pe_op kaB (pv 3) kaf) kaf)) kae)))) (pe_op kaA (pe_op kaB (pv 3) kaf) kaf) (fun _ _=>rfl)) (kaa (kbY op_eq (pe_op kaA (pe_op kaB (pv 3) kaf) kaf) kaf (kau _)) (kaa (pv 4) kae)))))) (kav))
   (kab (ps_if (kan op_eq (pe_op kaA (pv 3) kaf) kaf (kau _)) (kag (kap (kaT (W.Xq.mk' W.ql) Ji hr rfl W.ql.m W.Xq.b .nil pass0 (kaa (pe_op kbu kaf (pe_op kaA (pe_op kaB (pv 3) kaf) kaf)) (kaa (pv 4) kae))))) (kav))
   (kab (ps_if (kan op_eq (pe_op kaA (pv 3) kaf) kaf (kau _)) (kag (kap (kaT (W.Xr.mk' W.qk) Jj hr rfl W.qk.m W.Xr.b .nil pass0 (kaa (pe_op kbu kaf (pe_op kaA (pe_op kaB (pv 3) kaf) kaf)) (kaa (pcl qB hr3 W.qN (kaa (pe_op kaB (pv 0) kaf) (kaa (pv 2) kae))) (kaa (pv 4) kae)))))) (kav))
   (kag (kap (kaT (W.Xs.mk' W.qm) Jk hr rfl W.qm.m W.Xs.b .nil pass0 (kaa (pv 4) kae))))))))),?_⟩
  rwa[8,c,40692,2147483579,6,⟨by decide,by decide⟩,by decide,?_]
  have hx0:0≤c*40692%2147483579:=by lia
  generalize c*40692%2147483579=mx at *
  rwa[8,8,8,c,ps,s',6,hn,fun H1 mA M s1 f1 hM hMo=>?_]
  have htb:Tbs d H1:=Tbs.same s1 htb0
  have fin:∀(so:Srt)(H2:Hp)(x:Addr),Same H1 H2→H1 x=none→VchIs d H2 x ⟨so,M⟩→SrtOk so→Q (.ref x) H2:=fun so H2 x s2 f2 hV hso=>kk H2 x _ (s1.trans s2) (s1.free f2) hV ⟨hso,hMo⟩
  rwa[8,9,(by show(0:Int)<5;decide),6,8,ite2 (fun _=>?_) (fun _=>?_)]
  ·rwa[8,7,8,_,8,fun z z0 z1=>⟨_,rfl,kg1 (so:=.off z) ⟨_,rfl⟩ rfl hM fun H2 x s2 f2 hV=>fin (.off z) H2 x s2 f2 hV ⟨z0,z1⟩⟩]
  rwa[8,9,(by show(0:Int)<5;decide),6,8,ite2 (fun _=>?_) (fun _=>?_)]
  ·rwa[8,7,9,(by show(0:Int)<1000;decide),9,(by show 3≤sizeLine;decide),fun l fl=>?_]
   obtain⟨v,e,hv⟩:=at3V (a:=.int 1000) (b:=.int 500) (c:=.int (1+mx/10%1000)) (i:=mx/5%3) (by lia) (by lia)
   obtain⟨sh,rfl,hsh⟩:∃sh:Int,v=.int sh∧1≤sh∧sh≤1000:=by
    rcases hv with rfl|rfl|rfl
    ·rwa[1000,6,by decide,by decide]
    ·rwa[500,6,by decide,by decide]
    ·rwa[8,by lia,by lia]
   have s2:=kam (o:=.lst [V.int 1000,V.int 500,V.int (1+mx/10%1000)]) fl
   have e2:(upd H1 l (.lst [V.int 1000,V.int 500,V.int (1+mx/10%1000)])) l>>(.lst [V.int 1000,V.int 500,V.int (1+mx/10%1000)]):=kad
   have hM2:=hM.same s2
   have htb2:=Tbs.same s2 htb
   have fin2:∀(b:Bool)(H2:Hp)(x:Addr),Same (upd H1 l (.lst [V.int 1000,V.int 500,V.int (1+mx/10%1000)])) H2→(upd H1 l (.lst [V.int 1000,V.int 500,V.int (1+mx/10%1000)])) x=none→VchIs d H2 x ⟨.share sh b,M⟩→Q (.ref x) H2:=fun b H2 x s3 f3 hV=>fin (.share sh b) H2 x (s2.trans s3) (s2.free f3) hV hsh
   generalize upd H1 l (.lst [V.int 1000,V.int 500,V.int (1+mx/10%1000)])=H2 at *
   rwa[8,7,9,(by show(0:Int)<3;decide),l,_,9,SqL.of e2,e,?_]
   have mk:∀b:Bool,∀x dx,H2 x=none→H2 dx=none→dx≠x→kd8 d.qj d.qi (fun so=>∃s b,so=.share s b) (.ref x::([.int sh, .bl b]++[.ref mA])) (upd (upd H2 dx (.own x)) x (.ins d.qj dx [])) (fun v H2=>v=.non∧Q (.ref x) H2) E0:=fun b=>kg1 (so:=.share sh b) ⟨_,_,rfl⟩ rfl hM2 (fun H3 x s3 f3 hV=>fin2 b H3 x s3 f3 hV) htb2
   rwa[8,7,9,(by show(0:Int)<2;decide),6,8,?_]
   exact mk _
  rwa[8,9,(by show(0:Int)<5;decide),6,8,ite2 (fun _=>?_) (fun _=>?_)]
  ·rwa[8,7,9,(by show(0:Int)<3;decide),9,8,kg1 (so:=.cheap (2+mx/5%3)) ⟨_,rfl⟩ rfl hM fun H2 x s2 f2 hV=>fin _ H2 x s2 f2 hV ⟨by lia,by lia⟩]
  rwa[8,9,(by show(0:Int)<5;decide),6,8,ite2 (fun _=>?_) (fun _=>?_)]
  ·rwa[8,7,9,(by show(0:Int)<3;decide),9,8,7,8,_,8,fun z z0 z1=>⟨_,rfl,kg1 (so:=.bund (2+mx/5%3) z) ⟨_,_,rfl⟩ rfl hM fun H2 x s2 f2 hV=>fin _ H2 x s2 f2 hV ⟨by lia,by lia,z0,z1⟩⟩]
  rwa[8,kg1 (so:=.carr) rfl rfl hM fun H2 x s2 f2 hV=>fin _ H2 x s2 f2 hV trivial]
inductive kjt(vs:List V)(H:Hp)(Q:VK)(E_:XK):Prop
 |ct(c:Int)(_:vs=[.int c])(_:∀(H':Hp)(p:Addr)(ps:List (Option Nat)),Same H H'→H p=none→H' p>>(.lst (ps.map pV))→Good ps→ps.length≤20→0<ps.length→Q (.ref p) H'):kjt vs H Q E_
theorem Qe:kar ["_law_cell","_law_parents","_law_many","_law_k","_law_mixed"] ["_law_cell"] (kai kbH):=by ac_rfl
theorem kdG(W:WB K mg d base):FO P w W 2 d.Za d.Zb ["_law_cell"] kjt:=by
 exists W.VF.F,Qe
 ·obtain⟨c,rfl,kk⟩:=h
  exists qr,kbr,W
  refine⟨_,kab (psl (i:=1) Qe.nd (kaM kae))
   (kab (psl (i:=2) Qe.nd (pe_op kbu kaf (pe_op kaA (pv 0) kaf)))
   (kab (kcL (ps_if (kan op_eq (pe_op kaA (pe_op kaB (pv 0) kaf) kaf) kaf (kau _)) (kag (psl (i:=2) Qe.nd kaf)) (kav)))
   (kab (kbo PassesOwn.never rfl (kcZ rfl W.B.range (kaa (pv 2) kae)) (pgn (i:=3) Qe.nd)
   (kab (psl (i:=4) Qe.nd (pcl qr hr W.qy (kaa (pe_op kbu (pv 0) (pe_op kdD (pe_op kdD kaf (pv 3)) (pv 3))) (kaa kaf (kaa kaf kae)))))
   (kag (ka1 (pe_bm Mt MH MI ka8 (pv 1) (kaa (kjY (keA (PW.pt (pw_or (kan op_eq (pv 3) kaf (kau _)) (kea (kan op_eq (pe_op kaA (pv 4) kaf) kaf (kau _))))) kbf (pe_op kaA (pe_op kaB (pv 4) kaf) (pv 3)))) kae))))))
   (kag (kap (pv 1)))))),?_⟩
  rwa[by decide,fun p fp=>?_]
  (generalize hg9:upd H p _=H1;obtain⟨n1,e1⟩:=kay hg9 fp;clear hg9)
  rwa[8,9,(by show(0:Int)<5;decide),9,?_]
  rwa[fun σ' H'=>H'=H1∧∃m:Nat,0<m∧m≤20∧σ'=[some (.int c),some (.ref p),some (iV m),none,none],?_,?_]
  ·rwa[8,7,9,(by show(0:Int)<8;decide),6,8,ite2 (fun _=>⟨rfl,20,by decide,by decide,rfl⟩) (fun _=>⟨rfl,(1+c%5).toNat,by lia,by lia,?_⟩)]
   show _=[some (V.int c),some (.ref p),some (V.int (((1+c%5).toNat:Nat):Int)),none,none]
   rw[Int.toNat_of_nonneg (by lia)]
   rfl
  rintro σ' H' ⟨rfl,m,hm0,hm20,rfl⟩
  rwa[8,8,by lia,by lia,?_]
  rw[Int.toNat_natCast]
  refine kfe (fun i σ H'=>Same H H'∧∃(ps:List (Option Nat))(v3 v4:Option V),σ=[some (.int c),some (.ref p),some (iV m),v3,v4]∧H' p>>(.lst (ps.map pV))∧ps.length=i∧Good ps)
   ⟨n1,[],none,none,rfl,e1,rfl,klr⟩ ?_ ?_
  ·rintro i σ H' hi ⟨s2,ps,v3,v4,rfl,hp2,hl,hg⟩
   rw[Int.zero_add]
   rwa[8,8,9, .inl ⟨by decide,by decide⟩,8,9, .inr ⟨by lia,by lia⟩,9,_,48271,2147483647,6,⟨by decide,by decide⟩,by decide,?_]
   dsimp only
   have hx0:0≤(c+7*(i:Int)*(i:Int))*48271%2147483647:=by lia
   generalize (c+7*(i:Int)*(i:Int))*48271%2147483647=mx at *
   rwa[8, .inl ⟨rfl,_,SqL.of hp2⟩,?_]
   rwa[fun v H3=>H3=H'∧∃o:Option Nat,v=pV o∧∀k,o>>k→k<i,?_,?_]
   ·rwa[8,6,8,?_]
    show if decide (iV i=iV 0)=true then _ else _
    rw[kfK]
    by_cases h0:i=0
    ·rw[decide_eq_true h0]
     exact iteT (iteT ⟨rfl,none,rfl,fun k e=>by cases e⟩)
    ·rw[decide_eq_false h0]
     have k0:0≤mx/4%(i:Int):=Int.emod_nonneg _ (by lia)
     have k1:mx/4%(i:Int)<(i:Int):=Int.emod_lt_of_pos _ (by lia)
     refine iteF ⟨_,rfl,_,_,rfl,rfl,(by show(0:Int)<4;decide),rfl,_,rfl,ite2 (fun _=>⟨rfl,none,rfl,fun k e=>by cases e⟩) (fun _=>?_)⟩
     rwa[8,7,8,9,(by show(0:Int)<(i:Int);lia),6,some (mx/4%(i:Int)).toNat,?_,fun k e=>by cases e;lia]
     show V.int _=V.int (((mx/4%(i:Int)).toNat:Nat):Int)
     rw[Int.toNat_of_nonneg k0]
   rintro v H3 ⟨rfl,o,rfl,ho⟩
   rwa[p,9,hp2,kas (by rw[ND];lia),?_]
   rwa[kat fp s2 (nx hp2),ps++[o],_,8,?_,by simp[hl],kkt hg (fun k e=>by rw[hl];exact ho k e)]
   rw[kad]
   simp
  ·rintro σ H' ⟨s2,ps,v3,v4,rfl,hp2,hl,hg⟩
   rwa[8,kk H' p ps s2 fp hp2 hg (by lia) (by lia)]
theorem keK:∀(l:List Int)(j:Nat)(x z:Int),l[j]?>>z→(l.set j x).sum=l.sum-z+x
 |[],j,x,z,h=>by simp at h
 |a::l,0,x,z,h=>by
  have e:a=z:=by simpa using h
  subst e
  simp[Mb]
  lia
 |a::l,j+1,x,z,h=>by
  have ih:=keK l j x z (by simpa using h)
  rw[DE,Mb,ih,Mb]
  lia
theorem kie{l:List Int}{j:Nat}{x:Int}(h:∀z∈l,0≤z)(hx:0≤x):∀z∈l.set j x,0≤z:=fun z hz=>by
 rcases DK hz with h'|h'
 ·exact h z h'
 ·rw[h'];exact hx
theorem kgB:∀n:Nat,(NI n (0:Int)).sum=0
 |0=>rfl
 |n+1=>by rw[ME,Mb,kgB n];rfl
inductive kh7(vs:List V)(H:Hp)(Q:VK)(E_:XK):Prop
 |ct(mh vo:Addr)(ks:List Int)(va:List Addr)(m:Nat)(f:Int)(_:vs=[.ref mh, .ref vo,iV m, .int f])(_:H mh>>(.lst (ks.map V.int)))(_:H vo>>(.lst (va.map V.ref)))(_:ks.length≤100)(_:va.length≤8)(_:m≤20)(_:∀(H':Hp)(p:Addr)(hand:List Int),Same H H'→H p=none→H' p>>(.lst (hand.map V.int))→hand.length=va.length→(∀z∈hand,0≤z)→hand.sum≤(m:Int)→Q (.ref p) H'):kh7 vs H Q E_
theorem Q0:kar ["_law_more_held","_law_vouchers","_law_most_held","_law_first","_law_hand","_law_k","_law_number"] ["_law_more_held","_law_vouchers","_law_most_held","_law_first"] (kai kcs):=by ac_rfl
theorem ke6(W:WB K mg d base):FO P w W 1 d.Zc d.Zd ["_law_more_held","_law_vouchers","_law_most_held","_law_first"] kh7:=by
 exists W.VG.F,Q0
 ·obtain⟨mh,vo,ks,va,m,f,rfl,hmh,hvo,hk,h8,hm,kk⟩:=h
  refine⟨_,kab (kf7 (N:=["_law_voucher"]) (CompScope.plain rfl (by cutsat) (by cutsat) (by cutsat) (nd1 _)) rfl (kaC (K:=K) (pv 1)) (fun _ _ _ _=>pgn (i:=0) (nd1 _)) (fun _ _ _ _=>kaf) (pgn (i:=4) Q0.nd))
   (kab (kbo PassesOwn.never rfl (kcZ rfl W.B.range (kaa (kao (kdc rfl) (by rfl) W.B.min b_min (kaa (kao (r:=kaJ K) kaq (by rfl) W.B.len b_len (kaa (pv 4) kae)) (kaa (pv 2) kae))) kae)) (pgn (i:=5) Q0.nd)
   (kag (keT kaf (kfD (pv 4) (pe_op kaA (pe_op kbu (pv 3) (pv 5)) (kao (r:=kaJ K) kaq (by rfl) W.B.len b_len (kaa (pv 4) kae))) set_list))))
   (kab (kbo PassesOwn.never rfl (kaC (K:=K) (pv 0)) (pgn (i:=6) Q0.nd)
   (kag (ps_if (PW.pt (kbn (kan op_gt (kao (r:=kaJ K) kaq (by rfl) W.B.len b_len (kaa (pv 4) kae)) kaf (kau _)) (kbn (kan op_lt (kao (r:=rSum K) (kbO rfl) (by rfl) W.B.sum b_sum (kaa (pv 4) kae)) (pv 2) (kau _)) (kba (kan op_lt (pe_ix (r:=rIxL K) kaG (pv 4) (pe_op kaA (pv 6) (kao (r:=kaJ K) kaq (by rfl) W.B.len b_len (kaa (pv 4) kae))) (fun _ _=>rfl)) kaf (kau _)))))) (kag (kjS (pv 4) (pe_op kaA (pv 6) (kao (r:=kaJ K) kaq (by rfl) W.B.len b_len (kaa (pv 4) kae))) kiA kaf kki set_list)) (kag (ps_if (PW.pt (kbn (kan op_gt (kao (r:=kaJ K) kaq (by rfl) W.B.len b_len (kaa (pv 4) kae)) kaf (kau _)) (kba (kan op_eq (pe_op kaA (pe_op kaB (pv 6) kaf) kaf) kaf (kau _))))) (kag (keT kaf (kfD (pv 4) (pe_op kaA (pv 6) (kao (r:=kaJ K) kaq (by rfl) W.B.len b_len (kaa (pv 4) kae))) set_list))) (kav))))))
   (kag (kap (pv 4))))),?_⟩
  rwa[8,vo,6,⟨_,SqL.of hvo⟩,kaW (xs:=va.map V.ref) (fun i σ ys H'=>H'=H∧ys=(NI i (0:Int)).map V.int∧∃v0:Option V,σ=[v0]) ⟨rfl,rfl,none,rfl⟩ (by rw[ND];exact NR (kas (by lia))) ?_ ?_ ?_]
  ·rintro i σ ys H' hi ⟨rfl,rfl,_⟩
   rwa[SqL.of hvo,by simp]
  ·rintro i y σ ys H' hy ⟨rfl,rfl,v0,rfl⟩
   rwa[6,?_,8]
   rw[E6,NL]
   rfl
  rintro σ ys H' ⟨rfl,rfl,v0,rfl⟩ p fp
  rw[ND]
  (generalize hg9:upd H' p _=H1;obtain⟨n1,e1⟩:=kay hg9 fp;clear hg9)
  rwa[8,p,8, .inl (SqL.of e1),8,_,8,?_]
  have hL:((((NI va.length (0:Int)).map V.int).length:Nat):Int)=(va.length:Int):=by simp
  rw[hL]
  have hq:0≤(if(m:Int)<(va.length:Int) then(m:Int) else(va.length:Int))∧(if(m:Int)<(va.length:Int) then(m:Int) else(va.length:Int))≤(m:Int)∧(if(m:Int)<(va.length:Int) then(m:Int) else(va.length:Int))≤(va.length:Int):=by split <;> lia
  generalize (if(m:Int)<(va.length:Int) then(m:Int) else(va.length:Int))=q at *
  rwa[8,by lia,by lia,?_]
  refine kfe (fun i σ H2=>Same H' H2∧∃(hand:List Int)(v5:Option V),H2 p>>(.lst (hand.map V.int))∧hand.length=va.length∧(∀z∈hand,0≤z)∧hand.sum≤(i:Int)∧σ=[some (.ref mh),some (.ref vo),some (iV m),some (.int f),some (.ref p),v5,none])
   ⟨n1,_,none,e1,by simp,(fun z hz=>by rw[(DF.mp hz).2];exact Int.le_refl _),by rw[kgB];exact Int.le_refl _,rfl⟩ ?_ ?_
  ·rintro i σ H2 hi ⟨s2,hand,v5,e2,hl,hnn,hsum,rfl⟩
   rw[Int.zero_add]
   have hl0:0<hand.length:=by lia
   have k0:0≤(f+(i:Int))%(hand.length:Int):=Int.emod_nonneg _ (by lia)
   have k1:(f+(i:Int))%(hand.length:Int)<(hand.length:Int):=Int.emod_lt_of_pos _ (by lia)
   obtain⟨j,ej⟩:=Int.eq_ofNat_of_zero_le k0
   obtain⟨z,ez⟩:=at_of (xs:=hand) (i:=j) (by lia)
   have hz:=hnn z (NM ez)
   rwa[8,8,8,9,8,p,8, .inl (SqL.of e2),9,(by rw[ND];lia),p,_,_,j,6,6,e2,(by rw[ND];show ixN hand.length ((f+(i:Int))%((hand.length:Nat):Int))>>j;rw[ej];exact kd5 (by lia)),?_]
   rw[←MU]
   rwa[kat fp s2 (nx e2),hand.set j 1,_,kad,by rw[MD];exact hl,kie hnn (by decide),?_,6]
   rw[keK hand j 1 z ez]
   lia
  rintro σ H2 ⟨s2,hand0,v5,e2,hl0,hnn0,hsum0,rfl⟩
  refine⟨_,rfl,mh,rfl,⟨_,SqL.of (s2 _ _ hmh)⟩,ka7 (xs:=ks.map V.int) (fun i σ H3=>Same H' H3∧∃(hand:List Int)(v6:Option V),H3 p>>(.lst (hand.map V.int))∧hand.length=va.length∧(∀z∈hand,0≤z)∧hand.sum≤(m:Int)∧σ=[some (.ref mh),some (.ref vo),some (iV m),some (.int f),some (.ref p),v5,v6])
   ⟨s2,hand0,none,e2,hl0,hnn0,by lia,rfl⟩ (fun i σ H3 _ h=>SqL.of (h.1 _ _ hmh)) ?_ ?_⟩
  ·rintro i y σ H3 hy ⟨s3,hand,v6,e3,hl,hnn,hsum,rfl⟩
   obtain⟨k,_,rfl⟩:∃z,ks[i]?>>z∧y=V.int z:=kbj hy
   have hL3:(((hand.map V.int).length:Nat):Int)=(hand.length:Int):=by rw[ND]
   rwa[8,p,8, .inl (SqL.of e3),9,8,?_]
   by_cases h0:0<hand.length
   ·have k0:0≤k%(hand.length:Int):=Int.emod_nonneg _ (by lia)
    have k1:k%(hand.length:Int)<(hand.length:Int):=Int.emod_lt_of_pos _ (by lia)
    obtain⟨j,ej⟩:=Int.eq_ofNat_of_zero_le k0
    obtain⟨z,ez⟩:=at_of (xs:=hand) (i:=j) (by lia)
    have hz:=hnn z (NM ez)
    have atJ:atI (hand.map V.int) (k%(((hand.map V.int).length:Nat):Int))>>(V.int z):=by rw[hL3,ej];exact kaL (by rw[NO,ez];rfl)
    have ixJ:ixN (hand.map V.int).length (k%(((hand.map V.int).length:Nat):Int))>>j:=by rw[hL3,ej];exact kd5 (by rw[ND];lia)
    have hpos:(0:Int)<(((hand.map V.int).length:Nat):Int):=by lia
    rw[show decide ((((hand.map V.int).length:Nat):Int) > 0)=true from decide_eq_true (by lia)]
    refine iteT ⟨_,rfl,p,hand,rfl,SqL.of e3,_,rfl,_,_,rfl,rfl,_,rfl,?_⟩
    by_cases hs:hand.sum<(m:Int)
    ·rw[show decide (hand.sum<(m:Int))=true from decide_eq_true hs]
     refine iteT ⟨_,rfl,_,rfl,_,rfl,p,_,rfl, .inl (SqL.of e3),_,_,rfl,rfl,hpos,p,_,_,_,rfl,rfl,SqL.of e3,atJ,_,_,rfl,rfl,_,rfl,ite2 (fun _=>?_) (fun _=>?_)⟩
     ·rwa[8,8,8,p,8, .inl (SqL.of e3),9,hpos,p,_,9,SqL.of e3,atJ,9,p,_,_,j,6,6,e3,ixJ,?_]
      rw[←MU]
      rwa[kat fp s3 (nx e3),hand.set j (z+1),_,kad,by rw[MD];exact hl,kie hnn (by lia),?_,6]
      rw[keK hand j (z+1) z ez]
      lia
     ·rwa[8,p,8, .inl (SqL.of e3),9,8,?_]
      rw[show decide ((((hand.map V.int).length:Nat):Int) > 0)=true from decide_eq_true (by lia)]
      refine iteT ⟨_,rfl,_,_,rfl,rfl,⟨by decide,by decide⟩,_,_,rfl,rfl,(by show(0:Int)<3;decide),rfl,_,rfl,ite2 (fun _=>?_) (fun _=>⟨s3,hand,_,e3,hl,hnn,hsum,rfl⟩)⟩
      rwa[8,8,8,p,8, .inl (SqL.of e3),9,hpos,p,_,_,j,6,6,e3,ixJ,?_]
      rw[←MU]
      rwa[kat fp s3 (nx e3),hand.set j 0,_,kad,by rw[MD];exact hl,kie hnn (by decide),?_,6]
      rw[keK hand j 0 z ez]
      lia
    ·rw[show decide (hand.sum<(m:Int))=false from decide_eq_false hs]
     refine iteF (iteF ?_)
     rwa[8,p,8, .inl (SqL.of e3),9,8,?_]
     rw[show decide ((((hand.map V.int).length:Nat):Int) > 0)=true from decide_eq_true (by lia)]
     refine iteT ⟨_,rfl,_,_,rfl,rfl,⟨by decide,by decide⟩,_,_,rfl,rfl,(by show(0:Int)<3;decide),rfl,_,rfl,ite2 (fun _=>?_) (fun _=>⟨s3,hand,_,e3,hl,hnn,hsum,rfl⟩)⟩
     rwa[8,8,8,p,8, .inl (SqL.of e3),9,hpos,p,_,_,j,6,6,e3,ixJ,?_]
     rw[←MU]
     rwa[kat fp s3 (nx e3),hand.set j 0,_,kad,by rw[MD];exact hl,kie hnn (by decide),?_,6]
     rw[keK hand j 0 z ez]
     lia
   ·rw[show decide ((((hand.map V.int).length:Nat):Int) > 0)=false from decide_eq_false (by lia)]
    refine iteF (iteF ⟨_,rfl,p,_,rfl, .inl (SqL.of e3),_,_,rfl,rfl,_,rfl,?_⟩)
    rw[show decide ((((hand.map V.int).length:Nat):Int) > 0)=false from decide_eq_false (by lia)]
    exact iteF (iteF ⟨s3,hand,_,e3,hl,hnn,hsum,rfl⟩)
  ·rintro σ H3 ⟨s3,hand,v6,e3,hl,hnn,hsum,rfl⟩
   rwa[8,kk H3 p hand s3 fp e3 hl hnn hsum]
theorem kiu:∀{rs:List Row},(∀r∈rs,0≤r.mn)→(rs.map fun r=>r.mn).sum=(((mans rs).sum:Nat):Int)
 |[],_=>rfl
 |r::rs,h=>by
  have h0:=h r N4
  have ih:=kiu (rs:=rs) fun r hr=>h r (N2 _ hr)
  unfold mans at ih⊢
  rw[NW,NW,Mb,Mb,ih]
  lia
theorem klR:∀(l:List Nat)(j x:Nat),(l.set j x).sum≤l.sum+x
 |[],j,x=>by simp
 |a::l,0,x=>by simp[Mb];lia
 |a::l,j+1,x=>by
  have:=klR l j x
  rw[DE,Mb,Mb]
  lia
theorem VchIs.lst{d:D}{H:Hp}{l v:Addr}{V:Vch}{xs:List L2.V}{o:HO}(hl:H l>>(.lst xs))(tb:Tbs d (upd H l o)):VchIs d H v V→VchIs d (upd H l o) v V:=by rintro⟨mA,dv,fv,h1,h2,h3,⟨dm,fm,h4,h5⟩,h6,_⟩;exact
 ⟨mA,dv,fv,by rw[kak (ne_of h1 hl (by intro z;cases z))];exact h1,h2,h3,⟨dm,fm,by rw[kak (ne_of h4 hl (by intro z;cases z))];exact h4,h5⟩,h6,tb⟩
theorem P2.put{α β:Type}{R: α→β→Prop}{a: α}{b: β}(r:R a b):∀{as:List α}{bs:List β}(i:Nat),P2 R as bs→P2 R (as.set i a) (bs.set i b)
 |_,_,_, .nil=>.nil
 |_,_,0, .cons _ t=>.cons r t
 |_,_,i+1, .cons q t=>.cons q (P2.put r i t)
theorem kkO{ss:List Str}{i:Int}(h0:0≤i)(h:i<((ss.length:Nat):Int)):∃z,z∈ss∧atI (ss.map V.str) i>>(.str z):=by
 obtain⟨n,rfl⟩:=Int.eq_ofNat_of_zero_le h0
 obtain⟨z,ez⟩:=at_of (xs:=ss) (i:=n) (by lia)
 rwa[z,NM ez,kaL (by rw[NO,ez];rfl)]
theorem RulIs.put{H:Hp}{a l:Addr}{r:Rul}{xs ys:List L2.V}(hl:H l>>(.lst xs))(h:RulIs H a r):RulIs (upd H l (.lst ys)) a r:=by
 have h':H a>>(.tup [.str r.w,iV r.a,iV r.b]):=h
 show(upd H l (.lst ys)) a=_
 rw[kak (ne_of h' hl (by intro z;cases z))]
 exact h'
def RowW(n:Nat)(r:Row):Prop:=r.Ok∧(0≤r.kd∧r.kd<(n:Int))∧r.mn≤7
theorem two'{c:Bool}{T A B:Prop}(hT:B→T)(hB:B):if c=true then T else(if false=true then A else B):=by
 cases c with
 |true=>exact iteT (hT hB)
 |false=>exact iteF (iteF hB)
structure Ap4(ln vc lk mo:Addr):Prop where
 lv:ln≠vc
 ll:ln≠lk
 lm:ln≠mo
 vl:vc≠lk
 vm:vc≠mo
 km:lk≠mo
structure WldS(d:D)(H:Hp)(ln vc lk mo:Addr)(la va:List Addr)(rs:List Row)(vs:List Vch)(ls ks:List Int):Prop where
 eln:H ln>>(.lst (la.map V.ref))
 evc:H vc>>(.lst (va.map V.ref))
 elk:H lk>>(.lst (ls.map V.int))
 emo:H mo>>(.lst (ks.map V.int))
 hln:Lines d.qe H la rs
 hvc:P2 (fun v V=>VchIs d H v V) va vs
theorem WldS.same{d:D}{H H':Hp}{ln vc lk mo:Addr}{la va:List Addr}{rs:List Row}{vs:List Vch}{ls ks:List Int}(s:Same H H')(h:WldS d H ln vc lk mo la va rs vs ls ks):WldS d H' ln vc lk mo la va rs vs ls ks:=
 ⟨s _ _ h.eln,s _ _ h.evc,s _ _ h.elk,s _ _ h.emo,h.hln.same s,h.hvc.mono fun v V q=>q.same s⟩
section
variable{d:D}{H:Hp}{ln vc lk mo:Addr}{la va:List Addr}{rs:List Row}{vs:List Vch}{ls ks:List Int}
theorem WldS.putL(a:Ap4 ln vc lk mo){la':List Addr}{rs':List Row}(h:WldS d H ln vc lk mo la va rs vs ls ks)(tb:Tbs d (upd H ln (.lst (la'.map V.ref))))(hl:Lines d.qe H la' rs'):WldS d (upd H ln (.lst (la'.map V.ref))) ln vc lk mo la' va rs' vs ls ks:=
 ⟨kad,by rw[kak a.lv.symm];exact h.evc,by rw[kak a.ll.symm];exact h.elk,by rw[kak a.lm.symm];exact h.emo,hl.set h.eln,h.hvc.mono fun v V q=>q.lst h.eln tb⟩
theorem WldS.putV(a:Ap4 ln vc lk mo){va':List Addr}{vs':List Vch}(h:WldS d H ln vc lk mo la va rs vs ls ks)(tb:Tbs d (upd H vc (.lst (va'.map V.ref))))(hv:P2 (fun v V=>VchIs d H v V) va' vs'):WldS d (upd H vc (.lst (va'.map V.ref))) ln vc lk mo la va' rs vs' ls ks:=
 ⟨by rw[kak a.lv];exact h.eln,kad,by rw[kak a.vl.symm];exact h.elk,by rw[kak a.vm.symm];exact h.emo,h.hln.set h.evc,hv.mono fun v V q=>q.lst h.evc tb⟩
theorem WldS.putK(a:Ap4 ln vc lk mo){ls':List Int}(h:WldS d H ln vc lk mo la va rs vs ls ks)(tb:Tbs d (upd H lk (.lst (ls'.map V.int)))):WldS d (upd H lk (.lst (ls'.map V.int))) ln vc lk mo la va rs vs ls' ks:=
 ⟨by rw[kak a.ll];exact h.eln,by rw[kak a.vl];exact h.evc,kad,by rw[kak a.km.symm];exact h.emo,h.hln.set h.elk,h.hvc.mono fun v V q=>q.lst h.elk tb⟩
theorem WldS.putM(a:Ap4 ln vc lk mo){ks':List Int}(h:WldS d H ln vc lk mo la va rs vs ls ks)(tb:Tbs d (upd H mo (.lst (ks'.map V.int)))):WldS d (upd H mo (.lst (ks'.map V.int))) ln vc lk mo la va rs vs ls ks':=
 ⟨by rw[kak a.lm];exact h.eln,by rw[kak a.vm];exact h.evc,by rw[kak a.km];exact h.elk,kad,h.hln.set h.emo,h.hvc.mono fun v V q=>q.lst h.emo tb⟩
end
structure NumW(n:Nat)(ps:List (Option Nat))(rs:List Row)(vs:List Vch)(ls ks:List Int):Prop where
 rows:∀r∈rs,RowW n r
 vok:∀V∈vs,VchOk ps V
 pcs:(mans rs).sum≤24
 lr:rs.length≤12
 lv:vs.length≤8
 ll:ls.length≤3
 lk:ks.length≤6
inductive LpW(d:D)(H1:Hp)(ps:List (Option Nat))(a p ln vc lk mo:Addr)(mv' mh ml mp:Nat)(sc fl:Int)(l6:Addr)(ms:List Int)(σ:St)(H':Hp):Prop
 |ct(s:Same H1 H')(el:H' l6>>(.lst (ms.map V.int)))(la va:List Addr)(rs:List Row)(vs:List Vch)(ls ks:List Int)(v12 v13 v14:Option V)(w:WldS d H' ln vc lk mo la va rs vs ls ks)(N:NumW ps.length ps rs vs ls ks)(h:(mans rs).sum≤12)(e: σ=[some (.ref a),some (iV mv'),some (iV mh),some (.int sc),some (.ref p),some (.ref ln),some (.ref vc),some (.ref lk),some (.ref mo),some (.int fl),some (iV ml),some (iV mp),v12,v13,v14,none,none,none,none,none])
theorem LpW.el6{d:D}{H1:Hp}{ps:List (Option Nat)}{a p ln vc lk mo:Addr}{mv' mh ml mp:Nat}{sc fl:Int}{l6:Addr}{ms:List Int}{σ:St}{H':Hp}(h:LpW d H1 ps a p ln vc lk mo mv' mh ml mp sc fl l6 ms σ H'):H' l6>>(.lst (ms.map V.int)):=by
 cases h
 assumption
inductive JnV(d:D)(H1:Hp)(ps:List (Option Nat))(a p ln vc lk mo:Addr)(mv' mh ml mp:Nat)(sc fl:Int)(v12 v13 v14:Option V)(la:List Addr)(rs:List Row)(ls ks:List Int)(σ:St)(H':Hp):Prop
 |ct(s:Same H1 H')(va':List Addr)(vs':List Vch)(w:WldS d H' ln vc lk mo la va' rs vs' ls ks)(N:NumW ps.length ps rs vs' ls ks)(e: σ=[some (.ref a),some (iV mv'),some (iV mh),some (.int sc),some (.ref p),some (.ref ln),some (.ref vc),some (.ref lk),some (.ref mo),some (.int fl),some (iV ml),some (iV mp),v12,v13,v14,none,none,none,none,none])
inductive JnL(d:D)(H1:Hp)(ps:List (Option Nat))(a p ln vc lk mo:Addr)(mv' mh ml mp:Nat)(sc fl:Int)(v12 v13 v14:Option V)(va':List Addr)(vs':List Vch)(ls ks:List Int)(σ:St)(H':Hp):Prop
 |ct(s:Same H1 H')(la':List Addr)(rs':List Row)(w:WldS d H' ln vc lk mo la' va' rs' vs' ls ks)(N:NumW ps.length ps rs' vs' ls ks)(e: σ=[some (.ref a),some (iV mv'),some (iV mh),some (.int sc),some (.ref p),some (.ref ln),some (.ref vc),some (.ref lk),some (.ref mo),some (.int fl),some (iV ml),some (iV mp),v12,v13,v14,none,none,none,none,none])
inductive kjj(K:NF)(d:D)(vs:List V)(H:Hp)(Q:VK)(E_:XK):Prop
 |ct(a:Addr)(ns:List Int)(mv mh:Nat)(_:vs=[.ref a,iV mv,iV mh])(_:SqL K H a (ns.map V.int))(_:ns.length≤63)(_:mv≤8)(_:mh≤20)(_:Tbs d H)(_:∀(H':Hp)(w t b h:Addr)(T:TillD)(B:Bask)(hand:List Int),Same H H'→H h=none→H' w>>(.tup [.ref t, .ref b, .ref h])→TillIs d H' t T→kb0 T→BaskIs d.qe d.qf H' b B→Wf T.ps B (stnd0 B)→H' h>>(.lst (hand.map V.int))→hand.length=T.vs.length→(∀z∈hand,0≤z)→hand.sum≤(mh:Int)→T.rs.length≤3→(∀r∈T.rs,r.a<T.vs.length∧r.b<T.vs.length)→(T.bk=("again" :Str)∨T.bk=("shares" :Str))→Q (.ref w) H'):kjj K d vs H Q E_
theorem qo:kar ["_law_script","_law_most_vouchers","_law_most_held","_law_scale","_law_parents","_law_lines","_law_vouchers","_law_links","_law_more_held","_law_flag","_law_most_lines","_law_most_pieces","_law_cell","_law_mixed","_law_left","_law_rules","_law_link","_law_one","_law_basket","_law_till"] ["_law_script","_law_most_vouchers","_law_most_held"] (kai kb9):=by ac_rfl
theorem keq(W:WB K mg d base):FO P w W 7 d.Ze d.Zf ["_law_script","_law_most_vouchers","_law_most_held"] (kjj K d):=by
 exists W.VH.F,qo
 ·obtain⟨a,ns,mv,mh,rfl,hS,hn,hmv,hmh,htb0,kk⟩:=h
  exists Qf,kc2,W
  exists Jl,kdG,W
  exists qr,kbr,W
  exists Jm,ke5,W
  exists Jn,kdF,W
  exists q9,kbM,W
  exists qB,kbz,W
  exists XX,ked,W
  exists Jo,ke6,W
  have hr1:Room 1 _:=hr.mono (by decide)
  have hr2:Room 2 _:=hr.mono (by decide)
  have hr3:Room 3 _:=hr.mono (by decide)
  have hr4:Room 4 _:=hr.mono (by decide)
  refine⟨_,kab (psl (i:=3) qo.nd (pe_op kaA (pcl Qf hr1 W.Qa (kaa (pv 0) (kaa kaf kae))) kaf))
   (kab (psl (i:=4) qo.nd (pcl Jl hr2 W.VF (kaa (pe_op kaB (pcl Qf hr1 W.Qa (kaa (pv 0) (kaa kaf kae))) kaf) kae)))
   (kab (psl (i:=5) qo.nd (kaM kae))
   (kab (psl (i:=6) qo.nd (kaM kae))
   (kab (psl (i:=7) qo.nd (kaM kae))
   (kab (psl (i:=8) qo.nd (kaM kae))
   (kab (psl (i:=9) qo.nd (pcl qr hr1 W.qy (kaa (pcl Qf hr1 W.Qa (kaa (pv 0) (kaa kaf kae))) (kaa kaf (kaa kaf kae)))))
   (kab (psl (i:=10) qo.nd kaf)
   (kab (psl (i:=11) qo.nd kaf)
   (kab (kcL (ps_if (kan op_eq (pe_op kaA (pv 9) kaf) kaf (kau _)) (kag (psl (i:=1) qo.nd kaf)) (kav)))
   (kab (kcL (ps_if (kan op_eq (pe_op kaA (pe_op kaB (pv 9) kaf) kaf) kaf (kau _)) (kab (psl (i:=10) qo.nd kaf)
   (kag (psl (i:=11) qo.nd kaf))) (kav)))
   (kab (kbo PassesOwn.never rfl (kaC (K:=K) (kb3 (r:=rSlL K) kcD (pv 0) (kbX kaf) kdY)) (pgn (i:=12) qo.nd)
   (kab (psl (i:=13) qo.nd (pcl qr hr1 W.qy (kaa (pv 12) (kaa kaf (kaa kaf kae)))))
   (kag (ps_if (PW.pt (kbn (kan op_lt (pe_op kaA (pv 13) kaf) kaf (kau _)) (kba (kan op_lt (kao (r:=kaJ K) kaq (by rfl) W.B.len b_len (kaa (pv 5) kae)) (pv 10) (kau _))))) (kab (psl (i:=14) qo.nd (kao (kcC rfl) (by rfl) W.B.max b_max (kaa kaf (kaa (pe_op kcy kaf (kao (r:=rSum K) (kbO rfl) (by rfl) W.B.sum b_sum (kaa (kbq (N:=["_law_line"]) (CompScope.plain rfl (by cutsat) (by cutsat) (by cutsat) (nd1 _)) rfl (kaC (K:=K) (pv 5)) (fun _ _ _ _=>pgn (i:=0) (nd1 _)) (fun _ _ _ _=>(kah (K:=K) (pv 0) rfl))) kae))) kae))))
   (kag (ka1 (pe_bm Mt MH MI ka8 (pv 5) (kaa (pcl Jm hr4 W.VC (kaa (pv 12) (kaa (kao (r:=kaJ K) kaq (by rfl) W.B.len b_len (kaa (pv 4) kae)) (kaa (pv 3) (kaa (kao (kdc rfl) (by rfl) W.B.min b_min (kaa (pv 14) (kaa (pv 11) kae))) kae))))) kae))))) (kag (ps_if (PW.pt (kbn (kan op_lt (pe_op kaA (pv 13) kaf) kaf (kau _)) (kba (kan op_lt (kao (r:=kaJ K) kaq (by rfl) W.B.len b_len (kaa (pv 6) kae)) (pv 1) (kau _))))) (kag (ka1 (pe_bm Mt MH MI ka8 (pv 6) (kaa (pcl Jn hr W.VE (kaa (pv 12) (kaa (kao (r:=kaJ K) kaq (by rfl) W.B.len b_len (kaa (pv 4) kae)) (kaa (pv 3) kae)))) kae)))) (kag (ps_if (PW.pt (kbn (kan op_eq (pe_op kaA (pv 13) kaf) kaf (kau _)) (kba (kan op_lt (kao (r:=kaJ K) kaq (by rfl) W.B.len b_len (kaa (pv 7) kae)) kaf (kau _))))) (kag (ka1 (pe_bm Mt MH MI ka8 (pv 7) (kaa (pe_op kaB (pv 13) kaf) kae)))) (kag (ps_if (kan op_lt (kao (r:=kaJ K) kaq (by rfl) W.B.len b_len (kaa (pv 8) kae)) kaf (kau _)) (kag (ka1 (pe_bm Mt MH MI ka8 (pv 8) (kaa (pe_op kaB (pv 13) kaf) kae)))) (kav)))))))))))
   (kab (kcL (ps_if (PW.pt (kbn (kan op_eq (pe_op kaA (pe_op kaB (pv 9) kaf) kaf) kaf (kau _)) (kba (kan op_gt (kao (r:=kaJ K) kaq (by rfl) W.B.len b_len (kaa (pv 6) kae)) kaf (kau _))))) (kag (keT (pe_ix (r:=rIxL K) kaG (pv 6) kaf (fun _ _=>rfl)) (kfD (pv 6) kaf set_list))) (kav)))
   (kab (kcL (ps_if (PW.pt (kbn (kan op_eq (pe_op kaA (pe_op kaB (pv 9) kaf) kaf) kaf (kau _)) (kba (kan op_gt (kao (r:=kaJ K) kaq (by rfl) W.B.len b_len (kaa (pv 5) kae)) kaf (kau _))))) (kag (keT (pe_ix (r:=rIxL K) kaG (pv 5) kaf (fun _ _=>rfl)) (kfD (pv 5) kaf set_list))) (kav)))
   (kab (psl (i:=15) qo.nd (kaM kae))
   (kab (kbo PassesOwn.never rfl (kaC (K:=K) (pv 7)) (pgn (i:=16) qo.nd)
   (kag (ps_if (kan op_gt (kao (r:=kaJ K) kaq (by rfl) W.B.len b_len (kaa (pv 6) kae)) kaf (kau _)) (kab (psl (i:=17) qo.nd (pe_op kaA (pe_op kaB (pv 16) kaf) (kao (r:=kaJ K) kaq (by rfl) W.B.len b_len (kaa (pv 6) kae))))
   (kag (ka1 (pe_bm Mt MH MI ka8 (pv 15) (kaa (kce (kaa (pe_ix (r:=rIxL K) kaG (kaM (kaa kbD (kaa kbD (kaa kbD kae)))) (pe_op kaA (pv 16) kaf) (fun _ _=>rfl)) (kaa (pv 17) (kaa (pe_op kaA (pe_op kaB (pv 16) kaf) (kao (r:=kaJ K) kaq (by rfl) W.B.len b_len (kaa (pv 6) kae))) kae)))) kae))))) (kav))))
   (kab (psl (i:=12) qo.nd (pcl Qf hr1 W.Qa (kaa (pv 0) (kaa kaf kae))))
   (kab (psl (i:=18) qo.nd (kaT (W.qD.mk' W.qf) q9 hr2 rfl W.qf.m W.qD.b .nil pass0 (kaa (pv 5) (kaa (pcl qB hr3 W.qN (kaa (pe_op kaB (pv 12) kaf) (kaa (pv 3) kae))) (kaa (kbY op_eq (pe_op kaA (pv 12) kaf) kaf (kau _)) kae)))))
   (kab (psl (i:=19) qo.nd (kaT (W.Qw.mk' W.qg) XX hr2 rfl W.qg.m W.Qw.b .nil pass0 (kaa (pv 4) (kaa (pv 6) (kaa (pv 15) (kaa (pe_ix (r:=rIxL K) kaG (kaM (kaa kbD (kaa kbD kae))) (pe_op kaA (pe_op kaB (pv 12) kaf) kaf) (fun _ _=>rfl)) kae))))))
   (kag (kap (kce (kaa (pv 19) (kaa (pv 18) (kaa (pcl Jo hr1 W.VG (kaa (pv 8) (kaa (pv 6) (kaa (pv 2) (kaa (pe_op kaB (pv 9) kaf) kae))))) kae)))))))))))))))))))))))),?_⟩
  exists Y4
  rwa[8,a,ns,0,6,hS,by decide,fun z0=>⟨_,_,rfl,rfl,(by show(0:Int)<4;decide),?_⟩]
  dsimp only
  generalize z0%4=sc
  nomatch a,ns,0,6,hS,by decide,fun z1=>⟨_,_,rfl,rfl,⟨by decide,by decide⟩,_,rfl,fun H1 p ps s1 f1 hp hg hl20 hl0=>?_⟩
  symm
  exists Y4
  rwa[by decide,fun ln fln=>?_]
  (generalize hg9:upd H1 ln _=H2;obtain⟨n2,e2⟩:=kay hg9 fln;clear hg9)
  symm
  exists Y4
  rwa[by decide,fun vc fvc=>?_]
  (generalize hg9:upd H2 vc _=H3;obtain⟨n3,e3⟩:=kay hg9 fvc;clear hg9)
  symm
  exists Y4
  rwa[by decide,fun lk flk=>?_]
  (generalize hg9:upd H3 lk _=H4;obtain⟨n4,e4⟩:=kay hg9 flk;clear hg9)
  symm
  exists Y4
  rwa[by decide,fun mo fmo=>?_]
  (generalize hg9:upd H4 mo _=H5;obtain⟨n5,e5⟩:=kay hg9 fmo;clear hg9)
  have ap:Ap4 ln vc lk mo:=⟨kaj e2 fvc,kaj (n3 _ _ e2) flk,kaj ((n3.trans n4) _ _ e2) fmo,kaj e3 flk,kaj (n4 _ _ e3) fmo,kaj e4 fmo⟩
  have s15:=((n2.trans n3).trans n4).trans n5
  have fvc1:H1 vc=none:=n2.free fvc
  have flk1:H1 lk=none:=(n2.trans n3).free flk
  have fmo1:H1 mo=none:=((n2.trans n3).trans n4).free fmo
  have htb1:Tbs d H1:=Tbs.same s1 htb0
  have w0:WldS d H5 ln vc lk mo [] [] [] [] [] []:=⟨((n3.trans n4).trans n5) _ _ e2,(n4.trans n5) _ _ e3,n5 _ _ e4,e5, .nil, .nil⟩
  clear e2 e3 e4 e5 n2 n3 n4 n5 fvc flk fmo
  have s05:=s1.trans s15
  nomatch a,ns,1,6,s05.seq hS,by decide,fun z2=>⟨_,16807,2147483399,rfl,⟨by decide,by decide⟩,by decide,?_⟩
  generalize z2*16807%2147483399=fl
  symm
  rwa[fun σ' H'=>H'=H5∧∃mv':Nat,mv'≤8∧σ'=[some (.ref a),some (iV mv'),some (iV mh),some (.int sc),some (.ref p),some (.ref ln),some (.ref vc),some (.ref lk),some (.ref mo),some (.int fl),some (iV 4),some (iV 7),none,none,none,none,none,none,none,none],?_,?_]
  ·rwa[8,9,(by show(0:Int)<8;decide),6,8,ite2 (fun _=>⟨rfl,8,by decide,rfl⟩) (fun _=>⟨rfl,mv,hmv,rfl⟩)]
  rintro σ' H' ⟨rfl,mv',hmv',rfl⟩
  symm
  rwa[fun σ' H2=>H2=H'∧∃ml mp:Nat,ml≤12∧mp≤7∧σ'=[some (.ref a),some (iV mv'),some (iV mh),some (.int sc),some (.ref p),some (.ref ln),some (.ref vc),some (.ref lk),some (.ref mo),some (.int fl),some (iV ml),some (iV mp),none,none,none,none,none,none,none,none],?_,?_]
  ·rwa[8,7,9,(by show(0:Int)<8;decide),6,8,ite2 (fun _=>⟨rfl,12,1,by decide,by decide,rfl⟩) (fun _=>⟨rfl,4,7,by decide,by decide,rfl⟩)]
  rintro σ' H2 ⟨rfl,ml,mp,hml,hmp,rfl⟩
  symm
  rwa[8,8,a,8,s05.seq hS,fun l6 fl6=>?_]
  obtain⟨ms,ems,lms⟩:=klB ns (some 2) none
  rw[ems]
  (generalize hg9:upd H2 l6 _=H6;obtain⟨n6,e6⟩:=kay hg9 fl6;clear hg9)
  have nl6:∀{x:Addr}{o:HO},H2 x>>o→l6≠x:=fun e=>(kaj e fl6).symm
  have nln:=nl6 w0.eln
  have nvc:=nl6 w0.evc
  have nlk:=nl6 w0.elk
  have nmo:=nl6 w0.emo
  symm
  exists Y4
  refine⟨l6,rfl,⟨_,SqL.of e6⟩,ka7 (xs:=ms.map V.int) (fun i σ H'=>LpW d H1 ps a p ln vc lk mo mv' mh ml mp sc fl l6 ms σ H')
   ⟨s15.trans n6,e6,[],[],[],[],[],[],none,none,none,w0.same n6,⟨(fun r h=>by simp at h),(fun r h=>by simp at h),by decide,by decide,by decide,by decide,by decide⟩,by decide,rfl⟩ (fun i σ H' _ h=>SqL.of h.el6) ?_ ?_⟩
  ·rintro i y σ Hi hy ⟨si,el6,la,va,rs,vs,ls,ks,v12,v13,v14,w,N,hpc,rfl⟩
   obtain⟨c,_,rfl⟩:∃z,ms[i]?>>z∧y=V.int z:=kbj hy
   have htb:∀{H':Hp},Same H1 H'→Tbs d H':=fun s=>Tbs.same s htb1
   have lla:=w.hln.len
   have lva:=w.hvc.len
   symm
   exists Y6
   rwa[8,c,69621,2147483629,6,⟨by decide,by decide⟩,by decide,?_]
   generalize c*69621%2147483629=mx
   nofun
   exists Y6
   rwa[8,9,(by show(0:Int)<8;decide),9,8,two' (fun els=>?_) ?_]
   ·
    nofun
    exists Y8
    rwa[8,ln,8, .inl (SqL.of w.eln),8,9,8,ite2 (fun h2=>?_) (fun _=>els)]
    clear els
    have hlt:la.length<ml:=by
     have:=of_decide_eq_true h2
     rw[ND] at this
     lia
    exists 3
    exists Y8
    rwa[8,ln,6,⟨_,SqL.of w.eln⟩,kaW (xs:=la.map V.ref) (fun i σ ys H'=>H'=Hi∧ys=((rs.take i).map fun r=>r.mn).map V.int∧∃v0:Option V,σ=[v0]) ⟨rfl,rfl,none,rfl⟩ (by rw[ND];exact NR (kas (by lia))) ?_ ?_ ?_]
    ·rintro i σ ys H' hi ⟨rfl,rfl,_⟩
     rw[ND] at hi
     exists 3
     rwa[SqL.of w.eln,by rw[ND,ND,NS];lia]
    ·rintro i y σ ys H' hy ⟨rfl,rfl,v0,rfl⟩
     obtain⟨x,ex,rfl⟩:=kbZ hy
     obtain⟨r,er,dx,fs,hx,k1,k2,k3,k4⟩:=w.hln.at ex
     exists 3
     exists Y10
     rwa[8,x,d.qe,dx,fs,8,hx,W.qe.cl,W.qO,k3,6,?_,8]
     rw[take_snoc er,NL,NL]
     rfl
    rintro σ ys H' ⟨rfl,rfl,v0,rfl⟩ q fq
    rw[ND,lla,Ma]
    have hsm:=kiu (rs:=rs) fun r hr=>(N.rows r hr).1.mn0
    (generalize hg9:upd H' q _=Hq;obtain⟨nq,eq⟩:=kay hg9 fq;clear hg9)
    exists 3
    exists Y8
    rwa[q,8,SqL.of eq,9,_,8,?_]
    rw[hsm]
    have wq:=w.same nq
    have hleft:0≤(if(12:Int)-(((mans rs).sum:Nat):Int) > 0 then(12:Int)-(((mans rs).sum:Nat):Int) else 0)∧(((mans rs).sum:Nat):Int)+(if(12:Int)-(((mans rs).sum:Nat):Int) > 0 then(12:Int)-(((mans rs).sum:Nat):Int) else 0)≤12:=by split <;> lia
    generalize (if(12:Int)-(((mans rs).sum:Nat):Int) > 0 then(12:Int)-(((mans rs).sum:Nat):Int) else 0)=left at *
    have hm:0≤(if(mp:Int)<left then(mp:Int) else left)∧(if(mp:Int)<left then(mp:Int) else left)≤7∧(if(mp:Int)<left then(mp:Int) else left)≤left:=by split <;> lia
    exists 3
    exists Y8
    rwa[8, .inl ⟨rfl,_,SqL.of wq.eln⟩,8,8,p,8, .inl (SqL.of ((si.trans nq) _ _ hp)),8,8,8,_,8,c,ps.length,sc,(if(mp:Int)<left then(mp:Int) else left),(by rw[ND];rfl),hl0,hm.1,hm.2.1,fun H7 x r s7 f7 hx hok hkd hmn=>?_]
    generalize (if(mp:Int)<left then(mp:Int) else left)=mm at *
    have w7:=wq.same s7
    have s17:=(si.trans nq).trans s7
    exists 3
    exists Y8
    rwa[ln,9,w7.eln,kas (by rw[ND];lia),?_]
    have s8:=kat (o:=.lst ((la++[x]).map V.ref)) fln s17 (nx w7.eln)
    rw[show la.map V.ref++[V.ref x]=(la++[x]).map V.ref by rw[NL];rfl]
    have hpc':(mans (rs++[r])).sum≤12:=by
     have:mans (rs++[r])=mans rs++[r.mn.toNat]:=by unfold mans;rw[NL];rfl
     rw[this,MJ]
     have:=hok.mn0
     simp only[Mb,EB]
     lia
    exists 3
    exists Y8
    rwa[s8,by rw[kak nln];exact(nq.trans s7) _ _ el6,la++[x],va,rs++[r],vs,ls,ks,_,_,_,w7.putL ap (htb s8) (P2.snoc w7.hln hx),⟨fun r' hr'=>?_,N.vok,by lia,by rw[NQ,MM];lia,N.lv,N.ll,N.lk⟩,hpc',6]
    rcases Mj.mp hr' with h|h
    ·exact N.rows r' h
    ·have e:r'=r:=by simpa using h
     rw[e]
     exists 3
     rwa[hok,hkd,by lia]
   nofun
   exists Y6
   rwa[8,9,(by show(0:Int)<8;decide),9,8,two' (fun els=>?_) ?_]
   ·
    nofun
    exists Y8
    rwa[8,vc,8, .inl (SqL.of w.evc),8,9,8,ite2 (fun h2=>?_) (fun _=>els)]
    clear els
    have hlt:va.length<mv':=by
     have:=of_decide_eq_true h2
     rw[ND] at this
     lia
    exists 3
    exists Y8
    rwa[8, .inl ⟨rfl,_,SqL.of w.evc⟩,8,8,p,8, .inl (SqL.of (si _ _ hp)),8,c,ps,sc,(by rw[ND];rfl),hl0,htb si,fun H7 x V s7 f7 hx hok=>?_]
    have w7:=w.same s7
    have s17:=si.trans s7
    exists 3
    exists Y8
    rwa[vc,9,w7.evc,kas (by rw[ND];lia),?_]
    have s8:=kat (o:=.lst ((va++[x]).map L2.V.ref)) fvc1 s17 (nx w7.evc)
    rw[show va.map L2.V.ref++[L2.V.ref x]=(va++[x]).map L2.V.ref by rw[NL];rfl]
    exists 3
    exists Y8
    rwa[s8,by rw[kak nvc];exact s7 _ _ el6,la,va++[x],rs,vs++[V],ls,ks,_,_,_,w7.putV ap (htb s8) (P2.snoc w7.hvc hx),⟨N.rows,fun V' hV'=>?_,N.pcs,N.lr,by rw[NQ,MM];lia,N.ll,N.lk⟩,hpc,6]
    rcases Mj.mp hV' with h|h
    ·exact N.vok V' h
    ·have e:V'=V:=by simpa using h
     rw[e]
     exists 3
     exact hok
   nofun
   exists Y6
   rwa[8,9,(by show(0:Int)<8;decide),6,8,two' (fun els=>?_) ?_]
   ·
    nofun
    exists Y8
    rwa[8,lk,8, .inl (SqL.of w.elk),9,8,ite2 (fun h2=>?_) (fun _=>els)]
    clear els
    have hlt:ls.length<3:=by
     have:=of_decide_eq_true h2
     rw[ND] at this
     lia
    exists 3
    exists Y8
    rwa[8, .inl ⟨rfl,_,SqL.of w.elk⟩,8,7,lk,9,w.elk,kas (by rw[ND];lia),?_]
    have s8:=kat (o:=.lst ((ls++[mx/8]).map V.int)) flk1 si (nx w.elk)
    rw[show ls.map V.int++[V.int (mx/8)]=(ls++[mx/8]).map V.int by rw[NL];rfl]
    exists 3
    rwa[s8,by rw[kak nlk];exact el6,la,va,rs,vs,ls++[mx/8],ks,_,_,_,w.putK ap (htb s8),⟨N.rows,N.vok,N.pcs,N.lr,N.lv,by rw[NQ,MM];lia,N.lk⟩,hpc,6]
   nofun
   exists Y6
   rwa[8,mo,8, .inl (SqL.of w.emo),9,8,ite2 (fun h2=>?_) (fun _=>⟨si,el6,la,va,rs,vs,ls,ks,_,_,_,w,N,hpc,rfl⟩)]
   have hlt:ks.length<6:=by
    have:=of_decide_eq_true h2
    rw[ND] at this
    lia
   nofun
   exists Y6
   rwa[8, .inl ⟨rfl,_,SqL.of w.emo⟩,8,7,mo,9,w.emo,kas (by rw[ND];lia),?_]
   have s8:=kat (o:=.lst ((ks++[mx/8]).map V.int)) fmo1 si (nx w.emo)
   rw[show ks.map V.int++[V.int (mx/8)]=(ks++[mx/8]).map V.int by rw[NL];rfl]
   nofun
   rwa[s8,by rw[kak nmo];exact el6,la,va,rs,vs,ls,ks++[mx/8],_,_,_,w.putM ap (htb s8),⟨N.rows,N.vok,N.pcs,N.lr,N.lv,N.ll,by rw[NQ,MM];lia⟩,hpc,6]
  rintro σ Hi ⟨si,_,la,va,rs,vs,ls,ks,v12,v13,v14,w,N,hpc,rfl⟩
  have htb:∀{H':Hp},Same H1 H'→Tbs d H':=fun s=>Tbs.same s htb1
  symm
  rwa[JnV d H1 ps a p ln vc lk mo mv' mh ml mp sc fl v12 v13 v14 la rs ls ks,?_,?_]
  ·rwa[8,7,9,(by show(0:Int)<4;decide),6,8,two' (fun els=>?_) ⟨si,va,vs,w,N,rfl⟩]
   symm
   rwa[8,vc,8, .inl (SqL.of w.evc),9,8,ite2 (fun h2=>?_) (fun _=>els)]
   have hlt:1<va.length:=by
    have:=of_decide_eq_true h2
    rw[ND] at this
    lia
   obtain⟨x0,ex⟩:=at_of (xs:=va) (i:=0) (by lia)
   obtain⟨V0,eV,hV0⟩:=w.hvc.at ex
   symm
   rwa[8,vc,_,9,SqL.of w.evc,(show atI (va.map L2.V.ref) ((0:Nat):Int)=_ from kaL (v:=.ref x0) (by rw[NO,ex];rfl)),8,vc,_,_,1,6,6,w.evc,(show ixN (va.map L2.V.ref).length ((1:Nat):Int)>>1 from kd5 (by rw[ND];lia)),?_]
   rw[←MU]
   have s8:=kat (o:=.lst ((va.set 1 x0).map L2.V.ref)) fvc1 si (nx w.evc)
   symm
   rwa[s8,va.set 1 x0,vs.set 1 V0,w.putV ap (htb s8) (P2.put hV0 1 w.hvc),⟨N.rows,fun V' hV'=>?_,N.pcs,N.lr,by rw[MD];exact N.lv,N.ll,N.lk⟩,6]
   rcases DK hV' with h|h
   ·exact N.vok V' h
   ·rw[h]
    symm
    exact N.vok V0 (NM eV)
  clear w N si
  rintro σ' Hj ⟨si,va',vs',w,N,rfl⟩
  symm
  rwa[JnL d H1 ps a p ln vc lk mo mv' mh ml mp sc fl v12 v13 v14 va' vs' ls ks,?_,?_]
  ·rwa[8,7,9,(by show(0:Int)<4;decide),6,8,two' (fun els=>?_) ⟨si,la,rs,w,N,rfl⟩]
   symm
   rwa[8,ln,8, .inl (SqL.of w.eln),9,8,ite2 (fun h2=>?_) (fun _=>els)]
   have hlt:1<la.length:=by
    have:=of_decide_eq_true h2
    rw[ND] at this
    lia
   obtain⟨x0,ex⟩:=at_of (xs:=la) (i:=0) (by lia)
   obtain⟨r0,er,hr0⟩:=w.hln.at ex
   have hm0:=NM er
   have hr7:=(N.rows r0 hm0).2.2
   symm
   rwa[8,ln,_,9,SqL.of w.eln,(show atI (la.map V.ref) ((0:Nat):Int)=_ from kaL (v:=.ref x0) (by rw[NO,ex];rfl)),8,ln,_,_,1,6,6,w.eln,(show ixN (la.map V.ref).length ((1:Nat):Int)>>1 from kd5 (by rw[ND];lia)),?_]
   rw[←MU]
   have s8:=kat (o:=.lst ((la.set 1 x0).map V.ref)) fln si (nx w.eln)
   symm
   rwa[s8,la.set 1 x0,rs.set 1 r0,w.putL ap (htb s8) (P2.put hr0 1 w.hln),⟨fun r' hr'=>?_,N.vok,?_,by rw[MD];exact N.lr,N.lv,N.ll,N.lk⟩,6]
   ·rcases DK hr' with h|h
    ·exact N.rows r' h
    ·rw[h]
     symm
     exact N.rows r0 hm0
   ·unfold mans
    rw[MU]
    symm
    refine NJ (klR _ _ _) ?_
    show(mans rs).sum+r0.mn.toNat≤24
    lia
  clear w N si
  rintro σ' Hk ⟨si,la',rs',w,N,rfl⟩
  have lva:=w.hvc.len
  symm
  rwa[by decide,fun rl frl=>?_]
  (generalize hg9:upd Hk rl _=H7;obtain⟨n7,e7⟩:=kay hg9 frl;clear hg9)
  have hL:(((va'.map V.ref).length:Nat):Int)=(vs'.length:Int):=by rw[ND];lia
  symm
  refine⟨_,rfl,lk,rfl,⟨_,SqL.of (n7 _ _ w.elk)⟩,ka7 (xs:=ls.map V.int) (fun i σ H'=>Same Hk H'∧∃(ra:List Addr)(us:List Rul)(v16 v17:Option V),H' rl>>(.lst (ra.map V.ref))∧P2 (fun a r=>RulIs H' a r) ra us∧(∀r∈us,r.a<vs'.length∧r.b<vs'.length)∧us.length≤i∧σ=[some (.ref a),some (iV mv'),some (iV mh),some (.int sc),some (.ref p),some (.ref ln),some (.ref vc),some (.ref lk),some (.ref mo),some (.int fl),some (iV ml),some (iV mp),v12,v13,v14,some (.ref rl),v16,v17,none,none])
   ⟨n7,[],[],none,none,e7, .nil,(fun r h=>by simp at h),NG _,rfl⟩ (fun i σ H' _ h=>SqL.of (h.1 _ _ w.elk)) ?_ ?_⟩
  ·rintro i y σ H8 hy ⟨s8,ra,us,v16,v17,erl,hra,hub,hul,rfl⟩
   obtain⟨k,ek,rfl⟩:∃z,ls[i]?>>z∧y=V.int z:=kbj hy
   have hi3:=at_lt ek
   have hl3:=N.ll
   have lra:=hra.len
   symm
   rwa[8,vc,8, .inl (SqL.of (s8 _ _ w.evc)),9,8,ite2 (fun h2=>?_) (fun _=>⟨s8,ra,us,_,_,erl,hra,hub,Nat.le_succ_of_le hul,rfl⟩)]
   have h0:(0:Int)<(vs'.length:Int):=by
    have:=of_decide_eq_true h2
    rw[hL] at this
    lia
   have q0:0≤k/3%(vs'.length:Int):=Int.emod_nonneg _ (by lia)
   have q1:k/3%(vs'.length:Int)<(vs'.length:Int):=Int.emod_lt_of_pos _ h0
   have q2:0≤k/24%(vs'.length:Int):=Int.emod_nonneg _ (by lia)
   have q3:k/24%(vs'.length:Int)<(vs'.length:Int):=Int.emod_lt_of_pos _ h0
   symm
   rwa[8,7,8,vc,8, .inl (SqL.of (s8 _ _ w.evc)),9,(by rw[hL];exact h0),?_]
   symm
   rwa[8, .inl ⟨rfl,_,SqL.of erl⟩,(by show 3≤sizeLine;decide),fun l9 fl9=>?_]
   (generalize hg9:upd H8 l9 _=H9;obtain⟨n9,e9⟩:=kay hg9 fl9;clear hg9)
   obtain⟨wd,_,ewd⟩:=kkO (ss:=["only","never","ahead"]) (i:=k%3) (by lia) (by show k%3<3;lia)
   symm
   rwa[8,9,(by show(0:Int)<3;decide),l9,_,9,SqL.of e9,ewd,8,8,7,8,vc,8, .inl (SqL.of ((s8.trans n9) _ _ w.evc)),9,(by rw[hL];exact h0),(by show 3≤sizeLine;decide),fun q fq=>?_]
   obtain⟨ua,eua⟩:=Int.eq_ofNat_of_zero_le q0
   obtain⟨ub,eub⟩:=Int.eq_ofNat_of_zero_le q2
   (generalize hg9:upd H9 q _=HA;obtain⟨nA,eA⟩:=kay hg9 fq;clear hg9)
   have hrA:RulIs HA q ⟨wd,ua,ub⟩:=by
    show HA q>>(.tup [.str wd,V.int ((ua:Nat):Int),V.int ((ub:Nat):Int)])
    rw[←eua,←eub,←hL]
    symm
    exact eA
   have erlA:=(n9.trans nA) _ _ erl
   symm
   rwa[rl,9,erlA,kas (by rw[ND];lia),?_]
   symm
   rwa[kat frl ((s8.trans n9).trans nA) (nx erlA),ra++[q],us++[⟨wd,ua,ub⟩],_,_,by rw[kad,NL];rfl,P2.snoc (hra.mono fun a r h=>RulIs.put erlA ((n9.trans nA) _ _ h)) (RulIs.put erlA hrA),fun r hr=>?_,by rw[NQ,MM];lia,6]
   rcases Mj.mp hr with h|h
   ·exact hub r h
   ·have e:r=⟨wd,ua,ub⟩:=by simpa using h
    rw[e]
    symm
    rwa[by show ua<vs'.length;lia,by show ub<vs'.length;lia]
  rintro σ H8 ⟨s8,ra,us,v16,v17,erl,hra,hub,hul,rfl⟩
  rw[ND] at hul
  have s18:=si.trans s8
  have w8:=w.same s8
  symm
  rwa[8,a,ns,1,6,(s1.trans s18).seq hS,by decide,fun z3=>?_]
  symm
  rwa[8,8,7,8,_,8,fun cg c0 c1=>?_]
  symm
  rwa[8,9,(by show(0:Int)<3;decide),6,kgk (SqL.of w8.eln) fun H9 b l' s9 f9 fl' hl' hb'=>?_]
  obtain⟨mb,hb⟩:∃mb:Bool,BaskAt d.qf H9 b l' cg mb:=⟨_,hb'⟩
  clear hb'
  have hbk:BaskIs d.qe d.qf H9 b ⟨rs',cg,mb⟩:=⟨l',la',hb,hl',w8.hln.same s9⟩
  have w9:=w8.same s9
  have s19:=s18.trans s9
  symm
  rwa[8,8,8,(by show 2≤sizeLine;decide),fun lA flA=>?_]
  (generalize hg9:upd H9 lA _=HA;obtain⟨nA,eA⟩:=kay hg9 flA;clear hg9)
  obtain⟨bk,hbm,ebk⟩:=kkO (ss:=["again","shares"]) (i:=z3/3%2) (by lia) (by show z3/3%2<2;lia)
  have s9A:=s9.trans nA
  symm
  rwa[8,7,9,(by show(0:Int)<2;decide),lA,_,9,SqL.of eA,ebk,kmG (T:=⟨ps,vs',us,bk⟩) ((s19.trans nA) _ _ hp) (nA _ _ w9.evc) (w9.hvc.mono fun v V h=>h.same nA) (s9A _ _ erl) (hra.mono fun a r h=>s9A _ _ h) fun HB t sB fB hT=>?_]
  have s9B:=nA.trans sB
  have wB:=w9.same s9B
  have s1B:=s19.trans s9B
  have hks:=N.lk
  have hlv:=N.lv
  symm
  rwa[8,8,8,8,8,8,7,mo,vc,ks,va',mh,8,wB.emo,wB.evc,by lia,by lia,hmh,fun HC h hand sC fh eh hl hnn hsum=>⟨(by show 3≤sizeLine;decide),fun w' fw=>?_⟩]
  (generalize hg9:upd HC w' _=HD;obtain⟨nD,eD⟩:=kay hg9 fw;clear hg9)
  have sBD:=sC.trans nD
  have s0D:=(s1.trans s1B).trans sBD
  symm
  refine kk HD w' t b h ⟨ps,vs',us,bk⟩ ⟨rs',cg,mb⟩ hand s0D ((s1.trans s1B).free fh) eD (hT.same sBD) ⟨N.vok,hlv⟩ (hbk.same (s9B.trans sBD)) ?_ (nD _ _ eh) (by show hand.length=vs'.length;lia) hnn hsum (by show us.length≤3;have:=N.ll;lia) hub (by simpa using hbm)
  symm
  exact Wf.start hg hl20 (fun r hr=>(N.rows r hr).2.1) (fun r hr=>(N.rows r hr).1) N.lr ⟨c0,c1⟩ (by show(ownN rs').length<64;rw[keB];have:=N.pcs;lia)
inductive kjr(d:D)(vs:List V)(H:Hp)(Q:VK)(E_:XK):Prop
 |ct(b m:Addr)(B:Bask)(many:List Int)(_:vs=[.ref b, .ref m])(_:BaskIs d.qe d.qf H b B)(_:H m>>(.lst (many.map V.int)))(_:many.length=B.rs.length)(_:B.rs.length≤12)(_:∀H' b',Same H H'→H b'=none→BaskIs d.qe d.qf H' b' (kaN B many)→Q (.ref b') H'):kjr d vs H Q E_
theorem Q1:kar ["_law_basket","_law_many","_law_lines","_law_k","_law_line"] ["_law_basket","_law_many"] (kai kcV):=by ac_rfl
theorem kgf(W:WB K mg d base):FO P w W 3 d.Zg d.Zh ["_law_basket","_law_many"] (kjr d):=by
 exists W.VI.F,Q1
 ·obtain⟨b,m,B,many,rfl,hB,hm,hml,h12,kk⟩:=h
  exists QF,kc3,W
  exists q9,kbM,W
  refine⟨_,kab (psl (i:=2) Q1.nd (kaM kae))
   (kab (kbo PassesOwn.never rfl (kcZ rfl W.B.range (kaa (kao (r:=kaJ K) kaq (by rfl) W.B.len b_len (kaa (pv 1) kae)) kae)) (pgn (i:=3) Q1.nd)
   (kab (psl (i:=4) Q1.nd (pe_ix (r:=rIxL K) kaG (kah (K:=K) (pv 0) rfl) (pv 3) (fun _ _=>rfl)))
   (kag (ka1 (pe_bm Mt MH MI ka8 (pv 2) (kaa (kaT (W.qT.mk' W.qe) QF hr rfl W.qe.m W.qT.b .nil pass0 (kaa (kah (K:=K) (pv 4) rfl) (kaa (kah (K:=K) (pv 4) rfl) (kaa (pe_ix (r:=rIxL K) kaG (pv 1) (pv 3) (fun _ _=>rfl)) (kaa (kah (K:=K) (pv 4) rfl) kae))))) kae))))))
   (kag (kap (kaT (W.qD.mk' W.qf) q9 hr rfl W.qf.m W.qD.b .nil pass0 (kaa (pv 2) (kaa (kah (K:=K) (pv 0) rfl) (kaa (kah (K:=K) (pv 0) rfl) kae))))))),?_⟩
  obtain⟨l,ls,⟨dxb,fsb,hb,lbl,lbc,lbm⟩,hl,hL⟩:=id hB
  have hll:=hL.len
  have lzw:(kaN B many).rs.length=B.rs.length:=by unfold kaN;rw[Eh,hml,MX]
  rwa[by decide,fun q fq=>?_]
  generalize hg1:upd H q _=H1
  obtain⟨n1,(e1:H1 q>>(.lst (([]:List Addr).map V.ref)))⟩:=kay hg1 fq
  rwa[8,m,8, .inl (SqL.of (n1 _ _ hm)),8,by rw[ND];lia,by rw[ND];lia,?_]
  rw[ND,Int.toNat_natCast]
  refine kfe (fun i σ H'=>Same H H'∧∃(ns:List Addr)(v3 v4:Option V),H' q>>(.lst (ns.map V.ref))∧Lines d.qe H' ns ((kaN B many).rs.take i)∧ns.length=i∧σ=[some (.ref b),some (.ref m),some (.ref q),v3,v4])
   ⟨n1,[],none,none,e1, .nil,rfl,rfl⟩ ?_ ?_
  ·rintro i σ H4 hi ⟨s4,ns,v3,v4,eq,hn,hnl,rfl⟩
   rw[Int.zero_add]
   obtain⟨lx,el⟩:=at_of (xs:=ls) (i:=i) (by lia)
   obtain⟨r,er⟩:=at_of (xs:=B.rs) (i:=i) (by lia)
   obtain⟨z,ez⟩:=at_of (xs:=many) (i:=i) (by lia)
   obtain⟨dxl,fsl,hlx,lk1,lk2,lk3,lk4⟩:=(hL.get el er).same s4
   rwa[8,b,d.qf,dxb,fsb,8,s4 _ _ hb,W.qf.cl,W.qz,lbl,8,l,_,9,SqL.of (s4 _ _ hl),kaL (v:=.ref lx) (by rw[NO,el];rfl),?_]
   rwa[8, .inl ⟨rfl,_,SqL.of eq⟩,8,lx,d.qe,dxl,fsl,8,hlx,W.qe.cl,W.QN,lk1,8,lx,d.qe,dxl,fsl,8,hlx,W.qe.cl,W.Qo,lk2,8,8,m,_,9,SqL.of (s4 _ _ hm),kaL (v:=.int z) (by rw[NO,ez];rfl),8,lx,d.qe,dxl,fsl,8,hlx,W.qe.cl,W.Qp,lk4,?_]
   refine khF (r:={r with mn:=z}) fun H6 y s6 fy hy=>?_
   have eq6:=s6 _ _ eq
   rwa[q,9,eq6,kas (by rw[ND];lia),?_]
   rwa[kat fq (s4.trans s6) (nx eq6),ns++[y],_,_,by rw[kad,NL];rfl,?_,by rw[NQ,hnl];rfl,6]
   rw[take_snoc (show(kaN B many).rs[i]?=_ from ki4 er ez)]
   exact P2.snoc ((Lines.same s6 hn).set eq6) (hy.set eq6)
  ·rintro σ H4 ⟨s4,ns,v3,v4,eq,hn,hnl,rfl⟩
   rw[hml,←lzw,Ma] at hn
   rwa[8,8,b,d.qf,dxb,fsb,8,s4 _ _ hb,W.qf.cl,W.Qq,lbc,8,b,d.qf,dxb,fsb,8,s4 _ _ hb,W.qf.cl,W.Qb,lbm,kgk (SqL.of eq) fun H6 y l' s6 fy fl' hl' hy=>?_]
   exact kk H6 y (s4.trans s6) (none_of s4 fy) ⟨l',ns,hy,hl',hn.same s6⟩
structure ToldAt(H:Hp)(p:Addr)(A:AccD):Prop where
 out:∃o f m:Addr,H p>>(.lst [.ref o, .ref f, .ref m, .int A.paid, .int A.owed])∧H o>>(.lst (A.order.map iV))∧H f>>(.lst (A.fallen.map iV))∧H m>>(.lst (A.many.map V.int))
theorem ToldAt.same{H H':Hp}{p:Addr}{A:AccD}(s:Same H H')(h:ToldAt H p A):ToldAt H' p A:=by
 obtain⟨o,f,m,h1,h2,h3,h4⟩:=h.out
 rwa[o,f,m,s _ _ h1,s _ _ h2,s _ _ h3,s _ _ h4]
theorem kgr{K:NF}{H:Hp}{a b:Addr}{xs:List V}(hf:∀v∈xs,∃z:Int,v=.int z)(ha:H a>>(.lst xs))(hb:H b>>(.lst xs)):DEq K H 32 (.ref a) (.ref b):=
 .lst (SqL.of ha) (SqL.of hb) rfl fun i x y ex ey=>by
  rw[ex] at ey
  cases ey
  obtain⟨z,rfl⟩:=hf x (NM ex)
  exact .int _
theorem ToldAt.deq{K:NF}{H:Hp}{p q:Addr}{A:AccD}(h:ToldAt H p A)(g:ToldAt H q A):∃xs ys:List V,((SqL K H p xs∧SqL K H q ys)∨(SqT K H p xs∧SqT K H q ys))∧xs.length=ys.length∧∀(i:Nat)(x y:V),xs[i]?>>x→ys[i]?>>y→DEq K H 32 x y:=by
 obtain⟨o,f,m,h1,h2,h3,h4⟩:=h.out
 obtain⟨o',f',m',g1,g2,g3,g4⟩:=g.out
 have nat:∀{xs:List Nat},∀v∈xs.map iV,∃z:Int,v=.int z:=fun v hv=>by
  obtain⟨z,-,rfl⟩:=N3.mp hv
  rwa[8]
 have int:∀{xs:List Int},∀v∈xs.map V.int,∃z:Int,v=.int z:=fun v hv=>by
  obtain⟨z,-,rfl⟩:=N3.mp hv
  rwa[8]
 rwa[_,_, .inl ⟨SqL.of h1,SqL.of g1⟩,6,fun i x y ex ey=>?_]
 match i,ex,ey with
 |0,ex,ey=>cases ex;cases ey;exact kgr nat h2 g2
 |1,ex,ey=>cases ex;cases ey;exact kgr nat h3 g3
 |2,ex,ey=>cases ex;cases ey;exact kgr int h4 g4
 |3,ex,ey=>cases ex;cases ey;exact .int _
 |4,ex,ey=>cases ex;cases ey;exact .int _
 |i+5,ex,ey=>cases ex
structure ToldM(H:Hp)(p m:Addr)(A:AccD):Prop where
 out:∃o f:Addr,H p>>(.lst [.ref o, .ref f, .ref m, .int A.paid, .int A.owed])∧H o>>(.lst (A.order.map iV))∧H f>>(.lst (A.fallen.map iV))∧H m>>(.lst (A.many.map V.int))∧p≠m
theorem ToldM.at{H:Hp}{p m:Addr}{A:AccD}(h:ToldM H p m A):ToldAt H p A:=by
 obtain⟨o,f,h1,h2,h3,h4,_⟩:=h.out
 rwa[o,f,m,h1,h2,h3,h4]
inductive klM(d:D)(vs:List V)(H:Hp)(Q:VK)(E_:XK):Prop
 |ct(Hs:Hp)(x:Addr)(A:AccD)(_:vs=[.ref x])(_:Same Hs H)(_:AccIn d Hs H x A)(_:A.order.length+A.fallen.length≤8)(_:A.many.length≤12)(_:∀(H':Hp)(p m:Addr),Same H H'→H p=none→H m=none→ToldM H' p m A→Q (.ref p) H'):klM d vs H Q E_
theorem kfY:kar ["_law_account"] ["_law_account"] (kai kcW):=by ac_rfl
theorem kcH(W:WB K mg d base):FO P w W 1 d.Zi d.Zj ["_law_account"] (klM d):=by
 exists W.Qn.F,kfY
 ·obtain⟨Hs,x,A,rfl,sS,⟨dx,t,b,hd,fp,o',fa',m',fs,hx,F,k⟩,lo,lm,kk⟩:=h
  rwa[_,kag (kap (kaM (kaa (kaF (r:=kaS K) kax (by rfl) W.B.list ka9 (kaa (kah (K:=K) (pv 0) rfl) kae)) (kaa (kaF (r:=kaS K) kax (by rfl) W.B.list ka9 (kaa (kah (K:=K) (pv 0) rfl) kae)) (kaa (kaF (r:=kaS K) kax (by rfl) W.B.list ka9 (kaa (kah (K:=K) (pv 0) rfl) kae)) (kaa (kah (K:=K) (pv 0) rfl) (kaa (kah (K:=K) (pv 0) rfl) kae))))))),?_]
  have ho':=sS _ _ k.o
  have hfa':=sS _ _ k.f
  have hm':=sS _ _ k.m
  rwa[8,x,d.qc,dx,fs,8,hx,W.qc.cl,W.qu,F.l5,o',8, .inl (SqL.of ho'),fun p1 f1=>?_]
  generalize hg1:upd H p1 _=H1
  obtain⟨n1,e1⟩:=kay hg1 f1
  rwa[8,x,d.qc,dx,fs,8,n1 _ _ hx,W.qc.cl,W.qR,F.l6,fa',8, .inl (SqL.of (n1 _ _ hfa')),fun p2 f2=>?_]
  generalize hg2:upd H1 p2 _=H2
  obtain⟨n2,e2⟩:=kay hg2 f2
  have s2:=n1.trans n2
  rwa[8,x,d.qc,dx,fs,8,s2 _ _ hx,W.qc.cl,W.qp,F.l7,m',8, .inl (SqL.of (s2 _ _ hm')),fun p3 f3=>?_]
  generalize hg3:upd H2 p3 _=H3
  obtain⟨n3,e3⟩:=kay hg3 f3
  have s3:=s2.trans n3
  rwa[8,x,d.qc,dx,fs,8,s3 _ _ hx,W.qc.cl,W.qH,F.l8,8,x,d.qc,dx,fs,8,s3 _ _ hx,W.qc.cl,W.Qy,F.l9,(by show 5≤sizeLine;decide),fun p fp=>?_]
  generalize hg4:upd H3 p _=H4
  obtain⟨n4,e4⟩:=kay hg4 fp
  exact kk H4 p p3 (s3.trans n4) (none_of s3 fp) (none_of s2 f3) ⟨p1,p2,e4,n4 _ _ (n3 _ _ (n2 _ _ e1)),n4 _ _ (n3 _ _ e2),n4 _ _ e3,(kaj e3 fp).symm⟩
inductive kgG(d:D)(vs:List V)(H:Hp)(Q:VK)(E_:XK):Prop
 |ct(Hs:Hp)(x:Addr)(l n:Int)(A:AccD)(_:vs=[.ref x, .int l, .int n])(_:Same Hs H)(_:AccIn d Hs H x A)(_:A.order.length+A.fallen.length≤8)(_:A.many.length≤12)(_:hasM A.many l n=false)(_:∀(H':Hp),Same H H'→Q (.bl true) H'):kgG d vs H Q E_
theorem QH:kar ["_law_account","_law_line","_law_many","_law_held","_law_caught","refused"] ["_law_account","_law_line","_law_many"] (kai kcq):=by ac_rfl
theorem ke4(W:WB K mg d base):FO P w W 18 d.Zk d.Zl ["_law_account","_law_line","_law_many"] (kgG d):=by
 exists W.VJ.F,QH
 ·obtain⟨Hs,x,l,n,A,rfl,sS,hA,lo,lm,hno,kk⟩:=h
  exists Qg,kcH,W
  exists GX_Account_take_back,kbP,W
  have hr1:Room 1 _:=hr.mono (by decide)
  refine⟨_,kab (psl (i:=3) QH.nd (pcl Qg hr1 W.Qn (kaa (pv 0) kae)))
   (kab (psl (i:=4) QH.nd kbf)
   (kab (km3 (n:="refused") (i:=5) kjb QH.nd rfl rfl rfl W.UO (kmf (kme kjb (fun _ _ z=>z) (pv 0) W.qc.cl W.Qz.me GX_Account_take_back hr W.Qz.b .nil (kaa (pv 1) (kaa (pv 2) kae)))) (fun _=>kag (psl (i:=4) QH.nd (pv 5))))
   (kab (ps_if (PW.pt (pw_or (kan keb (pv 4) kbf (kau _)) (pw_or (kdB (ka0 (kao (r:=rIsiX K) kdO (by rfl) W.B.isi b_isi (kaa (pv 4) (kaa (kcG (v:=.ref d.qt) (by rfl) W.V6 rfl) kae))))) (kea (kdB (ka0 (kao (r:=rIsiX K) kdO (by rfl) W.B.isi b_isi (kaa (pv 4) (kaa (khD (v:=.ty "ValueError") (by rfl) W.zVE khj rfl) kae))))))))) (kag (kap pe_bl)) (kav))
   (kab (ps_if (PW.pt (pw_or (ka0 (kao (r:=rIsiX K) kdO (by rfl) W.B.isi b_isi (kaa (pv 4) (kaa (kcG (v:=.ref d.Xc) (by rfl) W.UN rfl) kae)))) (kea (ka0 (kao (r:=rIsiX K) kdO (by rfl) W.B.isi b_isi (kaa (pv 4) (kaa (kcG (v:=.ref d.Xd) (by rfl) W.UP rfl) kae))))))) (kag (kap pe_bl)) (kav))
   (kag (kap (kbY (knb hr.units) (pcl Qg hr1 W.Qn (kaa (pv 0) kae)) (pv 3) (kau _)))))))),?_⟩
  rwa[8,Hs,x,A,6,sS,hA,lo,lm,fun H1 p m1 s1 fp _ hp=>?_]
  obtain⟨dx,t,b,hd,fp',o',fa',m',fs,hx,F,k⟩:=id (hA.same s1)
  rwa[8,x,dx,fs,6,hx,F.l11 _ (by cutsat),8,8, .inr ⟨Hs,x,l,n,A,rfl,sS.trans s1,hA.same s1,hno,W.xm_NoPieces_TillError,fun e fe=>?_⟩]
  generalize hg2:upd H1 e _=H2
  obtain⟨n2,e2⟩:=kay hg2 fe
  rwa[8,?_]
  rwa[8,6,8,?_]
  show if decide (V.ref e=V.non)=true then _ else _
  rw[show decide (V.ref e=V.non)=false by simp]
  refine iteF ?_
  rwa[8,e,d.qt,none,_,true,6, .inr ⟨_,rfl⟩,e2,(fun _ z=>by cases z),W.x_NoPieces,kcI _ _,8,iteF ?_]
  rwa[8,e,d.qt,none,_,true,6, .inl ⟨_,rfl⟩,e2,(fun _ z=>by cases z),W.x_NoPieces,W.ki_NoPieces_ValueError,8,iteF ?_]
  rwa[8,e,d.qt,none,_,false,6, .inr ⟨_,rfl⟩,e2,(fun _ z=>by cases z),W.x_NoPieces,W.ki_NoPieces_NotLet,8,iteF ?_]
  rwa[8,e,d.qt,none,_,false,6, .inr ⟨_,rfl⟩,e2,(fun _ z=>by cases z),W.x_NoPieces,W.ki_NoPieces_LineError,8,iteF ?_]
  have s2:=s1.trans n2
  rwa[8,Hs,x,A,6,sS.trans s2,hA.same s2,lo,lm,fun H4 q m2 s4 fq _ hq=>?_]
  obtain⟨xs,ys,h1,h2,h3⟩:=hq.at.deq (K:=K) (hp.at.same (n2.trans s4))
  rwa[8,q,p,xs,ys,6,6,h1,h2,h3,kk H4 (s2.trans s4)]
noncomputable def metM:List Nat→List Nat→List Nat
 |s,[]=>s
 |[],_::_=>[]
 |v::s,x::l=>if v=x then metM s l else metM (v::s) l
theorem kmJ:∀l:List Nat,metM [] l=[]
 |[]=>rfl
 |_::_=>rfl
theorem khH:∀{l s:List Nat},s.Sublist l→metM s l=[]
 |[],s,h=>by rw[List.sublist_nil.mp h];rfl
 |x::l,[],_=>rfl
 | x::l,v::s,h=>by
  unfold metM
  by_cases e:v=x
  ·rw[if_pos e]
   subst e
   exact khH (List.cons_sublist_cons.mp h)
  ·rw[if_neg e]
   cases h with
   |cons _ h=>exact khH h
   |cons_cons _ h=>exact absurd rfl e
inductive kgK(d:D)(vs:List V)(H:Hp)(Q:VK)(E_:XK):Prop
 |ct(s o:Addr)(sm order:List Nat)(_:vs=[.ref s, .ref o])(_:H s>>(.lst (sm.map iV)))(_:H o>>(.lst (order.map iV)))(_:sm.Sublist order)(_:Q (.bl true) H):kgK d vs H Q E_
theorem Q2:kar ["_law_some","_law_order","_law_at","_law_voucher"] ["_law_some","_law_order"] (kai kcb):=by ac_rfl
theorem kes(W:WB K mg d base):FO P w W 1 d.Zm d.Zn ["_law_some","_law_order"] (kgK d):=by
 exists W.VL.F,Q2
 ·obtain⟨s,o,sm,order,rfl,hs,ho,hsub,kk⟩:=h
  refine⟨_,kab (psl (i:=2) Q2.nd kaf)
   (kab (kbo PassesOwn.never rfl (kaC (K:=K) (pv 1)) (pgn (i:=3) Q2.nd)
   (kag (ps_if (PW.pt (kbn (kan op_lt (pv 2) (kao (r:=kaJ K) kaq (by rfl) W.B.len b_len (kaa (pv 0) kae)) (kau _)) (kba (kan op_eq (pe_ix (r:=rIxL K) kaG (pv 0) (pv 2) (fun _ _=>rfl)) (pv 3) (kau _))))) (kag (klT (i:=2) Q2.nd rfl (Or.inl rfl) kaf kki)) (kav))))
   (kag (kap (kbY op_eq (pv 2) (kao (r:=kaJ K) kaq (by rfl) W.B.len b_len (kaa (pv 0) kae)) (kau _))))),?_⟩
  refine sN fun _ Y9=>?_
  refine Y9 _ _ ?_
  refine⟨_,rfl,o,rfl,⟨_,SqL.of ho⟩,ka7 (xs:=order.map iV) (fun i σ H'=>H'=H∧∃(k:Nat)(v3:Option V),k≤sm.length∧metM (sm.drop k) (order.drop i)=[]∧σ=[some (.ref s),some (.ref o),some (.int (k:Int)),v3])
   ⟨rfl,0,none,Mf _,by rw[M5,M5];exact khH hsub,rfl⟩ (fun i σ H' _ h=>by rw[h.1];exact SqL.of ho) ?_ ?_⟩
  ·rintro i y σ H' hy ⟨rfl,k,v3,hk,hm,rfl⟩
   obtain⟨x,ex,rfl⟩:=kbj hy
   have ed:order.drop i=x::order.drop (i+1):=by
    obtain⟨h1,h2⟩:=NT.mp ex
    rw[EJ h1,h2]
   rw[ed] at hm
   rwa[8,8,s,8, .inl (SqL.of hs),9,8,?_]
   rw[ND]
   by_cases hk2:k<sm.length
   ·obtain⟨v,ev⟩:=at_of hk2
    have es:sm.drop k=v::sm.drop (k+1):=by
     obtain⟨h1,h2⟩:=NT.mp ev
     rw[EJ h1,h2]
    rw[es] at hm
    unfold metM at hm
    rw[show decide ((k:Int)<(sm.length:Int))=true by simp;exact hk2]
    refine iteT ?_
    rwa[8,8,s,_,9,SqL.of hs,kaL (v:=iV v) (by rw[NO,ev];rfl),8,6,8,?_]
    by_cases e:v=x
    ·rw[if_pos e] at hm
     rw[show decide (iV v=iV x)=true by rw[e];simp]
     refine iteT ?_
     rwa[8,9,6,k+1,_,hk2,hm,6]
    ·rw[if_neg e,←es] at hm
     rw[show decide (iV v=iV x)=false by
      refine decide_eq_false fun z=>e ?_
      have:V.int (v:Int)=V.int (x:Int):=z
      injection this with this
      lia]
     refine iteF ?_
     rwa[6,k,_,hk,hm,6]
   ·rw[show decide ((k:Int)<(sm.length:Int))=false by simp;lia]
    refine iteF ?_
    refine iteF ?_
    have e0:sm.drop k=[]:=List.drop_eq_nil_of_le (by lia)
    rwa[6,k,_,hk,by rw[e0,kmJ],6]
  ·rintro σ H' ⟨rfl,k,v3,hk,hm,rfl⟩
   rw[ND,E7] at hm
   have e0:sm.drop k=[]:=by
    cases h:sm.drop k with
    |nil=>rfl
    |cons a l=>rw[h] at hm;unfold metM at hm;cases hm
   have ek:k=sm.length:=by
    have:=congrArg El e0
    rw[Eo,MV] at this
    lia
   rwa[8,8,s,8, .inl (SqL.of hs),6,?_]
   rw[ND,ek,show decide (V.int (sm.length:Int)=V.int (sm.length:Int))=true by simp]
   exact kk
theorem keV:∀{a b:List Int},a.Perm b→a.Pairwise (·≤·)→b.Pairwise (·≤·)→a=b
 |[],b,p,_,_=>p.nil_eq
 |x::a,[],p,_,_=>by
  have:=p.length_eq
  simp at this
 | x ::a,y::b,p,ha,hb=>by
  have h1:=Ex.mp ha
  have h2:=Ex.mp hb
  have hx:x∈y::b:=p.mem_iff.mp N4
  have hy:y∈x::a:=p.mem_iff.mpr N4
  have e:x=y:=by
   rcases N5.mp hx with e|e
   ·exact e
   ·rcases N5.mp hy with e'|e'
    ·exact e'.symm
    ·have:=h1.1 y e'
     have:=h2.1 x e
     lia
  subst e
  rw[keV (Mv.cons_inv p) h1.2 h2.2]
theorem kkl(xs:List Nat):xs.map iV=(xs.map (fun n:Nat=>(n:Int))).map V.int:=by rw[N7];rfl
inductive kjz(d:D)(vs:List V)(H:Hp)(Q:VK)(E_:XK):Prop
 |ct(Hs:Hp)(t b h o x:Addr)(A:AccD)(order0:List Nat)(paid back:Int)(_:vs=[.ref t, .ref b, .ref h, .ref o, .ref x, .int paid, .int back])(_:TillIs d H t A.T)(_:BaskIs d.qe d.qf H b A.B)(_:H h>>(.lst (A.hand.map V.int)))(_:Same Hs H)(_:AccIn d Hs H x A)(_:AccOk A)(_:Wf A.T.ps (kaN A.B A.many) (stnd0 (kaN A.B A.many)))(_:H o>>(.lst (order0.map iV)))(_:kdl A.T (kaN A.B A.many) A.hand A.order=none)(_:back=max 0 (paid-(kaX A.T (kaN A.B A.many) A.order).total))(_:A.owed=max 0 ((kaX A.T (kaN A.B A.many) A.order).total-A.paid))(_:(A.order++A.fallen).Perm order0)(_:A.order.Sublist order0)(_:∀H',Same H H'→Q (.bl true) H'):kjz d vs H Q E_
theorem Uj:kar ["_law_till","_law_basket","_law_hand","_law_order","_law_account","_law_paid","_law_back","_law_due"] ["_law_till","_law_basket","_law_hand","_law_order","_law_account","_law_paid","_law_back"] (kai kcX):=by ac_rfl
theorem kgg(W:WB K mg d base):FO P w W 10 d.Zo d.Zp ["_law_till","_law_basket","_law_hand","_law_order","_law_account","_law_paid","_law_back"] (kjz d):=by
 exists W.VM.F,Uj
 ·obtain⟨Hs,t,b,h,o,x,A,order0,paid,back,rfl,hT,hB,hh,sS,hA,ok,wf,ho,hf,hbk,how,hpm,hsb,kk⟩:=h
  exists QE,ke1,W
  exists Jp,kgf,W
  exists Jq,kes,W
  have hr1:Room 1 _:=hr.mono (by decide)
  have hr3:Room 3 _:=hr.mono (by decide)
  refine⟨_,kab (psl (i:=7) Uj.nd (kah (K:=K) (pcl QE hr W.QK (kaa (pv 0) (kaa (pcl Jp hr3 W.VI (kaa (pv 1) (kaa (kah (K:=K) (pv 4) rfl) kae))) (kaa (kaF (r:=kaS K) kax (by rfl) W.B.list ka9 (kaa (pv 2) kae)) (kaa (kaF (r:=kaS K) kax (by rfl) W.B.list ka9 (kaa (kah (K:=K) (pv 4) rfl) kae)) kae))))) rfl))
   (kab (ps_if (PW.pt (pw_or (kan op_ne (pv 6) (kao (kcC rfl) (by rfl) W.B.max b_max (kaa kaf (kaa (pe_op kcy (pv 5) (pv 7)) kae))) (kau _)) (kea (kan op_ne (kah (K:=K) (pv 4) rfl) (kao (kcC rfl) (by rfl) W.B.max b_max (kaa kaf (kaa (pe_op kcy (pv 7) (kah (K:=K) (pv 4) rfl)) kae))) (kau _))))) (kag (kap pe_bl)) (kav))
   (kab (ps_if (kan (klW hr.units0) (kao (r:=kjN K) keg (by rfl) W.B.sorted kgw (kaa (pe_op ke0 (kah (K:=K) (pv 4) rfl) (kah (K:=K) (pv 4) rfl)) kae)) (kao (r:=kjN K) keg (by rfl) W.B.sorted kgw (kaa (pv 3) kae)) (kau _)) (kag (kap pe_bl)) (kav))
   (kag (kap (pcl Jq hr1 W.VL (kaa (kah (K:=K) (pv 4) rfl) (kaa (pv 3) kae))))))),?_⟩
  obtain⟨dx,t',b',hd,fpp,o',fa',m',fs,hx,F,k⟩:=id hA
  have h8:=ok.l8
  have hol:order0.length≤8:=by
   have:=hpm.length_eq
   rw[NQ] at this
   lia
  rwa[8,8,8,x,d.qc,dx,fs,8,hx,W.qc.cl,W.qp,F.l7,b,m',A.B,A.many,6,hB,sS _ _ k.m,ok.ml,ok.nl,fun H1 bs s1 f1 hBs=>?_]
  rwa[8,h,8, .inl (SqL.of (s1 _ _ hh)),fun h2 fh2=>?_]
  generalize hg2:upd H1 h2 _=H2
  obtain⟨n2,e2⟩:=kay hg2 fh2
  have s02:=s1.trans n2
  rwa[8,x,d.qc,dx,fs,8,s02 _ _ hx,W.qc.cl,W.qu,F.l5,o',8, .inl (SqL.of ((sS.trans s02) _ _ k.o)),fun o2 fo2=>?_]
  generalize hg3:upd H2 o2 _=H3
  obtain⟨n3,e3⟩:=kay hg3 fo2
  have s03:=s02.trans n3
  rwa[t,bs,h2,o2,A.T,_,A.hand,A.order,6,hT.same s03,ok.tok,hBs.same (n2.trans n3),wf,n3 _ _ e2,e3,ok.hl,ok.lt,by lia,hf,fun Hz H4 bl z0 z4 hBl=>?_]
  obtain⟨dx2,fs2,ob,sp,pp,sa,g1,g2,g3,g4,g5,g6,_⟩:=id hBl
  have s04:=s03.trans (z0.trans z4)
  rwa[bl,d.qh,dx2,fs2,8,g1,W.qh.cl,W.QP,g6,?_]
  generalize (kaX A.T (kaN A.B A.many) A.order).total=due at *
  rwa[8,8,8,9,_,8,?_]
  rwa[6,?_]
  rw[kiy,show(!decide (V.int back=V.int (max 0 (paid-due))))=false by rw[hbk];simp]
  rwa[8,iteF ?_]
  rwa[8,x,d.qc,dx,fs,8,s04 _ _ hx,W.qc.cl,W.Qy,F.l9,8,8,x,d.qc,dx,fs,8,s04 _ _ hx,W.qc.cl,W.qH,F.l8,9,9,?_]
  rw[kiy,show(!decide (V.int A.owed=V.int (max 0 (due-A.paid))))=false by rw[how];simp]
  rwa[8,iteF ?_]
  rwa[8,x,d.qc,dx,fs,8,s04 _ _ hx,W.qc.cl,W.qu,F.l5,8,x,d.qc,dx,fs,8,s04 _ _ hx,W.qc.cl,W.qR,F.l6,o',fa',9,(sS.trans s04) _ _ k.o,(sS.trans s04) _ _ k.f,NR (kas (by rw[ND,ND];lia)),fun q1 fq1=>?_]
  rw[←NL]
  generalize hg5:upd H4 q1 _=H5
  obtain⟨n5,e5⟩:=kay hg5 fq1
  rw[kkl] at e5
  rwa[q1,8,SqL.of e5,(by rw[ND,NQ];lia),fun D1 ms1 fD1 pm1 w1=>?_]
  generalize hg6:upd H5 D1 _=H6
  obtain⟨n6,e6⟩:=kay hg6 fD1
  have s06:=(s04.trans n5).trans n6
  have ho6:=s06 _ _ ho
  have ho7:=ho6
  rw[kkl] at ho7
  rwa[8,o,8,SqL.of ho7,(by rw[ND];lia),fun D2 ms2 fD2 pm2 w2=>?_]
  generalize hg7:upd H6 D2 _=H7
  obtain⟨n7,e7⟩:=kay hg7 fD2
  have ems:ms1=ms2:=keV (pm1.trans ((hpm.map _).trans pm2.symm)) w1 w2
  subst ems
  rwa[D1,D2,9,SqL.of (n7 _ _ e6),SqL.of e7,kfg _,kfg _,8,?_]
  rw[kda (kfg _)]
  refine iteF ?_
  have s07:=s06.trans n7
  rwa[8,x,d.qc,dx,fs,8,s07 _ _ hx,W.qc.cl,W.qu,F.l5,8,o',o,A.order,order0,6,(sS.trans s07) _ _ k.o,s07 _ _ ho,hsb,kk _ s07]
inductive kh2(d:D)(vs:List V)(H:Hp)(Q:VK)(E_:XK):Prop
 |ct(Hs:Hp)(b bl x o dxB pb:Addr)(fsB:List (Str×V))(l e n:Nat)(A:AccD)(order0:List Nat)(back:Int)(_:vs=[.ref b, .ref bl, .ref x,iV l,iV n, .int back, .ref o])(_:BaskIs d.qe d.qf H b A.B)(_:H bl>>(.ins d.qh dxB fsB))(_:fsB.lookup ("prices" :Str)>>(.ref pb))(_:H pb>>(.lst (A.pr.map V.int)))(_:Same Hs H)(_:AccIn d Hs H x A)(_:A.B.rs.length≤12)(_:(∀r∈A.B.rs,r.Ok))(_:A.many[l]?>>(e:Int))(_:(mans (A.B.rs.take l)).sum+e+n≤A.pr.length)(_:back=((A.pr.drop ((mans (A.B.rs.take l)).sum+e)).take n).sum)(_:A.owed=0)(_:A.fallen=[])(_:A.order=order0)(_:H o>>(.lst (order0.map iV)))(_:∀H',Same H H'→Q (.bl true) H'):kh2 d vs H Q E_
theorem X0:kar ["_law_basket","_law_bill","_law_account","_law_line","_law_many","_law_back","_law_order","_law_first","_law_left"] ["_law_basket","_law_bill","_law_account","_law_line","_law_many","_law_back","_law_order"] (kai kcF):=by ac_rfl
theorem kft(W:WB K mg d base):FO P w W 1 d.Zq d.Zr ["_law_basket","_law_bill","_law_account","_law_line","_law_many","_law_back","_law_order"] (kh2 d):=by
 exists W.VN.F,X0
 ·obtain⟨Hs,b,bl,x,o,dxB,pb,fsB,l,e,n,A,order0,back,rfl,hB,hbl,hlp,hpb,sS,⟨dx,t,b',hd,fp,o',fa',m',fs,hx,F,k⟩,h12,hok,hz,hle,hbk,how,hfa,hor,ho,kk⟩:=h
  refine⟨_,kab (psl (i:=7) X0.nd (kao (r:=rSum K) (kbO rfl) (by rfl) W.B.sum b_sum (kaa (kbq (N:=["_law_one"]) (CompScope.plain rfl (by cutsat) (by cutsat) (by cutsat) (nd1 _)) rfl (kaC (K:=K) (kb3 (r:=rSlL K) kcD (kah (K:=K) (pv 0) rfl) kdY (kbX (pv 3)))) (fun _ _ _ _=>pgn (i:=0) (nd1 _)) (fun _ _ _ _=>(kah (K:=K) (pv 0) rfl))) kae)))
   (kab (psl (i:=8) X0.nd (pe_ix (r:=rIxL K) kaG (kah (K:=K) (pv 2) rfl) (pv 3) (fun _ _=>rfl)))
   (kab (ps_if (kan op_ne (pv 5) (kao (r:=rSum K) (kbO rfl) (by rfl) W.B.sum b_sum (kaa (kb3 (r:=rSlL K) kcD (kah (K:=K) (pv 1) rfl) (kbX (pe_op kbu (pv 7) (pv 8))) (kbX (pe_op kbu (pe_op kbu (pv 7) (pv 8)) (pv 4)))) kae)) (kau _)) (kag (kap pe_bl)) (kav))
   (kag (kap (kim (kbY op_eq (kah (K:=K) (pv 2) rfl) kaf (kau _)) (kim (kbY (klX hr.units0) (kah (K:=K) (pv 2) rfl) (kaM kae) (kau _)) (kik (kbY (klX hr.units0) (kah (K:=K) (pv 2) rfl) (pv 6) (kau _))))))))),?_⟩
  obtain⟨lb,ls,⟨dxb,fsb,hb,lbl,lbc,lbm⟩,hl,hL⟩:=id hB
  have hll:=hL.len
  rwa[8,b,d.qf,dxb,fsb,8,hb,W.qf.cl,W.qz,lbl,8,8,lb,8,SqL.of hl,fun p1 fp1=>?_]
  rw[kiJ,←MS]
  generalize hgH1:upd H p1 _=H1
  obtain⟨n1,e1⟩:=kay hgH1 fp1
  rwa[p1,6,⟨_,SqL.of e1⟩,kaW (xs:=(ls.take l).map V.ref) (fun i σ ys H'=>H'=H1∧ys=(((A.B.rs.take l).take i).map fun r=>r.mn).map V.int∧∃v,σ=[v]) ⟨rfl,rfl,none,rfl⟩ (by rw[ND,NS,hll];exact NR (kas (by lia))) ?_ ?_ ?_]
  ·rintro i σ ys H' hi ⟨rfl,rfl,_⟩
   rwa[SqL.of e1,by rw[ND,ND,NS,NS];rw[ND,NS,hll] at hi;lia]
  ·rintro i y σ ys H' hy ⟨rfl,rfl,v,rfl⟩
   obtain⟨lx,el,rfl⟩:=kbZ hy
   have hil:i<l:=by
    have:=at_lt el
    rw[NS] at this
    lia
   have el':ls[i]?>>lx:=by
    rw[EA,if_pos hil] at el
    exact el
   obtain⟨r,er⟩:=at_of (xs:=A.B.rs) (i:=i) (by have:=at_lt el';lia)
   obtain⟨dxl,fsl,hlx,lk1,lk2,lk3,lk4⟩:=hL.get el' er
   rwa[8,lx,d.qe,dxl,fsl,8,n1 _ _ hlx,W.qe.cl,W.qO,lk3,6,?_,8]
   rw[take_snoc (rs:=A.B.rs.take l) (by rw[EA,if_pos hil];exact er),NL,NL]
   rfl
  ·rintro σ ys H' ⟨rfl,rfl,v,rfl⟩ D hD
   rw[ND,show(A.B.rs.take l).take (ls.take l).length=A.B.rs.take l by rw[MN (by rw[NS,NS,hll];exact NG _)]]
   generalize hgH2:upd H' D _=H2
   obtain⟨n2,e2⟩:=kay hgH2 hD
   have s2:=n1.trans n2
   have esum:∀rs:List Row,(∀r∈rs,r.Ok)→(rs.map fun r=>r.mn).sum=(((mans rs).sum:Nat):Int):=fun rs hr=>by
    induction rs with
    |nil=>rfl
    |cons r rs ih=>
     have h0:=(hr r N4).mn0
     have:=ih fun r h=>hr r (N2 _ h)
     unfold mans at this⊢
     rw[NW,NW,Mb,Mb,this]
     lia
   rwa[D,8,SqL.of e2,?_]
   rw[esum (A.B.rs.take l) fun r h=>hok r (Ei h)]
   rwa[8,x,d.qc,dx,fs,8,s2 _ _ hx,W.qc.cl,W.qp,F.l7,8,m',_,9,SqL.of ((sS.trans s2) _ _ k.m),kaL (v:=.int (e:Int)) (by rw[NO,hz];rfl),?_]
   rwa[8,8,bl,d.qh,dxB,fsB,8,s2 _ _ hbl,W.qh.cl,W.Xw,hlp,8,8,9,8,8,8,9,8,9,8,pb,8,SqL.of (s2 _ _ hpb),fun p3 fp3=>?_]
   rw[show(((mans (A.B.rs.take l)).sum:Nat):Int)+((e:Nat):Int)=(((mans (A.B.rs.take l)).sum+e:Nat):Int) by lia,show(((mans (A.B.rs.take l)).sum+e:Nat):Int)+((n:Nat):Int)=(((mans (A.B.rs.take l)).sum+e+n:Nat):Int) by lia,kkH _ _ _ (by rw[ND];exact hle),←Et,←MS]
   generalize hgH3:upd H2 p3 _=H3
   obtain⟨n3,e3⟩:=kay hgH3 fp3
   have s3:=s2.trans n3
   rwa[p3,8,SqL.of e3,6,8,?_]
   rw[show(!decide (V.int back=V.int ((A.pr.drop ((mans (A.B.rs.take l)).sum+e)).take n).sum))=false by rw[hbk];simp]
   refine iteF ?_
   rwa[8,x,d.qc,dx,fs,8,s3 _ _ hx,W.qc.cl,W.Qy,F.l9,6,?_]
   rw[how,show decide (V.int 0=V.int 0)=true by simp]
   rwa[8,iteT ?_]
   rwa[8,x,d.qc,dx,fs,8,s3 _ _ hx,W.qc.cl,W.qR,F.l6,by decide,fun e0 fe0=>?_]
   generalize hgH4:upd H3 e0 _=H4
   obtain⟨n4,(e4:H4 e0>>(.lst (([]:List Nat).map iV)))⟩:=kay hgH4 fe0
   have s4:=s3.trans n4
   have kf:=(sS.trans s4) _ _ k.f
   rw[hfa] at kf
   rwa[fa',e0,9,SqL.of kf,SqL.of e4,kbK _,kbK _,?_]
   rw[if_neg NP,kda (kbK _)]
   rwa[8,iteT ?_]
   have ko:=(sS.trans s4) _ _ k.o
   rw[hor] at ko
   rwa[8,x,d.qc,dx,fs,8,s4 _ _ hx,W.qc.cl,W.qu,F.l5,8,o',o,9,SqL.of ko,SqL.of (s4 _ _ ho),kbK _,kbK _,?_]
   rw[if_neg NP,kda (kbK _)]
   exact kk _ s4
theorem khn{n:Nat}{ns u:List Nat}{S:Stnd}{V:Vch}(hV:T.vs[n]?>>V)(c:dueM V T B hand u S n=.non):walkM T B hand (n::ns) u S=walkM T B hand ns (u++[n]) (aftM V T.ps (kds B) S):=by
 rw[walkM,hV]
 exact if_pos c
theorem khX{b:List Nat}:∀{a u:List Nat}{S:Stnd},(walkM T B hand a u S).1.length=u.length+a.length→walkM T B hand (a++b) u S=walkM T B hand b (walkM T B hand a u S).1 (walkM T B hand a u S).2
 |[],u,S,_=>rfl
 | n::a,u,S,h=>by
  rw[EY]
  cases e:T.vs[n]? with
  |none=>
   rw[walkM,e] at h
   simp only[Md] at h
   lia
  | some V=>
   by_cases c:dueM V T B hand u S n=.non
   ·rw[khn e c] at h
    rw[khn e c,khn e c]
    exact khX (by rw[h,NQ,Md];show _=_+1+_;lia)
   ·rw[walkM,e] at h
    simp only at h
    rw[if_neg c] at h
    simp only[Md] at h
    lia
theorem kgz{u:List Nat}{S S0:Stnd}{n:Nat}{V:Vch}(h:walkM T B hand u [] S0=(u,S))(hV:T.vs[n]?>>V):walkM T B hand (u++[n]) [] S0=if dueM V T B hand u S n=.non then(u++[n],aftM V T.ps (kds B) S) else(u,S):=by
 rw[khX (by rw[h];simp),h]
 simp only
 unfold walkM
 rw[hV]
 simp only
 rfl
theorem kfR{S0:Stnd}:∀{o u:List Nat}{S:Stnd},walkM T B hand u [] S0=(u,S)→walkM T B hand (thrM T B hand o u S).1 [] S0=((thrM T B hand o u S).1,(thrM T B hand o u S).2.2)
 |[],u,S,h=>h
 | n::o,u,S,h=>by
  unfold thrM
  cases e:T.vs[n]? with
  |none=>exact h
  | some V=>
   simp only
   by_cases c:dueM V T B hand u S n=.non
   ·rw[if_pos c]
    exact kfR (by rw[kgz h e,if_pos c])
   ·rw[if_neg c]
    exact kfR h
theorem kiH{T:TillD}{B:Bask}{hand:List Int}:∀{n:Nat}{o:List Nat},o.length<n→(∀m∈o,m<T.vs.length)→walkM T B hand (dueA T B hand n o).1 [] (stnd0 B)=((dueA T B hand n o).1,(dueA T B hand n o).2.2)∧onlyM T.rs (dueA T B hand n o).1=none∧(∀m∈(dueA T B hand n o).1,m∈o)∧(dueA T B hand n o).1.length+(dueA T B hand n o).2.1.length=o.length
 |0,o,h,_=>by lia
 | n+1,o,h,hlt=>by
  have hw:=kfR (T:=T) (B:=B) (hand:=hand) (S0:=stnd0 B) (o:=o) (u:=[]) (S:=stnd0 B) rfl
  have hl:=keI (T:=T) (B:=B) (hand:=hand) (u:=[]) (S:=stnd0 B) hlt
  have hm:=fun m=>keH (T:=T) (B:=B) (hand:=hand) (o:=o) (u:=[]) (S:=stnd0 B) (m:=m)
  unfold dueA
  generalize thrM T B hand o [] (stnd0 B)=R at *
  simp only[MV,Eu] at hl
  cases e:onlyM T.rs R.1 with
  |none=>exact⟨hw,e,fun m h=>(hm m h).resolve_left (by simp),hl⟩
  |some l=>
   have hlt1:=filter_lt (kgc e)
   have hc:=kkK (l:=l) (o:=R.1)
   obtain⟨h1,h2,h3,h4⟩:=kiH (T:=T) (B:=B) (hand:=hand) (n:=n) (o:=R.1.filter fun m=>decide (m≠l)) (by lia) fun m h=>hlt m ((hm m (Mi.mp h).1).resolve_left (by simp))
   rwa[h1,h2,fun m h=>(hm m (Mi.mp (h3 m h)).1).resolve_left (by simp),?_]
   simp only[NQ,ML]
   lia
theorem kfw{u:List Nat}{S:Stnd}(h:walkM T B hand u [] (stnd0 B)=(u,S))(h2:onlyM T.rs u=none):kdl T B hand u=none:=by
 unfold kdl
 rw[h]
 simp only
 rw[if_neg (MP _),h2]
 rfl
theorem khi{S':Stnd}:∀{o u:List Nat}{S:Stnd},walkM T B hand o u S=(u++o,S')→(billM T B o S).2=S'
 |[],u,S,h=>by
  unfold walkM at h
  exact(Prod.mk.inj h).2
 | n::o,u,S,h=>by
  have no:∀S,(u,S)≠(u++n::o,S'):=fun S e=>by
   have:=congrArg El (Prod.mk.inj e).1
   simp at this
  unfold walkM at h
  unfold billM
  cases e:T.vs[n]? with
  |none=>rw[e] at h;exact absurd h (no _)
  | some V=>
   rw[e] at h
   simp only at h⊢
   by_cases c:dueM V T B hand u S n=.non
   ·rw[if_pos c] at h
    exact khi (by rw[h,Mr];rfl)
   ·rw[if_neg c] at h
    exact absurd h (no _)
theorem ki2{u:List Nat}{S:Stnd}(h:walkM T B hand u [] (stnd0 B)=(u,S)):(kaX T B u).total=S.pr.sum+S.cg:=by
 have e:=khi (u:=[]) h
 show(billM T B u (stnd0 B)).2.pr.sum+(billM T B u (stnd0 B)).2.cg=_
 rw[e]
structure ManyOk(B:Bask)(many:List Int):Prop where
 len:many.length=B.rs.length
 le:∀(i:Nat)(z:Int)(r:Row),many[i]?>>z→B.rs[i]?>>r→0≤z∧z≤r.mn
theorem kj9:∀{rs:List Row}{many:List Int},(∀(i:Nat)(z:Int)(r:Row),many[i]?>>z→rs[i]?>>r→0≤z∧z≤r.mn)→(mans (Mg (fun(r:Row)(m:Int)=>{r with mn:=m}) rs many)).sum≤(mans rs).sum
 |[],_,_=>by simp[mans]
 |r::rs,[],_=>by simp[mans]
 |r::rs,z::many,h=>by
  have h0:=h 0 z r rfl rfl
  have h1:=kj9 (rs:=rs) (many:=many) fun i z r e1 e2=>h (i+1) z r e1 e2
  rw[List.zipWith_cons_cons]
  unfold mans at h1⊢
  rw[NW,NW,Mb,Mb]
  show z.toNat+_≤r.mn.toNat+_
  lia
theorem kgC{B:Bask}{many:List Int}{r:Row}(h:r∈(kaN B many).rs):∃(i:Nat)(q:Row)(z:Int),B.rs[i]?>>q∧many[i]?>>z∧r= {q with mn:=z}:=by
 obtain⟨i,hi⟩:=MZ.mp h
 unfold kaN at hi
 simp only at hi
 rw[Ey] at hi
 cases e1:B.rs[i]? with
 |none=>rw[e1] at hi;cases hi
 | some q=>
  cases e2:many[i]? with
  |none=>rw[e1,e2] at hi;cases hi
  |some z=>
   rw[e1,e2] at hi
   rwa[i,q,z,e1,e2,(Option.some.inj hi).symm]
theorem kfT{ps:List (Option Nat)}{B:Bask}{many:List Int}(w:Wf ps B (stnd0 B))(m:ManyOk B many):Wf ps (kaN B many) (stnd0 (kaN B many)):=by
 refine Wf.start w.good w.pl (fun r hr=>?_) (fun r hr=>?_) ?_ w.bc ?_
 ·obtain⟨i,q,z,e1,e2,rfl⟩:=kgC hr
  exact w.kd q (NM e1)
 ·obtain⟨i,q,z,e1,e2,rfl⟩:=kgC hr
  have h:=w.ok q (NM e1)
  have hz:=m.le i z q e2 e1
  rwa[h.pr0,h.pr1,hz.1,Int.le_trans hz.2 h.mn1,h.ex0]
 ·show(Mg _ B.rs many).length≤12
  rw[Eh,m.len,MX]
  exact w.nl
 ·rw[keB]
  have h1:=kj9 m.le
  have h2:(ownN B.rs).length<64:=w.n64
  rw[keB] at h2
  exact MR h1 h2
theorem ManyOk.set{B:Bask}{many:List Int}{l:Nat}{z k:Int}(m:ManyOk B many)(h:many[l]?>>z)(h0:0≤k)(h1:k≤z):ManyOk B (many.set l k):=by
 rwa[by rw[MD];exact m.len,fun i y r e1 e2=>?_]
 by_cases e:l=i
 ·subst e
  rw[M3 (at_lt h)] at e1
  cases e1
  have:=m.le l z r h e2
  lia
 ·rw[Ea e] at e1
  exact m.le i y r e1 e2
theorem kfS{T:TillD}{B:Bask}{hand:List Int}:∀{o u:List Nat}{S:Stnd},(∀n∈o,n<T.vs.length)→((thrM T B hand o u S).1++(thrM T B hand o u S).2.1).Perm (u++o)
 |[],u,S,_=>by unfold thrM;exact Mv.refl _
 | n::o,u,S,h=>by
  obtain⟨V,hV⟩:=at_of (h n N4)
  have h':∀m∈o,m<T.vs.length:=fun m hm=>h m (N2 _ hm)
  unfold thrM
  rw[hV]
  simp only
  by_cases e:dueM V T B hand u S n=.non
  ·rw[if_pos e]
   have:=kfS (T:=T) (B:=B) (hand:=hand) (u:=u++[n]) (S:=aftM V T.ps (kds B) S) h'
   rw[Mr] at this
   exact this
  ·rw[if_neg e]
   exact DL.trans ((Mv.cons n (kfS h')).trans DL.symm)
theorem kfh{l:Nat}:∀{o:List Nat},((o.filter fun m=>decide (m≠l))++NI (o.count l) l).Perm o
 |[]=>Mv.refl _
 | a::o=>by
  rw[Ej,EG]
  by_cases e:a=l
  ·subst e
   rw[decide_eq_false (fun h=>h rfl),if_neg NP,beq_self_eq_true,if_pos rfl,ME]
   exact DL.trans (Mv.cons a kfh)
  ·have e1:(a==l)=false:=beq_eq_false_iff_ne.mpr e
   rw[decide_eq_true e,if_pos rfl,e1,if_neg NP,Nat.add_zero]
   exact Mv.cons a kfh
theorem kiI{T:TillD}{B:Bask}{hand:List Int}:∀{n:Nat}{o:List Nat},o.length<n→(∀m∈o,m<T.vs.length)→((dueA T B hand n o).1++(dueA T B hand n o).2.1).Perm o
 |0,o,h,_=>by lia
 | n+1,o,h,hlt=>by
  have hp:=kfS (T:=T) (B:=B) (hand:=hand) (u:=[]) (S:=stnd0 B) hlt
  have hl:=keI (T:=T) (B:=B) (hand:=hand) (u:=[]) (S:=stnd0 B) hlt
  have hm:=fun m=>keH (T:=T) (B:=B) (hand:=hand) (o:=o) (u:=[]) (S:=stnd0 B) (m:=m)
  unfold dueA
  generalize thrM T B hand o [] (stnd0 B)=R at *
  simp only[MV,Eu,Ep] at hl hp
  cases e:onlyM T.rs R.1 with
  |none=>exact hp
  | some l=>
   have hlt1:=filter_lt (kgc e)
   have ih:=kiI (T:=T) (B:=B) (hand:=hand) (n:=n) (o:=R.1.filter fun m=>decide (m≠l)) (by lia) fun m h=>hlt m ((hm m (Mi.mp h).1).resolve_left (by simp))
   simp only
   generalize dueA T B hand n (R.1.filter fun m=>decide (m≠l))=Q at *
   have h1:(Q.1++(R.2.1++(NI (R.1.count l) l++Q.2.1))).Perm ((Q.1++Q.2.1)++NI (R.1.count l) l++R.2.1):=by
    have a1:(R.2.1++(NI (R.1.count l) l++Q.2.1)).Perm (Q.2.1++NI (R.1.count l) l++R.2.1):=DM.trans (Mv.append_right _ DM)
    have a2:=Mv.append_left Q.1 a1
    simp only[Mr] at a2⊢
    exact a2
   exact h1.trans ((Mv.append_right _ ((Mv.append_right _ ih).trans kfh)).trans hp)
theorem kkN{T:TillD}{B:Bask}(tok:kb0 T):∀{o:List Nat}{S:Stnd},Wf T.ps B S→Wf T.ps B (billM T B o S).2
 |[],S,w=>w
 |n::o,S,w=>by
  unfold billM
  cases e:T.vs[n]? with
  |none=>exact w
  |some V=>exact kkN tok (w.after (tok.vs V (NM e)))
theorem kjc(tok:kb0 T):∀{o u:List Nat}{S:Stnd},Wf T.ps B S→Wf T.ps B (thrM T B hand o u S).2.2
 |[],u,S,w=>w
 | n::o,u,S,w=>by
  unfold thrM
  cases e:T.vs[n]? with
  |none=>exact w
  | some V=>
   simp only
   by_cases c:dueM V T B hand u S n=.non
   ·rw[if_pos c]
    exact kjc tok (w.after (tok.vs V (NM e)))
   ·rw[if_neg c]
    exact kjc tok w
theorem kl6(tok:kb0 T)(w:Wf T.ps B (stnd0 B)):∀{n:Nat}{o:List Nat},Wf T.ps B (dueA T B hand n o).2.2
 |0,o=>w
 |n+1,o=>by
  unfold dueA
  cases e:onlyM T.rs (thrM T B hand o [] (stnd0 B)).1 with
  |none=>exact kjc tok w
  |some l=>exact kl6 tok w
noncomputable def offs(B:Bask)(l:Nat):Nat:=(mans (B.rs.take l)).sum
noncomputable def remS(B:Bask)(pr:List Int)(many:List Int):Int:=((NK B.rs.length).map fun l=>((pr.drop (offs B l)).take (many.getD l 0).toNat).sum).sum
theorem kmt{B:Bask}{pr many:List Int}{l n:Nat}{z:Int}(hml:many.length=B.rs.length)(hz:many[l]?>>z)(hn:(n:Int)≤z):remS B pr (many.set l (z-n))=remS B pr many-((pr.drop (offs B l+(z-n).toNat)).take n).sum:=by
 have hl:=at_lt hz
 have e:((NK B.rs.length).map fun i=>((pr.drop (offs B i)).take ((many.set l (z-n)).getD i 0).toNat).sum)=((NK B.rs.length).map fun i=>((pr.drop (offs B i)).take (many.getD i 0).toNat).sum).set l ((pr.drop (offs B l)).take (z-n).toNat).sum:=by
  apply MY
  ·simp
  ·intro i h1 h2
   simp only[ND,DD] at h1
   rw[Dv]
   simp only[Ew,EH,N1]
   by_cases c:l=i
   ·subst c
    rw[M3 hl,if_pos rfl]
    rfl
   ·rw[Ea c,if_neg c]
 have eu:((NK B.rs.length).map fun i=>((pr.drop (offs B i)).take (many.getD i 0).toNat).sum)[l]?>>((pr.drop (offs B l)).take z.toNat).sum:=by
  rw[NO,EI (by lia)]
  show some (((pr.drop (offs B l)).take (many.getD l 0).toNat).sum)>>_
  rw[N1,hz]
  rfl
 unfold remS
 rw[e,sum_set eu,show z.toNat=(z-n).toNat+n by lia,Dz,MJ,List.drop_drop]
 lia
theorem km1{B:Bask}{pr many:List Int}(h:∀z∈pr,0≤z):0≤remS B pr many:=by
 unfold remS
 refine kbC fun z hz=>?_
 obtain⟨l,_,rfl⟩:=N3.mp hz
 exact kbC fun z hz=>h z (DB (Ei hz))
theorem kjL{B:Bask}{pr:List Int}(hpl:pr.length=(mans B.rs).sum):remS B pr (B.rs.map fun r=>r.mn)=pr.sum:=by
 have h:∀n,n≤B.rs.length→((NK n).map fun l=>((pr.drop (offs B l)).take ((B.rs.map fun(r:Row)=>r.mn).getD l 0).toNat).sum).sum=(pr.take (offs B n)).sum:=by
  intro n
  induction n with
  |zero=>intro _;unfold offs;rw[List.take_zero];rfl
  |succ n ih=>
   intro hn
   obtain⟨r,er⟩:=at_of (xs:=B.rs) (i:=n) (by lia)
   rw[Mx,NL,MJ,ih (by lia),NW,Ec,Mb,EB,Int.add_zero]
   have e1:offs B (n+1)=offs B n+r.mn.toNat:=by unfold offs;rw[kg2 er,MJ];simp
   rw[e1,Dz,MJ,N1,NO,er]
   rfl
 have:=h B.rs.length (NG _)
 unfold remS
 rw[this]
 unfold offs
 rw[Ma,←hpl,Ma]
theorem kho{T:TillD}{B:Bask}{hand:List Int}:∀{o u:List Nat}{S:Stnd},((thrM T B hand o u S).1).Sublist (u++o)
 |[],u,S=>by unfold thrM;rw[MQ];exact Ez.refl _
 | n::o,u,S=>by
  unfold thrM
  cases hV:T.vs[n]? with
  |none=>exact Dy _ _
  | some V=>
   dsimp only
   by_cases e:dueM V T B hand u S n=.non
   ·rw[if_pos e]
    have:=kho (T:=T) (B:=B) (hand:=hand) (o:=o) (u:=u++[n]) (S:=aftM V T.ps (kds B) S)
    rw[Mr] at this
    exact this
   ·rw[if_neg e]
    exact(kho (T:=T) (B:=B) (hand:=hand) (o:=o) (u:=u) (S:=S)).trans (Ez.append_left (List.sublist_cons_self n o) u)
theorem kkB{T:TillD}{B:Bask}{hand:List Int}:∀{n:Nat}{o:List Nat},((dueA T B hand n o).1).Sublist o
 |0,o=>Ez.refl _
 |n+1,o=>by
  have h:=kho (T:=T) (B:=B) (hand:=hand) (o:=o) (u:=[]) (S:=stnd0 B)
  rw[Ep] at h
  unfold dueA
  cases e:onlyM T.rs (thrM T B hand o [] (stnd0 B)).1 with
  |none=>exact h
  |some l=>exact(kkB (T:=T) (B:=B) (hand:=hand) (n:=n)).trans (List.filter_sublist.trans h)
structure Num54(T:TillD)(B:Bask)(hand pr:List Int)(cg:Int)(order:List Nat)(A:AccD):Prop where
 eT:A.T=T
 eB:A.B=B
 eh:A.hand=hand
 ep:A.pr=pr
 ok:AccOk A
 mo:ManyOk B A.many
 pA:0≤A.paid
 pm:(A.order++A.fallen).Perm order
 sb:A.order.Sublist order
 sh:T.bk≠("again" :Str)→A.paid=cg+remS B pr A.many∧A.owed=0∧A.fallen=[]∧A.order=order
structure Wor54(T:TillD)(B:Bask)(pr:List Int)(cg:Int):Prop where
 bk:T.bk=("again" :Str)∨T.bk=("shares" :Str)
 wf:Wf T.ps B (stnd0 B)
 cg0:0≤cg
 pr0:∀z∈pr,0≤z
 pl:pr.length=(mans B.rs).sum
section
variable{T:TillD}{B:Bask}{hand pr:List Int}{cg:Int}{order:List Nat}{A:AccD}{l n:Nat}{z:Int}
structure knv(T:TillD)(B:Bask)(hand pr:List Int)(cg:Int)(order:List Nat)(A:AccD)(l n:Nat)(z:Int):Prop where
 b0:0≤backB A l (z-n) n
 pe:(tookB A l (z-n) n).paid=A.paid-backB A l (z-n) n
 me:(tookB A l (z-n) n).many=A.many.set l (z-n)
 nx:Num54 T B hand pr cg order (tookB A l (z-n) n)
 ag:T.bk=("again" :Str)→kdl T (kaN B (A.many.set l (z-n))) hand (tookB A l (z-n) n).order=none∧backB A l (z-n) n=max 0 (A.paid-(kaX T (kaN B (A.many.set l (z-n))) (tookB A l (z-n) n).order).total)∧(tookB A l (z-n) n).owed=max 0 ((kaX T (kaN B (A.many.set l (z-n))) (tookB A l (z-n) n).order).total-(tookB A l (z-n) n).paid)
 sh:T.bk≠("again" :Str)→backB A l (z-n) n=((pr.drop (offs B l+(z-n).toNat)).take n).sum
theorem Num54.took(N:Num54 T B hand pr cg order A)(w:Wor54 T B pr cg)(hz:A.many[l]?>>z)(hn2:(n:Int)≤z):knv T B hand pr cg order A l n z:=by
 have mo':=N.mo.set hz (show 0≤z-(n:Int) by lia) (show z-(n:Int)≤z by lia)
 have ml':(A.many.set l (z-n)).length=A.B.rs.length:=by rw[MD];exact N.ok.ml
 have hpA:=N.pA
 have hl8:=N.ok.l8
 by_cases ag:T.bk=("again" :Str)
 ·have agA:A.T.bk=("again" :Str):=by rw[N.eT];exact ag
  have eA:tookB A l (z-n) n=tookA A l (z-n):=by unfold tookB;rw[if_pos agA]
  have eb:backB A l (z-n) n=backA A l (z-n):=by unfold backB;rw[if_pos agA]
  have wf':=kfT w.wf mo'
  have l8:A.order.length<9:=by lia
  have edue:due1 A l (z-n)=dueA T (kaN B (A.many.set l (z-n))) hand 9 A.order:=by
   unfold due1 dueOf
   simp only
   rw[N.eT,N.eB,N.eh]
  have hlt:∀m∈A.order,m<T.vs.length:=by rw[←N.eT];exact N.ok.lt
  have tok:kb0 T:=by rw[←N.eT];exact N.ok.tok
  obtain⟨w1,w2,w3,w4⟩:=kiH (T:=T) (B:=kaN B (A.many.set l (z-n))) (hand:=hand) l8 hlt
  have wp:=kiI (T:=T) (B:=kaN B (A.many.set l (z-n))) (hand:=hand) l8 hlt
  have ww:=kl6 (hand:=hand) tok wf' (n:=9) (o:=A.order)
  have ws:=kkB (T:=T) (B:=kaN B (A.many.set l (z-n))) (hand:=hand) (n:=9) (o:=A.order)
  rw[←edue] at w1 w2 w3 w4 wp ww ws
  have ho:0≤owes (due1 A l (z-n)):=by
   have h1:=kbC fun z hz=>(ww.pr z hz).1
   have h2:=ww.cg.1
   unfold owes
   lia
  have hb:backA A l (z-n)=max (A.paid-owes (due1 A l (z-n))) 0:=rfl
  have hpd:(tookA A l (z-n)).paid=A.paid-backA A l (z-n):=rfl
  have how:(tookA A l (z-n)).owed=max (owes (due1 A l (z-n))-(A.paid-backA A l (z-n))) 0:=rfl
  have hbl:(kaX T (kaN B (A.many.set l (z-n))) (due1 A l (z-n)).1).total=owes (due1 A l (z-n)):=ki2 w1
  have pm':((tookA A l (z-n)).order++(tookA A l (z-n)).fallen).Perm order:=by
   show((due1 A l (z-n)).1++(A.fallen++(due1 A l (z-n)).2.1)).Perm order
   have a1:((due1 A l (z-n)).1++(A.fallen++(due1 A l (z-n)).2.1)).Perm (((due1 A l (z-n)).1++(due1 A l (z-n)).2.1)++A.fallen):=by
    rw[Mr]
    exact Mv.append_left _ DM
   exact a1.trans ((Mv.append_right _ wp).trans N.pm)
  rwa[by rw[eb,hb];lia,by rw[eA,hpd,eb],by rw[eA];rfl,?_,fun _=>?_,fun h=>absurd ag h]
  ·rw[eA]
   rwa[N.eT,N.eB,N.eh,N.ep,⟨N.ok.tok,N.ok.nl,ml',N.ok.hl,fun m hm=>N.ok.lt m (w3 m hm),?_⟩,mo',by rw[hpd];lia,pm',ws.trans N.sb,fun h=>absurd ag h]
   show(due1 A l (z-n)).1.length+(A.fallen++(due1 A l (z-n)).2.1).length≤8
   rw[NQ]
   lia
  ·rw[eA,eb]
   rwa[kfw w1 w2,?_,?_]
   ·show backA A l (z-n)=max 0 (A.paid-(kaX T (kaN B (A.many.set l (z-n))) (due1 A l (z-n)).1).total)
    rw[hbl,hb]
    lia
   ·show(tookA A l (z-n)).owed=max 0 ((kaX T (kaN B (A.many.set l (z-n))) (due1 A l (z-n)).1).total-_)
    rw[hbl,how,hpd]
    lia
 ·have nag:¬A.T.bk=("again" :Str):=by rw[N.eT];exact ag
  have eA:tookB A l (z-n) n= {A with many:=A.many.set l (z-n),paid:=A.paid-bkS A l (z-n) n}:=by unfold tookB;rw[if_neg nag]
  have eb:backB A l (z-n) n=bkS A l (z-n) n:=by unfold backB;rw[if_neg nag]
  have es:bkS A l (z-n) n=((pr.drop (offs B l+(z-n).toNat)).take n).sum:=by unfold bkS offs;rw[N.ep,N.eB]
  have hs0:0≤bkS A l (z-n) n:=by rw[es];exact kbC fun z hz=>w.pr0 z (DB (Ei hz))
  have hr:=kmt (B:=B) (pr:=pr) N.mo.len hz hn2
  rw[←es] at hr
  have hrn:=km1 (B:=B) (pr:=pr) (many:=A.many.set l (z-n)) w.pr0
  obtain⟨q1,q2,q3,q4⟩:=N.sh ag
  have hc:=w.cg0
  have pe:A.paid-bkS A l (z-n) n=cg+remS B pr (A.many.set l (z-n)):=by lia
  rwa[by rw[eb];exact hs0,by rw[eA,eb],by rw[eA],?_,fun h=>absurd h ag,fun _=>by rw[eb,es]]
  rw[eA]
  rwa[N.eT,N.eB,N.eh,N.ep,⟨N.ok.tok,N.ok.nl,ml',N.ok.hl,N.ok.lt,N.ok.l8⟩,mo',?_,N.pm,N.sb,fun _=>⟨pe,q2,q3,q4⟩]
  show 0≤A.paid-bkS A l (z-n) n
  lia
theorem Num54.mode(N:Num54 T B hand pr cg order A)(w:Wor54 T B pr cg)(hz:A.many[l]?>>z)(hn:(n:Int)≤z):(A.T.bk=("again" :Str)∧Wf A.T.ps (kaN A.B (A.many.set l (z-n))) (stnd0 (kaN A.B (A.many.set l (z-n)))))∨(A.T.bk=("shares" :Str)∧(∀r∈A.B.rs,r.Ok)∧(mans (A.B.rs.take l)).sum+z.toNat≤A.pr.length):=by
 have mo':=N.mo.set hz (show 0≤z-(n:Int) by lia) (show z-(n:Int)≤z by lia)
 rw[N.eT,N.eB,N.ep]
 rcases w.bk with hb|hb
 ·exact .inl ⟨hb,kfT w.wf mo'⟩
 ·refine .inr ⟨hb,w.wf.ok,?_⟩
  rw[w.pl]
  obtain⟨r,er⟩:=at_of (xs:=B.rs) (i:=l) (by rw[←N.mo.len];exact at_lt hz)
  have h1:=N.mo.le l z r hz er
  have h2:=kj8 B.rs (l+1)
  rw[kg2 er,MJ] at h2
  simp only[Mb,EB] at h2
  lia
end
structure At54(d:D)(H:Hp)(t b h bl dxB ob pb:Addr)(fsB:List (Str×V))(T:TillD)(B:Bask)(hand pr:List Int)(order:List Nat):Prop where
 T:TillIs d H t T
 B:BaskIs d.qe d.qf H b B
 h:H h>>(.lst (hand.map V.int))
 bl:H bl>>(.ins d.qh dxB fsB)
 lo:fsB.lookup ("order" :Str)>>(.ref ob)
 lp:fsB.lookup ("prices" :Str)>>(.ref pb)
 o:H ob>>(.lst (order.map iV))
 p:H pb>>(.lst (pr.map V.int))
theorem At54.same{d:D}{H H':Hp}{t b h bl dxB ob pb:Addr}{fsB:List (Str×V)}{T:TillD}{B:Bask}{hand pr:List Int}{order:List Nat}(s:Same H H')(a:At54 d H t b h bl dxB ob pb fsB T B hand pr order):At54 d H' t b h bl dxB ob pb fsB T B hand pr order:=⟨a.T.same s,a.B.same s,s _ _ a.h,s _ _ a.bl,a.lo,a.lp,s _ _ a.o,s _ _ a.p⟩
structure St54(d:D)(H6:Hp)(x:Addr)(A:AccD)(H:Hp):Prop where
 out:∃Hs,Same H6 H∧H6 x=none∧Same Hs H∧Hs x=none∧AccIn d Hs H x A
theorem St54.same{d:D}{H6 H H':Hp}{x:Addr}{A:AccD}(s:Same H H')(h:St54 d H6 x A H):St54 d H6 x A H':=by
 obtain⟨Hs,a1,a2,a3,a4,a5⟩:=h.out
 rwa[Hs,a1.trans s,a2,a3.trans s,a4,a5.same s]
inductive kjp(d:D)(vs:List V)(H:Hp)(Q:VK)(E_:XK):Prop
 |ct(H6:Hp)(t b h bl x dxB ob pb:Addr)(fsB:List (Str×V))(T:TillD)(B:Bask)(hand pr:List Int)(cg:Int)(order:List Nat)(A:AccD)(l n:Nat)(z:Int)(_:vs=[.ref t, .ref b, .ref h, .ref bl, .ref x,iV l,iV n])(_:At54 d H6 t b h bl dxB ob pb fsB T B hand pr order)(_:St54 d H6 x A H)(_:Num54 T B hand pr cg order A)(_:Wor54 T B pr cg)(_:A.many[l]?>>z)(_:1≤n)(_:(n:Int)≤z)(_:∀H',St54 d H6 x (tookB A l (z-n) n) H'→Q (.bl true) H'):kjp d vs H Q E_
theorem X1:kar ["_law_till","_law_basket","_law_hand","_law_bill","_law_account","_law_line","_law_many","_law_held","_law_back"] ["_law_till","_law_basket","_law_hand","_law_bill","_law_account","_law_line","_law_many"] (kai kcU):=by ac_rfl
theorem kge(W:WB K mg d base):FO P w W 18 d.Zs d.Zt ["_law_till","_law_basket","_law_hand","_law_bill","_law_account","_law_line","_law_many"] (kjp d):=by
 exists W.VO.F,X1
 ·obtain⟨H6,t,b,h,bl,x,dxB,ob,pb,fsB,T,B,hand,pr,cg,order,A,l,n,z,rfl,at6,st,N,wo,hz,hn1,hn2,kk⟩:=h
  exists Qg,kcH,W
  have Jr:=(kbP (P:=P) (w:=w) (base:=base) W).calm
  exists Uk,kgd,W
  exists Js,kgg,W
  exists Jt,kft,W
  have hr1:Room 1 _:=hr.mono (by decide)
  have hr10:Room 10 _:=hr.mono (by decide)
  refine⟨_,kab (psl (i:=7) X1.nd (pcl Qg hr1 W.Qn (kaa (pv 4) kae)))
   (kab (psl (i:=8) X1.nd (kbm (pv 4) W.qc.cl W.Qz.me Jr hr W.Qz.b .nil pass0 (kaa (pv 5) (kaa (pv 6) kae))))
   (kab (ps_if (PW.pt (pw_or (kdB (ka0 (pcl Uk hr1 W.Xl (kaa (pv 8) kae)))) (pw_or (kan op_lt (pv 8) kaf (kau _)) (pw_or (kdB (ka0 (pcl Uk hr1 W.Xl (kaa (kah (K:=K) (pv 4) rfl) kae)))) (kea (kan op_ne (kah (K:=K) (pv 4) rfl) (pe_op kcy (pe_ix (r:=rIxL K) kaG (pv 7) kaf (fun _ _=>rfl)) (pv 8)) (kau _))))))) (kag (kap pe_bl)) (kav))
   (kab (kjS (pe_ix (r:=rIxL K) kaG (pv 7) kaf (fun _ _=>rfl)) (pv 5) kiA (pv 6) knk set_list)
   (kab (ps_if (PW.pt (pw_or (kan (klW hr.units0) (kah (K:=K) (pv 4) rfl) (pe_ix (r:=rIxL K) kaG (pv 7) kaf (fun _ _=>rfl)) (kau _)) (kea (kan op_lt (kah (K:=K) (pv 4) rfl) kaf (kau _))))) (kag (kap pe_bl)) (kav))
   (kab (ps_if (kan op_eq (kah (K:=K) (pv 0) rfl) kbD (kau _)) (kag (kap (pcl Js hr10 W.VM (kaa (pv 0) (kaa (pv 1) (kaa (pv 2) (kaa (kah (K:=K) (pv 3) rfl) (kaa (pv 4) (kaa (pe_ix (r:=rIxL K) kaG (pv 7) kaf (fun _ _=>rfl)) (kaa (pv 8) kae)))))))))) (kav))
   (kag (kap (pcl Jt hr1 W.VN (kaa (pv 1) (kaa (pv 3) (kaa (pv 4) (kaa (pv 5) (kaa (pv 6) (kaa (pv 8) (kaa (kah (K:=K) (pv 3) rfl) kae))))))))))))))),?_⟩
  obtain⟨Hs,s6,f6,sS,fS,hA⟩:=st.out
  have tk:=N.took wo hz hn2
  have ht12:A.many.length≤12:=by rw[N.ok.ml];exact N.ok.nl
  rwa[8,Hs,x,A,6,sS,hA,N.ok.l8,ht12,fun H1 p m1 s1 fp fm hp=>?_]
  obtain⟨dx,ta,ba,hd,fp',o',fa',m',fs,hx,F,k⟩:=id (hA.same s1)
  rwa[8,x,dx,fs,6,hx,F.l11 _ (by cutsat),8,8, .inl ⟨Hs,x,l,n,z,A,rfl,sS.trans s1,fS,hA.same s1,N.ok,N.mode wo hz hn2,hz,hn1,hn2,fun Hs2 H2 t1 t2 t3 t4 hA2=>?_⟩]
  obtain⟨oP,fP,hp1,hp2,hp3,hp4,npm⟩:=hp.out
  have hp12:=kaQ t4 hx hp1
  have hm12:=kaQ t4 hx hp4
  have fs2m:Hs2 m1=none:=t3 m1 (by rw[hp4];intro z;cases z) (none_of sS fm)
  have f6m:H6 m1=none:=none_of s6 fm
  have s62:Same H6 H2:=kbi (s6.trans s1) t4 f6
  have fS2:Hs2 x=none:=t3 x (by rw[hx];intro z;cases z) fS
  have hme:=tk.me
  have hpe:=tk.pe
  have hb0:=tk.b0
  generalize hBk:backB A l (z-n) n=back at *
  obtain⟨dx2,ta2,ba2,hd2,fp2,o2,fa2,m2,fs2,hx2,F2,k2⟩:=id hA2
  rwa[8,back,6,8,iteF ?_]
  rwa[8,9,8,?_]
  rw[show decide (back<0)=false from decide_eq_false (Int.not_lt.mpr hb0)]
  refine iteF ?_
  rwa[8,x,d.qc,dx2,fs2,8,hx2,W.qc.cl,W.qH,F2.l8,8,8,iteF ?_]
  rwa[8,x,d.qc,dx2,fs2,8,hx2,W.qc.cl,W.qH,F2.l8,8,p,_,9,SqL.of hp12,6,8,9,6,?_]
  rw[show(!decide (V.int (tookB A l (z-n) n).paid=V.int (A.paid-back)))=false by rw[hpe];simp]
  rwa[8,iteF ?_]
  have hat:atI (A.many.map V.int) ((l:Nat):Int)>>(V.int z):=kaL (v:=V.int z) (by rw[NO,hz];rfl)
  have hl:=at_lt hz
  have hix:ixN (A.many.map V.int).length ((l:Nat):Int)>>l:=by
   unfold ixN
   rw[ND]
   simp[hl]
  rwa[8,p,_,9,SqL.of hp12,6,8,m1,_,9,SqL.of hm12,hat,8,9,m1,_,_,l,6,6,hm12,hix,?_]
  have b3:But m1 H2 (upd H2 m1 (.lst ((A.many.map V.int).set l (V.int (z-(n:Int)))))):=kaw (nx hm12)
  have e3:(upd H2 m1 (.lst ((A.many.map V.int).set l (V.int (z-(n:Int)))))) m1>>(.lst ((A.many.set l (z-n)).map V.int)):=by rw[kad,MU]
  have s63:Same H6 (upd H2 m1 (.lst ((A.many.map V.int).set l (V.int (z-(n:Int)))))):=kbi s62 b3 f6m
  have sS3:Same Hs2 (upd H2 m1 (.lst ((A.many.map V.int).set l (V.int (z-(n:Int)))))):=kbi t2 b3 fs2m
  generalize upd H2 m1 (.lst ((A.many.map V.int).set l (V.int (z-(n:Int)))))=H3 at *
  have nxm:x≠m1:=ne_of hx2 hm12 (by intro z;cases z)
  have hA3:=hA2.but b3 nxm
  have hx3:=b3 _ _ nxm hx2
  have hp3':=b3 _ _ npm hp12
  have hm3:H3 m2>>(.lst ((A.many.set l (z-n)).map V.int)):=by rw[←hme];exact sS3 _ _ k2.m
  rwa[8,x,d.qc,dx2,fs2,8,hx3,W.qc.cl,W.qp,F2.l7,8,p,_,9,SqL.of hp3',6,m2,m1,9,SqL.of hm3,SqL.of e3,khO _,khO _,8,?_]
  rw[kda (khO _)]
  refine iteF ?_
  rwa[8,x,d.qc,dx2,fs2,8,hx3,W.qc.cl,W.qH,F2.l8,9,8,?_]
  rw[show decide ((tookB A l (z-n) n).paid<0)=false from decide_eq_false (Int.not_lt.mpr tk.nx.pA)]
  refine iteF ?_
  have at3:=at6.same s63
  obtain⟨dxt,fst,tp,vl,rl,va,ra,ht,t1',t2',t3',t4',_⟩:=id at3.T
  have st3:St54 d H6 x (tookB A l (z-n) n) H3:=⟨Hs2,s63,f6,sS3,fS2,hA3⟩
  rwa[8,t,d.qg,dxt,fst,8,ht,W.qg.cl,W.QQ,t4',6,8,?_]
  have N':=tk.nx
  by_cases ag:T.bk=("again" :Str)
  ·rw[show decide (V.str T.bk=V.str "again")=true by rw[ag];simp]
   refine iteT ?_
   obtain⟨g1,g2,g3⟩:=tk.ag ag
   have e1:(tookB A l (z-n) n).T=T:=N'.eT
   have e2:(tookB A l (z-n) n).B=B:=N'.eB
   have e4:(tookB A l (z-n) n).hand=hand:=N'.eh
   rwa[8,8,8,8,bl,d.qh,dxB,fsB,8,at3.bl,W.qh.cl,W.Xv,at3.lo,8,8,p,_,9,SqL.of hp3',6,8,?_]
   rwa[Hs2,t,b,h,ob,x,tookB A l (z-n) n,order,A.paid,back,6,by rw[e1];exact at3.T,by rw[e2];exact at3.B,by rw[e4];exact at3.h,sS3,hA3,N'.ok,?_,at3.o,?_,?_,?_,N'.pm,N'.sb,fun H4 s4=>kk H4 (st3.same s4)]
   ·rw[e1,e2]
    exact kfT wo.wf N'.mo
   ·rw[e1,e2,e4,hme]
    exact g1
   ·rw[e1,e2,hme,←hBk]
    exact g2
   ·rw[e1,e2,hme]
    exact g3
  ·rw[show decide (V.str T.bk=V.str "again")=false from decide_eq_false fun z=>ag (by injection z)]
   refine iteF ?_
   obtain⟨q1,q2,q3,q4⟩:=N'.sh ag
   have e2:(tookB A l (z-n) n).B=B:=N'.eB
   have e3':(tookB A l (z-n) n).pr=pr:=N'.ep
   rwa[8,8,8,8,8,8,8,bl,d.qh,dxB,fsB,8,at3.bl,W.qh.cl,W.Xv,at3.lo,?_]
   have hzn:((z-n).toNat:Int)=z-n:=by lia
   have hfit:(mans (B.rs.take l)).sum+(z-n).toNat+n≤pr.length:=by
    rcases N.mode wo hz hn2 with⟨h1,_⟩|⟨_,_,h3⟩
    ·rw[N.eT] at h1
     exact absurd h1 ag
    ·rw[N.eB,N.ep] at h3
     lia
   rwa[Hs2,b,bl,x,ob,dxB,pb,fsB,l,(z-n).toNat,n,tookB A l (z-n) n,order,back,6,by rw[e2];exact at3.B,at3.bl,at3.lp,by rw[e3'];exact at3.p,sS3,hA3,N'.ok.nl,by rw[e2];exact wo.wf.ok,?_,by rw[e2,e3'];exact hfit,by rw[e2,e3',←hBk];exact tk.sh ag,q2,q3,q4,at3.o,fun H4 s4=>kk H4 (st3.same s4)]
   rw[hme,M3 hl,hzn]
theorem ki5(hl:hand.length=T.vs.length):∀(k:Nat)(used:List Nat)(S:Stnd),walkM T B hand used [] (stnd0 B)=(used,S)→(∀n∈used,n<T.vs.length)→∀q∈waysM T B hand k used S,walkM T B hand q.1 [] (stnd0 B)=(q.1,q.2)∧(onlyM T.rs q.1).isNone=true∧(∀n∈q.1,n<T.vs.length)∧q.1.length≤used.length+remM hand used
 |0,_,_,_,_,q,h=>by simp[waysM] at h
 | k +1,used,S,hw,hm,q,h=>by
  unfold waysM at h
  rcases Mj.mp h with h|h
  ·cases e:(onlyM T.rs used).isNone with
   |false=>rw[e] at h;simp at h
   |true=>
    rw[e,if_pos rfl] at h
    have eq:q=(used,S):=by simpa using h
    rw[eq]
    rwa[hw,e,hm,by show used.length≤_;lia]
  ·obtain⟨n,hn,h2⟩:=List.mem_flatMap.mp h
   have hc:=(Mi.mp hn).2
   obtain⟨hn1,hn2⟩:=keG hc
   have hr:=kf6 (hand:=hand) (used:=used) (n:=n) (by rw[hl];exact hn1) hn2
   obtain⟨V,hV⟩:=at_of hn1
   unfold canM at hc
   rw[hV] at hc
   have hd:dueM V T B hand used S n=.non:=of_decide_eq_true hc
   rw[hV] at h2
   have hw':walkM T B hand (used++[n]) [] (stnd0 B)=(used++[n],aftM V T.ps (kds B) S):=by
    rw[kgz hw hV,if_pos hd]
   obtain⟨q1,q2,q3,q4⟩:=ki5 hl k (used++[n]) _ hw' (fun m hm'=>by
    rcases Mj.mp hm' with h'|h'
    ·exact hm m h'
    ·have e:m=n:=by simpa using h'
     rw[e]
     exact hn1) q h2
   rw[NQ,MM] at q4
   rwa[q1,q2,q3,by lia]
theorem kmC{c:Bool}{A B U:Prop}(hA:A)(hU:c=false→A→U):if c=true then(if true=true then A else B) else U:=by
 cases c with
 |true=>exact iteT (iteT hA)
 |false=>exact iteF (hU rfl hA)
theorem qq:kar ["_law_script","_law_till","_law_basket","_law_hand","_law_let_by","_law_order","_law_bill","_law_account","_law_cell","_law_mixed","_law_lines","_law_line","_law_left","_law_wrong","_law_many"] ["_law_script"] (kai s_law):=by ac_rfl
theorem knc(W:WB K mg d base):FO P w W 19 d.f_law d.Zu ["_law_script"] (kgJ K d.tP_falling_groups):=by
 refine FunD.ok W.d_law.F qq (fun vs H Q E h=>?_) (fun cdv A outer s H vs Q E hr h=>?_)
 ·obtain⟨a,ns,rfl,_⟩:=h
  rfl
 ·obtain⟨a,ns,rfl,hS,hn,htb0,k⟩:=h
  exists Ju,keq,W
  exists Jv,kj4,W
  exists qr,kbr,W
  exists Qf,kc2,W
  exists QE,ke1,W
  exists Jw,ke8,W
  exists Qg,kcH,W
  exists Jx,ke4,W
  exists Jy,kge,W
  have hr1:Room 1 _:=hr.mono (by decide)
  have hr7:Room 7 _:=hr.mono (by decide)
  have hr9:Room 9 _:=hr.mono (by decide)
  have hr11:Room 11 _:=hr.mono (by decide)
  have hr17:Room 17 _:=hr.mono (by decide)
  refine⟨_,kab (keT (pcl Ju hr7 W.VH (kaa (pv 0) (kaa kaf (kaa kaf kae)))) (kbJ (K:=K) (n:=3) rfl (kaD (pgn (i:=1) qq.nd) (kaD (pgn (i:=2) qq.nd) (kaD (pgn (i:=3) qq.nd) kbI)))))
   (kab (psl (i:=4) qq.nd (pcl Jv hr17 W.VA (kaa (pv 1) (kaa (pv 2) (kaa (kaF (r:=kaS K) kax (by rfl) W.B.list ka9 (kaa (pv 3) kae)) kae)))))
   (kab (psl (i:=5) qq.nd (pe_ix (r:=rIxL K) kaG (pv 4) (pe_op kaA (pcl qr hr1 W.qy (kaa (pcl Qf hr1 W.Qa (kaa (pv 0) (kaa kaf kae))) (kaa kaf (kaa kaf kae)))) (kao (r:=kaJ K) kaq (by rfl) W.B.len b_len (kaa (pv 4) kae))) (fun _ _=>rfl)))
   (kab (psl (i:=6) qq.nd (pcl QE hr9 W.QK (kaa (pv 1) (kaa (pv 2) (kaa (kaF (r:=kaS K) kax (by rfl) W.B.list ka9 (kaa (pv 3) kae)) (kaa (kaF (r:=kaS K) kax (by rfl) W.B.list ka9 (kaa (pv 5) kae)) kae))))))
   (kab (psl (i:=7) qq.nd (kaT (W.Xy.mk' W.qc) Jw hr11 rfl W.qc.m W.Xy.b .nil pass0 (kaa (pv 1) (kaa (pv 2) (kaa (kaF (r:=kaS K) kax (by rfl) W.B.list ka9 (kaa (pv 3) kae)) (kaa (kaF (r:=kaS K) kax (by rfl) W.B.list ka9 (kaa (pv 5) kae)) kae))))))
   (kab (ps_if (kan (kna hr.units) (pcl Qg hr1 W.Qn (kaa (pv 7) kae)) (kaM (kaa (pv 5) (kaa (kaM kae) (kaa (kbq (N:=["_law_line"]) (CompScope.plain rfl (by cutsat) (by cutsat) (by cutsat) (nd1 _)) rfl (kaC (K:=K) (kah (K:=K) (pv 2) rfl)) (fun _ _ _ _=>pgn (i:=0) (nd1 _)) (fun _ _ _ _=>(kah (K:=K) (pv 0) rfl))) (kaa (kah (K:=K) (pv 6) rfl) (kaa kaf kae)))))) (kau _)) (kag (kap pe_bl)) (kav))
   (kab (kbo PassesOwn.never rfl (kaC (K:=K) (kb3 (r:=rSlL K) kcD (pv 0) kdY (kbX kaf))) (pgn (i:=8) qq.nd)
   (kab (psl (i:=9) qq.nd (pcl qr hr1 W.qy (kaa (pv 8) (kaa kaf (kaa kaf kae)))))
   (kab (kk1 (N:=["_law_k","_law_account"]) (CompScope.of (N:=["_law_k","_law_account"]) (cap:=[none,some 7]) (kai s_law).names ["_law_script","_law_till","_law_basket","_law_hand","_law_let_by","_law_order","_law_bill","_law_account","_law_cell","_law_mixed","_law_lines","_law_line","_law_left","_law_wrong","_law_many"] rfl rfl (by cutsat)) rfl (kcZ rfl W.B.range (kaa (kao (r:=kaJ K) kaq (by rfl) W.B.len b_len (kaa (kah (K:=K) (pv 7) rfl) kae)) kae)) (fun _ _ _ _=>pgn (i:=0) (show(["_law_k","_law_account"]:List Str).Nodup by cutsat)) (fun _ _ _ _=>kf9 (kan op_gt (pe_ix (r:=rIxL K) kaG (kah (K:=K) (pv 1) rfl) (pv 0) (fun _ _=>rfl)) kaf (kau _))) (fun _ _ _ _=>(pv 0)) (pgn (i:=10) qq.nd))
   (kag (ps_if (PW.pt (pw_or (kan op_eq (pe_op kaA (pv 9) kaf) kaf (kau _)) (kea (kan op_eq (kao (r:=kaJ K) kaq (by rfl) W.B.len b_len (kaa (pv 10) kae)) kaf (kau _))))) (kab (psl (i:=11) qq.nd (pe_op kaA (pe_op kaB (pv 9) kaf) (pe_op kbu (kao (r:=kaJ K) kaq (by rfl) W.B.len b_len (kaa (kah (K:=K) (pv 7) rfl) kae)) kaf)))
   (kab (psl (i:=12) qq.nd (pe_ix (r:=rIxL K) kaG (pe_op ke0 (kah (K:=K) (pv 7) rfl) (kaM (kaa kaf kae))) (pv 11) (fun _ _=>rfl)))
   (kab (psl (i:=13) qq.nd (pe_ix (r:=rIxL K) kaG (kaM (kaa (kce (kaa (pv 11) (kaa (pe_op kbu (pv 12) kaf) kae))) (kaa (kce (kaa (pv 11) (kaa kaf kae))) (kaa (kce (kaa (pe_un ki7 kaf) (kaa kaf kae))) (kaa (kce (kaa (kao (r:=kaJ K) kaq (by rfl) W.B.len b_len (kaa (kah (K:=K) (pv 7) rfl) kae)) (kaa kaf kae))) kae))))) (pe_op kaA (pe_op kaB (pv 9) kaf) kaf) (fun _ _=>rfl)))
   (kag (ps_if (kdB (ka0 (pcl Jx hr W.VJ (kaa (pv 7) (kaa (pe_ix (r:=rIxT K) kix (pv 13) kaf (fun _ _=>rfl)) (kaa (pe_ix (r:=rIxT K) kix (pv 13) kaf (fun _ _=>rfl)) kae)))))) (kag (kap pe_bl)) (kav)))))) (kab (psl (i:=11) qq.nd (pe_ix (r:=rIxL K) kaG (pv 10) (pe_op kaA (pe_op kaB (pv 9) kaf) (kao (r:=kaJ K) kaq (by rfl) W.B.len b_len (kaa (pv 10) kae))) (fun _ _=>rfl)))
   (kab (psl (i:=14) qq.nd (pe_op kbu kaf (pe_op kaA (pe_op kaB (pv 9) kaf) (pe_ix (r:=rIxL K) kaG (kah (K:=K) (pv 7) rfl) (pv 11) (fun _ _=>rfl)))))
   (kag (ps_if (kdB (ka0 (pcl Jy hr W.VO (kaa (pv 1) (kaa (pv 2) (kaa (pv 3) (kaa (pv 6) (kaa (pv 7) (kaa (pv 11) (kaa (pv 14) kae)))))))))) (kag (kap pe_bl)) (kav))))))))))
   (kag (kap pe_bl)))))))),?_⟩
  exists Y4
  rwa[8,a,ns,4,4,6,hS,hn,by decide,by decide,htb0,fun H1 w t b h T B hand s1 fh ew hT tok hB wf0 eh hl hnn hsum hr3 hrb hbk=>?_]
  have hsum4:hand.sum≤4:=hsum
  symm
  exists Y4
  rwa[w,8,SqT.of ew,6,_,8,_,8,9,?_]
  have erem:remM hand []≤4:=by have:=kjK hand hnn;lia
  obtain⟨hdeep,hwlen⟩:=kko (T:=T) (B:=B) (S:=stnd0 B) hl hnn (by lia)
  have hwo:=ki5 (T:=T) (B:=B) hl 10 [] (stnd0 B) rfl (fun n h=>by simp at h)
  nomatch 8,8,h,8, .inl (SqL.of eh),fun h2 fh2=>?_
  (generalize hg9:upd H1 h2 _=H2;obtain⟨n2,e2⟩:=kay hg9 fh2;clear hg9)
  symm
  exists Y4
  rwa[t,b,h2,T,B,hand,6,hT.same n2,tok,hB.same n2,wf0,e2,hl,hdeep,hwlen,fun H3 p ol s3 fp ep hol hnd hne=>?_]
  have s13:=n2.trans s3
  have lol:=hol.len
  rw[ND] at lol
  have lpos:0<(waysM T B hand 10 [] (stnd0 B)).length:=by
   unfold waysM
   rw[if_pos (show(onlyM T.rs []).isNone=true by
    unfold onlyM
    rw[show T.rs.find? (loneM [])=none from List.find?_eq_none.mpr fun r _=>by unfold loneM;simp]
    rfl),NQ,MM]
   lia
  generalize hws:waysM T B hand 10 [] (stnd0 B)=ws at *
  nomatch 8,a,ns,2,6,(s1.trans s13).seq hS,by decide,fun c=>⟨c,48271,2147483647,rfl,⟨by decide,by decide⟩,by decide,?_⟩
  nomatch p,8, .inl (SqL.of ep),9,(by show(0:Int)<_;rw[ND,lol];lia),?_
  obtain⟨j,ej,hj⟩:∃j:Nat,c*48271%2147483647%(((ol.map V.ref).length:Nat):Int)=(j:Int)∧j<ws.length:=by
   rw[ND,lol]
   have h0:=Int.emod_nonneg (c*48271%2147483647) (show(ws.length:Int)≠0 by lia)
   have h1:=Int.emod_lt_of_pos (c*48271%2147483647) (show(0:Int)<(ws.length:Int) by lia)
   obtain⟨j,hj⟩:=Int.eq_ofNat_of_zero_le h0
   symm
   rwa[j,hj,by lia]
  obtain⟨q,eq⟩:=at_of hj
  obtain⟨o,eo⟩:=at_of (xs:=ol) (i:=j) (by lia)
  obtain⟨q1,eq1,_,ho⟩:=hol.at eo
  obtain rfl:q1=q.1:=by
   rw[NO,eq] at eq1
   symm
   exact(Option.some.inj eq1).symm
  obtain⟨g1,g2,g3,g4⟩:=hwo q (NM eq)
  rw[MV,Eu] at g4
  have hf:kdl T B hand q.1=none:=kfw g1 (Option.isNone_iff_eq_none.mp g2)
  symm
  exists Y4
  rwa[p,_,9,SqL.of ep,by rw[ej];exact kaL (v:=.ref o) (by rw[NO,eo];rfl),?_]
  clear hol hnd hne hwo hdeep hwlen ej eo
  obtain⟨order,eord⟩:∃order,order=q.1:=⟨_,rfl⟩
  rw[←eord] at g1 g3 g4 hf ho
  nomatch 8,8,h,8, .inl (SqL.of (s13 _ _ eh)),fun h4 fh4=>?_
  (generalize hg9:upd H3 h4 _=H4;obtain⟨n4,e4⟩:=kay hg9 fh4;clear hg9)
  nomatch o,8, .inl (SqL.of (n4 _ _ ho)),fun o5 fo5=>?_
  (generalize hg9:upd H4 o5 _=H5;obtain⟨n5,e5⟩:=kay hg9 fo5;clear hg9)
  have s35:=n4.trans n5
  have s15:=s13.trans s35
  symm
  exists Y4
  rwa[t,b,h4,o5,T,B,hand,order,6,hT.same s15,tok,hB.same s15,wf0,n5 _ _ e4,e5,hl,g3,by lia,hf,fun H0 H6 bl z0 z6 hBl=>?_]
  have s56:=z0.trans z6
  have s36:=s35.trans s56
  have s16:=s15.trans s56
  nomatch 8,8,h,8, .inl (SqL.of (s16 _ _ eh)),fun h7 fh7=>?_
  (generalize hg9:upd H6 h7 _=H7;obtain⟨n7,e7⟩:=kay hg9 fh7;clear hg9)
  nomatch o,8, .inl (SqL.of ((s36.trans n7) _ _ ho)),fun o8 fo8=>?_
  (generalize hg9:upd H7 o8 _=H8;obtain⟨n8,e8⟩:=kay hg9 fo8;clear hg9)
  have s68:=n7.trans n8
  have s18:=s16.trans s68
  symm
  refine kne (hT.same s18) tok (hB.same s18) wf0 (n8 _ _ e7) e8 hl g3 (by lia) hf fun H9 x s9 fx hA _=>?_
  have wB:=kkN tok (o:=order) wf0
  have hpl:(kaX T B order).pr.length=(mans B.rs).sum:=wB.lp.trans (by rw[wB.ow,keB])
  have hpr:∀z∈(kaX T B order).pr,0≤z:=fun z hz=>(wB.pr z hz).1
  have hps:=kbC hpr
  have hcg:0≤(kaX T B order).cg:=wB.cg.1
  have htot:(kaX T B order).total=(kaX T B order).pr.sum+(kaX T B order).cg:=rfl
  have mo0:ManyOk B (B.rs.map fun r=>r.mn):=⟨ND ..,fun i z r e1 e2=>by
   rw[NO,e2] at e1
   have e3:r.mn=z:=Option.some.inj e1
   symm
   exact⟨by rw[←e3];exact(wf0.ok r (NM e2)).mn0,by lia⟩⟩
  have hB12:=wf0.nl
  have wo:Wor54 T B (kaX T B order).pr (kaX T B order).cg:=⟨hbk,wf0,hcg,hpr,hpl⟩
  have N0:Num54 T B hand (kaX T B order).pr (kaX T B order).cg order (acc0 T B hand order):=⟨rfl,rfl,rfl,rfl,⟨tok,hB12,ND ..,hl,g3,(by show order.length+0≤8;lia)⟩,mo0,(by show 0≤(kaX T B order).total;lia),(by show(order++[]).Perm order;rw[MQ]),Ez.refl _,fun _=>⟨by show(kaX T B order).total=_+remS B _ (B.rs.map fun r=>r.mn);rw[kjL hpl,htot];lia,rfl,rfl,rfl⟩⟩
  obtain⟨dxB,fsB,ob,sb,pb,sa,hbl,lo1,lo2,lo3,lo4,lo5,_,_,_,_,hob,_,_,hpb⟩:=id hBl
  have s69:=s68.trans s9
  have s39:=s36.trans s69
  have s19:=s18.trans s9
  nomatch H9,x,acc0 T B hand order,6,Same.refl _,hA,N0.ok.l8,(by show(B.rs.map _).length≤12;rw[ND];exact hB12),fun H10 p10 m10 s10 fp10 fm10 hp10=>?_
  nomatch by decide,fun f11 ff11=>?_
  generalize hg11:upd H10 f11 _=H11
  obtain⟨n11,(e11:H11 f11>>(.lst (([]:List Nat).map iV)))⟩:=kay hg11 ff11
  clear hg11
  have s111:=(s19.trans s10).trans n11
  obtain⟨lb,lsb,⟨dxb,fsb,hbb,b1,b2,b3⟩,hlb,hLb⟩:=id (hB.same s111)
  have hll:=hLb.len
  nomatch b,d.qf,dxb,fsb,8,hbb,W.qf.cl,W.qz,b1,lb,6,⟨_,SqL.of hlb⟩,kaW (xs:=lsb.map V.ref) (fun i σ ys H'=>H'=H11∧ys=((B.rs.take i).map fun r=>r.mn).map V.int∧∃v,σ=[v]) ⟨rfl,rfl,none,rfl⟩ (by rw[ND,hll];exact NR (kas (by lia))) ?_ ?_ ?_
  ·rintro i σ ys H' hi ⟨rfl,rfl,_⟩
   symm
   rwa[SqL.of hlb,by rw[ND,ND,NS];rw[ND] at hi;lia]
  ·rintro i y σ ys H' hy ⟨rfl,rfl,v,rfl⟩
   obtain⟨lx,el,rfl⟩:=kbZ hy
   obtain⟨r,er⟩:=at_of (xs:=B.rs) (i:=i) (by have:=at_lt el;lia)
   obtain⟨dxl,fsl,hlx,lk1,lk2,lk3,lk4⟩:=hLb.get el er
   symm
   exists Y6
   rwa[8,lx,d.qe,dxl,fsl,8,hlx,W.qe.cl,W.qO,lk3,6,?_,8]
   rw[take_snoc er,NL,NL]
   rfl
  rintro σ ys H11' ⟨rfl,rfl,v,rfl⟩ D fD
  rw[ND,hll,Ma]
  (generalize hg9:upd H11' D _=H12;obtain⟨n12,e12⟩:=kay hg9 fD;clear hg9)
  have s912:=(s10.trans n11).trans n12
  have s612:=s69.trans s912
  nomatch bl,d.qh,dxB,fsB,8,s612 _ _ hbl,W.qh.cl,W.QP,lo5,(by show 5≤sizeLine;decide),fun L fL=>?_
  (generalize hg9:upd H12 L _=H13;obtain⟨n13,e13⟩:=kay hg9 fL;clear hg9)
  have s913:=s912.trans n13
  have tL:ToldAt H13 L (acc0 T B hand order):=⟨o,f11,D,e13,(s39.trans s913) _ _ ho,(n12.trans n13) _ _ e11,n13 _ _ e12⟩
  obtain⟨xs,ys,d1,d2,d3⟩:=(hp10.at.same ((n11.trans n12).trans n13)).deq (K:=K) tL
  symm
  exists Y4
  rwa[p10,L,xs,ys,6,6,d1,d2,d3,8,?_]
  refine iteF ?_
  have s013:=((s1.trans s19).trans s913)
  nomatch 8,a,8,s013.seq hS,fun sl fsl=>?_
  have ecut:cutV (ns.map V.int) none (some 12)=(ns.take 12).map V.int:=by
   show cutV (ns.map V.int) none (some ((12:Nat):Int))=_
   rw[kiJ,MS]
  rw[ecut]
  (generalize hg9:upd H13 sl _=H14;obtain⟨n14,e14⟩:=kay hg9 fsl;clear hg9)
  have s914:=s913.trans n14
  have s814:=s9.trans s914
  obtain⟨dxx,fsx,hx9,foex⟩:=hA.obj
  have hx14:=s914 _ _ hx9
  have hA14:AccIn d (Vs.rmv x H14) H14 x (acc0 T B hand order):=((hA.same s914).kept s914).rmv hx14 foex
  have nslx:sl≠x:=(ne_of hx14 e14 (by intro z;cases z)).symm
  have e14':(Vs.rmv x H14) sl>>(.lst ((ns.take 12).map V.int)):=(kfB nslx).trans e14
  have u8:Same H8 (Vs.rmv x H14):=kbi s814 (keR (nx hx14)) fx
  have at0:At54 d (Vs.rmv x H14) t b h bl dxB ob pb fsB T B hand (kaX T B order).pr order:=At54.same u8 ⟨hT.same s18,hB.same s18,s18 _ _ eh,s68 _ _ hbl,lo1,lo3,s68 _ _ hob,s68 _ _ hpb⟩
  have st0:St54 d (Vs.rmv x H14) x (acc0 T B hand order) H14:=⟨Vs.rmv x H14,kf4,kfC,kf4,kfC,hA14⟩
  generalize Vs.rmv x H14=Hb at *
  generalize acc0 T B hand order=A0 at *
  generalize (kaX T B order).pr=pr at *
  generalize (kaX T B order).cg=cg at *
  clear hA hA14 hBl hbl hob hpb hp10 tL d1 d2 d3
  symm
  exists Y4
  refine⟨sl,rfl,⟨_,SqL.of e14⟩,ka7 (xs:=(ns.take 12).map V.int) (fun i σ H'=>∃(A:AccD)(v8 v9 v10 v11 v12 v13 v14:Option V),St54 d Hb x A H'∧Num54 T B hand pr cg order A∧σ=[some (.ref a),some (.ref t),some (.ref b),some (.ref h),some (.ref p),some (.ref o),some (.ref bl),some (.ref x),v8,v9,v10,v11,v12,v13,v14])
   ⟨A0,none,none,none,none,none,none,none,st0,N0,rfl⟩ (fun i σ H' _ h=>by
    obtain⟨A,_,_,_,_,_,_,_,st,_⟩:=h
    obtain⟨Hs,q1,_⟩:=st.out
    symm
    exact SqL.of (q1 _ _ e14')) ?_ ?_⟩
  ·rintro i y σ Hi hy ⟨A,v8,v9,v10,v11,v12,v13,v14,st,N,rfl⟩
   obtain⟨c,ec,rfl⟩:=kbj hy
   obtain⟨Hs,sB,fB,sS,fS,hA⟩:=st.out
   symm
   exists Y6
   rwa[8,c,40692,2147483579,6,⟨by decide,by decide⟩,by decide,?_]
   have hm0:0≤c*40692%2147483579:=Int.emod_nonneg _ (by decide)
   generalize c*40692%2147483579=mx at *
   obtain⟨dx,ta,ba,hd,fp',o',fa',m',fs,hx,F,ka⟩:=id hA
   have hm':=sS _ _ ka.m
   have ml12:A.many.length≤12:=by rw[N.ok.ml];exact N.ok.nl
   nofun
   exists Y6
   rwa[8,x,d.qc,dx,fs,8,hx,W.qc.cl,W.qp,F.l7,m',8, .inl (SqL.of hm'),8,by rw[ND];lia,by rw[ND];lia,?_]
   rw[ND,Int.toNat_natCast]
   nofun
   refine kfk (fun i σ ys H'=>H'=Hi∧∃(ks:List Nat)(v0:Option V),ys=ks.map iV∧ks.length≤i∧(∀k∈ks,∃z,A.many[k]?>>z∧0<z)∧σ=[v0,some (.ref x)]) ⟨rfl,[],none,rfl,NG _,(fun k hk=>by cases hk),rfl⟩ (NR (kas (by lia))) (fun i σ ys H' _ h=>by
    obtain⟨_,ks,v0,rfl,hk,_⟩:=h
    rw[ND]
    nofun
    exact hk) ?_ ?_
   ·rintro i σ ys H' hi' ⟨rfl,ks,v0,rfl,hkl,hks,rfl⟩
    rw[Int.zero_add]
    obtain⟨z,ez⟩:=at_of (xs:=A.many) (i:=i) hi'
    nofun
    exists Y8
    rwa[8,x,d.qc,dx,fs,8,hx,W.qc.cl,W.qp,F.l7,8,m',_,9,SqL.of hm',kaL (v:=.int z) (by rw[NO,ez];rfl),9,8,?_]
    by_cases hz:0<z
    ·rw[show decide ((0:Int)<z)=true from decide_eq_true hz]
     refine iteT ?_
     exists 3
     exists Y10
     rwa[8,6,ks++[i],_,by rw[NL];rfl,by rw[NQ];show _+1≤_;lia,fun k hk=>?_,6]
     rcases Mj.mp hk with hk|hk
     ·exact hks k hk
     ·rw[MO.mp hk]
      try first|apply Y10|apply Y8|apply Y6|apply Y4
      rwa[z,ez,hz]
    ·rw[show decide ((0:Int)<z)=false from decide_eq_false hz]
     refine iteF ?_
     try first|apply Y10|apply Y8|apply Y6|apply Y4
     rwa[6,ks,8,by lia,hks,6]
   rintro σ ys H' ⟨rfl,ks,v0,rfl,hkl,hks,rfl⟩ D fD
   (generalize hg9:upd H' D _=H15;obtain⟨n15,e15⟩:=kay hg9 fD;clear hg9)
   have st15:=st.same n15
   have hx15:=n15 _ _ hx
   have hm15:=n15 _ _ hm'
   nofun
   exists Y6
   rwa[8,9,(by show(0:Int)<7;decide),6,8,kmC ?_ fun hc br1=>?_]
   ·rwa[8,7,8,x,d.qc,dx,fs,8,hx15,W.qc.cl,W.qp,F.l7,m',8, .inl (SqL.of hm15),9,9,(by show(0:Int)<_;lia),?_]
    obtain⟨j',ej',hj'⟩:∃j:Nat,mx/7%((((A.many.map V.int).length:Nat):Int)+1)=(j:Int)∧j≤A.many.length:=by
     rw[ND]
     have h0:=Int.emod_nonneg (mx/7) (show(A.many.length:Int)+1≠0 by lia)
     have h1:=Int.emod_lt_of_pos (mx/7) (show(0:Int)<(A.many.length:Int)+1 by lia)
     obtain⟨j,hj⟩:=Int.eq_ofNat_of_zero_le h0
     nofun
     rwa[j,hj,by lia]
    dsimp only
    rw[ej']
    nofun
    exists Y8
    rwa[8,x,d.qc,dx,fs,8,hx15,W.qc.cl,W.qp,F.l7,(by show 1≤sizeLine;decide),fun q1 fq1=>?_]
    (generalize hg9:upd H15 q1 _=H16;obtain⟨n16,e16⟩:=kay hg9 fq1;clear hg9)
    exists 3
    exists Y8
    rwa[m',q1,9,n16 _ _ hm15,e16,NR (kas (by rw[ND];show _+1≤1000;lia)),fun q2 fq2=>?_]
    (generalize hg9:upd H16 q2 _=H17;obtain⟨n17,e17⟩:=kay hg9 fq2;clear hg9)
    have e17':H17 q2>>(.lst ((A.many++[0]).map V.int)):=by rw[e17,NL];rfl
    have s1517:=n16.trans n17
    obtain⟨lf,elf⟩:=at_of (xs:=A.many++[0]) (i:=j') (by rw[NQ];show _<_+1;lia)
    exists 3
    exists Y8
    rwa[8,q2,_,9,SqL.of e17',kaL (v:=.int lf) (by rw[NO,elf];rfl),?_]
    have hno0:hasM A.many (j':Int) (lf+1)=false:=by
     unfold hasM
     rw[Int.toNat_natCast]
     by_cases hj2:j'<A.many.length
     ·rw[En hj2] at elf
      rw[N1,elf,show decide (lf+1≤(some lf).getD 0)=false from decide_eq_false (by show ¬lf+1≤lf;lia)]
      simp
     ·rw[show decide ((j':Int)<(A.many.length:Nat))=false from decide_eq_false (by lia)]
      simp
    have hno1:hasM A.many (j':Int) 0=false:=by
     unfold hasM
     simp
    have hno2:hasM A.many (-1) 1=false:=by
     unfold hasM
     rw[show decide ((0:Int)≤-1)=false from by decide]
     rfl
    have hno3:hasM A.many (A.many.length:Int) 1=false:=by
     unfold hasM
     rw[show decide ((A.many.length:Int)<(A.many.length:Nat))=false from decide_eq_false (by lia)]
     simp
    exists 3
    exists Y8
    rwa[8,8,9,(by show 2≤sizeLine;decide),fun u1 fu1=>?_]
    (generalize hg9:upd H17 u1 _=H18;obtain⟨n18,e18⟩:=kay hg9 fu1;clear hg9)
    exists 3
    exists Y8
    rwa[8,(by show 2≤sizeLine;decide),fun u2 fu2=>?_]
    (generalize hg9:upd H18 u2 _=H19;obtain⟨n19,e19⟩:=kay hg9 fu2;clear hg9)
    exists 3
    exists Y8
    rwa[8,(by show 2≤sizeLine;decide),fun u3 fu3=>?_]
    generalize hg20:upd H19 u3 _=H20
    obtain⟨n20,(e20:H20 u3>>(.tup [V.int (-1),V.int 1]))⟩:=kay hg20 fu3
    clear hg20
    have s1520:=((s1517.trans n18).trans n19).trans n20
    exists 3
    exists Y8
    rwa[8,x,d.qc,dx,fs,8,s1520 _ _ hx15,W.qc.cl,W.qp,F.l7,m',8, .inl (SqL.of (s1520 _ _ hm15)),(by show 2≤sizeLine;decide),fun u4 fu4=>?_]
    generalize hg21:upd H20 u4 _=H21
    obtain⟨n21,(e21:H21 u4>>(.tup [V.int (((A.many.map V.int).length:Nat):Int),V.int 1]))⟩:=kay hg21 fu4
    clear hg21
    rw[ND] at e21
    exists 3
    exists Y8
    rwa[(by show 4≤sizeLine;decide),fun u5 fu5=>?_]
    (generalize hg9:upd H21 u5 _=H22;obtain⟨n22,e22⟩:=kay hg9 fu5;clear hg9)
    have s1522:=(s1520.trans n21).trans n22
    have hr0:=Int.emod_nonneg (mx/60) (show(4:Int)≠0 by decide)
    have hr1:=Int.emod_lt_of_pos (mx/60) (show(0:Int)<4 by decide)
    obtain⟨u,l,n,eu,hu,hno⟩:∃(u:Addr)(l n:Int),atI [V.ref u1,V.ref u2,V.ref u3,V.ref u4] (mx/60%4)>>(.ref u)∧H22 u>>(.tup [.int l, .int n])∧hasM A.many l n=false:=by
     rcases(show mx/60%4=0∨mx/60%4=1∨mx/60%4=2∨mx/60%4=3 by lia) with e|e|e|e
     ·rw[e]
      exists 3
      rwa[u1,_,8,n22 _ _ (n21 _ _ (n20 _ _ (n19 _ _ e18))),hno0]
     ·rw[e]
      exists 3
      rwa[u2,_,8,n22 _ _ (n21 _ _ (n20 _ _ e19)),hno1]
     ·rw[e]
      exists 3
      rwa[u3,_,8,n22 _ _ (n21 _ _ e20),hno2]
     ·rw[e]
      exists 3
      rwa[u4,_,8,n22 _ _ e21,hno3]
    exists 3
    exists Y8
    rwa[8,7,9,(by show(0:Int)<4;decide),u5,_,9,SqL.of e22,eu,?_]
    have st22:=st15.same s1522
    have sSi:=(sS.trans n15).trans s1522
    exists 3
    rwa[8,8,u,_,9,SqT.of hu,6,8,u,_,9,SqT.of hu,6,Hs,x,l,n,A,6,sSi,(hA.same n15).same s1522,N.ok.l8,ml12,hno,fun H23 s23=>⟨_,rfl,iteF ⟨A,_,_,_,_,_,_,_,st22.same s23,N,rfl⟩⟩]
   ·rwa[8,D,8, .inl (SqL.of e15),6,8,ite2 (fun _=>br1) (fun h2=>?_)]
    clear br1
    have hk0:0<ks.length:=by
     have:¬V.int (((ks.map iV).length:Nat):Int)=V.int 0:=by simpa using h2
     rw[ND] at this
     rcases Nat.eq_zero_or_pos ks.length with z|z
     ·exact absurd (by rw[z];rfl) this
     ·exact z
    exists 3
    exists Y8
    rwa[8,8,7,8,D,8, .inl (SqL.of e15),9,(by show(0:Int)<_;rw[ND];lia),?_]
    obtain⟨j',ej',hj'⟩:∃j:Nat,mx/7%(((ks.map iV).length:Nat):Int)=(j:Int)∧j<ks.length:=by
     rw[ND]
     have h0:=Int.emod_nonneg (mx/7) (show(ks.length:Int)≠0 by lia)
     have h1:=Int.emod_lt_of_pos (mx/7) (show(0:Int)<(ks.length:Int) by lia)
     obtain⟨j,hj⟩:=Int.eq_ofNat_of_zero_le h0
     exists 3
     rwa[j,hj,by lia]
    obtain⟨l,el⟩:=at_of hj'
    obtain⟨z,hz,hz0⟩:=hks l (NM el)
    exists 3
    exists Y8
    rwa[D,_,9,SqL.of e15,by rw[ej'];exact kaL (v:=iV l) (by rw[NO,el];rfl),?_]
    exists 3
    exists Y8
    rwa[8,7,8,x,d.qc,dx,fs,8,hx15,W.qc.cl,W.qp,F.l7,8,m',_,9,SqL.of hm15,kaL (v:=.int z) (by rw[NO,hz];rfl),9,hz0,9,?_]
    obtain⟨n,en,hn1,hn2⟩:∃n:Nat,1+mx/60%z=(n:Int)∧1≤n∧(n:Int)≤z:=by
     have h0:=Int.emod_nonneg (mx/60) (show z≠0 by lia)
     have h1:=Int.emod_lt_of_pos (mx/60) hz0
     obtain⟨n,hn⟩:=Int.eq_ofNat_of_zero_le (show 0≤1+mx/60%z by lia)
     exists 3
     rwa[n,hn,by lia,by lia]
    dsimp only
    rw[en]
    exists 3
    rwa[8,8,8,8,8,8,8,Hb,t,b,h,bl,x,dxB,ob,pb,fsB,T,B,hand,pr,cg,order,A,l,n,z,6,at0,st15,N,wo,hz,hn1,hn2,fun H16 st16=>⟨_,rfl,iteF ⟨_,_,_,_,_,_,_,_,st16,(N.took wo hz hn2).nx,rfl⟩⟩]
  ·rintro σ H' ⟨A,v8,v9,v10,v11,v12,v13,v14,st,N,rfl⟩
   nofun
   exact k _
end
end Vs
namespace Vs
open PySem L2
theorem ln0{C:List Value→Prop}(k:C []):∀us:List Value,us.length=0→C us:=fun us h=>by
 cases us with
 |nil=>exact k
 |cons a us=>cases h
theorem lnS{C:List Value→Prop}{n:Nat}(k:∀(a:Value)(us:List Value),us.length=n→C (a::us)):∀us:List Value,us.length=n+1→C us:=fun us h=>by
 cases us with
 |nil=>cases h
 |cons a us=>exact k a us (Nat.succ.inj h)
def nL1{C:List Value→Prop}(k:∀a0:Value,C [a0]):∀us:List Value,us.length=1→C us:=lnS fun a0=>ln0 (k a0)
def nL2{C:List Value→Prop}(k:∀a0 a1:Value,C [a0,a1]):∀us:List Value,us.length=2→C us:=lnS fun a0=>lnS fun a1=>ln0 (k a0 a1)
def nL3{C:List Value→Prop}(k:∀a0 a1 a2:Value,C [a0,a1,a2]):∀us:List Value,us.length=3→C us:=lnS fun a0=>lnS fun a1=>lnS fun a2=>ln0 (k a0 a1 a2)
def nL4{C:List Value→Prop}(k:∀a0 a1 a2 a3:Value,C [a0,a1,a2,a3]):∀us:List Value,us.length=4→C us:=lnS fun a0=>lnS fun a1=>lnS fun a2=>lnS fun a3=>ln0 (k a0 a1 a2 a3)
def nL5{C:List Value→Prop}(k:∀a0 a1 a2 a3 a4:Value,C [a0,a1,a2,a3,a4]):∀us:List Value,us.length=5→C us:=lnS fun a0=>lnS fun a1=>lnS fun a2=>lnS fun a3=>lnS fun a4=>ln0 (k a0 a1 a2 a3 a4)
def nL6{C:List Value→Prop}(k:∀a0 a1 a2 a3 a4 a5:Value,C [a0,a1,a2,a3,a4,a5]):∀us:List Value,us.length=6→C us:=lnS fun a0=>lnS fun a1=>lnS fun a2=>lnS fun a3=>lnS fun a4=>lnS fun a5=>ln0 (k a0 a1 a2 a3 a4 a5)
def nL7{C:List Value→Prop}(k:∀a0 a1 a2 a3 a4 a5 a6:Value,C [a0,a1,a2,a3,a4,a5,a6]):∀us:List Value,us.length=7→C us:=lnS fun a0=>lnS fun a1=>lnS fun a2=>lnS fun a3=>lnS fun a4=>lnS fun a5=>lnS fun a6=>ln0 (k a0 a1 a2 a3 a4 a5 a6)
def bd_mk{K:NF}{fd:FuncData}{ps:List Str}{ds:List Value}{n:Nat}(hn:n+ds.length=ps.length)(k:∀s:Shared,K.In s.heap→∀us:List Value,us.length=n→BindsTo s fd ⟨us,[]⟩ (ps.zip (us++ds))):Binds K fd ps ds:=fun s us KX hl=>k s KX us (by rw[NQ] at hl;lia)
def dn_mk{K:NF}{st:Stmt}{ps:List Str}{f:Addr}{oc:Value}{od an:Option Addr}{osl:Array (Option Value)}{kV doc pm cdv ct:Value}{h:Heap}{mg:Str→Option Value}{x:Str}(X:K.In h)(G:h.Ns mainGlobals mg)(a:NV K mainGlobals x>>(some (.ref f)))(l:K.lookup f>>⟨oc,od, .func (NY x x (kaH st) (kaE st) (kai st) .none kV doc pm an cdv ct),osl⟩)(c:Mo K cdv x=true)(k:NZ K (.ref f)=true)(b:∀(kV doc pm:Value)(an:Option Addr)(cdv ct:Value),∀us:List Value,us.length=ps.length→bindArgs (NY x x (kaH st) (kaE st) (kai st) .none kV doc pm an cdv ct) ⟨us,[]⟩=pure (ps.zip us)):Dn K mg x st ps f (NY x x (kaH st) (kaE st) (kai st) .none kV doc pm an cdv ct):=⟨kbB l c k,Binds.all (b _ _ _ _ _ _),N8 X G a⟩
def mt_mk{K:NF}{st:Stmt}{ps:List Str}{f:Addr}{oc:Value}{od an:Option Addr}{osl:Array (Option Value)}{kV doc pm cdv ct:Value}{m qual:Str}{C:Addr}(a:NH K (.ref C) m>>(some (.ref f)))(i:Mw K (.ref f)=true)(l:K.lookup f>>⟨oc,od, .func (NY m qual (kaH st) (kaE st) (kai st) .none kV doc pm an cdv ct),osl⟩)(c:Mo K cdv qual=true)(k:NZ K (.ref f)=true)(b:∀(kV doc pm:Value)(an:Option Addr)(cdv ct:Value),∀us:List Value,us.length=ps.length→bindArgs (NY m qual (kaH st) (kaE st) (kai st) .none kV doc pm an cdv ct) ⟨us,[]⟩=pure (ps.zip us)):MthT K C m qual st ps f (NY m qual (kaH st) (kaE st) (kai st) .none kV doc pm an cdv ct):=⟨a,i,kbB l c k,Binds.all (b _ _ _ _ _ _)⟩
theorem all_mk{l:PySem.W.OpenLaw}{w:World}{K:NF}{h:Heap}{mg:Str→Option Value}{fa zgr zfs z3b zgp zhh z98 zhm zfn z3p z2r z65 z3s zx z40 z88 z4r zby zgt ze5 z4i z59 z5d z2z ze7 ze8 z8n z74 z58 zai z57 z5x z5y z41 z2w z2o z5k z4c z7e z7b z54 z4k z72 z6e z78 zc8 zl z19 z3v zg zs z21 zn z1u z6f zf z1a z3w zb zv z1r zd zz z2j zc zu z1t zq z1m z4y zj zy z2n ze z4j z3l zp zah z5j z6z z47 z49 zm z97 zr z1c z4v za z5s z1x z24 z26 z1g z1n z1w z1p zo zi z9r z4x zk z50:Addr}{z7m z2g zjj zhi zbu z66 zbt z9l z4u za0 zec z90 zfh zc4 z6k zcd z8b z37 z94 zaw z52 zbg z9a z3m z8z zda z6x ze0 zbh z51 zbd zd7 z77 zdw z6o:Option Addr}{z7y zji zcn zcl z9f z9t zex zf0 zbr zc6 z8a z89 zat zal z8w z8y zdu zd8 zbl zb6 zcw zdl z6p:Array (Option Value)}{z7i z35 z2a z31 zw z2p zje zhe zhl zhk zfc zhg zco z6i z6a z69 z2h z6l zcb za5 z4n z46 z4e z1s z43 za6 zfj z8k z8m z8u z4w z8s zf6 zbz z6b z6g z6m z2f z6h zbx z8l z3h z3e z3n z1b z39 z84 zb0 z5o z5q z5t z22 z5z zap z93 z36 z3o z3a z1k z3r z8q zd2 z7a z6y z6v z3x z6u zcy zam z5u z5g z5r z23 z5p zau zcr z6t z7d z7c z3y z7f zcq z28:Value}{zc1 z3f z9k zee zck z85 zbm z8h zcu zbc z2t zdi z4b z29 z2c z2x:Nat}{zft zgo z3k zg2 zhj z95 zhf zfy z3g z2u z68 z3i z4h z8d z4m zc2 zgf ze3 z48 z53 z56 z2s ze2 ze4 z8e z73 z5v zad z5l z5e z5w z4q z32 z2y z5n z4d z70 z76 z55 z44 z6s z6c z79 z4f z3d zae z5b z6w z4l z45 z96 z60 z1z z27 z25 z1d z1o z1v z1q:FuncData}{zh:Array Value}{z2d:Str}{z2b z2l:Int}{z2e:Bool}{ts:List Addr}(X:K.In h)(G:h.Ns mainGlobals mg)(hfa:mg "law">>(.ref fa))
  (zj0:Dn K mg "dealt" khA ["cut","weights"] zgr zft)
  (zia:Dn K mg "under" khy ["parents","one","other"] zfs zgo)
  (z86:Dn K mg "price_of_piece" kbT ["line","member"] z3b z3k)
  (zij:Dn K mg "about" keQ ["voucher","parents","basket","standing"] zgp zg2)
  (zjn:Dn K mg "fits" kjH ["marks","parents","kind","marked"] zhh zhj)
  (zeu:Dn K mg "hindrance" kdq ["voucher","parents","basket","standing"] z98 z95)
  (zjr:Dn K mg "cuts" kjI ["voucher","parents","basket","standing"] zhm zhf)
  (zim:Dn K mg "after" khB ["voucher","parents","basket","standing"] zfn zfy)
  (z8f:Dn K mg "cuts_of_pieces" kbV ["voucher","parents","basket","standing"] z3p z3g)
  (z7j:Dn K mg "cut_of_carriage" kbF ["voucher","standing"] z2r z2u)
  (zcm:Dn K mg "wanted_cuts" kbh ["voucher","standing","pieces"] z65 z68)
  (z9b:Dn K mg "parted_by_line" kbU ["standing","pieces"] z3s z3i)
  (z99:NV K mainGlobals "falling_groups">>(some (.ref zx)))(z91:K.lookup zx>>⟨z7i,z7m, .func (NY "falling_groups" "falling_groups" (kaH kaI) (kaE kaI) (kai kaI) .none z35 z2a z31 z2g zw z2p),z7y⟩)(z8r:Mo K zw "falling_groups"=true)(z8x:NZ K (.ref zx)=true)
  (z9q:Dn K mg "marked_behind" kb8 ["voucher","standing","piece_cuts"] z40 z4h)
  (zfg:Dn K mg "prices_of" kcE ["standing","pieces"] z88 z8d)
  (z9e:Dn K mg "sum_of_prices" kb7 ["standing","pieces"] z4r z4m)
  (zh7:Dn K mg "at_most" keP ["most","number"] zby zc2)
  (ziv:Dn K mg "fault" khz ["till","basket","hand","order"] zgt zgf)
  (zi7:Dn K mg "way_by" kf1 ["till","basket","hand","order"] ze5 ze3)
  (z9s:Dn K mg "word_of_order" kb6 ["till","hand","used","number"] z4i z48)
  (zak:Dn K mg "breaks_never" kco ["rules","used","number"] z59 z53)
  (zaz:Dn K mg "breaks_ahead" kcp ["rules","used","number"] z5d z56)
  (z7v:Dn K mg "without_company" kbE ["rules","order"] z2z z2s)
  (zhr:Dn K mg "priced" kf2 ["till","basket","hand","order"] ze7 ze2)
  (zhz:Dn K mg "orders" kf3 ["till","basket","hand"] ze8 ze4)
  (zf8:Dn K mg "ways_from" kdp ["way"] z8n z8e)
  (zdt:Dn K mg "_law_whole" kcT ["_law_found"] z74 z73)
  (zao:Dn K mg "_law_cell_at" kcv ["_law_script","_law_k"] z58 z5v)
  (zg9:Dn K mg "_law_mix" kdU ["_law_cell","_law_factor","_law_prime"] zai zad)
  (zb1:Dn K mg "_law_coin_by" kcu ["_law_cell"] z57 z5l)
  (zbf:Dn K mg "_law_coin_of" kct ["_law_cell","_law_scale"] z5x z5e)
  (zb9:Dn K mg "_law_line_by" kcr ["_law_cell","_law_kinds","_law_scale","_law_most"] z5y z5w)
  (z9v:Dn K mg "_law_marks_by" kca ["_law_cell","_law_kinds","_law_scale"] z41 z4q)
  (z7o:Dn K mg "_law_voucher_by" kbG ["_law_cell","_law_kinds","_law_scale"] z2w z32)
  (z7l:Dn K mg "_law_parents_by" kbH ["_law_cell"] z2o z2y)
  (zas:Dn K mg "_law_hand_by" kcs ["_law_more_held","_law_vouchers","_law_most_held","_law_first"] z5k z5n)
  (z9y:Dn K mg "_law_world_by" kb9 ["_law_script","_law_most_vouchers","_law_most_held"] z4c z4d)
  (zdh:Dn K mg "_law_stays" kcV ["_law_basket","_law_many"] z7e z70)
  (zdy:Dn K mg "_law_state" kcW ["_law_account"] z7b z76)
  (zan:Dn K mg "_law_refused" kcq ["_law_account","_law_line","_law_many"] z54 z55)
  (z9o:Dn K mg "_law_in_order" kcb ["_law_some","_law_order"] z4k z44)
  (zds:Dn K mg "_law_again" kcX ["_law_till","_law_basket","_law_hand","_law_order","_law_account","_law_paid","_law_back"] z72 z6s)
  (zcj:Dn K mg "_law_shares" kcF ["_law_basket","_law_bill","_law_account","_law_line","_law_many","_law_back","_law_order"] z6e z6c)
  (zd6:Dn K mg "_law_taken" kcU ["_law_till","_law_basket","_law_hand","_law_bill","_law_account","_law_line","_law_many"] z78 z79)
  (zio:NV K mainGlobals "law">>(some (.ref zc8)))(zk0:K.lookup zc8>>⟨zje,zjj, .func (NY "law" "law" (kaH s_law) (kaE s_law) (kai s_law) .none zhe zhl zhk zhi zfc zhg),zji⟩)(zk1:Mo K zfc "law"=true)(zk3:NZ K (.ref zc8)=true)
  (zix:NV K mainGlobals "Marks">>(some (.ref zl)))
  (zi0:NN K zl (.type "object")>>true)(zi3:NN K zl (.ref zl)>>true)(zhw:Mn K (.ref zl)>>(.type "type"))
  (inX:EC K (.builtin "object.__class__") "__get__">>(some (.builtin "getset_descriptor.__get__")))(itX:Dj K (.builtin "object.__class__")>>true)
  (zi6:Mm K zl Str.empty=true)(zi2:Mp K zl=true)(zhv:Mu K zl=true)(zhq:NH K (.ref zl) "__setattr__">>(some (.builtin "object.__setattr__")))(zhn:Mq K zl=true)(zi1:NZ K (.ref zl)=true)(zi4:NH K (.ref zl) "__class__">>(some (.builtin "object.__class__")))
  (zdn:NH K (.ref zl) "kind">>none)
  (zc5:NH K (.ref zl) "needs">>none)
  (zdz:NH K (.ref zl) "most">>none)
  (zb3:NH K (.ref zl) "member">>none)
  (zdr:NH K (.ref zl) "once">>none)
  (zcx:NH K (.ref zl) "lone">>none)
  (zdc:NH K (.ref zl) "__init__">>(some (.ref z19)))(zcs:Mw K (.ref z19)=true)(zd4:K.lookup z19>>⟨zco,zbu, .func (NY "__init__" "Marks.__init__" (kaH ka4) (kaE ka4) (kai ka4) (.ref z3v) z6i z6a z69 z66 z2h z6l),zcn⟩)(zdk:Mo K z2h "Marks.__init__"=true)(zd3:NZ K (.ref z19)=true)(zt:K.lookup z3v>>⟨zcb,zbt, .seq #[.none, .int 0 z3f, .none, .bool false, .bool false, .bool false] zc1,zcl⟩)
  (zhd:NV K mainGlobals "Voucher">>(some (.ref zg)))
  (zgc:NN K zg (.type "object")>>true)(zgk:NN K zg (.ref zg)>>true)(zg4:Mn K (.ref zg)>>(.type "type"))
  (zfp:Mm K zg Str.empty=true)(zgq:Mp K zg=true)(zfo:Mu K zg=true)(zfu:NH K (.ref zg) "__setattr__">>(some (.builtin "object.__setattr__")))(zgs:Mq K zg=true)(zfq:NZ K (.ref zg)=true)(zgn:NH K (.ref zg) "__class__">>(some (.builtin "object.__class__")))
  (zb5:NH K (.ref zg) "__init__">>(some (.ref zs)))(zav:Mw K (.ref zs)=true)(zaq:K.lookup zs>>⟨za5,z9l, .func (NY "__init__" "Voucher.__init__" (kaH kaU) (kaE kaU) (kai kaU) (.ref z21) z4n z46 z4e z4u z1s z43),z9f⟩)(zb2:Mo K z1s "Voucher.__init__"=true)(zb4:NZ K (.ref zs)=true)(z5a:K.lookup z21>>⟨za6,za0, .seq #[.none] z9k,z9t⟩)
  (zj8:NV K mainGlobals "Off">>(some (.ref zn)))
  (z8g:NN K zn (.type "object")>>true)(z8i:NN K zn (.ref zn)>>true)(z8o:Mn K (.ref zn)>>(.type "type"))
  (zjh:Mm K zn Str.empty=true)(zjx:Mp K zn=true)(zjp:Mu K zn=true)(zjm:NH K (.ref zn) "__setattr__">>(some (.builtin "object.__setattr__")))(zju:Mq K zn=true)(zjl:NZ K (.ref zn)=true)(zjy:NH K (.ref zn) "__class__">>(some (.builtin "object.__class__")))
  (zdb:NH K (.ref zn) "amount">>none)
  (zff:NH K (.ref zn) "marks">>none)
  (zfv:NH K (.ref zn) "__init__">>(some (.ref z1u)))(zgm:Mw K (.ref z1u)=true)(zga:K.lookup z1u>>⟨zfj,zec, .func (NY "__init__" "Off.__init__" (kaH kbt) (kaE kbt) (kai kbt) (.ref z6f) z8k z8m z8u z90 z4w z8s),zex⟩)(zg5:Mo K z4w "Off.__init__"=true)(zgg:NZ K (.ref z1u)=true)(zaf:K.lookup z6f>>⟨zf6,zfh, .seq #[.none] zee,zf0⟩)
  (zgl:NV K mainGlobals "Share">>(some (.ref zf)))
  (z42:NN K zf (.type "object")>>true)(z4s:NN K zf (.ref zf)>>true)(z4p:Mn K (.ref zf)>>(.type "type"))
  (zhy:Mm K zf Str.empty=true)(zhp:Mp K zf=true)(zho:Mu K zf=true)(zhx:NH K (.ref zf) "__setattr__">>(some (.builtin "object.__setattr__")))(zhs:Mq K zf=true)(zht:NZ K (.ref zf)=true)(zhu:NH K (.ref zf) "__class__">>(some (.builtin "object.__class__")))
  (zc0:NH K (.ref zf) "share">>none)
  (zaa:NH K (.ref zf) "by_line">>none)
  (zbp:NH K (.ref zf) "marks">>none)
  (zdo:NH K (.ref zf) "__init__">>(some (.ref z1a)))(zdg:Mw K (.ref z1a)=true)(zd1:K.lookup z1a>>⟨zbz,zc4, .func (NY "__init__" "Share.__init__" (kaH ka3) (kaE ka3) (kai ka3) (.ref z3w) z6b z6g z6m z6k z2f z6h),zbr⟩)(zdv:Mo K z2f "Share.__init__"=true)(zcp:NZ K (.ref z1a)=true)(z3u:K.lookup z3w>>⟨zbx,zcd, .seq #[.bool false, .none] zck,zc6⟩)
  (zag:NV K mainGlobals "Cheapest">>(some (.ref zb)))
  (z1l:NN K zb (.type "object")>>true)(z1i:NN K zb (.ref zb)>>true)(z1h:Mn K (.ref zb)>>(.type "type"))
  (zej:Mm K zb Str.empty=true)(zf3:Mp K zb=true)(zer:Mu K zb=true)(zf4:NH K (.ref zb) "__setattr__">>(some (.builtin "object.__setattr__")))(zed:Mq K zb=true)(zen:NZ K (.ref zb)=true)(zep:NH K (.ref zb) "__class__">>(some (.builtin "object.__class__")))
  (z9p:NH K (.ref zb) "many">>none)
  (z8t:NH K (.ref zb) "marks">>none)
  (za1:NH K (.ref zb) "__init__">>(some (.ref zv)))(za2:Mw K (.ref zv)=true)(z9d:K.lookup zv>>⟨z8l,z8b, .func (NY "__init__" "Cheapest.__init__" (kaH kaO) (kaE kaO) (kai kaO) (.ref z1r) z3h z3e z3n z37 z1b z39),z8a⟩)(za3:Mo K z1b "Cheapest.__init__"=true)(za9:NZ K (.ref zv)=true)(z4a:K.lookup z1r>>⟨z84,z94, .seq #[.none] z85,z89⟩)
  (ze6:NV K mainGlobals "Bundle">>(some (.ref zd)))
  (z2i:NN K zd (.type "object")>>true)(z33:NN K zd (.ref zd)>>true)(z2q:Mn K (.ref zd)>>(.type "type"))
  (zh8:Mm K zd Str.empty=true)(zh3:Mp K zd=true)(zh6:Mu K zd=true)(zh4:NH K (.ref zd) "__setattr__">>(some (.builtin "object.__setattr__")))(zgw:Mq K zd=true)(zgv:NZ K (.ref zd)=true)(zh2:NH K (.ref zd) "__class__">>(some (.builtin "object.__class__")))
  (zcf:NH K (.ref zd) "many">>none)
  (zb7:NH K (.ref zd) "price">>none)
  (zba:NH K (.ref zd) "marks">>none)
  (zbv:NH K (.ref zd) "__init__">>(some (.ref zz)))(zce:Mw K (.ref zz)=true)(zc9:K.lookup zz>>⟨zb0,zaw, .func (NY "__init__" "Bundle.__init__" (kaH kaY) (kaE kaY) (kai kaY) (.ref z2j) z5o z5q z5t z52 z22 z5z),zat⟩)(zca:Mo K z22 "Bundle.__init__"=true)(zc3:NZ K (.ref zz)=true)(z6j:K.lookup z2j>>⟨zap,zbg, .seq #[.none] zbm,zal⟩)
  (zaj:NV K mainGlobals "Carriage">>(some (.ref zc)))
  (z1e:NN K zc (.type "object")>>true)(z1f:NN K zc (.ref zc)>>true)(z1j:Mn K (.ref zc)>>(.type "type"))
  (zet:Mm K zc Str.empty=true)(zfl:Mp K zc=true)(zfd:Mu K zc=true)(zfa:NH K (.ref zc) "__setattr__">>(some (.builtin "object.__setattr__")))(ze9:Mq K zc=true)(zek:NZ K (.ref zc)=true)(zf7:NH K (.ref zc) "__class__">>(some (.builtin "object.__class__")))
  (z83:NH K (.ref zc) "marks">>none)
  (za8:NH K (.ref zc) "__init__">>(some (.ref zu)))(z9m:Mw K (.ref zu)=true)(za4:K.lookup zu>>⟨z93,z9a, .func (NY "__init__" "Carriage.__init__" (kaH kaP) (kaE kaP) (kai kaP) (.ref z1t) z36 z3o z3a z3m z1k z3r),z8w⟩)(z9g:Mo K z1k "Carriage.__init__"=true)(z9i:NZ K (.ref zu)=true)(z4t:K.lookup z1t>>⟨z8q,z8z, .seq #[.none] z8h,z8y⟩)
  (zjb:NV K mainGlobals "Line">>(some (.ref zq)))
  (zj1:NN K zq (.type "object")>>true)(zid:NN K zq (.ref zq)>>true)(ziq:Mn K (.ref zq)>>(.type "type"))
  (zj7:Mm K zq Str.empty=true)(zih:Mp K zq=true)(zj5:Mu K zq=true)(zj4:NH K (.ref zq) "__setattr__">>(some (.builtin "object.__setattr__")))(zis:Mq K zq=true)(zi8:NZ K (.ref zq)=true)(zik:NH K (.ref zq) "__class__">>(some (.builtin "object.__class__")))
  (zeq:NH K (.ref zq) "kind">>none)
  (zcv:NH K (.ref zq) "price">>none)
  (zfk:NH K (.ref zq) "many">>none)
  (zbn:NH K (.ref zq) "special">>none)
  (zel:NH K (.ref zq) "__init__">>(some (.ref z1m)))(zf1:Mw K (.ref z1m)=true)(zfm:K.lookup z1m>>⟨zd2,zda, .func (NY "__init__" "Line.__init__" (kaH kbc) (kaE kbc) (kai kbc) (.ref z4y) z7a z6y z6v z6x z3x z6u),zdu⟩)(zef:Mo K z3x "Line.__init__"=true)(zeh:NZ K (.ref z1m)=true)(z87:K.lookup z4y>>⟨zcy,ze0, .seq #[.none] zcu,zd8⟩)
  (zi5:NV K mainGlobals "Basket">>(some (.ref zj)))
  (zhb:NN K zj (.type "object")>>true)(zgz:NN K zj (.ref zj)>>true)(zh9:Mn K (.ref zj)>>(.type "type"))
  (zh5:Mm K zj Str.empty=true)(zgy:Mp K zj=true)(zh0:Mu K zj=true)(zgx:NH K (.ref zj) "__setattr__">>(some (.builtin "object.__setattr__")))(zha:Mq K zj=true)(zgu:NZ K (.ref zj)=true)(zhc:NH K (.ref zj) "__class__">>(some (.builtin "object.__class__")))
  (zbb:NH K (.ref zj) "lines">>none)
  (z7t:NH K (.ref zj) "carriage">>none)
  (z9w:NH K (.ref zj) "member">>none)
  (zc7:NH K (.ref zj) "__init__">>(some (.ref zy)))(zch:Mw K (.ref zy)=true)(zbw:K.lookup zy>>⟨zam,zbh, .func (NY "__init__" "Basket.__init__" (kaH kaZ) (kaE kaZ) (kai kaZ) (.ref z2n) z5u z5g z5r z51 z23 z5p),zbl⟩)(zcg:Mo K z23 "Basket.__init__"=true)(zci:NZ K (.ref zy)=true)(z2k:K.lookup z2n>>⟨zau,zbd, .seq #[.int 0 z2t, .bool false] zbc,zb6⟩)
  (zg0:NV K mainGlobals "Standing">>(some (.ref ze)))
  (zea:NN K ze (.type "object")>>true)(zez:NN K ze (.ref ze)>>true)(zes:Mn K (.ref ze)>>(.type "type"))
  (zev:Mm K ze Str.empty=true)(zfb:Mp K ze=true)(zf9:Mu K ze=true)(zfe:NH K (.ref ze) "__setattr__">>(some (.builtin "object.__setattr__")))(zfi:Mq K ze=true)(zeb:NZ K (.ref ze)=true)(zf5:NH K (.ref ze) "__class__">>(some (.builtin "object.__class__")))
  (z7r:NH K (.ref ze) "owners">>none)
  (z82:NH K (.ref ze) "prices">>none)
  (z67:NH K (.ref ze) "carriage">>none)
  (z80:NH K (.ref ze) "marked">>none)
  (z9j:MthT K ze "__init__" "Standing.__init__" kcd ["self","basket"] z4j z4f)
  (z8j:MthT K ze "whole" "Standing.whole" kbW ["self"] z3l z3d)
  (zk2:NV K mainGlobals "Way">>(some (.ref zp)))
  (zjg:NN K zp (.type "object")>>true)(zjq:NN K zp (.ref zp)>>true)(zjv:Mn K (.ref zp)>>(.type "type"))
  (zjw:Mm K zp Str.empty=true)(zjf:Mp K zp=true)(zjk:Mu K zp=true)(zjz:NH K (.ref zp) "__setattr__">>(some (.builtin "object.__setattr__")))(zjo:Mq K zp=true)(zjs:NZ K (.ref zp)=true)(zjt:NH K (.ref zp) "__class__">>(some (.builtin "object.__class__")))
  (zfr:NH K (.ref zp) "till">>none)
  (zd0:NH K (.ref zp) "basket">>none)
  (zg6:NH K (.ref zp) "hand">>none)
  (zg7:NH K (.ref zp) "used">>none)
  (zb8:NH K (.ref zp) "standing">>none)
  (zfx:MthT K zp "__init__" "Way.__init__" kdV ["self","till","basket","hand"] zah zae)
  (zay:MthT K zp "word_for" "Way.word_for" kcw ["self","number"] z5j z5b)
  (zdd:MthT K zp "behind" "Way.behind" kcY ["self","number"] z6z z6w)
  (za7:MthT K zp "followers" "Way.followers" kbw ["self"] z47 z4l)
  (z9u:MthT K zp "is_let_by" "Way.is_let_by" kcc ["self"] z49 z45)
  (zjc:NV K mainGlobals "Bill">>(some (.ref zm)))
  (zj9:NN K zm (.type "object")>>true)(zic:NN K zm (.ref zm)>>true)(zin:Mn K (.ref zm)>>(.type "type"))
  (ziu:Mm K zm Str.empty=true)(zif:Mp K zm=true)(zit:Mu K zm=true)(zir:NH K (.ref zm) "__setattr__">>(some (.builtin "object.__setattr__")))(zil:Mq K zm=true)(ziz:NZ K (.ref zm)=true)(zja:NH K (.ref zm) "__class__">>(some (.builtin "object.__class__")))
  (zcz:NH K (.ref zm) "order">>none)
  (zdf:NH K (.ref zm) "steps">>none)
  (zbq:NH K (.ref zm) "prices">>none)
  (z9h:NH K (.ref zm) "carriage">>none)
  (zct:NH K (.ref zm) "total">>none)
  (zf2:MthT K zm "__init__" "Bill.__init__" kdr ["self","order","steps","standing"] z97 z96)
  (zjd:NV K mainGlobals "Till">>(some (.ref zr)))
  (zj6:NN K zr (.type "object")>>true)(zie:NN K zr (.ref zr)>>true)(zj2:Mn K (.ref zr)>>(.type "type"))
  (zib:Mm K zr Str.empty=true)(zii:Mp K zr=true)(zi9:Mu K zr=true)(ziw:NH K (.ref zr) "__setattr__">>(some (.builtin "object.__setattr__")))(ziy:Mq K zr=true)(zig:NZ K (.ref zr)=true)(zj3:NH K (.ref zr) "__class__">>(some (.builtin "object.__class__")))
  (zax:NH K (.ref zr) "parents">>none)
  (z9n:NH K (.ref zr) "vouchers">>none)
  (ze1:NH K (.ref zr) "rules">>none)
  (zeo:NH K (.ref zr) "back">>none)
  (zeg:NH K (.ref zr) "__init__">>(some (.ref z1c)))(zew:Mw K (.ref z1c)=true)(zey:K.lookup z1c>>⟨zcr,zd7, .func (NY "__init__" "Till.__init__" (kaH kbb) (kaE kbb) (kai kbb) (.ref z4v) z6t z7d z7c z77 z3y z7f),zcw⟩)(zem:Mo K z3y "Till.__init__"=true)(zei:NZ K (.ref z1c)=true)(z8c:K.lookup z4v>>⟨zcq,zdw, .seq #[.str "again" z4b] zdi,zdl⟩)
  (zh1:NV K mainGlobals "Account">>(some (.ref za)))
  (zgj:NN K za (.type "object")>>true)(zge:NN K za (.ref za)>>true)(zg3:Mn K (.ref za)>>(.type "type"))
  (zgi:Mm K za Str.empty=true)(zg8:Mp K za=true)(zfw:Mu K za=true)(zgd:NH K (.ref za) "__setattr__">>(some (.builtin "object.__setattr__")))(zg1:Mq K za=true)(zfz:NZ K (.ref za)=true)(zgh:NH K (.ref za) "__class__">>(some (.builtin "object.__class__")))
  (zbo:NH K (.ref za) "till">>none)
  (z9c:NH K (.ref za) "basket">>none)
  (zbe:NH K (.ref za) "hand">>none)
  (z4o:NH K (.ref za) "first_prices">>none)
  (zab:NH K (.ref za) "order">>none)
  (z8p:NH K (.ref za) "fallen">>none)
  (zbj:NH K (.ref za) "many">>none)
  (zar:NH K (.ref za) "paid">>none)
  (zbi:NH K (.ref za) "owed">>none)
  (zbk:MthT K za "__init__" "Account.__init__" kcx ["self","till","basket","hand","order"] z5s z60)
  (z6d:MthT K za "take_back" "Account.take_back" kbp ["self","line","many"] z1x z1z)
  (z6q:MthT K za "has_left" "Account.has_left" kby ["self","line","many"] z24 z27)
  (z6r:MthT K za "pay_back" "Account.pay_back" kbx ["self","back"] z26 z25)
  (z4z:MthT K za "paid_behind" "Account.paid_behind" kbd ["self","line","left","many"] z1g z1d)
  (z62:MthT K za "what_stays" "Account.what_stays" kbk ["self"] z1n z1o)
  (z6n:MthT K za "due_again" "Account.due_again" ka5 ["self","stays"] z1w z1v)
  (z63:MthT K za "go_through" "Account.go_through" kbl ["self","stays"] z1p z1q)
  (z9z:PySem.W.readsIn K zg (.type "type")=true)(zac:EC K (.ref zg) "__getattribute__">>(some (.builtin "type.__getattribute__")))(z9x:PySem.W.findCls K (.ref zg) (.type "type") "__init__">>(.val (.ref zs)))
  (z5i:NN K zn (.ref zc)>>false)
  (z3c:NN K zf (.ref zc)>>false)
  (z1y:NN K zb (.ref zc)>>false)
  (z2m:NN K zd (.ref zc)>>false)
  (z8v:NN K zf (.ref zn)>>false)
  (z5m:NN K zb (.ref zn)>>false)
  (z71:NN K zd (.ref zn)>>false)
  (z5c:NN K zc (.ref zn)>>false)
  (z92:NN K zn (.ref zf)>>false)
  (z3q:NN K zb (.ref zf)>>false)
  (z61:NN K zd (.ref zf)>>false)
  (z3j:NN K zc (.ref zf)>>false)
  (z5h:NN K zn (.ref zb)>>false)
  (z38:NN K zf (.ref zb)>>false)
  (z30:NN K zd (.ref zb)>>false)
  (z20:NN K zc (.ref zb)>>false)
  (z75:NN K zn (.ref zd)>>false)
  (z5f:NN K zf (.ref zd)>>false)
  (z34:NN K zb (.ref zd)>>false)
  (z2v:NN K zc (.ref zd)>>false)
  (z7q:zw=.ref zo)
  (z7p:K.lookup zo>>⟨z28,z6o, .fields zh,z6p⟩)
  (z7x:z28=.type "code")
  (z7g:zh[11]?>>(.ref zi))
  (z7w:zh.getD 11 .none=.ref zi)
  (z7k:zh.getD 18 .none=.str z2d z29)
  (z7h:zh.getD 7 .none=.int z2b z2c)
  (z7n:zh.getD 9 .none=.bool z2e)
  (z7u:zh.getD 10 .none=.int z2l z2x)
  (z81:zo≠zi)
  (z7z:K.lookup zi=none)
  (z7s:zi∈ts)
  (zgb:NV K mainGlobals "NotLet">>(some (.ref z9r)))
  (zbs:NV K mainGlobals "TillError">>(some (.ref z4x)))
  (zdj:NV K mainGlobals "NoPieces">>(some (.ref zk)))
  (zcc:NV K mainGlobals "LineError">>(some (.ref z50)))
  (zdm:E1 K zk [.type "ValueError", .type "Exception", .type "BaseException", .type "object"] "ValueError.__new__"=true)
  (zd9:NH K (.ref zk) "__getattribute__">>(some (.builtin "BaseException.__getattribute__")))
  (zdx:NH K (.ref zk) "__getattr__">>none)
  (zdq:NH K (.ref zk) "__class__">>(some (.builtin "object.__class__")))
  (zde:Dp K (.ref zk) (.type "BaseException")>>true)
  (zdp:NN K zk (.type "object")>>true)
  (zd5:(PySem.W.clsIn K zk).isSome=true)
  (z4g:Dt K (.ref zk) (.ref z4x)>>true)
  (z64:NU K (.ref zk) (.ref z9r)>>false)
  (z3z:NU K (.ref zk) (.ref z50)>>false)
  (z3t:NU K (.ref zk) (.type "ValueError")>>true)
  (zVE:NV K mainGlobals "ValueError">>none)
  (z1:NV K mainGlobals "range">>none)
  (z2:NV K mainGlobals "len">>none)
  (z3:NV K mainGlobals "min">>none)
  (z4:NV K mainGlobals "max">>none)
  (z5:NV K mainGlobals "isinstance">>none)
  (z6:NV K mainGlobals "bool">>none)
  (z7:NV K mainGlobals "int">>none)
  (z8:NV K mainGlobals "list">>none)
  (z9:NV K mainGlobals "sum">>none)
  (z10:NV K mainGlobals "enumerate">>none)
  (z11:NV K mainGlobals "any">>none)
  (z12:NV K mainGlobals "all">>none)
  (z13:NV K mainGlobals "reversed">>none)
  (z14:NV K mainGlobals "zip">>none)
  (z15:NV K mainGlobals "abs">>none)
  (z16:NV K mainGlobals "sorted">>none)
  (z17:NV K mainGlobals "tuple">>none)
  (z18:NV K mainGlobals "str">>none)
  :∃(fd:FuncData)(tP c0:Addr),tP∈ts∧CodeK K c0 tP∧K.lookup tP=none∧(∀(s:Shared)(v:Value),BindsTo s fd ⟨[v],[]⟩ [("_law_script",v)])∧∀base:Heap,K.In base→base.Ns mainGlobals mg→BltM mg base→FnOk l.prog w K mg base CX0 19 fa fd ["_law_script"] (kgJ K tP):=by
 have e:=hfa.symm.trans (N8 X G zio)
 have hf:zc8=fa:=by
  injection e with e
  injection e with e
  exact e.symm
 subst hf
 have B:TxtB mg:=⟨Mh X G z1,Mh X G z2,Mh X G z3,Mh X G z4,Mh X G z5,Mh X G z6,Mh X G z7,Mh X G z8,Mh X G z9,Mh X G z10,Mh X G z11,Mh X G z12,Mh X G z13,Mh X G z14,Mh X G z15,Mh X G z16,Mh X G z17,Mh X G z18⟩
 have W:Wld K mg ⟨(zgr),(zft),(zfs),(zgo),(z3b),(z3k),(zgp),(zg2),(zhh),(zhj),(z98),(z95),(zhm),(zhf),(zfn),(zfy),(z3p),(z3g),(z2r),(z2u),(z65),(z68),(z3s),(z3i),(zx),(NY "falling_groups" "falling_groups" (kaH kaI) (kaE kaI) (kai kaI) .none z35 z2a z31 z2g zw z2p),(z40),(z4h),(z88),(z8d),(z4r),(z4m),(zby),(zc2),(zgt),(zgf),(ze5),(ze3),(z4i),(z48),(z59),(z53),(z5d),(z56),(z2z),(z2s),(ze7),(ze2),(ze8),(ze4),(z8n),(z8e),(z74),(z73),(z58),(z5v),(zai),(zad),(z57),(z5l),(z5x),(z5e),(z5y),(z5w),(z41),(z4q),(z2w),(z32),(z2o),(z2y),(z5k),(z5n),(z4c),(z4d),(z7e),(z70),(z7b),(z76),(z54),(z55),(z4k),(z44),(z72),(z6s),(z6e),(z6c),(z78),(z79),(zc8),(NY "law" "law" (kaH s_law) (kaE s_law) (kai s_law) .none zhe zhl zhk zhi zfc zhg),(zl),(z19),(NY "__init__" "Marks.__init__" (kaH ka4) (kaE ka4) (kai ka4) (.ref z3v) z6i z6a z69 z66 z2h z6l),(z3f),(zg),(zs),(NY "__init__" "Voucher.__init__" (kaH kaU) (kaE kaU) (kai kaU) (.ref z21) z4n z46 z4e z4u z1s z43),(zn),(z1u),(NY "__init__" "Off.__init__" (kaH kbt) (kaE kbt) (kai kbt) (.ref z6f) z8k z8m z8u z90 z4w z8s),(zf),(z1a),(NY "__init__" "Share.__init__" (kaH ka3) (kaE ka3) (kai ka3) (.ref z3w) z6b z6g z6m z6k z2f z6h),(zb),(zv),(NY "__init__" "Cheapest.__init__" (kaH kaO) (kaE kaO) (kai kaO) (.ref z1r) z3h z3e z3n z37 z1b z39),(zd),(zz),(NY "__init__" "Bundle.__init__" (kaH kaY) (kaE kaY) (kai kaY) (.ref z2j) z5o z5q z5t z52 z22 z5z),(zc),(zu),(NY "__init__" "Carriage.__init__" (kaH kaP) (kaE kaP) (kai kaP) (.ref z1t) z36 z3o z3a z3m z1k z3r),(zq),(z1m),(NY "__init__" "Line.__init__" (kaH kbc) (kaE kbc) (kai kbc) (.ref z4y) z7a z6y z6v z6x z3x z6u),(zj),(zy),(NY "__init__" "Basket.__init__" (kaH kaZ) (kaE kaZ) (kai kaZ) (.ref z2n) z5u z5g z5r z51 z23 z5p),(z2t),(ze),(z4j),(z4f),(z3l),(z3d),(zp),(zah),(zae),(z5j),(z5b),(z6z),(z6w),(z47),(z4l),(z49),(z45),(zm),(z97),(z96),(zr),(z1c),(NY "__init__" "Till.__init__" (kaH kbb) (kaE kbb) (kai kbb) (.ref z4v) z6t z7d z7c z77 z3y z7f),(z4b),(za),(z5s),(z60),(z1x),(z1z),(z24),(z27),(z26),(z25),(z1g),(z1d),(z1n),(z1o),(z1w),(z1v),(z1p),(z1q),(zo),(zi),(z9r),(z4x),(zk),(z50)⟩:=⟨B,zj0,zia,z86,zij,zjn,zeu,zjr,zim,z8f,z7j,zcm,z9b,⟨(kbB z91 z8r z8x),(Binds.all (nL3 fun _ _ _=>rfl)),N8 X G z99⟩,z9q,zfg,z9e,zh7,ziv,zi7,z9s,zak,zaz,z7v,zhr,zhz,zf8,zdt,zao,zg9,zb1,zbf,zb9,z9v,z7o,z7l,zas,z9y,zdh,zdy,zan,z9o,zds,zcj,zd6,⟨(kbB zk0 zk1 zk3),(Binds.all (nL1 fun _=>rfl)),N8 X G zio⟩,⟨⟨zi6,zi2,zhv,zhq⟩,N8 X G zix,⟨zi4,inX,itX,zi0⟩,zi3,zhw,zhn,zi1⟩,zdn,zc5,zdz,zb3,zdr,zcx,⟨zdc,zcs,(kbB zd4 zdk zd3),(bd_mk (n:=7) rfl fun _ KX=>nL7 fun _ _ _ _ _ _ _=>BindsTo.of_defaults rfl (KX _ _ zt) rfl rfl rfl)⟩,(bd_mk (n:=6) rfl fun _ KX=>nL6 fun _ _ _ _ _ _=>BindsTo.of_defaults rfl (KX _ _ zt) rfl rfl rfl),(bd_mk (n:=5) rfl fun _ KX=>nL5 fun _ _ _ _ _=>BindsTo.of_defaults rfl (KX _ _ zt) rfl rfl rfl),(bd_mk (n:=4) rfl fun _ KX=>nL4 fun _ _ _ _=>BindsTo.of_defaults rfl (KX _ _ zt) rfl rfl rfl),(bd_mk (n:=3) rfl fun _ KX=>nL3 fun _ _ _=>BindsTo.of_defaults rfl (KX _ _ zt) rfl rfl rfl),(bd_mk (n:=2) rfl fun _ KX=>nL2 fun _ _=>BindsTo.of_defaults rfl (KX _ _ zt) rfl rfl rfl),(bd_mk (n:=1) rfl fun _ KX=>nL1 fun _=>BindsTo.of_defaults rfl (KX _ _ zt) rfl rfl rfl),⟨⟨zfp,zgq,zfo,zfu⟩,N8 X G zhd,⟨zgn,inX,itX,zgc⟩,zgk,zg4,zgs,zfq⟩,⟨zb5,zav,(kbB zaq zb2 zb4),(bd_mk (n:=2) rfl fun _ KX=>nL2 fun _ _=>BindsTo.of_defaults rfl (KX _ _ z5a) rfl rfl rfl)⟩,(bd_mk (n:=1) rfl fun _ KX=>nL1 fun _=>BindsTo.of_defaults rfl (KX _ _ z5a) rfl rfl rfl),N8 X G zj8,⟨⟨zjh,zjx,zjp,zjm⟩,N8 X G zj8,⟨zjy,inX,itX,z8g⟩,z8i,z8o,zju,zjl⟩,zdb,zff,⟨zfv,zgm,(kbB zga zg5 zgg),(bd_mk (n:=3) rfl fun _ KX=>nL3 fun _ _ _=>BindsTo.of_defaults rfl (KX _ _ zaf) rfl rfl rfl)⟩,(bd_mk (n:=2) rfl fun _ KX=>nL2 fun _ _=>BindsTo.of_defaults rfl (KX _ _ zaf) rfl rfl rfl),N8 X G zgl,⟨⟨zhy,zhp,zho,zhx⟩,N8 X G zgl,⟨zhu,inX,itX,z42⟩,z4s,z4p,zhs,zht⟩,zc0,zaa,zbp,⟨zdo,zdg,(kbB zd1 zdv zcp),(bd_mk (n:=4) rfl fun _ KX=>nL4 fun _ _ _ _=>BindsTo.of_defaults rfl (KX _ _ z3u) rfl rfl rfl)⟩,(bd_mk (n:=3) rfl fun _ KX=>nL3 fun _ _ _=>BindsTo.of_defaults rfl (KX _ _ z3u) rfl rfl rfl),(bd_mk (n:=2) rfl fun _ KX=>nL2 fun _ _=>BindsTo.of_defaults rfl (KX _ _ z3u) rfl rfl rfl),N8 X G zag,⟨⟨zej,zf3,zer,zf4⟩,N8 X G zag,⟨zep,inX,itX,z1l⟩,z1i,z1h,zed,zen⟩,z9p,z8t,⟨za1,za2,(kbB z9d za3 za9),(bd_mk (n:=3) rfl fun _ KX=>nL3 fun _ _ _=>BindsTo.of_defaults rfl (KX _ _ z4a) rfl rfl rfl)⟩,(bd_mk (n:=2) rfl fun _ KX=>nL2 fun _ _=>BindsTo.of_defaults rfl (KX _ _ z4a) rfl rfl rfl),N8 X G ze6,⟨⟨zh8,zh3,zh6,zh4⟩,N8 X G ze6,⟨zh2,inX,itX,z2i⟩,z33,z2q,zgw,zgv⟩,zcf,zb7,zba,⟨zbv,zce,(kbB zc9 zca zc3),(bd_mk (n:=4) rfl fun _ KX=>nL4 fun _ _ _ _=>BindsTo.of_defaults rfl (KX _ _ z6j) rfl rfl rfl)⟩,(bd_mk (n:=3) rfl fun _ KX=>nL3 fun _ _ _=>BindsTo.of_defaults rfl (KX _ _ z6j) rfl rfl rfl),N8 X G zaj,⟨⟨zet,zfl,zfd,zfa⟩,N8 X G zaj,⟨zf7,inX,itX,z1e⟩,z1f,z1j,ze9,zek⟩,z83,⟨za8,z9m,(kbB za4 z9g z9i),(bd_mk (n:=2) rfl fun _ KX=>nL2 fun _ _=>BindsTo.of_defaults rfl (KX _ _ z4t) rfl rfl rfl)⟩,(bd_mk (n:=1) rfl fun _ KX=>nL1 fun _=>BindsTo.of_defaults rfl (KX _ _ z4t) rfl rfl rfl),⟨⟨zj7,zih,zj5,zj4⟩,N8 X G zjb,⟨zik,inX,itX,zj1⟩,zid,ziq,zis,zi8⟩,zeq,zcv,zfk,zbn,⟨zel,zf1,(kbB zfm zef zeh),(bd_mk (n:=5) rfl fun _ KX=>nL5 fun _ _ _ _ _=>BindsTo.of_defaults rfl (KX _ _ z87) rfl rfl rfl)⟩,(bd_mk (n:=4) rfl fun _ KX=>nL4 fun _ _ _ _=>BindsTo.of_defaults rfl (KX _ _ z87) rfl rfl rfl),⟨⟨zh5,zgy,zh0,zgx⟩,N8 X G zi5,⟨zhc,inX,itX,zhb⟩,zgz,zh9,zha,zgu⟩,zbb,z7t,z9w,⟨zc7,zch,(kbB zbw zcg zci),(bd_mk (n:=4) rfl fun _ KX=>nL4 fun _ _ _ _=>BindsTo.of_defaults rfl (KX _ _ z2k) rfl rfl rfl)⟩,(bd_mk (n:=3) rfl fun _ KX=>nL3 fun _ _ _=>BindsTo.of_defaults rfl (KX _ _ z2k) rfl rfl rfl),(bd_mk (n:=2) rfl fun _ KX=>nL2 fun _ _=>BindsTo.of_defaults rfl (KX _ _ z2k) rfl rfl rfl),⟨⟨zev,zfb,zf9,zfe⟩,N8 X G zg0,⟨zf5,inX,itX,zea⟩,zez,zes,zfi,zeb⟩,z7r,z82,z67,z80,z9j,z8j,⟨⟨zjw,zjf,zjk,zjz⟩,N8 X G zk2,⟨zjt,inX,itX,zjg⟩,zjq,zjv,zjo,zjs⟩,zfr,zd0,zg6,zg7,zb8,zfx,zay,zdd,za7,z9u,⟨⟨ziu,zif,zit,zir⟩,N8 X G zjc,⟨zja,inX,itX,zj9⟩,zic,zin,zil,ziz⟩,zcz,zdf,zbq,z9h,zct,zf2,⟨⟨zib,zii,zi9,ziw⟩,N8 X G zjd,⟨zj3,inX,itX,zj6⟩,zie,zj2,ziy,zig⟩,zax,z9n,ze1,zeo,⟨zeg,zew,(kbB zey zem zei),(bd_mk (n:=5) rfl fun _ KX=>nL5 fun _ _ _ _ _=>BindsTo.of_defaults rfl (KX _ _ z8c) rfl rfl rfl)⟩,(bd_mk (n:=4) rfl fun _ KX=>nL4 fun _ _ _ _=>BindsTo.of_defaults rfl (KX _ _ z8c) rfl rfl rfl),⟨⟨zgi,zg8,zfw,zgd⟩,N8 X G zh1,⟨zgh,inX,itX,zgj⟩,zge,zg3,zg1,zfz⟩,zbo,z9c,zbe,z4o,zab,z8p,zbj,zar,zbi,zbk,z6d,z6q,z6r,z4z,z62,z6n,z63,⟨z9z,zac,z9x⟩,kaR z5i z1e z1j (kbv z5i z8i),kaR z3c z1e z1j (kbv z3c z4s),kaR z1y z1e z1j (kbv z1y z1i),kaR z2m z1e z1j (kbv z2m z33),kaR z8v z8g z8o (kbv z8v z4s),kaR z5m z8g z8o (kbv z5m z1i),kaR z71 z8g z8o (kbv z71 z33),kaR z5c z8g z8o (kbv z5c z1f),kaR z92 z42 z4p (kbv z92 z8i),kaR z3q z42 z4p (kbv z3q z1i),kaR z61 z42 z4p (kbv z61 z33),kaR z3j z42 z4p (kbv z3j z1f),kaR z5h z1l z1h (kbv z5h z8i),kaR z38 z1l z1h (kbv z38 z4s),kaR z30 z1l z1h (kbv z30 z33),kaR z20 z1l z1h (kbv z20 z1f),kaR z75 z2i z2q (kbv z75 z8i),kaR z5f z2i z2q (kbv z5f z4s),kaR z34 z2i z2q (kbv z34 z1i),kaR z2v z2i z2q (kbv z2v z1f),z7q,⟨_,zh,z2d,z29,z2b,z2c,z2e,z2l,z2x,z7p,z7x,rfl,z7g,z7w,z7k,z7h,z7n,z7u,z81⟩,N8 X G zgb,N8 X G zbs,N8 X G zdj,N8 X G zcc,zdm,⟨zd9,zdx,zdq,zde,zdp,zd5⟩,z4g,z64,z3z,z3t,Mh X G zVE⟩
 rwa[_,zi,zo,z7s,W.ck_falling_groups,z7z,fun s v=>.of_eq rfl,fun base hK _ hB=>knc ⟨W,hB,hK⟩]
end Vs
end Lake
open Lake
namespace PySem.W.Fast
def tw4313207538026188032:=Nat
def tw9987398240703955235:=Nat
def tw1111619358884520259:=Nat
def tw13457077323691731587:=Nat
def tw16348382521346771428:=Nat
def tw1777874981341765253:=Nat
def tw17628561684531601061:=Nat
def tw18311373975825526598:=Nat
def tw1925226252728314726:=Nat
def tw18304870734915481191:=Nat
def tw11375555561958338375:=Nat
def tw15765518769422093159:=Nat
def tw12782054800275428808:=Nat
def tw17462242524428869929:=Nat
def tw8355775776861203146:=Nat
def tw4885173996962592395:=Nat
def tw1110523091192654252:=Nat
def tw2372575343654713964:=Nat
def tw6936512635151182764:=Nat
def tw16252696241139661005:=Nat
def tw4961009485403783085:=Nat
def tw18331465779865841070:=Nat
def tw14540869527185632399:=Nat
def tw1806588644216279279:=Nat
def tw8166214246618220271:=Nat
def tw10621849707173714064:=Nat
def tw8742582179850049200:=Nat
def tw5198912314433879857:=Nat
def tw15170195764249981777:=Nat
def tw15546261696344976498:=Nat
def tw5164291246166319410:=Nat
def tw17394269990745269619:=Nat
def tw18292749583560965269:=Nat
def tw3549571719007246198:=Nat
def tw15745198168505135129:=Nat
def tw13229490430310411353:=Nat
def tw2568475871332169817:=Nat
def tw9806412061003478618:=Nat
def tw2785500457984642395:=Nat
def tw7213122780983320347:=Nat
def tw16763878505150255292:=Nat
def tw12357562111236280508:=Nat
def tw15767140755683321404:=Nat
def tw15261427593130444412:=Nat
def tw8268041902325341884:=Nat
def tw14037777688137361340:=Nat
def tw8737605831628395532:=Nat
def tw11528355340666635399:=Nat
def tw10723445925709450709:=Nat
def tw16899384410346944412:=Nat
def tw8091602425065885058:=Nat
def tw3279811400155644936:=Nat
def tw5716062729021841862:=Nat
def tw3936189010045723287:=Nat
def tw18326287729707842577:=Nat
def tw10722855246886579386:=Nat
def tw4869834027570176395:=Nat
def tw12506923315417974182:=Nat
def tw2640249393491618166:=Nat
def tw14498749143549330440:=Nat
def tw12522775391681136841:=Nat
def tw14725235832988677452:=Nat
def tw8048814861583798936:=Nat
def tw7328698587822382514:=Nat
def tw17059476699708865851:=Nat
def tw2148842125731711383:=Nat
def tw5365650695092986649:=Nat
def tw8376725292227481697:=Nat
def tw2014918208743868056:=Nat
def tw8185018011264585546:=Nat
def tw16142462149626691114:=Nat
def tw12957015377651092678:=Nat
def tw6185617621442489871:=Nat
def tw4409026105312406843:=Nat
def tw11888636522507368586:=Nat
def tw3008144188590832553:=Nat
def tw13068526255234323237:=Nat
def tw13133886195069655748:=Nat
def tw6380139518603789275:=Nat
def tw17488582401123982202:=Nat
def tw15582288336320416589:=Nat
def tw3872517055827455690:=Nat
def tw9558435675068285150:=Nat
def tw14952481859178696715:=Nat
def tw14600262330810978160:=Nat
def tw9223567628007865144:=Nat
def tw15211559635653341286:=Nat
def tw5164534156497739720:=Nat
def tw10995943025623639849:=Nat
def tw6011344653560316972:=Nat
def tw3772492957800567069:=Nat
def tw11052000453940187504:=Nat
def tw2707138018306520885:=Nat
def tw11309014658966567273:=Nat
def tw9821550504221936724:=Nat
def tw697997486629049871:=Nat
def tw8948397733142377998:=Nat
def tw17544337592688526016:=Nat
def tw2481394385676503948:=Nat
def tw2483843588773890657:=Nat
def tw15119450604317347452:=Nat
def tw8411906781324445174:=Nat
def tw2497079150049199815:=Nat
def tw9567275743352924233:=Nat
def tw10730085283675834611:=Nat
def tw2292801362711494283:=Nat
def tw11272744106663705296:=Nat
def tw2635746125505230385:=Nat
def tw13721083515228283590:=Nat
def tw10578900257774087145:=Nat
def tw14015771248395445983:=Nat
def tw4294940924937968953:=Nat
def tw17661352075896718983:=Nat
def tw2292721156597773309:=Nat
def tw17522032258228979393:=Nat
def tw12966722222505312807:=Nat
def tw1315790240500232556:=Nat
def tw1758550417687437374:=Nat
def tw13759111458603191676:=Nat
def tw10703074051865870843:=Nat
def tw2496373893948274172:=Nat
def tw4850115325280390672:=Nat
def tw17649718833581810798:=Nat
def tw2716855057455009124:=Nat
def tw7286238386521202233:=Nat
def tw8545103738362429819:=Nat
def tw3820449283114780880:=Nat
def tw3618576429075118449:=Nat
def tw17952565830565414785:=Nat
def tw16629217301761814877:=Nat
def tw12175781656031536760:=Nat
def tw7808494221265936370:=Nat
def tw14374546533483180109:=Nat
def tw1299966487074484139:=Nat
def tw4847353793212554102:=Nat
def tw2942731937943849637:=Nat
def tw8325558077865373182:=Nat
def tw8056712129398557888:=Nat
def tw16306193168184407433:=Nat
def tw6713127520083765828:=Nat
def tw4020694017826567309:=Nat
def tw8821506493184787646:=Nat
def tw3018452926190392124:=Nat
def tw11860014388487308270:=Nat
def tw6339504207949952621:=Nat
def tw17544521777216696280:=Nat
def tw4831470279980669634:=Nat
def tw12007013548994039591:=Nat
def tw12112336600957890754:=Nat
def tw15207417980313711121:=Nat
def tw13104900012490813766:=Nat
def tw41143980472948822:=Nat
def tw14235081564056271308:=Nat
def tw7803229040836185889:=Nat
def tw12397351226863406505:=Nat
def tw4567817934053741015:=Nat
def tw3175831817636416638:=Nat
def tw16805001539610315751:=Nat
def tw9785205538291573104:=Nat
def tw1928143692051725728:=Nat
def tw14165920032267157469:=Nat
def tw3617984007441263963:=Nat
def tw4667997443944974137:=Nat
def tw4212508417272757168:=Nat
def tw167365619544204483:=Nat
def tw4645724518670595687:=Nat
def tw3201582597762472641:=Nat
def tw17782444273988078796:=Nat
def tw9756156022064239960:=Nat
def tw3337714650795247809:=Nat
def tw1487633155104168851:=Nat
def tw2677999665881069825:=Nat
def tw3316393904512806875:=Nat
def tw10061349497594526247:=Nat
def tw12502638155149199092:=Nat
def tw16488616338726384189:=Nat
def tw18410123970392606768:=Nat
def tw13201479994671534820:=Nat
def tw10941066887773444067:=Nat
def tw7775509661176423648:=Nat
def tw4021914750866458661:=Nat
def tw4633133808826062389:=Nat
def tw17156287509352464966:=Nat
def tw6406526354700122266:=Nat
def tw16301341315520030223:=Nat
def tw2032981815376305368:=Nat
def tw11435930126778376233:=Nat
def tw4710722279114182810:=Nat
def tw11614133415177434157:=Nat
def tw11439326570376940794:=Nat
def tw12947432356958430996:=Nat
def tw2473339330391838268:=Nat
def tw2678624727645437991:=Nat
def tw4799946076718542173:=Nat
def tw2567672610980429964:=Nat
def tw9826814167193597125:=Nat
def tw12838488144321052051:=Nat
def tw16285401593776648821:=Nat
def tw1360124943991361081:=Nat
def tw9107481191172733238:=Nat
def tw4709903326790567275:=Nat
def tw18255466463069143730:=Nat
def tw8130390396898846062:=Nat
def tw16568751287772022400:=Nat
def tw10177882984802565256:=Nat
def tw98839783521244347:=Nat
def tw12530920007162514836:=Nat
def tw15179782792548056304:=Nat
def tw5504226674956490456:=Nat
def tw16737928252436080900:=Nat
def tw14747299850343657333:=Nat
def tw12031653120177073884:=Nat
def tw6993161473805376074:=Nat
def tw14114412358174633882:=Nat
def tw1412524104663078040:=Nat
def tw2372663865829215799:=Nat
def tw5066385457545618700:=Nat
def tw414067272451617530:=Nat
def tw16934480072868428875:=Nat
def tw1629816326546020663:=Nat
def tw8671056495833567080:=Nat
def tw1417064019425921683:=Nat
def tw11956452689017471989:=Nat
def tw9686400656417407985:=Nat
def tw18415444669861314153:=Nat
def tw13815020043803835645:=Nat
def tw16797144074778225176:=Nat
def tw11156982129652351982:=Nat
def tw2006961890656558626:=Nat
def tw7541455105130596485:=Nat
def tw6195713311474519325:=Nat
def tw3940166014985800613:=Nat
def tw9894299155449769434:=Nat
def tw2009680671545485700:=Nat
def tw13525275644248381367:=Nat
def tw8369029639559085738:=Nat
def tw17501210955654430089:=Nat
def tw14341600075316454678:=Nat
def tw7441059169245381705:=Nat
def tw5355749153117285143:=Nat
def tw4419802137275917351:=Nat
def tw3338511602073917672:=Nat
def tw5357434926152555515:=Nat
def tw728522519300506009:=Nat
def tw2708571321224486787:=Nat
def tw17750846995017013033:=Nat
def tw2202418107368589484:=Nat
def tw12824166209841224068:=Nat
def tw1700208482224446326:=Nat
def tw1211192586298654521:=Nat
def tw1561302073625766107:=Nat
def tw10253861060714452550:=Nat
def tw12129875327621497728:=Nat
def tw17693543276151973645:=Nat
def tw8173401026721756953:=Nat
def tw8980104398132803017:=Nat
def tw13433007062736206820:=Nat
def tw6874406358332283094:=Nat
def tw7879032698329905342:=Nat
def tw9108293699648164905:=Nat
def tw1397953492251387959:=Nat
def tw5867861756154986076:=Nat
def tw6601634283386086854:=Nat
def tw9338197917212570487:=Nat
def tw11254670565154925934:=Nat
def tw2055038481982993859:=Nat
def tw1536788911276757934:=Nat
def tw2633755104054585361:=Nat
def tw5738155936091500234:=Nat
def tw2922896853795413467:=Nat
def tw11475731690845244067:=Nat
def tw357599375786805843:=Nat
def tw9540676884031578561:=Nat
def tw12045416100493098881:=Nat
def tw5206208170383935034:=Nat
def tw2398369536692351257:=Nat
def tw13475363082894113570:=Nat
def tw6973290408225617149:=Nat
def tw4356121549709772039:=Nat
def tw7819521561068547694:=Nat
def tw2487837593842936333:=Nat
def tw15390384924110268321:=Nat
def tw4116130792129533842:=Nat
def tw15340875243425264410:=Nat
def tw12934746225186692000:=Nat
def tw8522367181397469286:=Nat
def tw3494824281731310045:=Nat
def tw10776565384784515653:=Nat
def tw670863131452996026:=Nat
def tw14291841625771698797:=Nat
def tw16328706801910030299:=Nat
def tw5796789700201764113:=Nat
def tw1918909110925300831:=Nat
def tw13559392767205979970:=Nat
def tw10990407074912052599:=Nat
def tw14417133875136451522:=Nat
def tw14197077894719083465:=Nat
def tw17650525467617244091:=Nat
def tw4636024713132698031:=Nat
def tw6492985423149398216:=Nat
def tw4933799911913393798:=Nat
def tw17525983784959612269:=Nat
def tw9857533512643701227:=Nat
def tw11347864069127629325:=Nat
def tw3410180321218084454:=Nat
def tw8395375487246057133:=Nat
def tw4661174127099682434:=Nat
def tw6364664200343077414:=Nat
def tw1084974740401656065:=Nat
def tw13355075615490677987:=Nat
def tw474814993668695026:=Nat
def tw2045862413032082825:=Nat
def tw5134008503972532764:=Nat
def tw2787844705655803669:=Nat
def tw12249386806457039048:=Nat
def tw367908813679733379:=Nat
def tw6602104748148512491:=Nat
def tw8436495010409262790:=Nat
def tw17986003453998694611:=Nat
def tw7306104831398576082:=Nat
def tw569302865181564232:=Nat
def tw10065197161254311941:=Nat
def tw14298116165602342590:=Nat
def tw10414976992773327398:=Nat
def tw12700823259739982436:=Nat
def tw6125569170841759351:=Nat
def tw16226951350345505212:=Nat
def tw11898077808475968483:=Nat
def tw14321222478050436270:=Nat
def tw14606378016821269830:=Nat
def tw17498206705599369628:=Nat
def tw6742604703335937284:=Nat
def tw12445116830211113445:=Nat
def tw8838349434601023479:=Nat
def tw4765478259584148110:=Nat
def tw15034951538537097204:=Nat
def tw9927130612763601824:=Nat
def tw16072495014744010317:=Nat
def tw4229437374586207071:=Nat
def tw11629507479461358283:=Nat
def tw18209704363059475778:=Nat
def tw17480484251155718490:=Nat
def tw12769388343406504685:=Nat
def tw17657437834578314689:=Nat
def tw9555408903852459681:=Nat
def tw18050667146460346844:=Nat
def tw13180971002306327728:=Nat
def tw6228275892935016095:=Nat
def tw13265824683215187506:=Nat
def tw18063002821051153035:=Nat
def tw5646013049400147091:=Nat
def tw5336784859928272669:=Nat
def tw3027601907445769827:=Nat
def tw10690629590077686671:=Nat
def tw4010257789300757369:=Nat
def tw14958330991042798140:=Nat
def tw4550297146150355995:=Nat
def tw4017727565394704413:=Nat
def tw2286684976780934875:=Nat
def tw13035265664537888903:=Nat
def tw12957481579236859919:=Nat
def tw3853559421821751319:=Nat
def tw12178306512782696256:=Nat
def tw15001118748453214593:=Nat
def tw8127335766423932409:=Nat
def tw13436160308848957586:=Nat
def tw1816277474252362023:=Nat
def tw7008402741387056041:=Nat
def tw365099727457704470:=Nat
def tw6960520601616557002:=Nat
def tw1467074691539477040:=Nat
def tw11165098527447111547:=Nat
def tw11001586444005488932:=Nat
def tw3463158214456291837:=Nat
def tw16276918247360826094:=Nat
def tw15342078662491814328:=Nat
def tw7240610539406574324:=Nat
def tw15131274663588860119:=Nat
def tw2598509470512395757:=Nat
def tw1492962054812573784:=Nat
def tw2368625773357481118:=Nat
def tw3127480153127759899:=Nat
def tw4118991492453767265:=Nat
def tw1291088365638444838:=Nat
def tw506445369447412977:=Nat
def tw3096902090722223731:=Nat
def tw2777518251135085780:=Nat
def tw12386786855716947381:=Nat
def tw4454107629826654782:=Nat
def tw9158074072103275248:=Nat
def tw14398501283270568381:=Nat
def tw2841477387422683517:=Nat
def tw18117330174439651011:=Nat
def tw3006704306340283157:=Nat
def tw1660414816236323129:=Nat
def tw12760904603666954748:=Nat
def tw13277155278223214421:=Nat
def tw1302091215668053578:=Nat
def tw2378291813866285052:=Nat
def tw2802875631443564890:=Nat
def tw585635434345639908:=Nat
def tw13005765198983216126:=Nat
def tw6239263682401438495:=Nat
def tw16060381324744149917:=Nat
def tw16897848176852949364:=Nat
def tw2972136079983853684:=Nat
def tw7645970124990308811:=Nat
def tw15721789337605372128:=Nat
def tw15532295966082520646:=Nat
def tw7046499324878269582:=Nat
def tw1786338619075365278:=Nat
def tw10250564972778823126:=Nat
def tw8609237118914200549:=Nat
def tw13785555801090713814:=Nat
def tw11275872793228598810:=Nat
def tw10847131609032898504:=Nat
def tw3352495344331376918:=Nat
def tw4340715132087130135:=Nat
def tw1642084094841537471:=Nat
def tw17889676309128459721:=Nat
def tw9820120979906788427:=Nat
def tw13944697201537206728:=Nat
def tw4676784560879878372:=Nat
def tw588729128713645502:=Nat
def tw13760227912688940033:=Nat
def tw14724372878276653146:=Nat
def tw743567587051446253:=Nat
def tw12324000559394817772:=Nat
def tw11359150886209127192:=Nat
def tw10950886217599891187:=Nat
def tw15617169989151304901:=Nat
def tw11173429501272449868:=Nat
def tw15201775228847472177:=Nat
def tw14748680276536641447:=Nat
def tw15795122942874318567:=Nat
def tw6420043156654262732:=Nat
def tw4326352209070947250:=Nat
def tw3719619474551954058:=Nat
def tw12799641689166310413:=Nat
def tw11167613423433446514:=Nat
def tw995334540464478904:=Nat
def tw14027091450717602775:=Nat
def tw16424698546826228854:=Nat
def tw17310151712155905103:=Nat
def tw6048758643577025305:=Nat
def tw3819627060137994342:=Nat
def tw1713837456643264136:=Nat
def tw6863360493751398358:=Nat
def tw11217716620089993189:=Nat
def tw18079574070366669894:=Nat
def tw14410912490630759082:=Nat
def tw8969285684422631848:=Nat
def tw4187060010614404916:=Nat
def tw4775952934461263592:=Nat
def tw4354559167804685230:=Nat
def tw9042484940180741381:=Nat
def tw8463979831442383364:=Nat
def tw7618815764306059759:=Nat
def tw2882237443976274088:=Nat
def tw9782312255723208712:=Nat
def tw6048687811208164483:=Nat
def tw11456865582034145810:=Nat
def tw2875995432809343019:=Nat
def tw8407035171028018273:=Nat
def tw13467721229104521530:=Nat
def tw8241578697275706991:=Nat
def tw16702911859370687110:=Nat
def tw1203336450158866352:=Nat
def tw12876292927484036955:=Nat
def tw1922490304368690277:=Nat
def tw16485652762304250141:=Nat
def tw13337445551400155998:=Nat
def tw16790402296856654399:=Nat
def tw14544743160826617232:=Nat
def tw15950729046552787696:=Nat
def tw4143560367414743545:=Nat
def tw4556494554754714005:=Nat
def tw7773985872547109623:=Nat
def tw1398057046590895509:=Nat
def tw18229037301946756742:=Nat
def tw14818807085805700673:=Nat
def tw18432854097797096566:=Nat
def tw649366165600233048:=Nat
def tw365403143494169138:=Nat
def tw13906979604111519257:=Nat
def tw7770012915506433149:=Nat
def tw10907024498762842375:=Nat
def tw14886095698117737359:=Nat
def tw18434509637093570715:=Nat
def tw125704245825620321:=Nat
def tw9000626720957066382:=Nat
def tw8417571196510355343:=Nat
def tw6113987580953019052:=Nat
def tw2209461138101961597:=Nat
def tw18225813614334900742:=Nat
def tw14194540331657355110:=Nat
def tw13027457511550949130:=Nat
end PySem.W.Fast
open PySem PySem.W PyProof.Rows
set_option maxRecDepth 100000 in
set_option maxHeartbeats 0 in
theorem PySem.Challenge.cw_voucherstack_k54_whole_taken_back_any_ti_holds : PySem.Challenge.rw_voucherstack_k54_whole_taken_back_any_ti.Holds := by
 w_on;o_law;k_head;(case hw=>w_witness2)
 k_fill
 refine L2.walkT_of (l:=PySem.Challenge.rw_voucherstack_k54_whole_taken_back_any_ti) (k:=19) (x:="_law_script") rfl rfl ⟨rfl,by decide,by decide⟩ (fun w h Y=>PySem.W.km_in_of Y) (fun w h Y=>PySem.W.km_tabs_of Y) ?F
 case F=>
  intro w mg fa h KX G hmg
  refine' Vs.all_mk KX G hmg ?NA ?Ny ?JM ?Nx ?NC ?Nk ?NB ?Nw ?JK ?JJ ?Nb ?JN ?afalling_groups ?lfalling_groups ?cfalling_groups ?kfalling_groups ?JS ?Nl ?JV ?Nr ?Nz ?Nu ?JW ?J7 ?J6 ?JI ?Nt ?Nv ?Nj ?Nh ?JX ?Np ?J9 ?JZ ?JY ?JO ?JH ?JG ?J5 ?JP ?Nf ?Nd ?J4 ?JT ?Ni ?Na ?Ng ?alaw ?llaw ?claw ?klaw ?aMarks ?imMarks ?isMarks ?iyMarks ?inX ?itX ?pgMarks ?hdMarks ?poMarks ?saMarks ?mkMarks ?kcMarks ?iaMarks ?nMarks_kind ?nMarks_needs ?nMarks_most ?nMarks_member ?nMarks_once ?nMarks_lone ?hMarks_init ?iMarks_init ?lMarks_init ?cMarks_init ?kMarks_init ?tMarks_init ?aVoucher ?imVoucher ?isVoucher ?iyVoucher ?pgVoucher ?hdVoucher ?poVoucher ?saVoucher ?mkVoucher ?kcVoucher ?iaVoucher ?hVoucher_init ?iVoucher_init ?lVoucher_init ?cVoucher_init ?kVoucher_init ?tVoucher_init ?aOff ?imOff ?isOff ?iyOff ?pgOff ?hdOff ?poOff ?saOff ?mkOff ?kcOff ?iaOff ?nOff_amount ?nOff_marks ?hOff_init ?iOff_init ?lOff_init ?cOff_init ?kOff_init ?tOff_init ?aShare ?imShare ?isShare ?iyShare ?pgShare ?hdShare ?poShare ?saShare ?mkShare ?kcShare ?iaShare ?nShare_share ?nShare_by_line ?nShare_marks ?hShare_init ?iShare_init ?lShare_init ?cShare_init ?kShare_init ?tShare_init ?aCheapest ?imCheapest ?isCheapest ?iyCheapest ?pgCheapest ?hdCheapest ?poCheapest ?saCheapest ?mkCheapest ?kcCheapest ?iaCheapest ?nCheapest_many ?nCheapest_marks ?hCheapest_init ?iCheapest_init ?lCheapest_init ?cCheapest_init ?kCheapest_init ?tCheapest_init ?aBundle ?imBundle ?isBundle ?iyBundle ?pgBundle ?hdBundle ?poBundle ?saBundle ?mkBundle ?kcBundle ?iaBundle ?nBundle_many ?nBundle_price ?nBundle_marks ?hBundle_init ?iBundle_init ?lBundle_init ?cBundle_init ?kBundle_init ?tBundle_init ?aCarriage ?imCarriage ?isCarriage ?iyCarriage ?pgCarriage ?hdCarriage ?poCarriage ?saCarriage ?mkCarriage ?kcCarriage ?iaCarriage ?nCarriage_marks ?hCarriage_init ?iCarriage_init ?lCarriage_init ?cCarriage_init ?kCarriage_init ?tCarriage_init ?aLine ?imLine ?isLine ?iyLine ?pgLine ?hdLine ?poLine ?saLine ?mkLine ?kcLine ?iaLine ?nLine_kind ?nLine_price ?nLine_many ?nLine_special ?hLine_init ?iLine_init ?lLine_init ?cLine_init ?kLine_init ?tLine_init ?aBasket ?imBasket ?isBasket ?iyBasket ?pgBasket ?hdBasket ?poBasket ?saBasket ?mkBasket ?kcBasket ?iaBasket ?nBasket_lines ?nBasket_carriage ?nBasket_member ?hBasket_init ?iBasket_init ?lBasket_init ?cBasket_init ?kBasket_init ?tBasket_init ?aStanding ?imStanding ?isStanding ?iyStanding ?pgStanding ?hdStanding ?poStanding ?saStanding ?mkStanding ?kcStanding ?iaStanding ?nStanding_owners ?nStanding_prices ?nStanding_carriage ?nStanding_marked ?JU ?JL ?aWay ?imWay ?isWay ?iyWay ?pgWay ?hdWay ?poWay ?saWay ?mkWay ?kcWay ?iaWay ?nWay_till ?nWay_basket ?nWay_hand ?nWay_used ?nWay_standing ?Nq ?J0 ?Nc ?JR ?JQ ?aBill ?imBill ?isBill ?iyBill ?pgBill ?hdBill ?poBill ?saBill ?mkBill ?kcBill ?iaBill ?nBill_order ?nBill_steps ?nBill_prices ?nBill_carriage ?nBill_total ?Nm ?aTill ?imTill ?isTill ?iyTill ?pgTill ?hdTill ?poTill ?saTill ?mkTill ?kcTill ?iaTill ?nTill_parents ?nTill_vouchers ?nTill_rules ?nTill_back ?hTill_init ?iTill_init ?lTill_init ?cTill_init ?kTill_init ?tTill_init ?aAccount ?imAccount ?isAccount ?iyAccount ?pgAccount ?hdAccount ?poAccount ?saAccount ?mkAccount ?kcAccount ?iaAccount ?nAccount_till ?nAccount_basket ?nAccount_hand ?nAccount_first_prices ?nAccount_order ?nAccount_fallen ?nAccount_many ?nAccount_paid ?nAccount_owed ?J8 ?JD ?JF ?JE ?Jz ?JA ?JC ?JB ?rdVoucher_init ?gaVoucher_init ?fcVoucher_init ?qOff_Carriage ?qShare_Carriage ?qCheapest_Carriage ?qBundle_Carriage ?qShare_Off ?qCheapest_Off ?qBundle_Off ?qCarriage_Off ?qOff_Share ?qCheapest_Share ?qBundle_Share ?qCarriage_Share ?qOff_Cheapest ?qShare_Cheapest ?qBundle_Cheapest ?qCarriage_Cheapest ?qOff_Bundle ?qShare_Bundle ?qCheapest_Bundle ?qCarriage_Bundle ?qafalling_groups ?qbfalling_groups ?qcfalling_groups ?qdfalling_groups ?qefalling_groups ?qffalling_groups ?qgfalling_groups ?qhfalling_groups ?qifalling_groups ?qjfalling_groups ?qkfalling_groups ?qlfalling_groups ?qaeNotLet ?qaeTillError ?qaeNoPieces ?qaeLineError ?qeeNoPieces ?qxaNoPieces ?qxbNoPieces ?qxcNoPieces ?qxdNoPieces ?qxeNoPieces ?qxfNoPieces ?qxmNoPieces_TillError ?qkiNoPieces_NotLet ?qkiNoPieces_LineError ?qkiNoPieces_ValueError ?zVE ?z1 ?z2 ?z3 ?z4 ?z5 ?z6 ?z7 ?z8 ?z9 ?z10 ?z11 ?z12 ?z13 ?z14 ?z15 ?z16 ?z17 ?z18
  any_goals k_is
  exists NA,Vs.nL2 fun _ _=>rfl,0,0,0
  exists Ny,Vs.nL3 fun _ _ _=>rfl,0,0,0
  exists JM,Vs.nL2 fun _ _=>rfl,0,0,0
  exists Nx,Vs.nL4 fun _ _ _ _=>rfl,0,0,0
  exists NC,Vs.nL4 fun _ _ _ _=>rfl,0,0,0
  exists Nk,Vs.nL4 fun _ _ _ _=>rfl,0,0,0
  exists NB,Vs.nL4 fun _ _ _ _=>rfl,0,0,0
  exists Nw,Vs.nL4 fun _ _ _ _=>rfl,0,0,0
  exists JK,Vs.nL4 fun _ _ _ _=>rfl,0,0,0
  exists JJ,Vs.nL2 fun _ _=>rfl,0,0,0
  exists Nb,Vs.nL3 fun _ _ _=>rfl,0,0,0
  exists JN,Vs.nL2 fun _ _=>rfl,0,0,0
  exists JS,Vs.nL3 fun _ _ _=>rfl,0,0,0
  exists Nl,Vs.nL2 fun _ _=>rfl,0,0,0
  exists JV,Vs.nL2 fun _ _=>rfl,0,0,0
  exists Nr,Vs.nL2 fun _ _=>rfl,0,0,0
  exists Nz,Vs.nL4 fun _ _ _ _=>rfl,0,0,0
  exists Nu,Vs.nL4 fun _ _ _ _=>rfl,0,0,0
  exists JW,Vs.nL4 fun _ _ _ _=>rfl,0,0,0
  exists J7,Vs.nL3 fun _ _ _=>rfl,0,0,0
  exists J6,Vs.nL3 fun _ _ _=>rfl,0,0,0
  exists JI,Vs.nL2 fun _ _=>rfl,0,0,0
  exists Nt,Vs.nL4 fun _ _ _ _=>rfl,0,0,0
  exists Nv,Vs.nL3 fun _ _ _=>rfl,0,0,0
  exists Nj,Vs.nL1 fun _=>rfl,0,0,0
  exists Nh,Vs.nL1 fun _=>rfl,0,0,0
  exists JX,Vs.nL2 fun _ _=>rfl,0,0,0
  exists Np,Vs.nL3 fun _ _ _=>rfl,0,0,0
  exists J9,Vs.nL1 fun _=>rfl,0,0,0
  exists JZ,Vs.nL2 fun _ _=>rfl,0,0,0
  exists JY,Vs.nL4 fun _ _ _ _=>rfl,0,0,0
  exists JO,Vs.nL3 fun _ _ _=>rfl,0,0,0
  exists JH,Vs.nL3 fun _ _ _=>rfl,0,0,0
  exists JG,Vs.nL1 fun _=>rfl,0,0,0
  exists J5,Vs.nL4 fun _ _ _ _=>rfl,0,0,0
  exists JP,Vs.nL3 fun _ _ _=>rfl,0,0,0
  exists Nf,Vs.nL2 fun _ _=>rfl,0,0,0
  exists Nd,Vs.nL1 fun _=>rfl,0,0,0
  exists J4,Vs.nL3 fun _ _ _=>rfl,0,0,0
  exists JT,Vs.nL2 fun _ _=>rfl,0,0,0
  exists Ni,Vs.nL7 fun _ _ _ _ _ _ _=>rfl,0,0,0
  exists Na,Vs.nL7 fun _ _ _ _ _ _ _=>rfl,0,0,0
  exists Ng,Vs.nL7 fun _ _ _ _ _ _ _=>rfl,0,0,0
  (case JU=>refine' Vs.mt_mk ?_ ?_ ?_ ?_ ?_ (fun _ _ _ _ _ _=>Vs.nL2 fun _ _=>rfl);any_goals k_is)
  (case JL=>refine' Vs.mt_mk ?_ ?_ ?_ ?_ ?_ (fun _ _ _ _ _ _=>Vs.nL1 fun _=>rfl);any_goals k_is)
  (case Nq=>refine' Vs.mt_mk ?_ ?_ ?_ ?_ ?_ (fun _ _ _ _ _ _=>Vs.nL4 fun _ _ _ _=>rfl);any_goals k_is)
  (case J0=>refine' Vs.mt_mk ?_ ?_ ?_ ?_ ?_ (fun _ _ _ _ _ _=>Vs.nL2 fun _ _=>rfl);any_goals k_is)
  (case Nc=>refine' Vs.mt_mk ?_ ?_ ?_ ?_ ?_ (fun _ _ _ _ _ _=>Vs.nL2 fun _ _=>rfl);any_goals k_is)
  (case JR=>refine' Vs.mt_mk ?_ ?_ ?_ ?_ ?_ (fun _ _ _ _ _ _=>Vs.nL1 fun _=>rfl);any_goals k_is)
  (case JQ=>refine' Vs.mt_mk ?_ ?_ ?_ ?_ ?_ (fun _ _ _ _ _ _=>Vs.nL1 fun _=>rfl);any_goals k_is)
  (case Nm=>refine' Vs.mt_mk ?_ ?_ ?_ ?_ ?_ (fun _ _ _ _ _ _=>Vs.nL4 fun _ _ _ _=>rfl);any_goals k_is)
  (case J8=>refine' Vs.mt_mk ?_ ?_ ?_ ?_ ?_ (fun _ _ _ _ _ _=>Vs.nL5 fun _ _ _ _ _=>rfl);any_goals k_is)
  (case JD=>refine' Vs.mt_mk ?_ ?_ ?_ ?_ ?_ (fun _ _ _ _ _ _=>Vs.nL3 fun _ _ _=>rfl);any_goals k_is)
  (case JF=>refine' Vs.mt_mk ?_ ?_ ?_ ?_ ?_ (fun _ _ _ _ _ _=>Vs.nL3 fun _ _ _=>rfl);any_goals k_is)
  (case JE=>refine' Vs.mt_mk ?_ ?_ ?_ ?_ ?_ (fun _ _ _ _ _ _=>Vs.nL2 fun _ _=>rfl);any_goals k_is)
  (case Jz=>refine' Vs.mt_mk ?_ ?_ ?_ ?_ ?_ (fun _ _ _ _ _ _=>Vs.nL4 fun _ _ _ _=>rfl);any_goals k_is)
  (case JA=>refine' Vs.mt_mk ?_ ?_ ?_ ?_ ?_ (fun _ _ _ _ _ _=>Vs.nL1 fun _=>rfl);any_goals k_is)
  (case JC=>refine' Vs.mt_mk ?_ ?_ ?_ ?_ ?_ (fun _ _ _ _ _ _=>Vs.nL2 fun _ _=>rfl);any_goals k_is)
  (case JB=>refine' Vs.mt_mk ?_ ?_ ?_ ?_ ?_ (fun _ _ _ _ _ _=>Vs.nL2 fun _ _=>rfl);any_goals k_is)
  (try case qafalling_groups=>first|rfl|decide|k_is)
  (try case qbfalling_groups=>k_is)
  (try case qcfalling_groups=>first|rfl|decide|k_is)
  (try case qdfalling_groups=>first|rfl|decide|k_is)
  (try case qefalling_groups=>first|rfl|decide|k_is)
  (try case qffalling_groups=>first|rfl|decide|k_is)
  (try case qgfalling_groups=>first|rfl|decide|k_is)
  (try case qhfalling_groups=>first|rfl|decide|k_is)
  (try case qifalling_groups=>first|rfl|decide|k_is)
  (try case qjfalling_groups=>first|rfl|decide|k_is)
  (try case qkfalling_groups=>first|k_is|rfl|decide|cutsat)
  (try case qlfalling_groups=>decide)
  (try case qeeNoPieces=>first|k_is|(k_exc;done)|(kts_exm;done)|(kit_is;done)|rfl|cutsat)
  (try case qxaNoPieces=>first|k_is|(k_exc;done)|(kts_exm;done)|(kit_is;done)|rfl|cutsat)
  (try case qxbNoPieces=>first|k_is|(k_exc;done)|(kts_exm;done)|(kit_is;done)|rfl|cutsat)
  (try case qxcNoPieces=>first|k_is|(k_exc;done)|(kts_exm;done)|(kit_is;done)|rfl|cutsat)
  (try case qxdNoPieces=>first|k_is|(k_exc;done)|(kts_exm;done)|(kit_is;done)|rfl|cutsat)
  (try case qxeNoPieces=>first|k_is|(k_exc;done)|(kts_exm;done)|(kit_is;done)|rfl|cutsat)
  (try case qxfNoPieces=>first|k_is|(k_exc;done)|(kts_exm;done)|(kit_is;done)|rfl|cutsat)
  (try case qxmNoPieces_TillError=>first|k_is|(k_exc;done)|(kts_exm;done)|(kit_is;done)|rfl|cutsat)
  (try case qkiNoPieces_NotLet=>first|k_is|(k_exc;done)|(kts_exm;done)|(kit_is;done)|rfl|cutsat)
  (try case qkiNoPieces_LineError=>first|k_is|(k_exc;done)|(kts_exm;done)|(kit_is;done)|rfl|cutsat)
  (try case qkiNoPieces_ValueError=>first|k_is|(k_exc;done)|(kts_exm;done)|(kit_is;done)|rfl|cutsat)
