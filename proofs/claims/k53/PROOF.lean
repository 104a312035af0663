import PyProof.Rows.All
import Wide.All
import OpenK.AllK
import Wide.FinOn
import Lean
import PyProof.EqAt
import PyProof.EqKinds
import PyProof.TupleCall
import PySem.Challenge.RW_voucherstack_k53_whole_what_holds_is_bes
set_option Elab.async false
set_option linter.all false
set_option compiler.extract_closed false
set_option maxHeartbeats 4000000
set_option maxRecDepth 100000
open Array renaming length_toList -> Mg, size_zip -> MR, getElem?_eq_getElem -> MS, Perm -> MT, mem_iff_getElem -> Et, getElem_mem -> Eu, mem_toList_iff -> EH
open Bool renaming false_ne_true -> JD, false_eq_true -> Ng, and_eq_true -> NT, eq_iff_iff -> Mh, and_true -> MN, false_and -> Eg, or_eq_true -> En, not_true -> Er
open List renaming length_map -> Jv, range -> Jy, mem_of_getElem? -> JB, map_append -> JC, replicate -> JE, getElem?_map -> JF, map_cons -> JG, getElem?_eq_some_iff -> JK, getD_eq_getElem?_getD -> JM, length_append -> JN, map_map -> JO, mem_map -> JP, mem_cons_of_mem -> JQ, mem_cons_self -> JS, mem_filter -> JT, length_take -> JV, size_toArray -> JW, mem_cons -> JY, sum_cons -> J0, take_length -> J4, append_nil -> J8, flatten_cons -> J9, mem_append -> Na, length_cons -> Nb, append_assoc -> Nc, lookup_cons -> Nj, range_succ -> Nk, zipWith -> Nl, mem_append_right -> Nm, length_singleton -> Nv, getElem?_eq_getElem -> Nw, length -> Ny, mem_singleton -> Nz, map_congr_left -> NA, filter_cons -> NB, sum_append -> NC, any_cons -> NF, nil_append -> NG, Pairwise -> NH, filter_append -> NI, lookup -> NM, nodup_cons -> NO, find?_cons -> NP, take_add_one -> NQ, length_filter_le -> NR, mem_flatten -> NS, mem_iff_getElem? -> NV, map_nil -> NZ, replicate_succ -> N2, map_set -> N4, of_mem_zip -> N6, length_replicate -> N7, length_set -> N8, take_of_length_le -> N9, all_eq_true -> Ma, not_mem_nil -> Mb, pairwise_iff_getElem -> Md, ext_getElem -> Me, filter_nil -> Mf, mem_range -> Mj, getElem?_append_right -> Ml, length_drop -> Mm, nodup_range -> Mn, pairwise_cons -> Mo, getElem?_eq_none -> Mp, getElem?_range -> Mq, sum_nil -> Mr, getElem?_of_mem -> Ms, getElem?_append_left -> Mv, getElem_mem -> Mw, map_take -> Mx, cons_append -> Mz, getElem_map -> MA, length_nil -> MB, pairwise_lt_range -> MC, pairwise_map -> MD, count_append -> ME, mem_append_left -> MF, getElem?_set_self -> MG, getElem?_set_ne -> MH, all_cons -> ML, reverse_cons -> MM, nodup_nil -> MQ, drop_eq_getElem_cons -> MW, flatten_append -> MY, getElem_range -> MZ, Perm -> M0, length_zipWith -> M1, getElem?_zipWith -> M3, Sublist -> M4, mem_of_mem_take -> M5, replicate_succ' -> M7, mem_map_of_mem -> Ea, mem_flatMap -> Eb, getElem?_eq_none_iff -> Ec, filterMap_cons -> Ee, getElem_inj -> Ef, getElem?_replicate -> El, map_drop -> Eo, getElem?_zip_eq_some -> Ep, count_cons -> Es, getElem_of_mem -> Ew, zipIdx_cons -> Ex, sublist_append_left -> Ey, nodup_append -> Ez, getLastD_eq_getLast? -> EA, set_cons_succ -> EB, getElem?_take -> EC, mem_replicate -> ED, any_eq_true -> EE, map_inj_right -> EF, mem_or_eq_of_mem_set -> EG, getElem?_take_of_lt -> EL, take_eq_take_iff -> EM, getElem_cons_drop -> ES, take_append_drop -> ET, getLast?_eq_some_getLast -> EU, drop_of_length_le -> EV, length_pos_of_mem -> EY, length_eq_zero_iff -> EZ, count_cons_of_ne -> E1, mem_of_mem_head? -> E2
open Nat renaming le_refl -> Jx, le_trans -> JA, le_of_lt -> JJ, ne_of_lt -> J5, lt_of_lt_of_le -> J6, zero_le -> J7, lt_irrefl -> ND, ne_of_gt -> NL, lt_of_le_of_lt -> NU, le_succ -> NY, min_self -> Mc, lt_of_le_of_ne -> Mi, le_of_eq -> Mt, zero_add -> My, lt_succ_self -> MJ, lt_trans -> MO, not_lt -> MP, lt_of_succ_lt -> MX, min_eq_left -> M6
open Option renaming map_some -> N3, getD_none -> Em, isSome_iff_exists -> EK
open PySem.F renaming plainAttrs_list -> Nh, slot_list_append -> NJ, type_list_append -> NK, slot_list_count -> M8, type_list_count -> M9, slot_dict_setdefault -> EN, plainAttrs_dict -> EO, slot_dict_values -> ER, slot_list_extend -> EW, type_list_extend -> EX
open PySem.W renaming Frag -> Jw, findIn -> Jz, mroIn -> JI, fnOf -> JR, keepIn -> JU, nsIn -> JX, kitOne -> JZ, mg_of -> Nd, codeIn -> Nf, mg_none_of -> Ni, plainGet -> Np, typeIn -> Nq, hasDictIn -> Nr, isFn -> Nt, makesIn -> Nu, plainOver -> Nx, kia_one -> NN, emptyDict -> NW, instObj -> N5, specialIn -> Mu, lookIn -> MI, callWith_K -> MK, kla_obj -> MU, tabObj -> MV, methodObj -> Ed, plainGet_of -> Eh, takerIn -> Ei, takesIn -> Ej, methodCall_KW -> Ek, callWith_K0 -> EI, cellsFrom_some -> EJ
set_option  genSizeOf false
set_option hygiene false
noncomputable section
local macro_rules|`(tactic|exists $a,$b)=>`(tactic|refine FunD.ok $a $b (by intro _ _ _ _ h;cases h;subst_vars;rfl) (fun cdv A outer s H vs Q E hr h=>?_))
local macro_rules|`(tactic|ac_rfl)=>`(tactic|exact⟨rfl,rfl,rfl,by decide +kernel,rfl,by decide +kernel,by decide +kernel⟩)
local macro_rules|`(tactic|exists $a:ident,$b,$c)=>`(tactic|have $a:ident:=$b (P:=P) (w:=w) $c)
local macro_rules|`(tactic|exists $a:ident)=>`(tactic|try refine sN fun _ $a=>?_)
local macro_rules|`(tactic|exists $a,$b,$c:ident,$d:ident,$e:ident,$f)=>`(tactic|(generalize hg9:upd $a $b _=$c;obtain⟨$d:ident,$e:ident⟩:=kay hg9 $f;clear hg9))
local macro_rules|`(tactic|ac_nf)=>`(tactic|(repeat (first|rw[kac,if_pos rfl]|rw[kac,if_neg (by decide +kernel)])))
local macro_rules|`(tactic|symm)=>`(tactic|try apply Y4)
local macro_rules|`(tactic|nofun)=>`(tactic|try first|apply Y6|apply Y4)
local macro_rules|`(tactic|exists 3)=>`(tactic|try first|apply Y8|apply Y6|apply Y4)
local macro_rules|`(tactic|exists $a:ident,$b,$_,$_,$_)=>`(tactic|(case $a:ident=>refine' Vs.dn_mk KX G ?_ ?_ ?_ ?_ (fun _ _ _ _ _ _=>$b);any_goals k_is))
local macro_rules|`($a>>$b)=>`($a=some $b)
local macro_rules|`(tactic|rwa[$[$t:term],*])=>do let u<-`(_);let r<-`(rfl);let d<-`(⟨by decide,by decide⟩);let x:=t.flatMap fun y:Lean.Term=>match y with|`(6)=>#[r]|`(7)=>#[u,u,r,r,d]|`(8)=>#[u,r]|`(9)=>#[u,u,r,r]|_=>#[y];`(tactic|refine⟨$x,*⟩)
local macro_rules|`(tactic|nomatch $[$t],*)=>`(tactic|(symm;exists Y4;rwa[8,$[$t:term],*]))
local macro_rules|`(tactic|lia)=>`(tactic|omega)
local macro_rules|`(tactic|cutsat)=>`(tactic|decide +kernel)
theorem Zjz(h:0=0:=by rfl):0=0:=rfl
def jz:Lean.Syntax:=Zjz._auto_1
theorem ZjQ(h:0=0:=by decide):0=0:=rfl
def jQ:Lean.Syntax:=ZjQ._auto_1
theorem ZjJ(h:∀x:Nat,x=x:=by intro _;rfl):0=0:=rfl
def jJ:Lean.Syntax:=ZjJ._auto_1
theorem ZjX(h:0=0:=by repeat first|exact Or.inl rfl|assumption|apply Or.inr|rfl):0=0:=rfl
def jX:Lean.Syntax:=ZjX._auto_1
theorem ZjN(h:0=0:=by repeat first|exact nx (by assumption)|exact nx kae|exact nx0 (by assumption)|refine kdj ?_ rfl):0=0:=rfl
def jN:Lean.Syntax:=ZjN._auto_1
namespace Lake
namespace L2
open PySem PySem.Spec PyProof.Rows
abbrev Key:=Sum Int Str
noncomputable def keyIs:Key->Value->Bool
 | .inl k,v=>Value.isInt k v
 | .inr x,v=>Value.isStrOf x v
noncomputable def keyH(w:World):Key->Int
 | .inl k=>hashInt k
 | .inr x=>hashStr w x
theorem ka8:∀{k:Key}{v:Value},keyIs k v=true->(∃i t,k=Sum.inl i/\v=Value.int i t)∨(∃x t,k=Sum.inr x/\v=Value.str x t)
 | .inl i,v,h=>by
  obtain⟨t,e⟩:=Value.isInt_shape (k:=i) (v:=v) h
  exact .inl ⟨i,t,rfl,e⟩
 | .inr x,v,h=>by
  obtain⟨t,e⟩:=Value.isStrOf_shape (x:=x) (v:=v) h
  exact .inr ⟨x,t,rfl,e⟩
def kkv(i:Int)(t:Tok):keyIs (.inl i) (.int i t)=true:=by simp[keyIs,Value.isInt]
def kku(x:Str)(t:Tok):keyIs (.inr x) (.str x t)=true:=by simp[keyIs,Value.isStrOf]
def knF(a b:Int):decide ((Sum.inl a:Key)=Sum.inl b)=(a==b):=by
 by_cases e:a=b
 ·subst e;simp
 ·have h:¬(Sum.inl a:Key)=Sum.inl b:=fun q=>e (Sum.inl.inj q)
  rw[decide_eq_false h]
  exact(beq_eq_false_iff_ne.mpr e).symm
def knC(a b:Str):decide ((Sum.inr a:Key)=Sum.inr b)=decide (a=b):=by
 by_cases e:a=b
 ·subst e;simp
 ·have h:¬(Sum.inr a:Key)=Sum.inr b:=fun q=>e (Sum.inr.inj q)
  rw[decide_eq_false h,decide_eq_false e]
def knE(a:Int)(b:Str):decide ((Sum.inl a:Key)=Sum.inr b)=false:=decide_eq_false (fun q=>nomatch q)
def knD(a:Str)(b:Int):decide ((Sum.inr a:Key)=Sum.inl b)=false:=decide_eq_false (fun q=>nomatch q)
noncomputable def kbj(prog:Program)(w:World):PySem.KeyKind prog w Key where
 is:=keyIs
 hash:=keyH w
 inj:=fun v a b ha hb=>by
  rcases ka8 ha with⟨i,t,rfl,rfl⟩|⟨x,t,rfl,rfl⟩
  ·rcases ka8 hb with⟨j,u,rfl,e⟩|⟨y,u,rfl,e⟩
   ·injection e with e1 _;rw[e1]
   ·exact nomatch e
  ·rcases ka8 hb with⟨j,u,rfl,e⟩|⟨y,u,rfl,e⟩
   ·exact nomatch e
   ·injection e with e1 _;rw[e1]
 byValue:=fun k v h=>by
  rcases ka8 h with⟨i,t,rfl,rfl⟩|⟨x,t,rfl,rfl⟩ <;> rfl
 pyHash:=fun hv h=>by
  rcases ka8 hv with⟨i,t,rfl,rfl⟩|⟨x,t,rfl,rfl⟩
  ·exact wpAny_pyHash_int h
  ·exact wpAny_pyHash_str h
 eqBool:=fun hu hv h=>by
  rcases ka8 hu with⟨i,t,rfl,rfl⟩|⟨x,t,rfl,rfl⟩
  ·rcases ka8 hv with⟨j,u,rfl,rfl⟩|⟨y,u,rfl,rfl⟩
   ·rw[knF] at h;exact wpAny_eqBool_int h
   ·rw[knE] at h;exact SeqAt.EqAt.int_str i t y u _ _ _ _ h
  ·rcases ka8 hv with⟨j,u,rfl,rfl⟩|⟨y,u,rfl,rfl⟩
   ·rw[knD] at h;exact SeqAt.EqAt.str_int x t j u _ _ _ _ h
   ·rw[knC] at h;exact wpAny_eqBool_str h
 «strs» :=fun k x t v h=>by
  rcases ka8 h with⟨i,u,rfl,e⟩|⟨y,u,rfl,e⟩
  ·exact nomatch e
  ·injection e with e1 _
   subst e1
   cases v <;> rfl
def ke3(prog:Program)(w:World)(i:Int)(t:Tok):(kbj prog w).is (.inl i) (.int i t)=true:=kkv i t
def khH(prog:Program)(w:World)(x:Str)(t:Tok):(kbj prog w).is (.inr x) (.str x t)=true:=kku x t
inductive V where
 |non|bl (b:Bool)|int (i:Int)|str (x:Str)|byt (b:Array UInt8)|flt (b:UInt64)|ref (a:Addr)|ty (n:String)
 deriving DecidableEq
def RelV:V->Value->Prop
 | .non,u=>u=Value.none
 | .bl b,u=>u=Value.bool b
 | .int i,u=>∃t,u=Value.int i t
 | .str x,u=>∃t,u=Value.str x t
 | .byt b,u=>∃t,u=Value.bytes b t
 | .flt b,u=>∃t,u=Value.float b t
 | .ref a,u=>u=Value.ref a
 | .ty n,u=>u=Value.type n
abbrev Vals:List V->List Value->Prop:=Paired RelV
def Vals.length{xs:List V}{us:List Value}(r:Vals xs us):xs.length=us.length:=Paired.length r
theorem Vals.get:∀{xs:List V}{us:List Value}{i:Nat}{x:V},Vals xs us->xs[i]?>>x->∃u,us[i]?>>u/\RelV x u
 |_,_,_,_, .nil,e=>by simp at e
 |_,_,0,_, .cons r _,e=>by simp at e;subst e;exact⟨_,rfl,r⟩
 |_,_,i+1,x, .cons _ t,e=>by
  obtain⟨u,h1,h2⟩:=Vals.get (i:=i) (x:=x) t (by simpa using e)
  rwa[u,by simpa using h1,h2]
theorem Vals.set{x:V}{u:Value}(r:RelV x u):∀{xs:List V}{us:List Value}(i:Nat),Vals xs us->Vals (xs.set i x) (us.set i u)
 |_,_,_, .nil=>.nil
 |_,_,0, .cons _ t=>.cons r t
 |_,_,i+1, .cons q t=>.cons q (Vals.set r i t)
theorem Vals.append{xs ys:List V}{us ws:List Value}(h:Vals xs us)(s:Vals ys ws):Vals (xs++ys) (us++ws):=by
 induction h with|nil=>exact s|cons r t ih=>exact .cons r ih
theorem Vals.take:∀{xs:List V}{us:List Value}(n:Nat),Vals xs us->Vals (xs.take n) (us.take n)
 |_,_,0,_=>.nil
 |_,_,_+1, .nil=>.nil
 |_,_,n+1, .cons r t=>.cons r (Vals.take n t)
theorem Vals.drop:∀{xs:List V}{us:List Value}(n:Nat),Vals xs us->Vals (xs.drop n) (us.drop n)
 |_,_,0,r=>r
 |_,_,_+1, .nil=>.nil
 |_,_,n+1, .cons _ t=>Vals.drop n t
def Vals.none_of:∀{xs:List V}{us:List Value}{i:Nat},Vals xs us->xs[i]?=none->us[i]?=none:=fun {xs us i} r e=>by
 have h1:=r.length
 have h2:xs.length<=i:=Ec.mp e
 exact Ec.mpr (by lia)
def RelO:Option V->Option Value->Prop
 |some v,some u=>RelV v u
 |none,none=>True
 |_,_=>False
def KV{κ:Type}:List (κ×V)->List (κ×Value)->Prop:=Paired fun(p: κ×V)(q: κ×Value)=>p.1=q.1/\RelV p.2 q.2
noncomputable def kV:Key->V
 | .inl i=>.int i
 | .inr x=>.str x
inductive HO where
 |lst (xs:List V)
 |tup (xs:List V)
 |dK (kvs:List (Key×V))|dT (kvs:List (List Key×V))
 |set (S:Int->Bool) (n:Nat)
 |ins (C dx:Addr) (fs:List (Str×V))
 |own (x:Addr)
 |xd (fs:List (Str×V))
 |met (f x:Addr)
 |rng (lo hi:Int)
 |frz (o:Obj) (u:HO)
 |tbl (ps:Array Value)
 |ext (φ:Heap->Prop)
abbrev Hp:=Addr->Option HO
noncomputable def upd(H:Hp)(a:Addr)(o:HO):Hp:=fun b=>if b=a then some o else H b
def kae{H:Hp}{a:Addr}{o:HO}:upd H a o a>>o:=by unfold upd;rw[if_pos rfl]
def kak{H:Hp}{a b:Addr}{o:HO}(h:b≠a):upd H a o b=H b:=by unfold upd;rw[if_neg h]
def kmz{H:Hp}{a:Addr}{o u:HO}:upd (upd H a o) a u=upd H a u:=by
 funext b;unfold upd;split <;> rfl
def ne_of{H:Hp}{a b:Addr}{o u:HO}(h:H a>>o)(h':H b>>u)(d:o≠u):a≠b:=by
 intro e;subst e;rw[h] at h';exact d (Option.some.inj h')
def kai{H:Hp}{a b:Addr}{o:HO}(h:H a>>o)(h':H b=none):a≠b:=by
 intro e;subst e;rw[h] at h';cases h'
section
variable(P:Program)(w:World)
def ObjOk(H:Hp)(h:Heap)(a:Addr):HO->Prop
 | .lst xs=>xs.length<=sizeLine/\∃(its:List Value)(n:Nat),Vals xs its/\h.get? a>>{cls:=.type "list",data:=.seq its.toArray n}
 | .tup xs=>xs.length<=sizeLine/\∃its:List Value,Vals xs its/\IsTup h a its.toArray
 | .dK kvs=>kvs.length<=sizeLine/\(a==sysModules)=false/\∃vs,KV kvs vs/\h.DictOf (kbj P w) a vs
 | .dT kvs=>kvs.length<=sizeLine/\(a==sysModules)=false/\∃xs:List (List Key×Addr×Value),
   Paired (fun(p:List Key×V)(q:List Key×Addr×Value)=>p.1=q.1/\H q.2.1>>(.tup (p.1.map kV))/\RelV p.2 q.2.2) kvs xs/\
   ∃o es ep,h.get? a>>o/\o.ExactDict/\o.data=.dict es ep/\es.toList=xs.map (entryOfKey (tupleKind (kbj P w)))/\(xs.map (·.1)).Nodup
 | .set S n=>h.SetOf (intKind P w) a S n
 | .ins C dx fs=>H dx>>(.own a)/\fs.length<=1000/\dx≠a/\h.get? a>>(N5 C dx)/\
   ∃mA,h.Ns1 dx mA/\(∀f,RelO (fs.lookup f) (mA f))/\PySem.Within mA (fs.map (·.1))
 | .own _=>∃o,h.get? a>>o
 | .xd fs=>∃mA,h.Ns1 a mA/\∀f,RelO (fs.lookup f) (mA f)
 | .rng lo hi=>∃t u v,h.get? a>>{cls:=.type "range",data:=.fields #[.int lo t, .int hi u, .int 1 v]}
 | .frz o u=>h.get? a>>o/\ObjOk H h a u
 | .tbl ps=>h.get? a>>{cls:=.none,data:=.fields ps}
 | .met f x=>h.get? a>>(Ed (.ref f) (.ref x))
 | .ext φ=>φ h/\(∃o,h.get? a>>o)/\∀h1 h2:Heap,φ h1->(∀o,h1.get? a>>o->h2.get? a>>o)->φ h2
def HOk(H:Hp)(h:Heap):Prop:=∀a o,H a>>o->ObjOk P w H h a o
end
section
variable{P:Program}{w:World}{H H':Hp}{h h':Heap}{a:Addr}{o:HO}
theorem ObjOk.lt(x:ObjOk P w H h a o):a<h.objs.size:=by
 cases o with
 |lst xs=>obtain⟨_,_,_,_,e⟩:=x;exact Heap.lt_size e
 |tup xs=>obtain⟨_,_,_,p⟩:=x;exact p.lt
 |dK kvs=>obtain⟨_,_,_,_,o,_,_,e,_⟩:=x;exact Heap.lt_size e
 |dT kvs=>obtain⟨_,_,_,_,o,_,_,e,_⟩:=x;exact Heap.lt_size e
 |set S n=>obtain⟨o,_,_,_,e,_⟩:=x;exact Heap.lt_size e
 |ins C dx fs=>obtain⟨_,_,_,e,_⟩:=x;exact Heap.lt_size e
 |own y=>obtain⟨_,e⟩:=x;exact Heap.lt_size e
 |xd fs=>obtain⟨_,⟨_,_,_,e,_⟩,_⟩:=x;exact Heap.lt_size e
 |rng lo hi=>obtain⟨_,_,_,e⟩:=x;exact Heap.lt_size e
 |frz ob u=>obtain⟨e,_⟩:=x;exact Heap.lt_size e
 |tbl ps=>exact Heap.lt_size (show h.get? a>>_ from x)
 |met f y=>exact Heap.lt_size (show h.get? a>>_ from x)
 |ext φ=>obtain⟨_,⟨_,e⟩,_⟩:=x;exact Heap.lt_size e
theorem Paired.mapP{α β:Type}{F G: α->β->Prop}{l₁:List α}{l₂:List β}(h:Paired F l₁ l₂)(f:∀a b,F a b->G a b):Paired G l₁ l₂:=by
 induction h with|nil=>exact .nil|cons r t ih=>exact .cons (f _ _ r) ih
theorem ObjOk.stay(x:ObjOk P w H h a o)(k:∀b u,(b=a∨H b>>(.own a))->h.get? b>>u->h'.get? b>>u)
  (ho:∀b,H b>>(.own a)->H' b>>(.own a))(ht:∀b xs,H b>>(.tup xs)->H' b>>(.tup xs)):ObjOk P w H' h' a o:=by
 induction o with
 |lst xs=>obtain⟨z,its,n,r,e⟩:=x;exact⟨z,its,n,r,k _ _ (.inl rfl) e⟩
 |tup xs=>obtain⟨z,its,r,ob,e,c⟩:=x;exact⟨z,its,r,ob,k _ _ (.inl rfl) e,c⟩
 |dK kvs=>obtain⟨z,y,vs,r,ob,es,ep,e,c⟩:=x;exact⟨z,y,vs,r,ob,es,ep,k _ _ (.inl rfl) e,c⟩
 |dT kvs=>
  obtain⟨z,y,xs,r,ob,es,ep,e,c⟩:=x
  rwa[z,y,xs,Paired.mapP r fun p q z=>⟨z.1,ht _ _ z.2.1,z.2.2⟩,ob,es,ep,k _ _ (.inl rfl) e,c]
 |set S n=>obtain⟨ob,es,ep,t,e,c⟩:=x;exact⟨ob,es,ep,t,k _ _ (.inl rfl) e,c⟩
 |ins C dx fs=>
  obtain⟨d,z,ne,e,mA,⟨od,es,ep,e2,c⟩,r⟩:=x
  rwa[ho _ d,z,ne,k _ _ (.inl rfl) e,mA,⟨od,es,ep,k _ _ (.inr d) e2,c⟩,r]
 |own y=>obtain⟨ob,e⟩:=x;exact⟨ob,k _ _ (.inl rfl) e⟩
 |xd fs=>obtain⟨mA,⟨od,es,ep,e,c⟩,r⟩:=x;exact⟨mA,⟨od,es,ep,k _ _ (.inl rfl) e,c⟩,r⟩
 |rng lo hi=>obtain⟨t,u,v,e⟩:=x;exact⟨t,u,v,k _ _ (.inl rfl) e⟩
 |frz ob u ih=>obtain⟨e,q⟩:=x;exact⟨k _ _ (.inl rfl) e,ih q⟩
 |tbl ps=>
  have e:h.get? a>>{cls:=.none,data:=.fields ps}:=x
  show h'.get? a>>{cls:=.none,data:=.fields ps}
  exact k a _ (.inl rfl) e
 |met f y=>
  have e:h.get? a>>(Ed (.ref f) (.ref y)):=x
  show h'.get? a>>(Ed (.ref f) (.ref y))
  exact k a _ (.inl rfl) e
 |ext φ=>obtain⟨p,⟨o,e⟩,st⟩:=x;exact⟨st _ _ p fun o q=>k _ _ (.inl rfl) q,⟨o,k _ _ (.inl rfl) e⟩,st⟩
theorem HOk.lt(x:HOk P w H h)(e:H a>>o):a<h.objs.size:=(x a o e).lt
theorem HOk.fresh(x:HOk P w H h)(e:h.objs.size<=a):H a=none:=by
 cases q:H a with
 |none=>rfl
 |some u=>exact absurd (J6 (x.lt q) e) (ND _)
theorem HOk.kept(x:HOk P w H h)(k:∀b u,h.get? b>>u->h'.get? b>>u):HOk P w H h':=fun a o e=>
 (x a o e).stay (fun b u _ q=>k b u q) (fun _ q=>q) fun _ _ q=>q
theorem HOk.laid(x:HOk P w H h)(k:∀b u,h.get? b>>u->h'.get? b>>u)(hp:h.objs.size<=a)(new:ObjOk P w (upd H a o) h' a o):HOk P w (upd H a o) h':=fun b u e=>by
 have hn:=x.fresh hp
 by_cases hb:b=a
 ·subst hb;rw[kae] at e;cases e;exact new
 ·rw[kak hb] at e
  exact(x b u e).stay (fun c v _ q=>k c v q) (fun c q=>by rw[kak (kai q hn)];exact q) fun c xs q=>by rw[kak (kai q hn)];exact q
end
def Rd(H:Hp)(a:Addr)(u:HO):Prop:=H a>>u∨∃o,H a>>(.frz o u)
def Rd.of{H:Hp}{a:Addr}{u:HO}(h:H a>>u):Rd H a u:=.inl h
def Rd.ok{P:Program}{w:World}{H:Hp}{h:Heap}{a:Addr}{u:HO}(r:Rd H a u)(x:HOk P w H h):ObjOk P w H h a u:=by
 rcases r with r|⟨o,r⟩
 ·exact x a u r
 ·obtain⟨_,q⟩:=x a _ r
  exact q
def Mut:Option HO->Prop
 |some (.lst _)=>True
 |some (.dK _)=>True
 |some (.dT _)=>True
 |some (.set _ _)=>True
 |some (.ins _ _ _)=>True
 |some (.ext _)=>True
 |_=>False
section
variable{P:Program}{w:World}{H:Hp}{h h':Heap}{x e:Addr}{o':HO}
theorem HOk.write(ok:HOk P w H h)(mu:Mut (H x))(he:e=x∨H e>>(.own x))(k:∀b u,b≠e->h.get? b>>u->h'.get? b>>u)(heo:∃u,h'.get? e>>u)
  (new:ObjOk P w (upd H x o') h' x o'):HOk P w (upd H x o') h':=fun b u q=>by
 have nown:∀c y,H c>>(.own y)->c≠x:=fun c y r z=>by subst z;rw[r] at mu;exact mu
 have ntup:∀c xs,H c>>(.tup xs)->c≠x:=fun c xs r z=>by subst z;rw[r] at mu;exact mu
 by_cases hb:b=x
 ·subst hb;rw[kae] at q;cases q;exact new
 ·rw[kak hb] at q
  by_cases hbe:b=e
  ·have q':H b>>(.own x):=by
    rcases he with z|z
    ·exact absurd (hbe.trans z) hb
    ·rw[hbe];exact z
   rw[q] at q';cases q'
   obtain⟨v,hv⟩:=heo
   rwa[v,by rw[hbe];exact hv]
  ·refine(ok b u q).stay (fun c v hc r=>k c v ?_ r) (fun c r=>by rw[kak (nown c b r)];exact r) fun c xs r=>by rw[kak (ntup c xs r)];exact r
   rcases hc with rfl|hc
   ·exact hbe
   ·rintro rfl
    rcases he with z|z
    ·exact nown c b hc z
    ·rw[hc] at z;cases z;exact hb rfl
end
structure Un(fs ex:List Addr)(H H':Hp)(h h':Heap):Prop where
 keep:∀b o,h.get? b>>o->H b=none->b∉fs->b∉ex->h'.get? b>>o
 slot:∀b o,h.get? b>>o->H b=none->b∈fs->b∉ex->∃sl,h'.get? b>>{o with slots:=sl}
 free:∀b o,h.get? b>>o->H b=none->b∉ex->H' b=none
 there:∀b o,h.get? b>>o->b∉ex->∃o',h'.get? b>>o'
 tups:∀b xs,H b>>(.tup xs)->H' b>>(.tup xs)
 frzs:∀b o u,H b>>(.frz o u)->H' b>>(.frz o u)
 tbls:∀b ps,H b>>(.tbl ps)->∃more,H' b>>(.tbl (ps++more))
section
variable{fs fs' ex ex':List Addr}{H H1 H2:Hp}{h h1 h2 h':Heap}{a x e:Addr}{o:HO}
theorem Un.any(u:Un fs ex H H1 h h1){b:Addr}{ob:Obj}(q:h.get? b>>ob)(n:H b=none)(hx:b∉ex):∃sl,h1.get? b>>{ob with slots:=sl}:=by
 by_cases hb:b∈fs
 ·exact u.slot b ob q n hb hx
 ·rwa[ob.slots,u.keep b ob q n hb hx]
theorem Un.kept(k:∀b u,h.get? b>>u->h'.get? b>>u):Un fs ex H H h h':=
 ⟨fun b ob q _ _ _=>k b ob q,fun b ob q _ _ _=>⟨ob.slots,k b ob q⟩,fun _ _ _ n _=>n,fun b ob q _=>⟨ob,k b ob q⟩,fun _ _ q=>q,fun _ _ _ q=>q,fun _ ps q=>⟨#[],by rw[q];simp⟩⟩
theorem Un.refl:Un fs ex H H h h:=Un.kept fun _ _ q=>q
theorem Un.laid(k:∀b u,h.get? b>>u->h'.get? b>>u)(hp:h.objs.size<=a)(hn:H a=none):Un fs ex H (upd H a o) h h' where
 keep:=fun b u q _ _ _=>k b u q
 slot:=fun b u q _ _ _=>⟨u.slots,k b u q⟩
 free:=fun b u q n _=>by rw[kak (J5 (J6 (Heap.lt_size q) hp))];exact n
 there:=fun b u q _=>⟨u,k b u q⟩
 tups:=fun b xs q=>by rw[kak (kai q hn)];exact q
 frzs:=fun b u xs q=>by rw[kak (kai q hn)];exact q
 tbls:=fun b ps q=>⟨#[],by rw[kak (kai q hn),q];simp⟩
theorem Un.write(mu:Mut (H x))(he:e=x∨H e>>(.own x))(k:∀b u,b≠e->h.get? b>>u->h'.get? b>>u)(heo:∃u,h'.get? e>>u):Un fs ex H (upd H x o) h h':=by
 have hx:∀b,H b=none->b≠x:=fun b n z=>by subst z;rw[n] at mu;exact mu
 have hb:∀b,H b=none->b≠e:=fun b n z=>by
  subst z
  rcases he with r|r
  ·exact hx b n r
  ·rw[n] at r;cases r
 have hm:∀b u,H b>>u->¬Mut (some u)->b≠x:=fun b u q nm z=>by subst z;rw[q] at mu;exact nm mu
 refine⟨fun b u q n _ _=>k b u (hb b n) q,fun b u q n _ _=>⟨u.slots,k b u (hb b n) q⟩,fun b u q n _=>by rw[kak (hx b n)];exact n,fun b u q _=>?_,
  fun b xs q=>by rw[kak (hm b _ q fun z=>z)];exact q,fun b u xs q=>by rw[kak (hm b _ q fun z=>z)];exact q,fun b ps q=>⟨#[],by rw[kak (hm b _ q fun z=>z),q];simp⟩⟩
 by_cases hbe:b=e
 ·subst hbe;exact heo
 ·rwa[u,k b u hbe q]
end
noncomputable def trk(h:Heap)(H:Hp):List Addr:=(Jy h.objs.size).filter fun a=>(H a).isSome
noncomputable def hidT(h:Heap)(H:Hp):Heap:=PySem.W.hideAll h (trk h H)
def kkC(h:Heap)(H:Hp):(hidT h H).objs.size=h.objs.size:=PySem.W.hideAll_size _ _
def klE{h:Heap}{H:Hp}{b:Addr}{o:Obj}(e:h.get? b>>o)(n:H b=none):(hidT h H).get? b>>o:=
 PySem.W.hideAll_get _ e fun hm=>by
  have q:(H b).isSome=true:=(JT.mp hm).2
  rw[n] at q;simp at q
theorem kmV{h:Heap}{H:Hp}{b:Addr}{o:Obj}(e:(hidT h H).get? b>>o):h.get? b>>o/\H b=none:=by
 have e':h.get? b>>o:=PySem.W.of_hideAll (trk h H) e
 rwa[e',?_]
 cases q:H b with
 |none=>rfl
 |some x=>
  have hm:b∈trk h H:=JT.mpr ⟨Mj.mpr (Heap.lt_size e'),by simp[q]⟩
  have z:(hidT h H).get? b=none:=PySem.W.hideAll_none (trk h H) hm
  rw[z] at e;cases e
noncomputable def knj(g h:Heap)(L:Addr):List (Addr×Obj):=(Jy h.objs.size).filterMap fun a=>if a=L∨(g.get? a).isSome=true then none else(h.get? a).map fun o=>(a,o)
noncomputable def rest(g h:Heap)(L d:Addr):List (Addr×Obj):=(knj g h L).filter fun p=>decide (p.1≠d)
structure Mod(K:Jw)(mg:Str->Option Value)(base:Heap):Prop where
 kin:K.In base
 glob:base.Ns mainGlobals mg
 blt:∃mb,base.Ns builtinsNs mb/\∀x:Str,x≠"__name__"->mb x=bootBuiltins x
 nolimit:base.NoLimit
set_option genInjectivity false in
structure Cx where
 prog:Program
 w:World
 K:Jw
 mg:Str->Option Value
 base:Heap
 A:Around
 N:List Str
 s₀:Shared
 H₀:Hp
 env:Env
 outer:List Env
 stack:List Env
 ex:List Addr
 fn:Str->Bool
 calm:Bool
 pn:List (Addr×Obj)
 xe:Value->Shared->Prop
noncomputable def frs(l:List Env):List Addr:=l.filterMap (·.frame)
abbrev Cx.fs(X:Cx):List Addr:=frs X.outer
def Vis(sc:Scope)(x:Str):Prop:=sc.names.lookup x>>.local∨sc.names.lookup x>>.cell∨sc.names.lookup x>>.free
def Loc(sc:Scope)(x:Str):Prop:=sc.names.lookup x>>.local∨sc.names.lookup x>>.cell
def Look(env:Env)(h:Heap)(m:Str->Option Value)(x:Str)(u:Value):Prop:=
 (env.kindOf x>>.local/\m x>>u)∨((env.kindOf x>>.cell∨env.kindOf x>>.free)/\∃c,env.cells.lookup x>>c/\h.IsCell c (some u))
structure Cx.Ok(X:Cx):Prop where
 mod:Mod X.K X.mg X.base
 kind:X.env.scope.kind=.function
 glob:X.env.globals=mainGlobals
 blt:X.env.builtins=builtinsNs
 above:X.s₀.heap.objs.size<=X.env.locals
 inj:∀x y c,X.env.cells.lookup x>>c->X.env.cells.lookup y>>c->x=y
 has:∀x,(X.env.kindOf x>>.cell∨X.env.kindOf x>>.free)->∃c,X.env.cells.lookup x>>c
 cab:∀x c,X.fn x=true->X.env.cells.lookup x>>c->X.s₀.heap.objs.size<=c
 hd:X.calm=true->X.A.handled=none
 frames:X.A.frames>>X.stack
 stk:X.stack=X.outer∨(X.stack=X.env::X.outer/\X.env.frame>>X.env.locals)
 exf:∀b∈X.ex,b≠X.env.locals/\∀x c,X.env.cells.lookup x>>c->c≠b
 bs:∀b o,X.base.get? b>>o->X.s₀.heap.get? b>>o/\X.H₀ b=none
 bsz:X.base.objs.size<=X.s₀.heap.objs.size
 noex:∀b o,X.base.get? b>>o->b∉X.ex
 exfs:∀b∈X.ex,b∉X.fs
 funs:X.s₀.heap.FunFrames X.base X.outer
 frf:∀b∈X.fs,X.H₀ b=none
structure Inv(X:Cx)(pins:List (Addr×Obj))(σ:List (Option V))(H:Hp)(s:Shared):Prop where
 ok:X.Ok
 os:s.os=X.s₀.os
 bare:AllBare s.gens
 base:Un X.fs X.ex X.H₀ H X.s₀.heap s.heap
 loc:∃m,s.heap.Ns X.env.locals m/\∀(i:Nat)(x:Str)(v:V),X.N[i]?>>x->σ[i]?>>(some v)->Vis X.env.scope x->∃u,RelV v u/\Look X.env s.heap m x u
 cell:∀x c,X.env.cells.lookup x>>c->∃v,s.heap.IsCell c v
 free:H X.env.locals=none
 freeC:∀x c,X.env.cells.lookup x>>c->H c=none
 pin:∀p∈X.pn++pins,s.heap.get? p.1>>p.2/\H p.1=none/\p.1≠X.env.locals/\p.1∉X.fs/\∀v,p.2.data≠.cell v
 hok:HOk X.prog X.w H s.heap
 len: σ.length=X.N.length
section
variable{X:Cx}{pins:List (Addr×Obj)}{σ:List (Option V)}{H H':Hp}{s:Shared}{h':Heap}
theorem Cx.Ok.nofr(ok:X.Ok){b:Addr}{o:Obj}(e:X.base.get? b>>o):b∉X.fs:=fun hb=>by
 have:=(ok.funs.mem hb).1
 rw[e] at this;cases this
theorem Inv.bs(I:Inv X pins σ H s):∀b o,X.base.get? b>>o->s.heap.get? b>>o/\H b=none:=fun b o e=>
 ⟨I.base.keep b o (I.ok.bs b o e).1 (I.ok.bs b o e).2 (I.ok.nofr e) (I.ok.noex b o e),I.base.free b o (I.ok.bs b o e).1 (I.ok.bs b o e).2 (I.ok.noex b o e)⟩
theorem Inv.bk(I:Inv X pins σ H s):∀b o,X.base.get? b>>o->s.heap.get? b>>o:=fun b o e=>(I.bs b o e).1
theorem Inv.mod(I:Inv X pins σ H s):Mod X.K X.mg X.base:=I.ok.mod
theorem Inv.kIn(I:Inv X pins σ H s):X.K.In s.heap:=I.ok.mod.kin.keeps I.bk
theorem Inv.nolimit(I:Inv X pins σ H s):s.heap.NoLimit:=I.ok.mod.nolimit.keeps I.bk
theorem Inv.lt(I:Inv X pins σ H s):X.env.locals<s.heap.objs.size:=let⟨_,hn,_⟩:=I.loc;hn.lt
theorem Inv.sz(I:Inv X pins σ H s):X.s₀.heap.objs.size<=s.heap.objs.size:=JA I.ok.above (JJ I.lt)
theorem Inv.nofs(I:Inv X pins σ H s){a:Addr}(h:s.heap.objs.size<=a):a∉X.fs:=fun hb=>by
 obtain⟨_,o,ho,_⟩:=I.ok.funs.mem hb
 exact absurd (J6 (Heap.lt_size ho) (JA I.sz h)) (ND _)
theorem Inv.cne(I:Inv X pins σ H s):∀x c,X.env.cells.lookup x>>c->c≠X.env.locals:=fun x c e z=>by
 obtain⟨v,o,ho,hd⟩:=I.cell x c e
 obtain⟨m,⟨o',es,ep,ho',hd',_⟩,_⟩:=I.loc
 rw[z,ho'] at ho;cases ho;rw[hd'] at hd;cases hd
theorem Inv.funs(I:Inv X pins σ H s):s.heap.FunFrames X.base X.outer:=by
 have all:∀(l:List Env),(∀b∈frs l,b∈X.fs)->X.s₀.heap.FunFrames X.base l->s.heap.FunFrames X.base l:=by
  intro l
  induction l with
  |nil=>intro _ _;trivial
  |cons env r ih=>
   intro hs hl
   obtain⟨hk,⟨L,o,hf,hn,ho,hd⟩,hr⟩:=hl
   have hL:L∈X.fs:=hs L (by unfold frs;rw[Ee,hf];exact JS)
   obtain⟨sl,e⟩:=I.base.slot L o ho (I.ok.frf L hL) hL fun z=>I.ok.exfs L z hL
   rwa[hk,⟨L,_,hf,hn,e,hd⟩,ih (fun b hb=>hs b (by unfold frs;rw[Ee,hf];exact JQ _ hb)) hr]
 exact all X.outer (fun _ hb=>hb) I.ok.funs
theorem Inv.stack(I:Inv X pins σ H s):s.heap.FunFrames X.base X.stack:=by
 rcases I.ok.stk with e|⟨e,hf⟩
 ·rw[e];exact I.funs
 ·rw[e]
  obtain⟨m,hn,_⟩:=I.loc
  refine .cons (by rw[I.ok.kind];decide) hf hn ?_ I.funs
  exact Heap.get?_none_of_le (JA I.ok.bsz I.ok.above)
theorem Inv.stkSub(I:Inv X pins σ H s):∀b∈frs X.stack,b∈X.env.locals::X.fs:=fun b hb=>by
 rcases I.ok.stk with e|⟨e,hf⟩
 ·rw[e] at hb;exact JQ _ hb
 ·rw[e] at hb
  unfold frs at hb
  rw[Ee,hf] at hb
  exact hb
theorem Inv.stkFree(I:Inv X pins σ H s):∀b∈frs X.stack,H b=none:=fun b hb=>by
 rcases JY.mp (I.stkSub b hb) with e|hb
 ·rw[e];exact I.free
 ·obtain⟨_,o,ho,_⟩:=I.ok.funs.mem hb
  exact I.base.free b o ho (I.ok.frf b hb) fun z=>I.ok.exfs b z hb
theorem Inv.step{g':Array GenState}{t':Nat}{d':Drawn}{ch:List Addr}(I:Inv X pins σ H s)
  (hch:∀b∈ch,(b∈X.ex∨X.s₀.heap.objs.size<=b)/\b≠X.env.locals/\(∀x c,X.env.cells.lookup x>>c->c≠b)/\∀p∈X.pn++pins,p.1≠b)
  (keep:∀b o,b≠X.env.locals->b∉X.fs->b∉ch->s.heap.get? b>>o->H b=none->h'.get? b>>o)
  (slot:∀b o,b≠X.env.locals->b∈X.fs->b∉ch->s.heap.get? b>>o->H b=none->∃sl,h'.get? b>>{o with slots:=sl})(free:∀b o,b∉ch->s.heap.get? b>>o->H b=none->H' b=none)
  (there:∀b o,b∉ch->s.heap.get? b>>o->∃o',h'.get? b>>o')
  (tups:∀b xs,H b>>(.tup xs)->H' b>>(.tup xs))(frzs:∀b o u,H b>>(.frz o u)->H' b>>(.frz o u))(tbls:∀b ps,H b>>(.tbl ps)->∃more,H' b>>(.tbl (ps++more)))
  (ns:∀m,s.heap.Ns X.env.locals m->h'.Ns X.env.locals m)(hok:HOk X.prog X.w H' h')(hg:AllBare g'):
  Inv X pins σ H' {s with heap:=h',gens:=g',drawn:=d',toks:=t'}:=by
 have neL:∀b o,X.s₀.heap.get? b>>o->b≠X.env.locals:=fun b o e=>J5 (J6 (Heap.lt_size e) I.ok.above)
 have neC:∀b o,X.s₀.heap.get? b>>o->b∉X.ex->b∉ch:=fun b o e hx hb=>by
  rcases(hch b hb).1 with z|z
  ·exact hx z
  ·exact absurd (J6 (Heap.lt_size e) z) (ND _)
 have cellK:∀x c,X.env.cells.lookup x>>c->∀v,s.heap.IsCell c v->h'.IsCell c v:=fun x c e v ⟨o,ho,hd⟩=>by
  have nch:c∉ch:=fun z=>(hch c z).2.2.1 x c e rfl
  by_cases hc:c∈X.fs
  ·obtain⟨sl,q⟩:=slot c o (I.cne x c e) hc nch ho (I.freeC x c e)
   rwa[_,q,hd]
  ·rwa[o,keep c o (I.cne x c e) hc nch ho (I.freeC x c e),hd]
 rwa[I.ok,I.os,hg,⟨fun b o e n hb hx=>?_,fun b o e n hb hx=>?_,fun b o e n hx=>?_,fun b o e hx=>?_,fun b xs e=>tups b xs (I.base.tups b xs e),fun b o xs e=>frzs b o xs (I.base.frzs b o xs e),fun b ps e=>?_⟩,?_,fun x c e=>?_,?_,fun x c e=>?_,fun p hp=>?_,hok,I.len]
 ·exact keep b o (neL b o e) hb (neC b o e hx) (I.base.keep b o e n hb hx) (I.base.free b o e n hx)
 ·obtain⟨sl,e1⟩:=I.base.slot b o e n hb hx
  obtain⟨sl',e2⟩:=slot b _ (neL b o e) hb (neC b o e hx) e1 (I.base.free b o e n hx)
  rwa[sl',e2]
 ·obtain⟨o',e1⟩:=I.base.there b o e hx
  exact free b o' (neC b o e hx) e1 (I.base.free b o e n hx)
 ·obtain⟨o',e1⟩:=I.base.there b o e hx
  exact there b o' (neC b o e hx) e1
 ·obtain⟨m1,e1⟩:=I.base.tbls b ps e
  obtain⟨m2,e2⟩:=tbls b _ e1
  rwa[m1++m2,by rw[e2,Array.append_assoc]]
 ·obtain⟨m,hn,hl⟩:=I.loc
  rwa[m,ns m hn,fun i x v e1 e2 e3=>?_]
  obtain⟨u,r,l⟩:=hl i x v e1 e2 e3
  rwa[u,r,?_]
  rcases l with l|⟨k,c,e,z⟩
  ·exact .inl l
  ·exact .inr ⟨k,c,e,cellK x c e _ z⟩
 ·obtain⟨v,z⟩:=I.cell x c e
  rwa[v,cellK x c e v z]
 ·obtain⟨m,⟨o,_,_,ho,_⟩,_⟩:=I.loc
  exact free _ o (fun z=>(hch _ z).2.1 rfl) ho I.free
 ·obtain⟨v,o,ho,hd⟩:=I.cell x c e
  exact free c o (fun z=>(hch c z).2.2.1 x c e rfl) ho (I.freeC x c e)
 ·obtain⟨e,n,ne,nf,d⟩:=I.pin p hp
  have nch:p.1∉ch:=fun z=>(hch p.1 z).2.2.2 p hp rfl
  rwa[keep p.1 p.2 ne nf nch e n,free p.1 p.2 nch e n,ne,nf,d]
theorem Inv.un{t':Nat}(I:Inv X pins σ H s)(u:Un X.fs [] H H' s.heap h')(hok:HOk X.prog X.w H' h'):Inv X pins σ H' {s with heap:=h',toks:=t'}:=by
 obtain⟨m,⟨o,es,ep,ho,r⟩,_⟩:=id I.loc
 obtain⟨sl,hL⟩:=u.any ho I.free (by simp)
 exact I.step (g':=s.gens) (d':=s.drawn) (ch:=[]) (fun _ z=>nomatch z) (fun b o _ hb _ e n=>u.keep b o e n hb (by simp)) (fun b o _ hb _ e n=>u.slot b o e n hb (by simp)) (fun b o _ e n=>u.free b o e n (by simp)) (fun b o _ e=>u.there b o e (by simp)) u.tups u.frzs u.tbls (fun m' hm=>by
  obtain⟨o',es',ep',ho',r'⟩:=hm
  rw[ho] at ho';cases ho'
  exact⟨_,es',ep',hL,r'⟩) hok I.bare
theorem Inv.call{g':Array GenState}{t':Nat}{d':Drawn}{ch:List Addr}(I:Inv X pins σ H s)(u:Un (frs X.stack) ch H H' s.heap h')(hok:HOk X.prog X.w H' h')(hg:AllBare g')
  (hch:∀b∈ch,(b∈X.ex∨X.s₀.heap.objs.size<=b)/\b≠X.env.locals/\(∀x c,X.env.cells.lookup x>>c->c≠b)/\∀p∈X.pn++pins,p.1≠b):
  Inv X pins σ H' {s with heap:=h',gens:=g',drawn:=d',toks:=t'}:=by
 obtain⟨m,⟨o,es,ep,ho,r⟩,_⟩:=id I.loc
 obtain⟨sl,hL⟩:=u.any ho I.free fun z=>(hch _ z).2.1 rfl
 exact I.step (ch:=ch) hch (fun b o hL hb hc e n=>u.keep b o e n (fun z=>(JY.mp (I.stkSub b z)).elim hL hb) hc) (fun b o _ _ hc e n=>u.any e n hc) (fun b o hc e n=>u.free b o e n hc) (fun b o hc e=>u.there b o e hc) u.tups u.frzs u.tbls (fun m' hm=>by
  obtain⟨o',es',ep',ho',r'⟩:=hm
  rw[ho] at ho';cases ho'
  exact⟨_,es',ep',hL,r'⟩) hok hg
theorem Inv.turned{t':Nat}{it:Addr}(I:Inv X pins σ H s)(k:∀b o,b≠it->s.heap.get? b>>o->h'.get? b>>o)(hn:H it=none)(hL:it≠X.env.locals)
  (h1:it∈X.ex∨X.s₀.heap.objs.size<=it)(h2:∀x c,X.env.cells.lookup x>>c->c≠it)(h3:∀p∈X.pn++pins,p.1≠it):Inv X pins σ H {s with heap:=h',toks:=t'}:=by
 have nit:∀b u,H b>>u->b≠it:=fun b u e z=>by rw[z,hn] at e;cases e
 refine I.step (g':=s.gens) (d':=s.drawn) (ch:=[it]) (fun b hb=>?_) (fun b o _ _ hc e _=>k b o (fun z=>hc (by simp[z])) e) (fun b o _ _ hc e _=>⟨o.slots,k b o (fun z=>hc (by simp[z])) e⟩) (fun _ _ _ _ n=>n)
  (fun b o hc e=>⟨o,k b o (fun z=>hc (by simp[z])) e⟩) (fun _ _ e=>e) (fun _ _ _ e=>e) (fun b ps e=>⟨#[],by rw[e];simp⟩) (fun m hm=>?_) (fun b u e=>?_) I.bare
 ·have e:b=it:=by simpa using hb
  subst e
  rwa[h1,hL,h2,h3]
 ·obtain⟨o,es,ep,ho,r⟩:=hm
  rwa[o,es,ep,k _ o (Ne.symm hL) ho,r]
 ·refine(I.hok b u e).stay (fun c v hc q=>k c v ?_ q) (fun _ q=>q) fun _ _ q=>q
  rcases hc with z|z
  ·rw[z];exact nit b u e
  ·exact nit c _ z
theorem Inv.tok(I:Inv X pins σ H s)(t:Nat):Inv X pins σ H {s with toks:=t}:=I.un (h':=s.heap) (t':=t) Un.refl I.hok
theorem Inv.kept{t':Nat}(I:Inv X pins σ H s)(k:∀b u,s.heap.get? b>>u->h'.get? b>>u):Inv X pins σ H {s with heap:=h',toks:=t'}:=I.un (Un.kept k) (I.hok.kept k)
theorem Inv.laid{a:Addr}{o:HO}{t':Nat}(I:Inv X pins σ H s)(k:∀b u,s.heap.get? b>>u->h'.get? b>>u)(hp:s.heap.objs.size<=a)(new:ObjOk X.prog X.w (upd H a o) h' a o):
  Inv X pins σ (upd H a o) {s with heap:=h',toks:=t'}:=I.un (Un.laid k hp (I.hok.fresh hp)) (I.hok.laid k hp new)
theorem Inv.write{x e:Addr}{o:HO}{t':Nat}(I:Inv X pins σ H s)(mu:Mut (H x))(he:e=x∨H e>>(.own x))(k:∀b u,b≠e->s.heap.get? b>>u->h'.get? b>>u)(heo:∃u,h'.get? e>>u)
  (new:ObjOk X.prog X.w (upd H x o) h' x o):Inv X pins σ (upd H x o) {s with heap:=h',toks:=t'}:=I.un (Un.write mu he k heo) (I.hok.write mu he k heo new)
theorem Inv.pins_of{pins':List (Addr×Obj)}(I:Inv X pins σ H s)(h:∀p∈pins',s.heap.get? p.1>>p.2/\H p.1=none/\p.1≠X.env.locals/\p.1∉X.fs/\∀v,p.2.data≠.cell v):Inv X pins' σ H s:=
 ⟨I.ok,I.os,I.bare,I.base,I.loc,I.cell,I.free,I.freeC,fun p hp=>(Na.mp hp).elim (fun z=>I.pin p (MF _ z)) (h p),I.hok,I.len⟩
theorem kiz{N:List Str}(hN:N.Nodup){i j:Nat}{x:Str}(a:N[i]?>>x)(b:N[j]?>>x):i=j:=by
 obtain⟨h1,e1⟩:=JK.mp a
 obtain⟨h2,e2⟩:=JK.mp b
 exact(Ef hN).mp (e1.trans e2.symm)
theorem kjm{M:Model}{A:Around}{E:Value->Shared->Prop}{i:Nat}{x:Str}{v:V}{u:Value}{Q:Unit->Shared->Prop}(I:Inv X pins σ H s)(hN:X.N.Nodup)(hi:X.N[i]?>>x)(hx:Loc X.env.scope x)(r:RelV v u)
  (h:∀s',Inv X pins (σ.set i (some v)) H s'->(∃a,Heap.SameBut a s.heap s'.heap/\(a=X.env.locals∨X.env.cells.lookup x>>a))->Q () s')(hf:autoParam (X.fn x=true∨X.env.scope.names.lookup x>>.local) jX):wpAny M A (storeName X.env x u) Q E s:=by
 obtain⟨m,hn,hl⟩:=id I.loc
 have hcls:(X.env.scope.kind== .class||(X.env.scope.kind== .module&&X.env.locals !=X.env.globals))=false:=by rw[I.ok.kind];rfl
 have hiσ:i< σ.length:=by rw[I.len];exact(JK.mp hi).1
 have cne:=I.cne
 have tracked:∀{a:Addr}{h':Heap},(∃o,s.heap.get? a>>o/\H a=none)->Heap.SameBut a s.heap h'->HOk X.prog X.w H h':=fun {a h'} ha hs b ob e=>by
  obtain⟨_,_,hfree⟩:=ha
  refine(I.hok b ob e).stay (fun c w' hc q=>(hs.2 c ?_).trans q) (fun _ q=>q) fun _ _ q=>q
  rintro rfl
  rcases hc with rfl|hc
  ·rw[hfree] at e;cases e
  ·rw[hfree] at hc;cases hc
 rcases hx with hk|hk
 ·refine wpAny_storeName_local hk hn (fun h' hn' hs=>?_) hcls
  obtain⟨oL,_,_,hoL,_⟩:=id hn
  refine h _ ⟨I.ok,I.os,I.bare,⟨fun b o e n hb hx=>?_,fun b o e n hb hx=>?_,I.base.free,fun b o e hx=>?_,I.base.tups,I.base.frzs,I.base.tbls⟩,⟨_,hn',fun j y v' e1 e2 e3=>?_⟩,fun y c e=>?_,I.free,I.freeC,fun p hp=>?_,tracked ⟨oL,hoL,I.free⟩ hs,by simpa using I.len⟩ ⟨_,hs, .inl rfl⟩
  ·exact(hs.2 b (J5 (J6 (Heap.lt_size e) I.ok.above))).trans (I.base.keep b o e n hb hx)
  ·obtain⟨sl,e1⟩:=I.base.slot b o e n hb hx
   rwa[sl,(hs.2 b (J5 (J6 (Heap.lt_size e) I.ok.above))).trans e1]
  ·obtain⟨o',e1⟩:=I.base.there b o e hx
   rwa[o',(hs.2 b (J5 (J6 (Heap.lt_size e) I.ok.above))).trans e1]
  ·by_cases hj:j=i
   ·subst hj
    rw[hi] at e1;cases e1
    rw[MG hiσ] at e2
    cases e2
    rwa[u,r, .inl ⟨hk,by simp⟩]
   ·rw[MH (Ne.symm hj)] at e2
    obtain⟨u',r',q⟩:=hl j y v' e1 e2 e3
    rwa[u',r',?_]
    rcases q with⟨k,e⟩|⟨k,c,e,z⟩
    ·refine .inl ⟨k,?_⟩
     have:y≠x:=fun e=>hj (kiz hN e1 (e▸hi))
     simp[this,e]
    ·exact .inr ⟨k,c,e,z.sameBut hs (cne y c e)⟩
  ·obtain⟨w',z⟩:=I.cell y c e
   rwa[w',z.sameBut hs (cne y c e)]
  ·obtain⟨e,n,ne,nf,d⟩:=I.pin p hp
   rwa[(hs.2 p.1 ne).trans e,n,ne,nf,d]
 ·have hfn:X.fn x=true:=by
   rcases hf with z|z
   ·exact z
   ·rw[z] at hk;cases hk
  obtain⟨c,hc⟩:=I.ok.has x (.inl hk)
  obtain⟨w',z⟩:=I.cell x c hc
  refine wpAny_storeName_cell I.ok.kind hk hc z (fun h' hc' hs=>?_)
  obtain⟨oc,hoc,hocd⟩:=id z
  refine h {s with heap:=h'} ⟨I.ok,I.os,I.bare,⟨fun b o e n hb hx=>?_,fun b o e n hb hx=>?_,I.base.free,fun b o e hx=>?_,I.base.tups,I.base.frzs,I.base.tbls⟩,⟨m,hn.sameBut hs (Ne.symm (cne x c hc)),fun j y v' e1 e2 e3=>?_⟩,fun y c' e=>?_,I.free,I.freeC,fun p hp=>?_,tracked ⟨oc,hoc,I.freeC x c hc⟩ hs,by simpa using I.len⟩ ⟨c,hs, .inr hc⟩
  ·exact(hs.2 b (J5 (J6 (Heap.lt_size e) (I.ok.cab x c hfn hc)))).trans (I.base.keep b o e n hb hx)
  ·obtain⟨sl,e1⟩:=I.base.slot b o e n hb hx
   rwa[sl,(hs.2 b (J5 (J6 (Heap.lt_size e) (I.ok.cab x c hfn hc)))).trans e1]
  ·obtain⟨o',e1⟩:=I.base.there b o e hx
   rwa[o',(hs.2 b (J5 (J6 (Heap.lt_size e) (I.ok.cab x c hfn hc)))).trans e1]
  ·by_cases hj:j=i
   ·subst hj
    rw[hi] at e1;cases e1
    rw[MG hiσ] at e2
    cases e2
    rwa[u,r, .inr ⟨.inl hk,c,hc,hc'⟩]
   ·rw[MH (Ne.symm hj)] at e2
    obtain⟨u',r',q⟩:=hl j y v' e1 e2 e3
    rwa[u',r',?_]
    rcases q with q|⟨k,c',e,z'⟩
    ·exact .inl q
    ·refine .inr ⟨k,c',e,z'.sameBut hs ?_⟩
     rintro rfl
     exact hj (kiz hN e1 (I.ok.inj _ _ _ e hc▸hi))
  ·by_cases hcc:c'=c
   ·subst hcc;exact⟨_,hc'⟩
   ·obtain⟨w2,z2⟩:=I.cell y c' e
    rwa[w2,z2.sameBut hs hcc]
  ·obtain⟨e,n,ne,nf,d⟩:=I.pin p hp
   rwa[(hs.2 p.1 ?_).trans e,n,ne,nf,d]
   intro q
   rw[q,hoc] at e
   have q':oc=p.2:=Option.some.inj e
   exact d w' (by rw[<-q'];exact hocd)
theorem kfX{M:Model}{A:Around}{E:Value->Shared->Prop}{i:Nat}{x:Str}{v:V}{u:Value}{Q:Unit->Shared->Prop}(I:Inv X pins σ H s)(hN:X.N.Nodup)(hi:X.N[i]?>>x)(hx:Loc X.env.scope x)(r:RelV v u)
  (h:∀s',Inv X pins (σ.set i (some v)) H s'->Q () s')(hf:autoParam (X.fn x=true∨X.env.scope.names.lookup x>>.local) jX):wpAny M A (storeName X.env x u) Q E s:=
 kjm I hN hi hx r (fun s' I' _=>h s' I') hf
theorem Inv.call'{s':Shared}{ch:List Addr}(I:Inv X pins σ H s)(ho:s'.os=s.os)(u:Un (frs X.stack) ch H H' s.heap s'.heap)(hok:HOk X.prog X.w H' s'.heap)(hg:AllBare s'.gens)
  (hch:∀b∈ch,(b∈X.ex∨X.s₀.heap.objs.size<=b)/\b≠X.env.locals/\(∀x c,X.env.cells.lookup x>>c->c≠b)/\∀p∈X.pn++pins,p.1≠b):Inv X pins σ H' s':=by
 obtain⟨h',g',d',t',o'⟩:=s'
 have e:o'=s.os:=ho
 subst e
 exact I.call (g':=g') (t':=t') (d':=d') u hok hg hch
end
abbrev XK:=Value->Option Addr->Hp->Prop
abbrev St:=List (Option V)
abbrev VK:=V->Hp->Prop
abbrev TE:=St->Hp->VK->Prop
abbrev TT:=St->Hp->(Bool->Hp->Prop)->Prop
abbrev TA:=St->Hp->(List V->Hp->Prop)->Prop
set_option genInjectivity false in
structure Ends where
 nx:St->Hp->Prop
 rt:VK
 bk:St->Hp->Prop:=fun _ _=>False
 ct:St->Hp->Prop:=fun _ _=>False
abbrev TS:=Ends->St->Hp->Prop
def EP(X:Cx)(pins:List (Addr×Obj))(σ:St)(Q:VK)(u:Value)(s':Shared):Prop:=∃v H',Inv X pins σ H' s'/\RelV v u/\Q v H'
def TP(X:Cx)(pins:List (Addr×Obj))(σ:St)(Q:Bool->Hp->Prop)(b:Bool)(s':Shared):Prop:=∃H',Inv X pins σ H' s'/\Q b H'
def AP(X:Cx)(pins:List (Addr×Obj))(σ:St)(Q:List V->Hp->Prop)(us:List Value)(s':Shared):Prop:=∃vs H',Inv X pins σ H' s'/\Vals vs us/\Q vs H'
def SP(X:Cx)(pins:List (Addr×Obj))(D:Ends)(f:Flow)(s':Shared):Prop:=
 match f with
 | .next=>∃σ' H',Inv X pins σ' H' s'/\D.nx σ' H'
 | .brk=>∃σ' H',Inv X pins σ' H' s'/\D.bk σ' H'
 | .cont=>∃σ' H',Inv X pins σ' H' s'/\D.ct σ' H'
 | .ret u=>∃v σ' H',Inv X pins σ' H' s'/\RelV v u/\D.rt v H'
def PE(X:Cx)(e:Expr)(t:TE):Prop:=
 ∀(pins:List (Addr×Obj))(s:Shared)(σ:St)(H:Hp)(Q:VK),Inv X pins σ H s->t σ H Q->wpAny (model X.prog X.w) X.A (eval e X.env) (EP X pins σ Q) X.xe s
def PT(X:Cx)(e:Expr)(t:TT):Prop:=
 ∀(pins:List (Addr×Obj))(s:Shared)(σ:St)(H:Hp)(Q:Bool->Hp->Prop),Inv X pins σ H s->t σ H Q->wpAny (model X.prog X.w) X.A (isTrue e X.env (eval e X.env)) (TP X pins σ Q) X.xe s
def PW(X:Cx)(e:Expr)(t:TT):Prop:=
 ∀(whole:Sem Value)(pins:List (Addr×Obj))(s:Shared)(σ:St)(H:Hp)(Q:Bool->Hp->Prop),Inv X pins σ H s->t σ H Q->wpAny (model X.prog X.w) X.A (isTrue e X.env whole) (TP X pins σ Q) X.xe s
def PW.pt{X:Cx}{e:Expr}{t:TT}(h:PW X e t):PT X e t:=h _
def PA(X:Cx)(es:List Expr)(t:TA):Prop:=
 ∀(pos:Pos)(pins:List (Addr×Obj))(s:Shared)(σ:St)(H:Hp)(Q:List V->Hp->Prop),Inv X pins σ H s->t σ H Q->wpAny (model X.prog X.w) X.A (spliced (backTo pos (starEach es X.env))) (AP X pins σ Q) X.xe s
def PS(X:Cx)(st:Stmt)(t:TS):Prop:=
 ∀(pins:List (Addr×Obj))(s:Shared)(σ:St)(H:Hp)(D:Ends),Inv X pins σ H s->t D σ H->wpAny (model X.prog X.w) X.A (exec st X.env) (SP X pins D) X.xe s
def PSs(X:Cx)(st:List Stmt)(t:TS):Prop:=
 ∀(pins:List (Addr×Obj))(s:Shared)(σ:St)(H:Hp)(D:Ends),Inv X pins σ H s->t D σ H->wpAny (model X.prog X.w) X.A (execs st X.env) (SP X pins D) X.xe s
def thn{α:Type}{t:Sem α}{Q Q': α->Shared->Prop}{M:Model}{A:Around}{E:Value->Shared->Prop}{s:Shared}(h:wpAny M A t Q E s)(hQ:∀a s,Q a s->Q' a s):wpAny M A t Q' E s:=wpAny_mono h hQ fun _ _ x=>x
section
variable{X:Cx}
def tVar(i:Nat):TE:=fun σ H Q=>∃v,σ[i]?>>(some v)/\Q v H
def tC(v:V):TE:=fun _ H Q=>Q v H
theorem knt{i:Nat}{x:Str}{pos:Pos}(hN:X.N[i]?>>x)(hv:Vis X.env.scope x)(hd:autoParam ((x==("__debug__" :Str))=false) jQ)(hcd:autoParam ((x==("__classdict__" :Str))=false) jQ):PE X (.Name x pos) (tVar i):=by
 intro pins s σ H Q I h
 obtain⟨v,e,h⟩:=h
 obtain⟨m,hn,hl⟩:=I.loc
 obtain⟨u,r,l⟩:=hl i x v hN e hv
 have fin:EP X pins σ Q u s:=⟨v,H,I,r,h⟩
 rcases l with⟨hk,hm⟩|⟨hk,c,hc,hcell⟩
 ·exact wpAny_Name (wpAny_loadName_local I.ok.kind hk hn hm fin) hd
 ·rcases hk with hk|hk
  ·exact wpAny_Name (wpAny_loadName_cell I.ok.kind hk hc hcell fin) hd
  ·exact wpAny_Name (wpAny_loadName_free I.ok.kind hk hc hcell fin hcd) hd
theorem kaf{i j pos}:PE X (.Constant (.int i) j pos) (tC (.int i)):=fun _ _ _ H _ I h=>wpAny_Constant_int ⟨.int i,H,I.tok _,⟨_,rfl⟩,h⟩
theorem pe_bl{b j pos}:PE X (.Constant (.bool b) j pos) (tC (.bl b)):=fun _ _ _ H _ I h=>Constant_bool ⟨.bl b,H,I,rfl,h⟩
theorem kbo{j pos}:PE X (.Constant .none j pos) (tC .non):=fun _ _ _ H _ I h=>Constant_none ⟨.non,H,I,rfl,h⟩
theorem kbN{x j pos}:PE X (.Constant (.str x) j pos) (tC (.str x)):=fun _ _ _ H _ I h=>Calls.Constant_str ⟨.str x,H,I.tok _,⟨_,rfl⟩,h⟩
def Gl(X:Cx)(x:Str):Prop:=X.env.kindOf x>>.globalImplicit
theorem kgh{E:Value->Shared->Prop}{pins:List (Addr×Obj)}{s:Shared}{σ:St}{H:Hp}{x:Str}{u:Value}{pos:Pos}{Q:Value->Shared->Prop}(I:Inv X pins σ H s)(hg:Gl X x)(hm:X.mg x>>u)(h:Q u s)
  (hd:autoParam ((x==("__debug__" :Str))=false) jQ):wpAny (model X.prog X.w) X.A (eval (.Name x pos) X.env) Q E s:=
 Calls.Name_function_global I.ok.kind hg (Calls.loadGlobal_global (by rw[I.ok.glob];exact I.mod.glob.keeps I.bk) hm h) hd
theorem kdH{E:Value->Shared->Prop}{pins:List (Addr×Obj)}{s:Shared}{σ:St}{H:Hp}{x:Str}{u:Value}{pos:Pos}{Q:Value->Shared->Prop}(I:Inv X pins σ H s)(hg:Gl X x)(hm:X.mg x=none)(hv:bootBuiltins x>>u)(h:Q u s)
  (hn:autoParam (x≠"__name__") jQ)(hd:autoParam ((x==("__debug__" :Str))=false) jQ):wpAny (model X.prog X.w) X.A (eval (.Name x pos) X.env) Q E s:=by
 obtain⟨mb,h1,h2⟩:=I.mod.blt
 exact Calls.Name_function_global I.ok.kind hg (Calls.loadGlobal_builtin (by rw[I.ok.glob];exact I.mod.glob.keeps I.bk) hm (by rw[I.ok.blt];exact h1.keeps I.bk) ((h2 x hn).trans hv) h) hd
theorem kcD{x:Str}{v:V}{u:Value}{pos:Pos}(hg:Gl X x)(hm:X.mg x>>u)(r:RelV v u)(hd:autoParam ((x==("__debug__" :Str))=false) jQ):PE X (.Name x pos) (tC v):=
 fun _ _ _ H _ I h=>kgh I hg hm ⟨v,H,I,r,h⟩ hd
theorem kmQ{x:Str}{v:V}{u:Value}{pos:Pos}(hg:Gl X x)(hm:X.mg x=none)(hv:bootBuiltins x>>u)(r:RelV v u)(hn:autoParam (x≠"__name__") jQ)(hd:autoParam ((x==("__debug__" :Str))=false) jQ):PE X (.Name x pos) (tC v):=
 fun _ _ _ H _ I h=>kdH I hg hm hv ⟨v,H,I,r,h⟩ hn hd
variable{a b:Expr}{ta tb:TE}{pos:Pos}
def PC(X:Cx)(op:CmpOp)(a b:Expr)(t:TE):Prop:=
 ∀(pins:List (Addr×Obj))(s:Shared)(σ:St)(H:Hp)(Q:VK),Inv X pins σ H s->t σ H Q->
  wpAny (model X.prog X.w) X.A (eval a X.env) (fun v s₁=>wpAny (model X.prog X.w) X.A (eval b X.env) (fun u s₂=>wpAny (model X.prog X.w) X.A (compareOp op v u) (EP X pins σ Q) X.xe s₂) X.xe s₁) X.xe s
theorem klr(b:Expr){op:CmpOp}(h:op≠.In)(h2:op≠.NotIn):behindInMarks op b=false:=by
 have e1:(op==CmpOp.In)=false:=by cases op <;> first|rfl|exact absurd rfl h
 have e2:(op==CmpOp.NotIn)=false:=by cases op <;> first|rfl|exact absurd rfl h2
 cases b <;> simp[behindInMarks,e1,e2]
def tB(t:TE):TT:=fun σ H Q=>t σ H fun x H1=>∃c,x=.bl c/\Q c H1
theorem kl7{op:CmpOp}{t:TE}(h:PC X op a b t)(h1:behindInMarks op b=false:=by first|apply klr<;>decide|rfl):PT X (.Compare a [op] [b] pos) (tB t):=by
 intro pins s σ H Q I hw
 refine wpAny_isTrue_Compare1 (thn (h pins s σ H _ I hw) fun v s1 h1=>thn h1 fun u s2 h2=>thn h2 fun c s3 zz=>?_) h1
 obtain⟨x,H1,I1,r1,q1⟩:=zz
 obtain⟨d,rfl,q⟩:=q1
 cases r1
 exact wpAny_truthy_bool ⟨H1,I1,q⟩
theorem kaQ{e:Expr}{t:TE}(h:PE X e t)(he:autoParam (∀whole,isTrue e X.env whole=(do let v <-whole;standAt e.pos;holding [v] (truthy v))) jJ):PT X e (tB t):=by
 intro pins s σ H Q I hw
 refine isTrue_plain (thn (h pins s σ H _ I hw) fun v s1 zz=>?_) (he _)
 obtain⟨x,H1,I1,r1,q1⟩:=zz
 obtain⟨d,rfl,q⟩:=q1
 cases r1
 exact wpAny_truthy_bool ⟨H1,I1,q⟩
variable{tA tB':TT}{rest:List Expr}
def tAnd(t u:TT):TT:=fun σ H Q=>t σ H fun c H1=>if c=true then u σ H1 Q else Q false H1
def tOr(t u:TT):TT:=fun σ H Q=>t σ H fun c H1=>if c=true then Q true H1 else u σ H1 Q
def tNot(t:TT):TT:=fun σ H Q=>t σ H fun c H1=>Q (!c) H1
theorem kaU(ha:PT X a tA):PW X (.BoolOp .And [a] pos) tA:=by
 intro wh pins s σ H Q I h
 refine isTrue_and (thn (ha pins s σ H Q I h) fun c s1 e=>?_)
 cases c with
 |true=>exact isTrue_and_nil e
 |false=>exact e
theorem kfC(ha:PT X a tA):PW X (.BoolOp .Or [a] pos) tA:=by
 intro wh pins s σ H Q I h
 refine isTrue_or (thn (ha pins s σ H Q I h) fun c s1 e=>?_)
 cases c with
 |false=>exact isTrue_or_nil e
 |true=>exact e
theorem kbb(ha:PT X a tA)(hb:PW X (.BoolOp .And (b::rest) pos) tB'):PW X (.BoolOp .And (a::b::rest) pos) (tAnd tA tB'):=by
 intro wh pins s σ H Q I h
 refine isTrue_and (thn (ha pins s σ H _ I h) fun c s1 zz=>?_)
 obtain⟨H1,I1,q1⟩:=zz
 cases c with
 |true=>exact hb wh pins s1 σ H1 Q I1 q1
 |false=>exact⟨H1,I1,q1⟩
theorem pw_or(ha:PT X a tA)(hb:PW X (.BoolOp .Or (b::rest) pos) tB'):PW X (.BoolOp .Or (a::b::rest) pos) (tOr tA tB'):=by
 intro wh pins s σ H Q I h
 refine isTrue_or (thn (ha pins s σ H _ I h) fun c s1 zz=>?_)
 obtain⟨H1,I1,q1⟩:=zz
 cases c with
 |true=>exact⟨H1,I1,q1⟩
 |false=>exact hb wh pins s1 σ H1 Q I1 q1
theorem kgQ(ha:PT X a tA):PT X (.UnaryOp .Not a pos) (tNot tA):=by
 intro pins s σ H Q I h
 exact isTrue_not (ha pins s σ H (fun c H1=>Q (!c) H1) I h)
def tAndV(ta tb:TE):TE:=fun σ H Q=>ta σ H fun x H1=>∃c,x=.bl c/\if c=true then tb σ H1 Q else Q (.bl false) H1
def tOrV(ta tb:TE):TE:=fun σ H Q=>ta σ H fun x H1=>∃c,x=.bl c/\if c=true then Q (.bl true) H1 else tb σ H1 Q
theorem kj4{op}{t:TE}(h:PE X a t):PE X (.BoolOp op [a] pos) t:=fun pins s σ H Q I hw=>BoolOp_one (h pins s σ H Q I hw)
theorem knv(ha:PE X a ta)(hb:PE X (.BoolOp .And (b::rest) pos) tb):PE X (.BoolOp .And (a::b::rest) pos) (tAndV ta tb):=by
 intro pins s σ H Q I h
 refine BoolOp_and (thn (ha pins s σ H _ I h) fun v s1 zz=>?_)
 obtain⟨x,H1,I1,r1,q1⟩:=zz
 obtain⟨c,rfl,q1⟩:=q1
 cases r1
 refine wpAny_truthy_bool ?_
 cases c with
 |true=>exact hb pins s1 σ H1 Q I1 q1
 |false=>exact⟨.bl false,H1,I1,rfl,q1⟩
theorem pe_or(ha:PE X a ta)(hb:PE X (.BoolOp .Or (b::rest) pos) tb):PE X (.BoolOp .Or (a::b::rest) pos) (tOrV ta tb):=by
 intro pins s σ H Q I h
 refine BoolOp_or (thn (ha pins s σ H _ I h) fun v s1 zz=>?_)
 obtain⟨x,H1,I1,r1,q1⟩:=zz
 obtain⟨c,rfl,q1⟩:=q1
 cases r1
 refine wpAny_truthy_bool ?_
 cases c with
 |false=>exact hb pins s1 σ H1 Q I1 q1
 |true=>exact⟨.bl true,H1,I1,rfl,q1⟩
def tIf(t:TT)(ta tb:TE):TE:=fun σ H Q=>t σ H fun c H1=>if c=true then ta σ H1 Q else tb σ H1 Q
theorem kex{c:Expr}(hc:PT X c tA)(ha:PE X a ta)(hb:PE X b tb):PE X (.IfExp c a b pos) (tIf tA ta tb):=by
 intro pins s σ H Q I h
 refine wpAny_IfExp (thn (hc pins s σ H _ I h) fun d s1 zz=>?_)
 obtain⟨H1,I1,q1⟩:=zz
 cases d with
 |true=>exact ha pins s1 σ H1 Q I1 q1
 |false=>exact hb pins s1 σ H1 Q I1 q1
end
def SqL(K:Jw)(H:Hp)(a:Addr)(xs:List V):Prop:=
 Rd H a (.lst xs)∨
  ∃(o:Obj)(its:Array Value)(n:Nat),K.lookup a>>o/\o.cls=.type "list"/\o.dict=none/\o.data=.seq its n/\its.size<=sizeLine/\Vals xs its.toList
def SqT(K:Jw)(H:Hp)(a:Addr)(xs:List V):Prop:=
 Rd H a (.tup xs)∨
  ∃(o:Obj)(its:Array Value)(n:Nat),K.lookup a>>o/\o.cls=.type "tuple"/\o.data=.seq its n/\its.size<=sizeLine/\Vals xs its.toList
noncomputable def absV:Value->Option V
 | .none=>some .non
 | .bool b=>some (.bl b)
 | .int i _=>some (.int i)
 | .str x _=>some (.str x)
 | .bytes b _=>some (.byt b)
 | .float b _=>some (.flt b)
 | .ref a=>some (.ref a)
 | .type n=>some (.ty n)
 |_=>none
theorem RelV.abs{x:V}{u:Value}(r:RelV x u):absV u>>x:=by
 cases x with
 |non=>cases r;rfl
 |bl _=>cases r;rfl
 |int _=>obtain⟨t,rfl⟩:=r;rfl
 |str _=>obtain⟨t,rfl⟩:=r;rfl
 |byt _=>obtain⟨t,rfl⟩:=r;rfl
 |flt _=>obtain⟨t,rfl⟩:=r;rfl
 |ref _=>cases r;rfl
 |ty _=>cases r;rfl
def RelV.inj{x y:V}{u:Value}(r:RelV x u)(q:RelV y u):x=y:=Option.some.inj (r.abs.symm.trans q.abs)
theorem Vals.inj{xs ys:List V}{us:List Value}(h:Vals xs us)(g:Vals ys us):xs=ys:=by
 induction h generalizing ys with
 |nil=>cases g;rfl
 |cons r t ih=>cases g with|cons r' t'=>rw[r.inj r',ih t']
section
variable{X:Cx}{pins:List (Addr×Obj)}{σ:St}{H:Hp}{s:Shared}{a:Addr}{xs ys:List V}
theorem SqL.of{K:Jw}(h:H a>>(.lst xs)):SqL K H a xs:=.inl (.inl h)
theorem SqT.of{K:Jw}(h:H a>>(.tup xs)):SqT K H a xs:=.inl (.inl h)
theorem Inv.list(I:Inv X pins σ H s)(h:SqL X.K H a xs):∃its:List Value,Vals xs its/\PlainL s.heap a its.toArray/\xs.length<=sizeLine:=by
 rcases h with h|⟨o,its,n,hk,hc,hd,hs,hz,r⟩
 ·obtain⟨z,its,n,r,e⟩:=h.ok I.hok
  rwa[its,r,⟨_,n,e,rfl,rfl,rfl⟩,z]
 ·rwa[its.toList,r,⟨o,n,I.kIn a o hk,hc,hd,by simpa using hs⟩,?_]
  have e:=r.length
  simp only[Mg] at e
  lia
theorem Inv.tuple(I:Inv X pins σ H s)(h:SqT X.K H a xs):∃its:List Value,Vals xs its/\IsTup s.heap a its.toArray/\xs.length<=sizeLine:=by
 rcases h with h|⟨o,its,n,hk,hc,hs,hz,r⟩
 ·obtain⟨z,its,r,p⟩:=h.ok I.hok
  rwa[its,r,p,z]
 ·rwa[its.toList,r,⟨o,I.kIn a o hk,hc,n,by simpa using hs⟩,?_]
  have e:=r.length
  simp only[Mg] at e
  lia
theorem Inv.list_inj(I:Inv X pins σ H s)(h:SqL X.K H a xs)(h':SqL X.K H a ys):xs=ys:=by
 obtain⟨its,r,⟨o,n,e,_,_,d⟩,_⟩:=I.list h
 obtain⟨its',r',⟨o',n',e',_,_,d'⟩,_⟩:=I.list h'
 rw[e] at e';cases e'
 rw[d] at d'
 injection d' with d1 _
 have:its=its':=by simpa using congrArg Array.toList d1
 subst this
 exact r.inj r'
end
abbrev Cx.wish(X:Cx)(E:Value->Shared->Prop):Cx:={X with xe:=E}
abbrev Cx.nox(X:Cx):Cx:=X.wish fun _ _=>False
def Cx.Ok.wish{X:Cx}(ok:X.Ok)(E:Value->Shared->Prop):(X.wish E).Ok:=
 ⟨ok.mod,ok.kind,ok.glob,ok.blt,ok.above,ok.inj,ok.has,ok.cab,ok.hd,ok.frames,ok.stk,ok.exf,ok.bs,ok.bsz,ok.noex,ok.exfs,ok.funs,ok.frf⟩
def Cx.Ok.unwish{X:Cx}{E:Value->Shared->Prop}(ok:(X.wish E).Ok):X.Ok:=
 ⟨ok.mod,ok.kind,ok.glob,ok.blt,ok.above,ok.inj,ok.has,ok.cab,ok.hd,ok.frames,ok.stk,ok.exf,ok.bs,ok.bsz,ok.noex,ok.exfs,ok.funs,ok.frf⟩
section
variable{X:Cx}{pins:List (Addr×Obj)}{σ:St}{H:Hp}{s:Shared}{E:Value->Shared->Prop}
theorem Inv.wish(I:Inv X pins σ H s)(E:Value->Shared->Prop):Inv (X.wish E) pins σ H s:=⟨I.ok.wish E,I.os,I.bare,I.base,I.loc,I.cell,I.free,I.freeC,I.pin,I.hok,I.len⟩
theorem Inv.unwish(I:Inv (X.wish E) pins σ H s):Inv X pins σ H s:=⟨I.ok.unwish,I.os,I.bare,I.base,I.loc,I.cell,I.free,I.freeC,I.pin,I.hok,I.len⟩
theorem SP.unwish{D:Ends}{f:Flow}{s':Shared}(h:SP (X.wish E) pins D f s'):SP X pins D f s':=by
 cases f with
 |next=>obtain⟨σ',H',I,q⟩:=h;exact⟨σ',H',I.unwish,q⟩
 |brk=>obtain⟨σ',H',I,q⟩:=h;exact⟨σ',H',I.unwish,q⟩
 |cont=>obtain⟨σ',H',I,q⟩:=h;exact⟨σ',H',I.unwish,q⟩
 |ret u=>obtain⟨v,σ',H',I,r,q⟩:=h;exact⟨v,σ',H',I.unwish,r,q⟩
theorem PSs.nox{st:List Stmt}{t:TS}(h:PSs X.nox st t):PSs X st t:=fun pins s σ H D I hw=>
 wpAny_mono (h pins s σ H D (I.wish _) hw) (fun _ _ q=>q.unwish) fun _ _ z=>False.elim z
end
section
variable{X:Cx}{st:Stmt}{rest:List Stmt}{t u:TS}{e:Expr}{te:TE}{pos:Pos}
def tNext:TS:=fun D σ H=>D.nx σ H
def tSeq(t u:TS):TS:=fun D σ H=>t {D with nx:=u D} σ H
theorem kar:PSs X [] tNext:=fun _ _ σ H _ I h=>wpAny_execs_nil ⟨σ,H,I,h⟩
theorem kab(h1:PS X st t)(h2:PSs X rest u):PSs X (st::rest) (tSeq t u):=by
 intro pins s σ H D I h
 refine wpAny_execs_cons (thn (h1 pins s σ H {D with nx:=u D} I h) fun f s1 q=>?_)
 cases f with
 |next=>
  obtain⟨σ',H',I',q⟩:=q
  exact h2 pins s1 σ' H' D I' q
 |ret v=>exact q
 |brk=>exact q
 |cont=>exact q
theorem kag(h1:PS X st t):PSs X [st] t:=by
 intro pins s σ H D I h
 refine wpAny_execs_cons (thn (h1 pins s σ H D I h) fun f s1 q=>?_)
 cases f with
 |next=>exact wpAny_execs_nil q
 |ret v=>exact q
 |brk=>exact q
 |cont=>exact q
theorem Inv.quiet{pins:List (Addr×Obj)}{σ:St}{H:Hp}{s:Shared}(I:Inv X pins σ H s):interactive X.env=false:=by simp[interactive,I.ok.kind]
def tDrop(te:TE):TS:=fun D σ H=>te σ H fun _ H1=>D.nx σ H1
theorem ka0(he:PE X e te)(hs:autoParam (swapsWith e none pos.line X.env=pure false) jz):PS X (.Expr e pos) (tDrop te):=by
 intro pins s σ H D I h
 exact wpAny_Expr_any (thn (he pins s σ H _ I h) fun v s1 ⟨x,H1,I1,r1,q1⟩=>⟨σ,H1,I1,q1⟩) I.quiet hs
def tRet(te:TE):TS:=fun D σ H=>te σ H D.rt
theorem kaq(he:PE X e te):PS X (.Return (some e) pos) (tRet te):=by
 intro pins s σ H D I h
 exact wpAny_Return_some (thn (he pins s σ H _ I h) fun v s1 ⟨x,H1,I1,r1,q1⟩=>⟨x,σ,H1,I1,r1,q1⟩)
def tIfS(c:TT)(t u:TS):TS:=fun D σ H=>c σ H fun b H1=>if b=true then t D σ H1 else u D σ H1
theorem ps_if{c:Expr}{a b:List Stmt}{tc:TT}(hc:PT X c tc)(ha:PSs X a t)(hb:PSs X b u):PS X (.If c a b pos) (tIfS tc t u):=by
 intro pins s σ H D I h
 refine wpAny_If (thn (hc pins s σ H _ I h) fun d s1 zz=>?_)
 obtain⟨H1,I1,q1⟩:=zz
 cases d with
 |true=>exact ha pins s1 σ H1 D I1 q1
 |false=>exact hb pins s1 σ H1 D I1 q1
end
abbrev TG:=V->St->Hp->(St->Hp->Prop)->Prop
abbrev TGs:=List V->St->Hp->(St->Hp->Prop)->Prop
def PG(X:Cx)(target:Expr)(t:TG):Prop:=
 ∀(pins:List (Addr×Obj))(s:Shared)(σ:St)(H:Hp)(v:V)(u:Value)(Q:St->Hp->Prop),Inv X pins σ H s->RelV v u->t v σ H Q->
  wpAny (model X.prog X.w) X.A (assign target X.env u) (fun _ s'=>∃σ' H',Inv X pins σ' H' s'/\Q σ' H') X.xe s
def PGs(X:Cx)(ts:List Expr)(t:TGs):Prop:=
 ∀(pins:List (Addr×Obj))(s:Shared)(σ:St)(H:Hp)(vs:List V)(us:List Value)(Q:St->Hp->Prop),Inv X pins σ H s->Vals vs us->t vs σ H Q->
  wpAny (model X.prog X.w) X.A (assignInOrder ((assignEach ts X.env).map (·.2)) us) (fun _ s'=>∃σ' H',Inv X pins σ' H' s'/\Q σ' H') X.xe s
abbrev TSet:=V->V->V->Hp->(Hp->Prop)->Prop
def PSet(X:Cx)(t:TSet):Prop:=
 ∀(pins:List (Addr×Obj))(s:Shared)(σ:St)(H:Hp)(o i v:V)(ov iv u:Value)(Q:Hp->Prop),Inv X pins σ H s->RelV o ov->RelV i iv->RelV v u->t o i v H Q->
  wpAny (model X.prog X.w) X.A (setItem ov iv u) (fun _ s'=>∃H',Inv X pins σ H' s'/\Q H') X.xe s
abbrev TIp:=V->V->Hp->VK->Prop
def PIp(X:Cx)(op:Operator)(t:TIp):Prop:=
 ∀(pins:List (Addr×Obj))(s:Shared)(σ:St)(H:Hp)(x y:V)(v u:Value)(Q:VK),Inv X pins σ H s->RelV x v->RelV y u->t x y H Q->
  wpAny (model X.prog X.w) X.A (inplaceOp op v u) (EP X pins σ Q) X.xe s
section
variable{X:Cx}{pos:Pos}
def gName(i:Nat):TG:=fun v σ H Q=>Q (σ.set i (some v)) H
theorem kmP{i:Nat}{x:Str}(hN:X.N.Nodup)(hi:X.N[i]?>>x)(hx:Loc X.env.scope x)(hf:autoParam (X.fn x=true∨X.env.scope.names.lookup x>>.local) jX):PG X (.Name x pos) (gName i):=by
 intro pins s σ H v u Q I r h
 exact wpAny_assign_Name (kfX I hN hi hx r (fun s' I'=>⟨_,H,I',h⟩) hf)
def gNil:TGs:=fun vs σ H Q=>vs=[]/\Q σ H
def gCons(t:TG)(u:TGs):TGs:=fun vs σ H Q=>∃v r,vs=v::r/\t v σ H fun σ' H'=>u r σ' H' Q
theorem kbg:PGs X [] gNil:=by
 intro pins s σ H vs us Q I r h
 obtain⟨e,h⟩:=h
 subst e
 cases r
 exact assignInOrder_nil ⟨σ,H,I,h⟩
theorem kaw{e:Expr}{es:List Expr}{t:TG}{u:TGs}(h1:PG X e t)(h2:PGs X es u)
  (hs:autoParam ((assignEach (e::es) X.env).map (·.2)=assign e X.env::(assignEach es X.env).map (·.2)) jz):PGs X (e::es) (gCons t u):=by
 intro pins s σ H vs us Q I r h
 obtain⟨v,vr,e1,h⟩:=h
 subst e1
 cases r with
 |cons r rr=>
  rw[hs]
  refine assignInOrder_cons (thn (h1 pins s σ H _ _ _ I r h) fun _ s1 zz=>?_)
  obtain⟨σ1,H1,I1,q1⟩:=zz
  exact h2 pins s1 σ1 H1 _ _ Q I1 rr q1
def gTup(K:Jw)(n:Nat)(t:TGs):TG:=fun v σ H Q=>∃a xs,v=.ref a/\SqT K H a xs/\xs.length=n/\t xs σ H Q
theorem kns{es:List Expr}{k:Nat}{t:TGs}{n:Nat}(hc:X.calm=true)(h:PGs X es t)
  (hn:autoParam ((assignEach es X.env).length=n) jz) (hst:autoParam ((assignEach es X.env).findIdx? (·.1)=none) jz):PG X (.Tuple es k pos) (gTup X.K n t):=by
 intro pins s σ H v u Q I r hw
 obtain⟨a,xs,e1,hq,hl,hw⟩:=hw
 subst e1
 cases r
 obtain⟨its,rv,ht,hz⟩:=I.tuple hq
 refine assign_Tuple_tuple (I.ok.hd hc) ht (by simp[hn,<-hl,rv.length]) hst fun h' hx=>?_
 have I1:Inv X pins σ H {s with heap:=h'}:=I.kept (t':=s.toks) fun b o e=>hx b o (J5 (Heap.lt_size e)) e
 exact h pins _ σ H xs _ Q I1 (by simpa using rv) hw
def gSub(to ti:TE)(t:TSet):TG:=fun v σ H Q=>to σ H fun o H1=>ti σ H1 fun i H2=>t o i v H2 fun H3=>Q σ H3
theorem kfD{o i:Expr}{to ti:TE}{t:TSet}(ho:PE X o to)(hi:PE X i ti)(hs:PSet X t)
  (ha:autoParam (∀v,assign (.Subscript o i pos) X.env v=(do
   let ov <-holding [v] (eval o X.env)
   let iv <-holding [v,ov] (eval i X.env)
   standAt pos
   holding [v,ov,iv] (setItem ov iv v)
   release [v,ov,iv] [])) jJ):PG X (.Subscript o i pos) (gSub to ti t):=by
 intro pins s σ H v u Q I r h
 rw[ha]
 refine wpAny_bind (wpAny_holding (thn (ho pins s σ H _ I h) fun ov s1 zz=>?_))
 obtain⟨x,H1,I1,r1,q1⟩:=zz
 refine wpAny_bind (wpAny_holding (thn (hi pins s1 σ H1 _ I1 q1) fun iv s2 zz=>?_))
 obtain⟨y,H2,I2,r2,q2⟩:=zz
 refine wpAny_bind (wpAny_standAt (wpAny_bind (wpAny_holding (thn (hs pins s2 σ H2 x y v ov iv u _ I2 r1 r2 r q2) fun _ s3 zz=>?_))))
 obtain⟨H3,I3,q3⟩:=zz
 exact wpAny_release ⟨σ,H3,I3,q3⟩
def tAsg(te:TE)(g:TG):TS:=fun D σ H=>te σ H fun x H1=>g x σ H1 D.nx
theorem kec{tg e:Expr}{te:TE}{g:TG}(he:PE X e te)(hg:PG X tg g)(hs:autoParam (swapsWithSole [tg] e pos.line X.env=pure false) jz)(hw:autoParam (swappedStores [tg] e X.env=pure none) jz)
  (h1:autoParam ((assignEach [tg] X.env).map (·.2)=[assign tg X.env]) jz):PS X (.Assign [tg] e pos) (tAsg te g):=by
 intro pins s σ H D I h
 refine wpAny_Assign_stores (thn (he pins s σ H _ I h) fun v s1 zz=>?_) hs hw
 obtain⟨x,H1,I1,r1,q1⟩:=zz
 rw[h1]
 exact thn (hg pins s1 σ H1 x v _ I1 r1 q1) fun _ s2 q=>q
theorem knr{i:Nat}{x:Str}{e:Expr}{te:TE}{pos':Pos}(hN:X.N.Nodup)(hi:X.N[i]?>>x)(hx:Loc X.env.scope x)(he:PE X e te)(hs:autoParam (swapsWith e (some (.Name x pos')) pos.line X.env=pure false) jz)(hf:autoParam (X.fn x=true∨X.env.scope.names.lookup x>>.local) jX):
  PS X (.Assign [.Name x pos'] e pos) (tAsg te (gName i)):=by
 intro pins s σ H D I h
 refine wpAny_Assign_Name (thn (he pins s σ H _ I h) fun v s1 zz=>?_) hs
 obtain⟨y,H1,I1,r1,q1⟩:=zz
 exact kfX I1 hN hi hx r1 (fun s2 I2=>⟨_,H1,I2,q1⟩) hf
def tAug(i:Nat)(te:TE)(ti:TIp):TS:=fun D σ H=>∃x,σ[i]?>>(some x)/\te σ H fun y H1=>ti x y H1 fun z H2=>D.nx (σ.set i (some z)) H2
theorem kjZ{i:Nat}{x:Str}{e:Expr}{te:TE}{op:Operator}{ti:TIp}{pos':Pos}(hN:X.N.Nodup)(hi:X.N[i]?>>x)(hx:Loc X.env.scope x)(he:PE X e te)(ho:PIp X op ti)(hf:autoParam (X.fn x=true∨X.env.scope.names.lookup x>>.local) jX):
  PS X (.AugAssign (.Name x pos') op e pos) (tAug i te ti):=by
 intro pins s σ H D I h
 obtain⟨v,e1,h⟩:=h
 obtain⟨m,hn,hl⟩:=I.loc
 have vis:Vis X.env.scope x:=by rcases hx with k|k;exact .inl k;exact .inr (.inl k)
 obtain⟨u,r,l⟩:=hl i x v hi e1 vis
 refine wpAny_AugAssign_Name ?_
 have go:wpAny (model X.prog X.w) X.A (eval e X.env) (fun w s₂=>wpAny (model X.prog X.w) X.A (inplaceOp op u w) (fun r s₃=>wpAny (model X.prog X.w) X.A (storeName X.env x r) (fun _=>SP X pins D .next) X.xe s₃) X.xe s₂) X.xe s:=by
  refine thn (he pins s σ H _ I h) fun w s1 zz=>?_
  obtain⟨y,H1,I1,r1,q1⟩:=zz
  refine thn (ho pins s1 σ H1 v y u w _ I1 r r1 q1) fun z s2 zz=>?_
  obtain⟨zv,H2,I2,r2,q2⟩:=zz
  exact kfX I2 hN hi hx r2 (fun s3 I3=>⟨_,H2,I3,q2⟩) hf
 rcases l with⟨hk,hm⟩|⟨hk,c,hc,hcell⟩
 ·exact wpAny_loadName_local I.ok.kind hk hn hm go
 ·rcases hk with hk|hk
  ·exact wpAny_loadName_cell I.ok.kind hk hc hcell go
  ·rcases hx with k|k
   ·have:X.env.scope.names.lookup x>>.free:=hk
    rw[k] at this;cases this
   ·have:X.env.scope.names.lookup x>>.free:=hk
    rw[k] at this;cases this
def tAugS(to ti te:TE)(tget:V->V->Hp->VK->Prop)(tip:TIp)(tset:TSet):TS:=fun D σ H=>to σ H fun o H1=>ti σ H1 fun i H2=>tget o i H2 fun x H3=>te σ H3 fun y H4=>tip x y H4 fun z H5=>tset o i z H5 fun H6=>D.nx σ H6
def PGet(X:Cx)(t:V->V->Hp->VK->Prop):Prop:=
 ∀(pins:List (Addr×Obj))(s:Shared)(σ:St)(H:Hp)(o i:V)(ov iv:Value)(Q:VK),Inv X pins σ H s->RelV o ov->RelV i iv->t o i H Q->
  wpAny (model X.prog X.w) X.A (getItem ov iv) (EP X pins σ Q) X.xe s
theorem kmM{o i e:Expr}{to ti te:TE}{tget:V->V->Hp->VK->Prop}{tip:TIp}{tset:TSet}{op:Operator}{tpos:Pos}(ho:PE X o to)(hi:PE X i ti)(hg:PGet X tget)(he:PE X e te)(hp:PIp X op tip)(hs:PSet X tset)
  (ha:∀ov iv new,augStore i ov iv new=(do holding [new,ov,iv] (setItem ov iv new);release [new,ov,iv] [];pure .next):=by intros;rfl):PS X (.AugAssign (.Subscript o i tpos) op e pos) (tAugS to ti te tget tip tset):=by
 intro pins s σ H D I h
 refine wpAny_AugAssign_SubscriptAny (thn (ho pins s σ H _ I h) fun ov s1 zz=>?_) ha
 obtain⟨x1,H1,I1,r1,q1⟩:=zz
 refine thn (hi pins s1 σ H1 _ I1 q1) fun iv s2 zz=>?_
 obtain⟨x2,H2,I2,r2,q2⟩:=zz
 refine thn (hg pins s2 σ H2 x1 x2 ov iv _ I2 r1 r2 q2) fun old s3 zz=>?_
 obtain⟨x3,H3,I3,r3,q3⟩:=zz
 refine thn (he pins s3 σ H3 _ I3 q3) fun v s4 zz=>?_
 obtain⟨x4,H4,I4,r4,q4⟩:=zz
 refine thn (hp pins s4 σ H4 x3 x4 old v _ I4 r3 r4 q4) fun new s5 zz=>?_
 obtain⟨x5,H5,I5,r5,q5⟩:=zz
 exact thn (hs pins s5 σ H5 x1 x2 x5 ov iv new _ I5 r1 r2 r5 q5) fun _ s6 ⟨H6,I6,q6⟩=>⟨σ,H6,I6,q6⟩
def ipI(f:Int->Int->Int):TIp:=fun x y H Q=>∃i j,x=.int i/\y=.int j/\Q (.int (f i j)) H
theorem kmm:PIp X .Add (ipI fun i j=>i+j):=by
 intro pins s σ H x y v u Q I r1 r2 h
 obtain⟨i,j,e1,e2,q⟩:=h
 subst e1;subst e2
 obtain⟨t,rfl⟩:=r1
 obtain⟨t',rfl⟩:=r2
 exact iadd_int ⟨.int _,H,I.tok _,⟨_,rfl⟩,q⟩
theorem kml:PIp X .Sub (ipI fun i j=>i-j):=by
 intro pins s σ H x y v u Q I r1 r2 h
 obtain⟨i,j,e1,e2,q⟩:=h
 subst e1;subst e2
 obtain⟨t,rfl⟩:=r1
 obtain⟨t',rfl⟩:=r2
 exact isub_int ⟨.int _,H,I.tok _,⟨_,rfl⟩,q⟩
end
section
variable{X:Cx}{pos:Pos}
def klZ(c:TT)(tb:TS):TS:=fun D σ H=>∃W:Nat->St->Hp->Prop,(∃m,W m σ H)/\∀m σ H,W m σ H->
 c σ H fun b H1=>if b=true then ∃N:St->Hp->Prop,(∀σ' H',N σ' H'->∃m',m'<m/\W m' σ' H')/\tb {D with nx:=N,ct:=N,bk:=D.nx} σ H1 else D.nx σ H1
theorem klg{c:Expr}{body:List Stmt}{tc:TT}{tb:TS}(hp:PassesOwn (model X.prog X.w) X.A X.env X.xe)(hc:PT X c tc)(hb:PSs X body tb):PS X (.While c body [] pos) (klZ tc tb):=by
 intro pins s σ H D I h
 obtain⟨W,⟨m0,w0⟩,turn⟩:=h
 refine wpAny_While (codeAny_whileLoop (fun n s'=>∃σ' H',Inv X pins σ' H' s'/\W n σ' H') ?_ m0 ⟨σ,H,I,w0⟩)
 rintro n s1 ⟨σ1,H1,I1,w1⟩
 refine wpAny_passesOwn hp (thn (hc pins s1 σ1 H1 _ I1 (turn n σ1 H1 w1)) fun b s2 zz=>?_)
 obtain⟨H2,I2,q2⟩:=zz
 cases b with
 | true=>
  obtain⟨N,hN,q2⟩:=q2
  rw[if_pos rfl]
  refine wpAny_passesOwn hp (thn (hb pins s2 σ1 H2 _ I2 q2) fun f s3 q3=>?_)
  cases f with
  |next=>
   obtain⟨σ3,H3,I3,n3⟩:=q3
   obtain⟨m',hm,w3⟩:=hN σ3 H3 n3
   rwa[m',hm,σ3,H3,I3,w3]
  |cont=>
   obtain⟨σ3,H3,I3,n3⟩:=q3
   obtain⟨m',hm,w3⟩:=hN σ3 H3 n3
   rwa[m',hm,σ3,H3,I3,w3]
  |brk=>exact q3
  |ret v=>exact q3
 |false=>
  rw[if_neg JD]
  exact wpAny_execs_nil ⟨σ1,H2,I2,q2⟩
end
set_option genInjectivity false in
structure It where
 go:Nat->Hp->Prop
 yld:Nat->Hp->V->Hp->Prop
 stop:Nat->Hp->Prop
def FpOk(X:Cx)(pins:List (Addr×Obj))(H:Hp)(b:Addr):Prop:=
 H b=none/\b≠X.env.locals/\b∉X.fs/\(b∈X.ex∨X.s₀.heap.objs.size<=b)/\(∀x c,X.env.cells.lookup x>>c->c≠b)/\∀p∈X.pn++pins,p.1≠b
def Inv.fpOk{X:Cx}{pins:List (Addr×Obj)}{σ:St}{H H':Hp}{s:Shared}{b:Addr}(I:Inv X pins σ H s)(hb:s.heap.objs.size<=b)(hn:H' b=none):FpOk X pins H' b:=by
 rwa[hn,NL (J6 I.lt hb),I.nofs hb, .inr (JA I.sz hb),fun x c e z=>?_,fun p hp z=>?_]
 ·obtain⟨v,q⟩:=I.cell x c e
  exact absurd (J6 q.lt (by rw[z];exact hb)) (ND _)
 ·exact absurd (J6 (Heap.lt_size (I.pin p hp).1) (by rw[z];exact hb)) (ND _)
structure Turn(P:Program)(w:World)(K:Jw)(tg:Expr)(J:It)(fp:List Addr)(it:Addr)(tn:Nat->Heap->Prop):Prop where
 mem:it∈fp
 obj:∀i h,tn i h->∀b∈fp,∃o,h.get? b>>o/\∀v,o.data≠.cell v
 keep:∀i h h',tn i h->(∀b∈fp,∀o,h.get? b>>o->h'.get? b>>o)->tn i h'
 item:∀(X:Cx),X.prog=P->X.w=w->X.K=K->X.calm=true->∀(i:Nat)(pins:List (Addr×Obj))(s:Shared)(σ:St)(H:Hp)(E:Value->Shared->Prop),Inv X pins σ H s->(∀b∈fp,FpOk X pins H b)->tn i s.heap->J.go i H->
  wpAny (model P w) X.A (pyNext (.ref it)) (fun r s1=>∃u,r>>u/\
   wpAny (model P w) X.A (letOwnedTupleGo tg (.ref it) u) (fun _ s2=>∃x H',Inv X pins σ H' s2/\RelV x u/\J.yld i H x H'/\tn (i+1) s2.heap/\∀b∈fp,H' b=none) E s1) E s
 done:∀(X:Cx),X.prog=P->X.w=w->X.K=K->X.calm=true->∀(i:Nat)(pins:List (Addr×Obj))(s:Shared)(σ:St)(H:Hp)(E:Value->Shared->Prop),Inv X pins σ H s->(∀b∈fp,FpOk X pins H b)->tn i s.heap->J.stop i H->
  wpAny (model P w) X.A (pyNext (.ref it)) (fun r s1=>r=none/\Inv X pins σ H s1) E s
 self:∀(A:Around)(i:Nat)(s:Shared)(Q:Value->Shared->Prop)(E:Value->Shared->Prop),tn i s.heap->Q (.ref it) s->wpAny (model P w) A (pyIter (.ref it)) Q E s
abbrev TI:=St->Hp->(It->Hp->Prop)->Prop
def PIE(X:Cx)(pins:List (Addr×Obj))(σ:St)(tg:Expr)(R:It->Hp->Prop)(itv:Value)(s2:Shared):Prop:=
 ∃(it:Addr)(fp:List Addr)(tn:Nat->Heap->Prop)(J:It)(H':Hp),itv=.ref it/\Inv X pins σ H' s2/\Turn X.prog X.w X.K tg J fp it tn/\tn 0 s2.heap/\(∀b∈fp,FpOk X pins H' b)/\R J H'
def PI(X:Cx)(tg iter:Expr)(wi:TI):Prop:=
 ∀(pins:List (Addr×Obj))(s:Shared)(σ:St)(H:Hp)(R:It->Hp->Prop),Inv X pins σ H s->wi σ H R->
  wpAny (model X.prog X.w) X.A (eval iter X.env) (fun v s1=>wpAny (model X.prog X.w) X.A (pyIter v) (PIE X pins σ tg R) X.xe s1) X.xe s
theorem go_of{M:Model}{A:Around}{E:Value->Shared->Prop}{s:Shared}{tg:Expr}{it:Addr}{u:Value}{o:Obj}{n:String}{vs:Array Value}{Q:Unit->Shared->Prop}(ho:s.heap.get? it>>o)(hc:o.cls=.type n)(hd:o.data=.fields vs)
    (hn:["enumerate","zip","dict_itemiterator","dict_reverseitemiterator","odict_iterator","itertools.zip_longest","itertools.pairwise"].contains n=false)(hQ:Q () s):wpAny M A (letOwnedTupleGo tg (.ref it) u) Q E s:=by
  unfold letOwnedTupleGo
  cases tg <;> first
    |exact wpAny_pure hQ
    |(cases u <;> first
        |exact wpAny_pure hQ
        | (refine wpAny_bind (wpAny_load ho ?_)
           rw[hc,hd]
           show wpAny M A (if(["enumerate","zip","dict_itemiterator","dict_reverseitemiterator","odict_iterator","itertools.zip_longest","itertools.pairwise"].contains n&&vs[0]? ==some (rawInt _))=true then _ else _) Q E s
           rw[if_neg (by intro h;rw[hn,Eg] at h;cases h)]
           exact wpAny_pure hQ))
noncomputable def Itl(K:Jw)(a:Addr):It:=
 ⟨fun i H=>∃xs x,SqL K H a xs/\xs[i]?>>x,fun i H x H'=>H'=H/\∀xs,SqL K H a xs->xs[i]?>>x,fun i H=>∃xs,SqL K H a xs/\xs.length<=i⟩
noncomputable def Itr(lo:Int)(n:Nat):It:=⟨fun i _=>i<n,fun i H x H'=>H'=H/\x=.int (lo+i),fun i _=>n<=i⟩
theorem kjf{P:Program}{w:World}{K:Jw}{tg:Expr}(a it:Addr):Turn P w K tg (Itl K a) [it] it (fun i h=>h.IsListIter it a i) where
 mem:=by simp
 obj:=fun i h st b hb=>by
  have e:b=it:=by simpa using hb
  subst e
  obtain⟨o,e,c,d⟩:=st
  rwa[o,e,fun v z=>by rw[d] at z;cases z]
 keep:=fun i h h' st k=>st.at fun o e=>k it (by simp) o e
 item:=by
  intro X hP hw hK hc i pins s σ H E I hf st hg
  subst hP hw hK
  obtain⟨xs,x,hq,hx⟩:=hg
  obtain⟨its,rv,p,hz⟩:=I.list hq
  obtain⟨u,hu,ru⟩:=rv.get hx
  obtain⟨f0,f1,f2,f3,f4,f5⟩:=hf it (by simp)
  refine wpAny_pyNext_list_item st p.isList (x:=u) (by simpa using hu) fun h' st' sb=>?_
  have I1:Inv X pins σ H {s with heap:=h'}:=I.turned (t':=s.toks) (fun b o hb e=>(sb.2 b hb).trans e) f0 f1 f3 f4 f5
  obtain⟨o,e,c,d⟩:=id st'
  rwa[u,6,go_of (s:={s with heap:=h'}) e c d (by decide) ⟨x,H,I1,ru,⟨rfl,fun ys hy=>by rw[I.list_inj hy hq];exact hx⟩,st',fun b hb=>(hf b hb).1⟩]
 done:=by
  intro X hP hw hK hc i pins s σ H E I hf st hg
  subst hP hw hK
  obtain⟨xs,hq,hx⟩:=hg
  obtain⟨its,rv,p,hz⟩:=I.list hq
  obtain⟨f0,f1,f2,f3,f4,f5⟩:=hf it (by simp)
  have hl:=rv.length
  exact wpAny_pyNext_list_end (I.ok.hd hc) st p.isList (by simp;lia) fun h' eb=>⟨rfl,I.turned (t':=s.toks) (fun b o hb e=>eb b o hb e) f0 f1 f3 f4 f5⟩
 self:=fun _ _ _ _ _ st h=>wpAny_pyIter_listiter st h
theorem kiT{P:Program}{w:World}{K:Jw}{tg:Expr}(it:Addr)(lo:Int)(n:Nat):Turn P w K tg (Itr lo n) [it] it (fun i h=>IsRangeIter h it (lo+(i:Nat)*1) ((n:Int)-(i:Nat)) 1) where
 mem:=by simp
 obj:=fun i h st b hb=>by
  have e:b=it:=by simpa using hb
  subst e
  exact⟨_,st,fun v z=>by
   have z':Data.fields _=Data.cell v:=z
   cases z'⟩
 keep:=fun i h h' st k=>k it (by simp) _ st
 item:=by
  intro X hP hw hK hc i pins s σ H E I hf st hg
  subst hP hw hK
  obtain⟨f0,f1,f2,f3,f4,f5⟩:=hf it (by simp)
  have W:=Walks.range (prog:=X.prog) (w:=X.w) (I.ok.hd hc) it lo 1 n
  refine W.item i s _ _ hg st fun v h' tk hv st' kk=>?_
  obtain⟨t,rfl⟩:=hv
  have I1:Inv X pins σ H {s with heap:=h',toks:=tk}:=I.turned (fun b o hb e=>kk b o (by simpa using hb) e) f0 f1 f3 f4 f5
  rwa[8,go_of (s:={s with heap:=h',toks:=tk}) (n:="range_iterator") st' rfl rfl (by decide) ⟨.int (lo+i),H,I1,⟨t,?_⟩,⟨rfl,rfl⟩,st',fun b hb=>(hf b hb).1⟩]
  rw[Int.mul_one]
 done:=by
  intro X hP hw hK hc i pins s σ H E I hf st hg
  subst hP hw hK
  obtain⟨f0,f1,f2,f3,f4,f5⟩:=hf it (by simp)
  exact wpAny_pyNext_range_end (I.ok.hd hc) st (by have:n<=i:=hg;lia) fun h' eb=>⟨rfl,I.turned (t':=s.toks) (fun b o hb e=>eb b o hb e) f0 f1 f3 f4 f5⟩
 self:=fun _ _ _ _ _ st h=>wpAny_pyIter_rangeiter st h
section
variable{X:Cx}{tg:Expr}
def iList(K:Jw)(tl:TE):TI:=fun σ H R=>tl σ H fun x H1=>∃a,x=.ref a/\(∃xs,SqL K H1 a xs)/\R (Itl K a) H1
theorem kmO{l:Expr}{tl:TE}(hl:PE X l tl):PI X tg l (iList X.K tl):=by
 intro pins s σ H R I h
 refine thn (hl pins s σ H _ I h) fun v s1 zz=>?_
 obtain⟨x,H1,I1,r1,q1⟩:=zz
 obtain⟨a,e,⟨xs,hq⟩,q⟩:=q1
 subst e
 cases r1
 obtain⟨its,rv,p,hz⟩:=I1.list hq
 refine wpAny_pyIter_list p.isList ?_
 rwa[s1.heap.objs.size,[s1.heap.objs.size],_,_,H1,6,I1.kept (t':=s1.toks) fun b o e=>Heap.get?_push_of_some _ e,kjf a _,⟨_,Heap.get?_push_size _ rfl,rfl,rfl⟩,fun b hb=>?_,q]
 have e:b=s1.heap.objs.size:=by simpa using hb
 subst e
 exact I1.fpOk (Jx _) (I1.hok.fresh (Jx _))
theorem kld{pins:List (Addr×Obj)}{σ:St}{H:Hp}{s:Shared}{R:It->Hp->Prop}{E:Value->Shared->Prop}{lo hi:Int}{t u v:Tok}{tk:Nat}(I:Inv X pins σ H s)(h1: -(2 ^ 62)<=lo)(h2:lo<2 ^ 62)(h3: -(2 ^ 62)<=hi)(h4:hi<2 ^ 62)
  (q:R (Itr lo (hi-lo).toNat) H):wpAny (model X.prog X.w) X.A (pyIter (.ref s.heap.objs.size)) (PIE X pins σ tg R) E {s with heap:=s.heap.push {cls:=.type "range",data:=.fields #[.int lo t, .int hi u, .int 1 v]},toks:=tk}:=by
 refine wpAny_pyIter_range (IsRange.new ..) (small_one h1 h2 h3 h4) ?_
 have I1:Inv X pins σ H {s with heap:=s.heap.push {cls:=.type "range",data:=.fields #[.int lo t, .int hi u, .int 1 v]},toks:=tk}:=I.kept fun b o e=>Heap.get?_push_of_some _ e
 refine⟨(s.heap.push {cls:=.type "range",data:=.fields #[.int lo t, .int hi u, .int 1 v]}).objs.size,[(s.heap.push {cls:=.type "range",data:=.fields #[.int lo t, .int hi u, .int 1 v]}).objs.size],_,_,H,rfl,
  I1.kept (t':=tk) fun b o e=>Heap.get?_push_of_some _ e,kiT _ lo (hi-lo).toNat,?_,fun b hb=>?_,q⟩
 ·have e1:lo+((0:Nat):Int)*1=lo:=by simp
  have e2:(((hi-lo).toNat:Nat):Int)-((0:Nat):Int)=Builtin.Range.rangeSize lo hi 1:=by rw[rangeSize_one];split <;> lia
  show IsRangeIter _ _ (lo+((0:Nat):Int)*1) ((((hi-lo).toNat:Nat):Int)-((0:Nat):Int)) 1
  rw[e1,e2]
  exact Heap.get?_push_size _ rfl
 ·have e:b=(s.heap.push {cls:=.type "range",data:=.fields #[.int lo t, .int hi u, .int 1 v]}).objs.size:=by simpa using hb
  subst e
  exact I1.fpOk (Jx _) (I1.hok.fresh (Jx _))
def iRng1(ta:TA):TI:=fun σ H R=>ta σ H fun vs H1=>∃j:Int,vs=[.int j]/\-(2 ^ 62)<=j/\j<2 ^ 62/\R (Itr 0 j.toNat) H1
theorem kcf{a:Expr}{ta:TA}{p pos:Pos}(hg:Gl X "range")(hm:X.mg "range"=none)(ha:PA X [a] ta)(hs:autoParam (starEach [a] X.env=[(false,eval a X.env)]) jz):PI X tg (.Call (.Name "range" p) [a] [] pos) (iRng1 ta):=by
 intro pins s σ H R I h
 refine Call_ (kdH I hg hm boot_range (PyProof.Rows.callWith_type1 (thn (ha pos pins s σ H _ I h) fun us s1 zz=>?_) hs rfl))
 obtain⟨vs,H1,I1,r1,q1⟩:=zz
 obtain⟨j,e,q1,q2,q⟩:=q1
 subst e
 cases r1 with
 |cons r rr=>
  cases rr
  obtain⟨t,rfl⟩:=r
  exact call_range_1 (kld I1 (by lia) (by lia) q1 q2 (by simpa using q))
def tFor(wi:TI)(g:TG)(tb:TS):TS:=fun D σ H=>wi σ H fun J H1=>∃W:Nat->Nat->St->Hp->Prop,(∃m,W 0 m σ H1)/\∀i m σ H,W i m σ H->
 (J.stop i H/\D.nx σ H)∨(J.go i H/\∃N:St->Hp->Prop,(∀σ' H',N σ' H'->∃m',m'<m/\W (i+1) m' σ' H')/\∀x H',J.yld i H x H'->g x σ H' fun σ2 H2=>tb {D with nx:=N,ct:=N,bk:=D.nx} σ2 H2)
noncomputable def kiq(fp:List Addr)(h:Heap):List (Addr×Obj):=fp.filterMap fun b=>(h.get? b).map fun o=>(b,o)
theorem kda{fp:List Addr}{h:Heap}{b:Addr}{o:Obj}(hb:b∈fp)(e:h.get? b>>o):(b,o)∈kiq fp h:=List.mem_filterMap.mpr ⟨b,hb,by rw[e];rfl⟩
theorem kka{fp:List Addr}{h:Heap}{p:Addr×Obj}(hp:p∈kiq fp h):p.1∈fp/\h.get? p.1>>p.2:=by
 obtain⟨b,hb,e⟩:=List.mem_filterMap.mp hp
 cases q:h.get? b with
 |none=>rw[q] at e;cases e
 |some o=>
  rw[q] at e
  have e':(b,o)=p:=Option.some.inj e
  subst e'
  rwa[hb,q]
theorem Inv.pinned{pins:List (Addr×Obj)}{σ:St}{H:Hp}{s:Shared}{fp:List Addr}(I:Inv X pins σ H s)(hf:∀b∈fp,FpOk X pins H b)(ho:∀b∈fp,∃o,s.heap.get? b>>o/\∀v,o.data≠.cell v):Inv X (pins++kiq fp s.heap) σ H s:=
 I.pins_of fun p hp=>(Na.mp hp).elim (fun z=>I.pin p (Nm _ z)) fun z=>by
  obtain⟨hb,e⟩:=kka z
  obtain⟨f0,f1,f2,_⟩:=hf p.1 hb
  obtain⟨o,e',d⟩:=ho p.1 hb
  rw[e] at e';cases e'
  rwa[e,f0,f1,f2,d]
theorem Inv.unpinned{pins pl:List (Addr×Obj)}{σ:St}{H:Hp}{s:Shared}(I:Inv X (pins++pl) σ H s):Inv X pins σ H s:=I.pins_of fun p hp=>I.pin p (Nm _ (MF _ hp))
theorem ka7{iter:Expr}{body:List Stmt}{wi:TI}{g:TG}{tb:TS}{pos:Pos}(hp:PassesOwn (model X.prog X.w) X.A X.env X.xe)(hc:X.calm=true)(hi:PI X tg iter wi)(hg:PG X tg g)(hb:PSs X body tb)
  (hs:autoParam (∀x,foldedSetIterable iter X.env x=pure x) jJ):PS X (.For tg iter body [] pos) (tFor wi g tb):=by
 intro pins s σ H D I h
 refine wpAny_For (thn (hi pins s σ H _ I h) fun v s1 h1=>thn h1 fun itv s2 h2=>?_) hs
 obtain⟨it,fp,tn,J,H2,e,I2,T,st2,f2,W,⟨m0,w0⟩,turn⟩:=h2
 subst e
 have stat:∀{H':Hp},(∀b∈fp,H' b=none)->∀b∈fp,FpOk X pins H' b:=fun hn b hb=>⟨hn b hb,(f2 b hb).2⟩
 refine codeAny_forLoop_any (fun n s'=>∃i σ' H',Inv X pins σ' H' s'/\tn i s'.heap/\(∀b∈fp,H' b=none)/\W i n σ' H') ?_ m0 ⟨0,σ,H2,I2,st2,fun b hb=>(f2 b hb).1,w0⟩
 rintro n s3 ⟨i,σ3,H3,I3,st3,fr3,w3⟩
 rcases turn i n σ3 H3 w3 with⟨stop,qn⟩|⟨go,N,hN,step⟩
 ·refine wpAny_passesOwn hp (thn (T.done X rfl rfl rfl hc i pins s3 σ3 H3 X.xe I3 (stat fr3) st3 stop) fun r s4 zz=>?_)
  obtain⟨hr,I4⟩:=zz
  subst hr
  exact wpAny_execs_nil ⟨σ3,H3,I4,qn⟩
 ·refine wpAny_passesOwn hp (thn (T.item X rfl rfl rfl hc i pins s3 σ3 H3 X.xe I3 (stat fr3) st3 go) fun r s4 zz=>?_)
  obtain⟨u,hr,h4⟩:=zz
  subst hr
  refine wpAny_passesOwn hp (thn h4 fun _ s5 zz=>?_)
  obtain⟨x,H5,I5,r5,y5,st5,fr5⟩:=zz
  have I5':=I5.pinned (stat fr5) (T.obj _ _ st5)
  refine wpAny_passesOwn hp (thn (hg _ s5 σ3 H5 x u _ I5' r5 (step x H5 y5)) fun _ s6 zz=>?_)
  obtain⟨σ6,H6,I6,q6⟩:=zz
  refine wpAny_passesOwn hp (thn (hb _ s6 σ6 H6 _ I6 q6) fun f s7 q7=>?_)
  have again:∀{σ7:St}{H7:Hp},Inv X (pins++kiq fp s5.heap) σ7 H7 s7->N σ7 H7->∃m,m<n/\∃i σ' H',Inv X pins σ' H' s7/\tn i s7.heap/\(∀b∈fp,H' b=none)/\W i m σ' H':=fun {σ7 H7} I7 n7=>by
   obtain⟨m',hm,w7⟩:=hN σ7 H7 n7
   rwa[m',hm,i+1,σ7,H7,I7.unpinned,T.keep _ _ _ st5 fun b hb o e=>(I7.pin (b,o) (Nm _ (Nm _ (kda hb e)))).1,fun b hb=>?_,w7]
   obtain⟨o,e,d⟩:=T.obj _ _ st5 b hb
   exact(I7.pin (b,o) (Nm _ (Nm _ (kda hb e)))).2.1
  cases f with
  |next=>obtain⟨σ7,H7,I7,n7⟩:=q7;exact again I7 n7
  |cont=>obtain⟨σ7,H7,I7,n7⟩:=q7;exact again I7 n7
  |brk=>obtain⟨σ7,H7,I7,q7⟩:=q7;exact⟨σ7,H7,I7.unpinned,q7⟩
  |ret v=>obtain⟨x7,σ7,H7,I7,r7,q7⟩:=q7;exact⟨x7,σ7,H7,I7.unpinned,r7,q7⟩
end
theorem ka9{K:Jw}{a:Addr}{xs:List V}{g:TG}{tb:TS}{D:Ends}{σ:St}{H:Hp}(Pv:Nat->St->Hp->Prop)(h0:Pv 0 σ H)(hl:∀i σ H,i<=xs.length->Pv i σ H->SqL K H a xs)
  (hs:∀i x σ H,xs[i]?>>x->Pv i σ H->g x σ H fun σ2 H2=>tb {D with nx:=Pv (i+1),ct:=Pv (i+1),bk:=D.nx} σ2 H2)(hd:∀σ H,Pv xs.length σ H->D.nx σ H):
  ∃W:Nat->Nat->St->Hp->Prop,(∃m,W 0 m σ H)/\∀i m σ H,W i m σ H->
   ((Itl K a).stop i H/\D.nx σ H)∨((Itl K a).go i H/\∃N:St->Hp->Prop,(∀σ' H',N σ' H'->∃m',m'<m/\W (i+1) m' σ' H')/\∀x H',(Itl K a).yld i H x H'->g x σ H' fun σ2 H2=>tb {D with nx:=N,ct:=N,bk:=D.nx} σ2 H2):=by
 rwa[fun i m σ H=>m=xs.length-i/\i<=xs.length/\Pv i σ H,⟨xs.length,by simp,J7 _,h0⟩,?_]
 rintro i m σ H ⟨rfl,hi,p⟩
 have q:=hl i σ H hi p
 by_cases hlt:i<xs.length
 ·refine .inr ⟨⟨xs,xs[i],q,by simp[hlt]⟩,Pv (i+1),fun σ' H' p'=>⟨xs.length-(i+1),by lia,rfl,hlt,p'⟩,fun x H' y=>?_⟩
  obtain⟨e,y⟩:=y
  subst e
  exact hs i x σ _ (y xs q) p
 ·have e:i=xs.length:=by lia
  subst e
  exact .inl ⟨⟨xs,q,Jx _⟩,hd σ H p⟩
theorem kc1{lo:Int}{n:Nat}{g:TG}{tb:TS}{D:Ends}{σ:St}{H:Hp}(Pv:Nat->St->Hp->Prop)(h0:Pv 0 σ H)
  (hs:∀i σ H,i<n->Pv i σ H->g (.int (lo+i)) σ H fun σ2 H2=>tb {D with nx:=Pv (i+1),ct:=Pv (i+1),bk:=D.nx} σ2 H2)(hd:∀σ H,Pv n σ H->D.nx σ H):
  ∃W:Nat->Nat->St->Hp->Prop,(∃m,W 0 m σ H)/\∀i m σ H,W i m σ H->
   ((Itr lo n).stop i H/\D.nx σ H)∨((Itr lo n).go i H/\∃N:St->Hp->Prop,(∀σ' H',N σ' H'->∃m',m'<m/\W (i+1) m' σ' H')/\∀x H',(Itr lo n).yld i H x H'->g x σ H' fun σ2 H2=>tb {D with nx:=N,ct:=N,bk:=D.nx} σ2 H2):=by
 rwa[fun i m σ H=>m=n-i/\i<=n/\Pv i σ H,⟨n,by simp,J7 _,h0⟩,?_]
 rintro i m σ H ⟨rfl,hi,p⟩
 by_cases hlt:i<n
 ·refine .inr ⟨hlt,Pv (i+1),fun σ' H' p'=>⟨n-(i+1),by lia,rfl,hlt,p'⟩,fun x H' y=>?_⟩
  obtain⟨e,y⟩:=y
  subst e y
  exact hs i σ _ hlt p
 ·have e:i=n:=by lia
  subst e
  exact .inl ⟨Jx _,hd σ H p⟩
theorem kk4{c:TT}{tb:TS}{D:Ends}{σ:St}{H:Hp}(Pv:St->Hp->Prop)(μ:St->Hp->Nat)(h0:Pv σ H)
  (hs:∀σ H,Pv σ H->c σ H fun b H1=>if b=true then tb {D with nx:=fun σ' H'=>Pv σ' H'/\μ σ' H'< μ σ H,ct:=fun σ' H'=>Pv σ' H'/\μ σ' H'< μ σ H,bk:=D.nx} σ H1 else D.nx σ H1)
  (mono:∀σ H Q Q',(∀b H1,Q b H1->Q' b H1)->c σ H Q->c σ H Q'):klZ c tb D σ H:=by
 rwa[fun m σ H=>m= μ σ H/\Pv σ H,⟨_,rfl,h0⟩,?_]
 rintro m σ H ⟨rfl,p⟩
 refine mono σ H _ _ (fun b H1 q=>?_) (hs σ H p)
 cases b with
 |true=>exact⟨_,fun σ' H' ⟨p',l⟩=>⟨_,l,rfl,p'⟩,q⟩
 |false=>exact q
abbrev R2:=V->V->Hp->VK->Prop
def OpR(X:Cx)(f:Value->Value->Sem Value)(r:R2):Prop:=
 ∀(pins:List (Addr×Obj))(s:Shared)(σ:St)(H:Hp)(x y:V)(v u:Value)(Q:VK),Inv X pins σ H s->RelV x v->RelV y u->r x y H Q->
  wpAny (model X.prog X.w) X.A (f v u) (EP X pins σ Q) X.xe s
def UnR(X:Cx)(f:Value->Sem Value)(r:V->Hp->VK->Prop):Prop:=
 ∀(pins:List (Addr×Obj))(s:Shared)(σ:St)(H:Hp)(x:V)(v:Value)(Q:VK),Inv X pins σ H s->RelV x v->r x H Q->
  wpAny (model X.prog X.w) X.A (f v) (EP X pins σ Q) X.xe s
def CallR(X:Cx)(f:Value)(r:List V->Hp->VK->Prop):Prop:=
 ∀(pins:List (Addr×Obj))(s:Shared)(σ:St)(H:Hp)(xs:List V)(us:List Value)(Q:VK),Inv X pins σ H s->Vals xs us->r xs H Q->
  wpAny (model X.prog X.w) X.A (call f us) (EP X pins σ Q) X.xe s
def tOp(r:R2)(ta tb:TE):TE:=fun σ H Q=>ta σ H fun x H1=>tb σ H1 fun y H2=>r x y H2 Q
def tUn(r:V->Hp->VK->Prop)(ta:TE):TE:=fun σ H Q=>ta σ H fun x H1=>r x H1 Q
def rI(C:Int->Int->Prop)(g:Int->Int->V):R2:=fun x y H Q=>∃i j,x=.int i/\y=.int j/\C i j/\Q (g i j) H
def rI0(g:Int->Int->V):R2:=fun x y H Q=>∃i j,x=.int i/\y=.int j/\Q (g i j) H
def rU(g:Int->V):V->Hp->VK->Prop:=fun x H Q=>∃i,x=.int i/\Q (g i) H
section
variable{X:Cx}{a b c:Expr}{ta tb tc:TE}{pos:Pos}
theorem binT(ha:PE X a ta)(hb:PE X b tb){pins:List (Addr×Obj)}{s:Shared}{σ:St}{H:Hp}{R:V->V->Hp->Prop}(I:Inv X pins σ H s)
  (h:ta σ H fun x H1=>tb σ H1 fun y H2=>R x y H2){Q:Value->Shared->Prop}{f:Value->Value->Sem Value}
  (hf:∀v u s2 x y H2,Inv X pins σ H2 s2->RelV x v->RelV y u->R x y H2->wpAny (model X.prog X.w) X.A (f v u) Q X.xe s2):
  wpAny (model X.prog X.w) X.A (eval a X.env) (fun v s₁=>wpAny (model X.prog X.w) X.A (eval b X.env) (fun u s₂=>wpAny (model X.prog X.w) X.A (f v u) Q X.xe s₂) X.xe s₁) X.xe s:=by
 refine thn (ha pins s σ H _ I h) fun v s1 zz=>?_
 obtain⟨x,H1,I1,r1,q1⟩:=zz
 refine thn (hb pins s1 σ H1 _ I1 q1) fun u s2 zz=>?_
 obtain⟨y,H2,I2,r2,q2⟩:=zz
 exact hf v u s2 x y H2 I2 r1 r2 q2
theorem pe_op{op:Operator}{r:R2}(ho:OpR X (binaryOp op) r)(ha:PE X a ta)(hb:PE X b tb):PE X (.BinOp a op b pos) (tOp r ta tb):=by
 intro pins s σ H Q I h
 exact wpAny_BinOp (binT ha hb I h fun v u s2 x y H2 I2 rx ry q=>ho pins s2 σ H2 x y v u Q I2 rx ry q)
theorem pe_un{op:UnaryOp}{r:V->Hp->VK->Prop}(ho:UnR X (unaryOp op) r)(ha:PE X a ta):PE X (.UnaryOp op a pos) (tUn r ta):=by
 intro pins s σ H Q I h
 exact UnaryOp_ (thn (ha pins s σ H _ I h) fun v s1 ⟨x,H1,I1,r1,q1⟩=>ho pins s1 σ H1 x v Q I1 r1 q1)
theorem opI{f:Value->Value->Sem Value}{C:Int->Int->Prop}{g:Int->Int->Int}
  (rule:∀(i j:Int)(t u:Tok)(s:Shared)(Q:Value->Shared->Prop)(E:Value->Shared->Prop),C i j->Q (.int (g i j) s.toks) {s with toks:=s.toks+1}->wpAny (model X.prog X.w) X.A (f (.int i t) (.int j u)) Q E s):
  OpR X f (rI C fun i j=>.int (g i j)):=by
 intro pins s σ H x y v u Q I rx ry h
 obtain⟨i,j,rfl,rfl,hc,q⟩:=h
 obtain⟨t,rfl⟩:=rx
 obtain⟨t',rfl⟩:=ry
 exact rule i j t t' s _ _ hc ⟨.int (g i j),H,I.tok _,⟨_,rfl⟩,q⟩
theorem opI0{f:Value->Value->Sem Value}{g:Int->Int->Int}
  (rule:∀(i j:Int)(t u:Tok)(s:Shared)(Q:Value->Shared->Prop)(E:Value->Shared->Prop),Q (.int (g i j) s.toks) {s with toks:=s.toks+1}->wpAny (model X.prog X.w) X.A (f (.int i t) (.int j u)) Q E s):
  OpR X f (rI0 fun i j=>.int (g i j)):=by
 intro pins s σ H x y v u Q I rx ry h
 obtain⟨i,j,rfl,rfl,q⟩:=h
 obtain⟨t,rfl⟩:=rx
 obtain⟨t',rfl⟩:=ry
 exact rule i j t t' s _ _ ⟨.int (g i j),H,I.tok _,⟨_,rfl⟩,q⟩
theorem opB0{f:Value->Value->Sem Value}{g:Int->Int->Bool}
  (rule:∀(i j:Int)(t u:Tok)(s:Shared)(Q:Value->Shared->Prop)(E:Value->Shared->Prop),Q (.bool (g i j)) s->wpAny (model X.prog X.w) X.A (f (.int i t) (.int j u)) Q E s):
  OpR X f (rI0 fun i j=>.bl (g i j)):=by
 intro pins s σ H x y v u Q I rx ry h
 obtain⟨i,j,rfl,rfl,q⟩:=h
 obtain⟨t,rfl⟩:=rx
 obtain⟨t',rfl⟩:=ry
 exact rule i j t t' s _ _ ⟨.bl (g i j),H,I,rfl,q⟩
def CDiv(i j:Int):Prop:=0<j/\j<1073741824
def CMul(i j:Int):Prop:=(-(2 ^ 64)<i/\i<2 ^ 64)∨(-(2 ^ 64)<j/\j<2 ^ 64)
theorem CMul.ok{i j:Int}(h:CMul i j):IntMulOk i j:=by
 rcases h with⟨h1,h2⟩|⟨h1,h2⟩
 ·exact .of_left (intBits_le_64 h1 h2)
 ·exact .of_right (intBits_le_64 h1 h2)
theorem kcN:OpR X (binaryOp .Add) (rI0 fun i j=>.int (i+j)):=opI0 fun _ _ _ _ _ _ _ q=>add_int q
theorem kdx:OpR X (binaryOp .Sub) (rI0 fun i j=>.int (i-j)):=opI0 fun _ _ _ _ _ _ _ q=>sub_int q
theorem kcg:OpR X (binaryOp .Mult) (rI CMul fun i j=>.int (i*j)):=opI fun _ _ _ _ _ _ _ hc q=>mul_int q hc.ok
theorem kaz:OpR X (binaryOp .FloorDiv) (rI CDiv fun i j=>.int (i/j)):=opI fun i j _ _ _ _ _ hc q=>by
 have h1:(0:Int)<j:=hc.1
 have h2:j<1073741824:=hc.2
 exact floordiv_int (by lia) (by rw[Int.fdiv_eq_ediv_of_nonneg i (by lia)];exact q) (.inl (PyProof.noPylong_small (by lia)))
theorem kaA:OpR X (binaryOp .Mod) (rI (fun _ j=>0<j) fun i j=>.int (i%j)):=opI fun i j _ _ _ _ _ hc q=>by
 have h1:(0:Int)<j:=hc
 exact mod_int' (by lia) (by rw[Int.fmod_eq_emod_of_nonneg i (by lia)];exact q)
theorem unI{f:Value->Sem Value}{g:Int->Int}
  (rule:∀(i:Int)(t:Tok)(s:Shared)(Q:Value->Shared->Prop)(E:Value->Shared->Prop),Q (.int (g i) s.toks) {s with toks:=s.toks+1}->wpAny (model X.prog X.w) X.A (f (.int i t)) Q E s):
  UnR X f (rU fun i=>.int (g i)):=by
 intro pins s σ H x v Q I rx h
 obtain⟨i,rfl,q⟩:=h
 obtain⟨t,rfl⟩:=rx
 exact rule i t s _ _ ⟨.int (g i),H,I.tok _,⟨_,rfl⟩,q⟩
theorem klX:UnR X (unaryOp .USub) (rU fun i=>.int (-i)):=unI fun _ _ _ _ _ q=>neg_int q
end
noncomputable def scal:V->V->Bool
 | .non, .non=>true| .non, .int _=>true| .int _, .non=>true| .non, .bl _=>true| .bl _, .non=>true| .non, .str _=>true| .str _, .non=>true
 | .int _, .int _=>true| .bl _, .bl _=>true| .str _, .str _=>true| .byt _, .byt _=>true
 | .int _, .str _=>true| .str _, .int _=>true| .bl _, .str _=>true| .str _, .bl _=>true
 |_,_=>false
def rEq:R2:=fun x y H Q=>scal x y=true/\Q (.bl (decide (x=y))) H
def rNe:R2:=fun x y H Q=>scal x y=true/\Q (.bl (!decide (x=y))) H
def kkN{i j:Int}:decide (V.int i=V.int j)=(i==j):=by
 rw[Mh]
 simp
def kmp{i j:Bool}:decide (V.bl i=V.bl j)=(i==j):=by
 rw[Mh]
 simp
def kkM{i j:Str}:decide (V.str i=V.str j)=(i==j):=by
 rw[Mh]
 simp
def kkO{i j:Array UInt8}:decide (V.byt i=V.byt j)=(i.toList==j.toList):=by
 rw[Mh]
 cases i
 cases j
 simp
section
variable{X:Cx}{a b c:Expr}{ta tb tc:TE}{pos:Pos}
theorem kaR{pins:List (Addr×Obj)}{σ:St}{H:Hp}{s:Shared}{Q:VK}{k k':Bool}(I:Inv X pins σ H s)(q:Q (.bl k) H)(e:k=k'):EP X pins σ Q (.bool k') s:=by
 subst e
 rwa[.bl k,H,I,6,q]
theorem op_eq:OpR X (compareOp .Eq) rEq:=by
 intro pins s σ H x y v u Q I rx ry h
 obtain⟨hs,q⟩:=h
 cases x with
 |non=>
  cases rx
  cases y with
  |non=>cases ry;exact PySem.EqNone.eq_none_none (kaR I q (by simp))
  |bl j=>cases ry;exact PySem.EqNone.eq_none_bool (kaR I q (by simp))
  |int j=>obtain⟨t',rfl⟩:=ry;exact PySem.EqNone.eq_none_int (kaR I q (by simp))
  |str j=>obtain⟨t',rfl⟩:=ry;exact PySem.EqNone.eq_none_str (kaR I q (by simp))
  |_=>exact absurd (show false=true from hs) JD
 |bl i=>
  cases rx
  cases y with
  |non=>cases ry;exact PySem.EqNone.eq_bool_none (kaR I q (by simp))
  |bl j=>cases ry;exact eq_bool (kaR I q kmp)
  |str j=>obtain⟨t',rfl⟩:=ry;exact PySem.EqMixed.eq_bool_str (kaR I q (by simp))
  |_=>exact absurd (show false=true from hs) JD
 |int i=>
  obtain⟨t,rfl⟩:=rx
  cases y with
  |non=>cases ry;exact PySem.EqNone.eq_int_none (kaR I q (by simp))
  |int j=>obtain⟨t',rfl⟩:=ry;exact eq_int (kaR I q kkN)
  |str j=>obtain⟨t',rfl⟩:=ry;exact PySem.EqMixed.eq_int_str (kaR I q (by simp))
  |_=>exact absurd (show false=true from hs) JD
 |str i=>
  obtain⟨t,rfl⟩:=rx
  cases y with
  |non=>cases ry;exact PySem.EqNone.eq_str_none (kaR I q (by simp))
  |bl j=>cases ry;exact PySem.EqMixed.eq_str_bool (kaR I q (by simp))
  |int j=>obtain⟨t',rfl⟩:=ry;exact PySem.EqMixed.eq_str_int (kaR I q (by simp))
  |str j=>obtain⟨t',rfl⟩:=ry;exact eq_str (kaR I q kkM)
  |_=>exact absurd (show false=true from hs) JD
 |byt i=>
  obtain⟨t,rfl⟩:=rx
  cases y with
  |byt j=>obtain⟨t',rfl⟩:=ry;exact PySem.W.eq_bytes (kaR I q kkO)
  |_=>exact absurd (show false=true from hs) JD
 |_=>cases y <;> exact absurd (show false=true from hs) JD
theorem op_ne:OpR X (compareOp .NotEq) rNe:=by
 intro pins s σ H x y v u Q I rx ry h
 obtain⟨hs,q⟩:=h
 cases x with
 |non=>
  cases rx
  cases y with
  |non=>cases ry;exact PySem.EqNone.ne_none_none (kaR I q (by simp))
  |bl j=>cases ry;exact PySem.EqNone.ne_none_bool (kaR I q (by simp))
  |int j=>obtain⟨t',rfl⟩:=ry;exact PySem.EqNone.ne_none_int (kaR I q (by simp))
  |str j=>obtain⟨t',rfl⟩:=ry;exact PySem.EqNone.ne_none_str (kaR I q (by simp))
  |_=>exact absurd (show false=true from hs) JD
 |bl i=>
  cases rx
  cases y with
  |non=>cases ry;exact PySem.EqNone.ne_bool_none (kaR I q (by simp))
  |bl j=>cases ry;exact ne_bool (kaR I q (congrArg not kmp))
  |str j=>obtain⟨t',rfl⟩:=ry;exact PySem.EqMixed.ne_bool_str (kaR I q (by simp))
  |_=>exact absurd (show false=true from hs) JD
 |int i=>
  obtain⟨t,rfl⟩:=rx
  cases y with
  |non=>cases ry;exact PySem.EqNone.ne_int_none (kaR I q (by simp))
  |int j=>obtain⟨t',rfl⟩:=ry;exact ne_int (kaR I q (congrArg not kkN))
  |str j=>obtain⟨t',rfl⟩:=ry;exact PySem.EqMixed.ne_int_str (kaR I q (by simp))
  |_=>exact absurd (show false=true from hs) JD
 |str i=>
  obtain⟨t,rfl⟩:=rx
  cases y with
  |non=>cases ry;exact PySem.EqNone.ne_str_none (kaR I q (by simp))
  |bl j=>cases ry;exact PySem.EqMixed.ne_str_bool (kaR I q (by simp))
  |int j=>obtain⟨t',rfl⟩:=ry;exact PySem.EqMixed.ne_str_int (kaR I q (by simp))
  |str j=>obtain⟨t',rfl⟩:=ry;exact ne_str (kaR I q (congrArg not kkM))
  |_=>exact absurd (show false=true from hs) JD
 |byt i=>
  obtain⟨t,rfl⟩:=rx
  cases y with
  |byt j=>obtain⟨t',rfl⟩:=ry;exact PySem.W.ne_bytes (kaR I q (congrArg not kkO))
  |_=>exact absurd (show false=true from hs) JD
 |_=>cases y <;> exact absurd (show false=true from hs) JD
theorem op_lt:OpR X (compareOp .Lt) (rI0 fun i j=>.bl (decide (i<j))):=opB0 fun _ _ _ _ _ _ _ q=>lt_int q
theorem op_gt:OpR X (compareOp .Gt) (rI0 fun i j=>.bl (decide (j<i))):=opB0 fun _ _ _ _ _ _ _ q=>gt_int q
theorem keS:OpR X (compareOp .Is) (fun x y H Q=>y=.non/\Q (.bl (decide (x=.non))) H):=by
 intro pins s σ H x y v u Q I rx ry h
 obtain⟨rfl,q⟩:=h
 cases ry
 refine is_none_gen (kaR I q ?_)
 cases x <;> first
  |(cases rx;rfl)
  |(obtain⟨t,rfl⟩:=rx;rfl)
theorem kdZ:OpR X (compareOp .IsNot) (fun x y H Q=>y=.non/\Q (.bl (!decide (x=.non))) H):=by
 intro pins s σ H x y v u Q I rx ry h
 obtain⟨rfl,q⟩:=h
 cases ry
 refine isnot_none_gen (kaR I q ?_)
 cases x <;> first
  |(cases rx;rfl)
  |(obtain⟨t,rfl⟩:=rx;rfl)
theorem kau(b:Expr){op:CmpOp}(h:autoParam (op≠.In) jQ)(h2:autoParam (op≠.NotIn) jQ):behindInMarks op b=false:=by
 have e1:(op==CmpOp.In)=false:=by cases op <;> first|rfl|exact absurd rfl h
 have e2:(op==CmpOp.NotIn)=false:=by cases op <;> first|rfl|exact absurd rfl h2
 cases b <;> simp[behindInMarks,e1,e2]
theorem kbB{op:CmpOp}{r:R2}(ho:OpR X (compareOp op) r)(ha:PE X a ta)(hb:PE X b tb)(hm:behindInMarks op b=false):PE X (.Compare a [op] [b] pos) (tOp r ta tb):=by
 intro pins s σ H Q I h
 exact wpAny_Compare1 (binT ha hb I h fun v u s2 x y H2 I2 rx ry q=>ho pins s2 σ H2 x y v u Q I2 rx ry q) hm
def tTest(t:TE):TT:=fun σ H Q=>t σ H fun x H'=>∃k,x=.bl k/\Q k H'
theorem kan{op:CmpOp}{r:R2}(ho:OpR X (compareOp op) r)(ha:PE X a ta)(hb:PE X b tb)(hm:behindInMarks op b=false):PT X (.Compare a [op] [b] pos) (tTest (tOp r ta tb)):=by
 intro pins s σ H Q I h
 refine wpAny_isTrue_Compare1 (thn (ha pins s σ H _ I h) fun v s1 zz=>?_) hm
 obtain⟨x,H1,I1,r1,q1⟩:=zz
 refine thn (hb pins s1 σ H1 _ I1 q1) fun u s2 zz=>?_
 obtain⟨y,H2,I2,r2,q2⟩:=zz
 refine thn (ho pins s2 σ H2 x y v u _ I2 r1 r2 q2) fun c s3 zz=>?_
 obtain⟨z,H3,I3,r3,k,e,q3⟩:=zz
 subst e
 cases r3
 exact wpAny_truthy_bool ⟨H3,I3,q3⟩
theorem kg3:(sizeLine:Nat)<2 ^ 63:=by rw[sizeLine_eq];decide
theorem vals1{x:V}{us:List Value}(r:Vals [x] us):∃u,us=[u]/\RelV x u:=by
 cases r with
 |cons r1 r2=>cases r2;exact⟨_,rfl,r1⟩
theorem vals2{x y:V}{us:List Value}(r:Vals [x,y] us):∃u w',us=[u,w']/\RelV x u/\RelV y w':=by
 cases r with
 |cons r1 r2=>
  cases r2 with
  |cons r3 r4=>cases r4;exact⟨_,_,rfl,r1,r3⟩
theorem kdM(hc:X.calm=true):CallR X (.builtin "max") (fun xs H Q=>∃i j,xs=[.int i, .int j]/\Q (.int (if j > i then j else i)) H):=by
 intro pins s σ H xs us Q I r h
 obtain⟨i,j,rfl,q⟩:=h
 obtain⟨u,w',rfl,⟨t,rfl⟩,⟨t',rfl⟩⟩:=vals2 r
 refine max_two_ints (I.ok.hd hc) fun h' tk k=>⟨_,H,I.kept k,?_,q⟩
 by_cases hj:j > i
 ·rw[if_pos hj,if_pos hj];exact⟨_,rfl⟩
 ·rw[if_neg hj,if_neg hj];exact⟨_,rfl⟩
theorem kbS(hc:X.calm=true):CallR X (.builtin "min") (fun xs H Q=>∃i j,xs=[.int i, .int j]/\Q (.int (if j<i then j else i)) H):=by
 intro pins s σ H xs us Q I r h
 obtain⟨i,j,rfl,q⟩:=h
 obtain⟨u,w',rfl,⟨t,rfl⟩,⟨t',rfl⟩⟩:=vals2 r
 refine min_two_ints (I.ok.hd hc) fun h' tk k=>⟨_,H,I.kept k,?_,q⟩
 by_cases hj:j<i
 ·rw[if_pos hj,if_pos hj];exact⟨_,rfl⟩
 ·rw[if_neg hj,if_neg hj];exact⟨_,rfl⟩
end
structure ObjM(h:Heap)(x dx C:Addr)(mA:Str->Option Value):Prop where
 obj:h.get? x>>(N5 C dx)
 ns:h.Ns1 dx mA
 ne:dx≠x
def kki{h:Heap}{dx:Addr}{mA:Str->Option Value}(n:h.Ns1 dx mA):∃od,h.get? dx>>od/\∀name,MI name od>>(mA name):=by
 obtain⟨o,es,ep,ho,hd,hk,_,hm⟩:=n
 rwa[o,ho,fun name=>?_]
 have e:=hm name
 unfold nsFind findBy at e
 rw[<-Array.find?_toList] at e
 unfold MI
 rw[hd]
 dsimp only
 split
 ·rename_i y q
  rw[q] at e
  exact congrArg some e
 ·rename_i q
  rw[q] at e
  have a:es.toList.any (·.refKey)=false:=by
   rw[List.any_eq_false]
   intro y hy
   obtain⟨z,t,hkey⟩:=hk y (EH.mp hy)
   simp[DictEntry.refKey,hkey]
  have a':¬es.toList.any (·.refKey)=true:=by rw[a];exact JD
  rw[if_neg a']
  exact congrArg some e
def ObjM.look{h:Heap}{x dx C:Addr}{mA:Str->Option Value}(I:ObjM h x dx C mA):∃od,PySem.W.InstAt h x (N5 C dx) C (some od)/\∀name,MI name od>>(mA name):=
 let⟨od,ho,hl⟩:=kki I.ns
 ⟨od,⟨I.obj,rfl,rfl,ho⟩,hl⟩
section
variable{prog:Program}{w:World}{A:Around}{E:Value->Shared->Prop}{s:Shared}{K:Jw}{x dx C f:Addr}{mA:Str->Option Value}{name:Str}{v:Value}
theorem get_map{expr:Bool}{Q:Value->Shared->Prop}(X:K.In s.heap)(I:ObjM s.heap x dx C mA)(hg:Np K C name=true)(hh:Nr K C=true)
  (ha:Jz K (.ref C) name>>none)(hv:mA name>>v)(hv':PySem.W.handedIn v=true)(h:Q v {s with toks:=s.toks+1}):
  wpAny (model prog w) A (getAttr (.ref x) name expr) Q E s:=by
 obtain⟨od,J,hl⟩:=I.look
 exact PySem.W.get_value X J (Eh hg).1 (PySem.W.findObj_own hh ha rfl (by rw[hl,hv])) hv' h
theorem klH{pl:Sem Bool}{Q:Value×List Value->Shared->Prop}(X:K.In s.heap)(I:ObjM s.heap x dx C mA)(hg:Np K C name=true)
  (hf:Jz K (.ref C) name>>(some (.ref f)))(ht:Nt K (.ref f)=true)(hv:mA name=none)(h:Q (.ref f,[.ref x]) s):
  wpAny (model prog w) A (getMethod (.ref x) name pl) Q E s:=by
 obtain⟨od,J,hl⟩:=I.look
 exact PySem.W.method_fn X J (Eh hg).1 (Eh hg).2 hf (beq_iff_eq.mp ht) (by show(MI name od).map (·.isSome)>>false;rw[hl,hv];rfl) h
theorem kmG{ns:List Str}{Q:Unit->Shared->Prop}(X:K.In s.heap)(I:ObjM s.heap x dx C mA)
  (hs:Jz K (.ref C) "__setattr__">>(some (.builtin "object.__setattr__")))(hp:Nx K C=true)(ht:Ei K C name>>none)(hh:Nr K C=true)
  (hw:PySem.Within mA ns)(hsz:ns.length<=sizeLine)
  (h:∀h',ObjM h' x dx C (fun y=>if y=name then some v else mA y)->Heap.SameBut dx s.heap h'->Q () {s with heap:=h',toks:=s.toks+2}):
  wpAny (model prog w) A (setAttr (.ref x) name v) Q E s:=by
 obtain⟨od,J,hl⟩:=I.look
 refine PySem.W.set_plain X J hs (PySem.W.osa_open (s:={s with toks:=s.toks+1}) (r:=none) X J hp ht fun b=>?_)
 obtain⟨cd,hc,hd'⟩:=PySem.W.any_some hh
 have hx:s.heap.get? x>>⟨.ref C,some dx, .plain,#[]⟩:=I.obj
 refine wpAny_bind (wpAny_pure (wpAny_bind (wpAny_bind (wpAny_loadPart hx (wpAny_bind (PySem.W.Looks.here (s:={s with toks:=s.toks+1}) (PySem.W.looks_clsIn X hc) ?_))))))
 rw[hd']
 refine wpAny_pure (a:=some dx) (wpAny_bind (wpAny_pure (wpAny_bind ?_)))
 refine wpAny_nsSet1 (s:={s with toks:=s.toks+1}) I.ns fun h' hn2 hs2=>?_
 obtain⟨oD,esD,epD,hoD,hdD,hcD⟩:=hn2.count (PySem.Within.cons name v hw)
 refine wpAny_bind (wpAny_lookBehind hoD (by rw[hdD];exact pastItsLine_dict (JA hcD (by rw[Nb];lia))) ?_)
 exact wpAny_pure (h _ ⟨(hs2.2 _ (Ne.symm I.ne)).trans I.obj,hn2,I.ne⟩ hs2)
theorem klx{R:Result->Shared->Prop}{vs:List Value}{kw:List (Str×Value)}(X:K.In s.heap)(hm:Nu K C=true)
  (hi:Jz K (.ref C) "__init__">>(some (.ref f)))(hf:Nq K (.ref f)>>(.type "function"))
  (h:codeAny (model prog w) (A.under (.builtin "type.__call__" ⟨.ref C::vs,kw⟩)) (.call (.ref f) ⟨.ref (s.heap.objs.size+1)::vs,kw⟩) (PySem.W.InitBack (s.heap.objs.size+1) R)
   {s with heap:=(s.heap.push NW).push (N5 C s.heap.objs.size)}):
  codeAny (model prog w) A (.call (.ref C) ⟨vs,kw⟩) R s:=by
 obtain⟨hh,g,d,t,os⟩:=s
 exact PySem.W.make_core (PySem.W.makes_of X hm) (PySem.W.looks_findIn X hi) (fun self=>PySem.W.bind_fn X self hf) (.inl rfl) h
end
noncomputable def putF(f:Str)(v:V):List (Str×V)->List (Str×V)
 |[]=>[(f,v)]
 |(g,x)::r=>if g=f then(g,v)::r else(g,x)::putF f v r
theorem kac(f g:Str)(v:V):∀fs:List (Str×V),(putF f v fs).lookup g=if g=f then some v else fs.lookup g
 | []=>by
  show NM g [(f,v)]=_
  by_cases h:g=f
  ·have hb:(g==f)=true:=beq_iff_eq.mpr h
   simp only[NM,hb,if_pos h]
  ·have hb:(g==f)=false:=beq_eq_false_iff_ne.mpr h
   simp only[NM,hb,if_neg h]
 | (k,x)::r=>by
  have ih:=kac f g v r
  rw[show putF f v ((k,x)::r)=(if k=f then(k,v)::r else(k,x)::putF f v r) from rfl]
  by_cases hk:k=f
  ·rw[if_pos hk]
   by_cases h:g=k
   ·have hb:(g==k)=true:=beq_iff_eq.mpr h
    simp only[NM,hb,if_pos (h.trans hk)]
   ·have hb:(g==k)=false:=beq_eq_false_iff_ne.mpr h
    simp only[NM,hb,if_neg (fun e:g=f=>h (e.trans hk.symm))]
  ·rw[if_neg hk]
   by_cases h:g=k
   ·have hb:(g==k)=true:=beq_iff_eq.mpr h
    simp only[NM,hb,if_neg (fun e:g=f=>hk (h.symm.trans e))]
   ·have hb:(g==k)=false:=beq_eq_false_iff_ne.mpr h
    simp only[NM,hb]
    exact ih
theorem kfa(f:Str)(v:V):∀fs:List (Str×V),f∈(putF f v fs).map (·.1)/\∀g,g∈fs.map (·.1)->g∈(putF f v fs).map (·.1)
 |[]=>⟨by simp[putF],fun g h=>by simp at h⟩
 | (k,x)::r=>by
  obtain⟨i1,i2⟩:=kfa f v r
  rw[show putF f v ((k,x)::r)=(if k=f then(k,v)::r else(k,x)::putF f v r) from rfl]
  by_cases hk:k=f
  ·rw[if_pos hk]
   subst hk
   rwa[by simp,fun g h=>by simpa using h]
  ·rw[if_neg hk]
   rwa[?_,fun g h=>?_]
   ·rw[JG]
    exact JQ _ i1
   ·rw[JG] at h⊢
    rcases JY.mp h with e|e
    ·exact JY.mpr (.inl e)
    ·exact JQ _ (i2 g e)
theorem ke7(f:Str)(v:V):∀fs:List (Str×V),(putF f v fs).length<=fs.length+1
 |[]=>by simp[putF]
 |(k,x)::r=>by
  have ih:=ke7 f v r
  rw[show putF f v ((k,x)::r)=(if k=f then(k,v)::r else(k,x)::putF f v r) from rfl]
  by_cases hk:k=f
  ·rw[if_pos hk,Nb,Nb];lia
  ·rw[if_neg hk,Nb,Nb];lia
theorem RelO.some_of{v:V}{o:Option Value}(r:RelO (some v) o):∃u,o>>u/\RelV v u:=by
 cases o with
 |none=>exact(show False from r).elim
 |some u=>exact⟨u,rfl,r⟩
theorem RelO.none_of{o:Option Value}(r:RelO none o):o=none:=by
 cases o with
 |none=>rfl
 |some u=>exact(show False from r).elim
theorem kkD{v:V}{u:Value}(r:RelV v u):PySem.W.handedIn u=true:=by
 cases v with
 |non=>cases(show u=Value.none from r);rfl
 |bl b=>cases(show u=Value.bool b from r);rfl
 |int i=>obtain⟨t,e⟩:=(show ∃t,u=Value.int i t from r);cases e;rfl
 |str x=>obtain⟨t,e⟩:=(show ∃t,u=Value.str x t from r);cases e;rfl
 |byt b=>obtain⟨t,e⟩:=(show ∃t,u=Value.bytes b t from r);cases e;rfl
 |flt b=>obtain⟨t,e⟩:=(show ∃t,u=Value.float b t from r);cases e;rfl
 |ref a=>cases(show u=Value.ref a from r);rfl
 |ty n=>cases(show u=Value.type n from r);rfl
section
variable{P:Program}{w:World}{H H':Hp}{h h':Heap}{a C dx:Addr}{fs fs':List (Str×V)}
theorem kgj(hok:HOk P w H h)(e:H a>>(.ins C dx fs)):∃mA,ObjM h a dx C mA/\(∀f,RelO (fs.lookup f) (mA f))/\PySem.Within mA (fs.map (·.1))/\fs.length<=1000/\H dx>>(.own a):=by
 obtain⟨d,z,ne,ob,mA,n,r,q⟩:=(show ObjOk P w H h a (.ins C dx fs) from hok a _ e)
 rwa[mA,⟨ob,n,ne⟩,r,q,z,d]
end
structure Cls(K:Jw)(C:Addr):Prop where
 pg:Np K C Str.empty=true
 hd:Nr K C=true
 po:Nx K C=true
 sa:Jz K (.ref C) "__setattr__">>(some (.builtin "object.__setattr__"))
def Cls.get{K:Jw}{C:Addr}(c:Cls K C)(f:Str):Np K C f=true:=c.pg
def NoAttr(K:Jw)(C:Addr)(f:Str):Prop:=Jz K (.ref C) f>>none
def NoAttr.taker{K:Jw}{C:Addr}{f:Str}(n:NoAttr K C f):Ei K C f>>none:=by
 unfold Ei
 rw[show Jz K (.ref C) f>>none from n]
 rfl
structure Meth(K:Jw)(C:Addr)(m:Str)(f:Addr):Prop where
 at_:Jz K (.ref C) m>>(some (.ref f))
 fn:Nt K (.ref f)=true
 kp:JU K (.ref f)=true
section
variable{X:Cx}{pins:List (Addr×Obj)}{σ:St}{H:Hp}{s:Shared}{a C dx:Addr}{fs:List (Str×V)}{f:Str}{v:V}{A:Around}{E:Value->Shared->Prop}
theorem ki8{b:Bool}{Q:Value->Shared->Prop}(I:Inv X pins σ H s)(e:H a>>(.ins C dx fs))(c:Cls X.K C)(n:NoAttr X.K C f)(l:fs.lookup f>>v)
  (h:∀u s',Inv X pins σ H s'->RelV v u->Q u s'):wpAny (model X.prog X.w) A (getAttr (.ref a) f b) Q E s:=by
 obtain⟨mA,O,r,_,_,_⟩:=kgj I.hok e
 obtain⟨u,hu,ru⟩:=RelO.some_of (v:=v) (o:=mA f) (by rw[<-l];exact r f)
 exact get_map I.kIn O (c.get f) c.hd n hu (kkD ru) (h u _ (I.tok _) ru)
theorem kfL{m:Str}{g:Addr}{pl:Sem Bool}{Q:Value×List Value->Shared->Prop}(I:Inv X pins σ H s)(e:H a>>(.ins C dx fs))(c:Cls X.K C)(k:Meth X.K C m g)(l:fs.lookup m=none)
  (h:Q (.ref g,[.ref a]) s):wpAny (model X.prog X.w) A (getMethod (.ref a) m pl) Q E s:=by
 obtain⟨mA,O,r,_,_,_⟩:=kgj I.hok e
 have hn:mA m=none:=RelO.none_of (by rw[<-l];exact r m)
 exact klH I.kIn O (c.get m) k.at_ k.fn hn h
theorem kiV{y:V}{u:Value}{Q:Unit->Shared->Prop}(I:Inv X pins σ H s)(e:H a>>(.ins C dx fs))(c:Cls X.K C)(n:NoAttr X.K C f)(hl:fs.length<1000)(ry:RelV y u)
  (h:∀s',Inv X pins σ (upd H a (.ins C dx (putF f y fs))) s'->Q () s'):wpAny (model X.prog X.w) A (setAttr (.ref a) f u) Q E s:=by
 obtain⟨mA,O,r,wi,_,ho⟩:=kgj I.hok e
 have hz:(fs.map (·.1)).length<=sizeLine:=by rw[Jv,sizeLine_eq];lia
 refine kmG I.kIn O c.sa c.po n.taker c.hd wi hz fun h' O' sb=>h _ ?_
 have hd:∃o,h'.get? dx>>o:=let⟨o,_,_,e',_⟩:=O'.ns;⟨o,e'⟩
 refine I.write (x:=a) (e:=dx) (by rw[e];exact True.intro) (.inr ho) (fun b q hb z=>(sb.2 b hb).trans z) hd ?_
 rwa[by rw[kak O.ne];exact ho,?_,O.ne,O'.obj,_,O'.ns,fun g=>?_,fun g hg=>?_]
 ·have:=ke7 f y fs;lia
 ·show RelO ((putF f y fs).lookup g) (if g=f then some u else mA g)
  rw[kac]
  by_cases q:g=f
  ·rw[if_pos q,if_pos q];exact ry
  ·rw[if_neg q,if_neg q];exact r g
 ·by_cases q:g=f
  ·rw[q];exact(kfa f y fs).1
  ·refine(kfa f y fs).2 g (wi g fun z=>hg ?_)
   show(if g=f then some u else mA g)=none
   rw[if_neg q];exact z
theorem Inv.made(I:Inv X pins σ H s):Inv X pins σ (upd (upd H s.heap.objs.size (.own (s.heap.objs.size+1))) (s.heap.objs.size+1) (.ins C s.heap.objs.size []))
  {s with heap:=(s.heap.push NW).push (N5 C s.heap.objs.size)}:=by
 have e1:(s.heap.push NW).get? s.heap.objs.size>>NW:=Heap.get?_push_size s.heap rfl
 have e2:((s.heap.push NW).push (N5 C s.heap.objs.size)).get? (s.heap.objs.size+1)>>(N5 C s.heap.objs.size):=by
  have:=Heap.get?_push_size (s.heap.push NW) (o:=N5 C s.heap.objs.size) rfl
  rwa [Heap.size_push] at this
 have e3:(s.heap.push NW).Ns s.heap.objs.size (fun _=>none):=⟨NW,#[],_,e1,rfl,(fun e he=>absurd he (by simp)),fun _=>rfl⟩
 have I1:=I.laid (a:=s.heap.objs.size) (o:=.own (s.heap.objs.size+1)) (h':=s.heap.push NW) (t':=s.toks) (fun b u q=>Heap.get?_push_of_some _ q) (Jx _) ⟨_,e1⟩
 refine I1.laid (a:=s.heap.objs.size+1) (o:=.ins C s.heap.objs.size []) (t':=s.toks) (fun b u q=>Heap.get?_push_of_some _ q) (Mt (Heap.size_push _ _)) ?_
 have ne:s.heap.objs.size≠s.heap.objs.size+1:=J5 (MJ _)
 rwa[by rw[kak ne,kae],J7 _,ne,e2,fun _=>none,(Heap.Ns1.of_empty e3).at fun o q=>Heap.get?_push_of_some _ q,fun _=>True.intro,fun y hy=>absurd rfl hy]
theorem knh{prog:Program}{w:World}{env:Env}{e:Expr}{f:Str}{pos:Pos}{s:Shared}{Q:Value->Shared->Prop}(hb:attributeBase e f env (eval e env)=eval e env)
  (h:wpAny (model prog w) A (eval e env) (fun o s₁=>wpAny (model prog w) A (getAttr o f true) Q E s₁) E s):wpAny (model prog w) A (eval (.Attribute e f pos) env) Q E s:=
 Attribute_any_ h (by rw[arm_eval_Attribute,hb])
end
def tFld(K:Jw)(ta:TE)(f:Str):TE:=fun σ H Q=>ta σ H fun x H1=>∃a C dx fs v,x=.ref a/\H1 a>>(.ins C dx fs)/\Cls K C/\NoAttr K C f/\fs.lookup f>>v/\Q v H1
def sFld(K:Jw)(ta tv:TE)(f:Str):TS:=fun D σ H=>tv σ H fun y H1=>ta σ H1 fun x H2=>∃a C dx fs,x=.ref a/\H2 a>>(.ins C dx fs)/\Cls K C/\NoAttr K C f/\fs.length<1000/\
 D.nx σ (upd H2 a (.ins C dx (putF f y fs)))
section
variable{X:Cx}{o e value:Expr}{f:Str}{pos pos' tpos:Pos}{ta tv:TE}
theorem knu(he:PE X e ta)(hb:attributeBase e f X.env (eval e X.env)=eval e X.env):PE X (.Attribute e f pos) (tFld X.K ta f):=by
 intro pins s σ H Q I h
 refine knh hb (thn (he pins s σ H _ I h) fun u s1 zz=>?_)
 obtain⟨x,H1,I1,rx,a,C,dx,fs,v,ex,ea,c,n,l,q⟩:=zz
 subst ex
 obtain rfl:u=Value.ref a:=rx
 exact ki8 I1 ea c n l fun u' s2 I2 ru=>⟨v,H1,I2,ru,q⟩
theorem kaI(ha:PE X o ta)(hv:PE X value tv)(hs:swapsWith value (some (.Attribute o f pos')) pos.line X.env=pure false):PS X (.Assign [.Attribute o f pos'] value pos) (sFld X.K ta tv f):=by
 intro pins s σ H D I h
 refine plainObj_wpAny_Assign_Attribute (thn (hv pins s σ H _ I h) fun u s1 zz=>?_) hs
 obtain⟨y,H1,I1,ry,q⟩:=zz
 refine thn (ha pins s1 σ H1 _ I1 q) fun ov s2 zz=>?_
 obtain⟨x,H2,I2,rx,a,C,dx,fs,ex,ea,c,n,l,q2⟩:=zz
 subst ex
 obtain rfl:ov=Value.ref a:=rx
 exact kiV I2 ea c n l ry fun s3 I3=>⟨σ,_,I3,q2⟩
end
section
variable{X:Cx}{pins:List (Addr×Obj)}{σ:St}{H:Hp}{s:Shared}{A:Around}{E:Value->Shared->Prop}{Q:Value->Shared->Prop}{c:Value}{b:Bool}
inductive TyOf(K:Jw)(H:Hp):V->Value->Prop where
 |non:TyOf K H .non (.type "NoneType")
 |bl (x:Bool):TyOf K H (.bl x) (.type "bool")
 |int (i:Int):TyOf K H (.int i) (.type "int")
 |str (x:Str):TyOf K H (.str x) (.type "str")
 |flt (x:UInt64):TyOf K H (.flt x) (.type "float")
 |lst {a:Addr} {xs:List V} (e:H a>>(.lst xs)):TyOf K H (.ref a) (.type "list")
 |frz {a:Addr} {o:Obj} {xs:List V} (e:H a>>(.frz o (.lst xs))):TyOf K H (.ref a) (.type "list")
 |tup {a:Addr} {xs:List V} (e:H a>>(.tup xs)):TyOf K H (.ref a) (.type "tuple")
 |dK {a:Addr} {kvs:List (Key×V)} (e:H a>>(.dK kvs)):TyOf K H (.ref a) (.type "dict")
 |dT {a:Addr} {kvs:List (List Key×V)} (e:H a>>(.dT kvs)):TyOf K H (.ref a) (.type "dict")
 | ins {a C dx:Addr} {fs:List (Str×V)} (e:H a>>(.ins C dx fs)) (cl:Cls K C) (ha:Jz K (.ref C) "__class__">>(some (.builtin "object.__class__")))
   (hn:Mu K (.builtin "object.__class__") "__get__">>(some (.builtin "getset_descriptor.__get__")))(htk:Ej K (.builtin "object.__class__")>>true)
   (hm:JI K C (.type "object")>>true):TyOf K H (.ref a) (.ref C)
theorem kkx{x:V}{u t:Value}(I:Inv X pins σ H s)(rx:RelV x u)(ty:TyOf X.K H x t)(e:JZ X.K t c>>b)(h:∀tk,Q (.bool b) {s with toks:=tk}):
  wpAny (model X.prog X.w) A (call (.builtin "isinstance") [u,c]) Q E s:=by
 cases ty with
 |non=>cases(show u=Value.none from rx);exact NN PySem.W.kitx_none I.kIn True.intro e (fun z=>nomatch z) h
 |bl y=>cases(show u=Value.bool y from rx);exact NN PySem.W.kitx_bool I.kIn True.intro e (fun z=>nomatch z) h
 |int i=>obtain⟨t,q⟩:=(show ∃t,u=Value.int i t from rx);cases q;exact NN PySem.W.kitx_int I.kIn True.intro e (fun z=>nomatch z) h
 |str y=>obtain⟨t,q⟩:=(show ∃t,u=Value.str y t from rx);cases q;exact NN PySem.W.kitx_str I.kIn True.intro e (fun z=>nomatch z) h
 |flt y=>obtain⟨t,q⟩:=(show ∃t,u=Value.float y t from rx);cases q;exact NN PySem.W.kitx_float I.kIn True.intro e (fun z=>nomatch z) h
 | @lst a xs ea=>
  cases(show u=Value.ref a from rx)
  obtain⟨_,_,n,_,h1⟩:=(show ObjOk X.prog X.w H s.heap a (.lst xs) from I.hok a _ ea)
  exact NN PySem.W.kitx_list I.kIn ⟨_,h1,rfl⟩ e (fun z=>nomatch z) h
 | @frz a ob xs ea=>
  cases(show u=Value.ref a from rx)
  obtain⟨_,_,_,n,_,h1⟩:=(show ObjOk X.prog X.w H s.heap a (.frz ob (.lst xs)) from I.hok a _ ea)
  exact NN PySem.W.kitx_list I.kIn ⟨_,h1,rfl⟩ e (fun z=>nomatch z) h
 | @tup a xs ea=>
  cases(show u=Value.ref a from rx)
  obtain⟨_,_,_,p⟩:=(show ObjOk X.prog X.w H s.heap a (.tup xs) from I.hok a _ ea)
  obtain⟨o,h1,h2,_⟩:=p
  exact NN PySem.W.kitx_tuple I.kIn ⟨o,h1,h2⟩ e (fun z=>nomatch z) h
 | @dK a kvs ea=>
  cases(show u=Value.ref a from rx)
  obtain⟨_,_,vs,_,p⟩:=(show ObjOk X.prog X.w H s.heap a (.dK kvs) from I.hok a _ ea)
  obtain⟨o,es,ep,h1,h2,_⟩:=p
  exact NN PySem.W.kitx_dict I.kIn ⟨o,h1,h2.1⟩ e (fun z=>nomatch z) h
 | @dT a kvs ea=>
  cases(show u=Value.ref a from rx)
  obtain⟨_,_,xs,_,o,es,ep,h1,h2,_⟩:=(show ObjOk X.prog X.w H s.heap a (.dT kvs) from I.hok a _ ea)
  exact NN PySem.W.kitx_dict I.kIn ⟨o,h1,h2.1⟩ e (fun z=>nomatch z) h
 | @ins a C dx fs ea cl ha hn htk hm=>
  cases(show u=Value.ref a from rx)
  obtain⟨mA,O,_⟩:=kgj I.hok ea
  obtain⟨od,J,_⟩:=O.look
  exact NN (PySem.W.kitx_own (cl.get _) cl.hd ha hn htk hm) I.kIn J e (fun z=>nomatch z) h
end
structure Room(k:Nat)(A:Around):Prop where
 hd:A.handled=none
 dp:A.depth+3*k+5<recursionLimit
 un:A.units+16*k+200<cLine
def Room.mono{j k:Nat}{A:Around}(r:Room k A)(h:j<=k):Room j A:=⟨r.hd,by have:=r.dp;lia,by have:=r.un;lia⟩
def Room.deeper{k:Nat}{A:Around}(r:Room (k+1) A)(env:Env):Room k (A.deeper env):=
 ⟨r.hd,by have:=r.dp;show A.depth+1+3*k+5<_;lia,by have:=r.un;show A.units+3+16*k+200<_;lia⟩
def Room.in1{k:Nat}{A:Around}(r:Room (k+1) A):Room k A.in1:=
 ⟨r.hd,by have:=r.dp;show A.depth+3*k+5<_;lia,by have:=r.un;show A.units+1+16*k+200<_;lia⟩
def ki4{A:Around}{C:Addr}{us:List Value}{kw:List (Str×Value)}:(A.under (.builtin "type.__call__" ⟨.ref C::us,kw⟩)).depth=A.depth+1:=by
 first|rfl|simp[Around.under,Code.weight,Code.isCreation,Code.isGuard,Code.isCaller,Code.frames,Code.isFrame,guardIds]
def ki3{A:Around}{C:Addr}{us:List Value}{kw:List (Str×Value)}:(A.under (.builtin "type.__call__" ⟨.ref C::us,kw⟩)).units=A.units+1:=by
 first|rfl|simp[Around.under,Code.cUnits,Code.frames,Code.isFrame]
def Room.make{k:Nat}{A:Around}(r:Room (k+1) A)(C:Addr)(us:List Value)(kw:List (Str×Value)):Room k (A.under (.builtin "type.__call__" ⟨.ref C::us,kw⟩)):=
 ⟨r.hd,by have:=r.dp;rw[ki4];lia,by have:=r.un;rw[ki3];lia⟩
def Room.depth{k:Nat}{A:Around}(r:Room k A):A.depth<recursionLimit:=by have:=r.dp;lia
def Room.units{k:Nat}{A:Around}(r:Room k A):A.units+64<cLine:=by have:=r.un;lia
def Room.units0{k:Nat}{A:Around}(r:Room k A):A.units<cLine:=by have:=r.un;lia
def tNil:TA:=fun _ H Q=>Q [] H
def tCons(ta:TE)(tr:TA):TA:=fun σ H Q=>ta σ H fun x H1=>tr σ H1 fun xs H2=>Q (x::xs) H2
section
variable{X:Cx}{e:Expr}{es:List Expr}{te:TE}{t:TA}{pos:Pos}
theorem kad:PA X [] tNil:=fun _ _ _ _ H Q I h=>Calls.spliced_nil ⟨[],H,I, .nil,h⟩
theorem kaa(ha:PE X e te)(hr:PA X es t)(hs:autoParam (starEach (e::es) X.env=(false,eval e X.env)::starEach es X.env) jz):PA X (e::es) (tCons te t):=by
 intro pos pins s σ H Q I h
 rw[hs]
 show wpAny _ _ (spliced ((false,eval e X.env)::backTo pos (starEach es X.env))) _ _ s
 refine Calls.spliced_cons (thn (ha pins s σ H _ I h) fun u s1 zz=>?_)
 obtain⟨x,H1,I1,r1,q1⟩:=zz
 exact thn (hr pos pins s1 σ H1 _ I1 q1) fun us s2 ⟨xs,H2,I2,r2,q2⟩=>⟨x::xs,H2,I2, .cons r1 r2,q2⟩
def tTup(t:TA):TE:=fun σ H Q=>t σ H fun xs H1=>xs.length<=sizeLine/\∀p,H1 p=none->Q (.ref p) (upd H1 p (.tup xs))
def tLst(t:TA):TE:=fun σ H Q=>t σ H fun xs H1=>xs.length<=sizeLine/\∀p,H1 p=none->Q (.ref p) (upd H1 p (.lst xs))
theorem kb4{x1}(h:PA X es t):PE X (.Tuple es x1 pos) (tTup t):=by
 intro pins s σ H Q I hq
 refine wpAny_Tuple_spliced (thn (h pos pins s σ H _ I hq) fun us s1 zz=>?_)
 obtain⟨xs,H1,I1,r,z,q⟩:=zz
 refine⟨by rw[<-r.length];exact z,?_⟩
 have hf:H1 s1.heap.objs.size=none:=I1.hok.fresh (Jx _)
 rwa[.ref s1.heap.objs.size,upd H1 s1.heap.objs.size (.tup xs),I1.laid (t':=s1.toks) (fun b u e=>Heap.get?_push_of_some _ e) (Jx _) ?_,6,q _ hf]
 rwa[z,us,r,⟨_,Heap.get?_push_size _ rfl,rfl,_,rfl⟩]
theorem kaX(h:PA X es t):PE X (.List es pos) (tLst t):=by
 intro pins s σ H Q I hq
 refine wpAny_List_spliced (thn (h pos pins s σ H _ I hq) fun us s1 zz=>?_)
 obtain⟨xs,H1,I1,r,z,q⟩:=zz
 refine⟨by rw[<-r.length];exact z,?_⟩
 have hf:H1 s1.heap.objs.size=none:=I1.hok.fresh (Jx _)
 rwa[.ref s1.heap.objs.size,upd H1 s1.heap.objs.size (.lst xs),I1.laid (t':=s1.toks) (fun b u e=>Heap.get?_push_of_some _ e) (Jx _) ?_,6,q _ hf]
 rwa[z,us,0,r,Heap.get?_push_size _ rfl]
end
abbrev Sp:=List V->Hp->VK->XK->Prop
abbrev CXT:=List Env->Hp->Shared->XK->Value->Shared->Prop
structure Env0(P:Program)(w:World)(K:Jw)(mg:Str->Option Value)(base:Heap)(A:Around)(outer:List Env)(s:Shared)(H:Hp):Prop where
 frames:A.frames>>outer
 mod:Mod K mg base
 bs:∀b o,base.get? b>>o->s.heap.get? b>>o/\H b=none
 bsz:base.objs.size<=s.heap.objs.size
 funs:s.heap.FunFrames base outer
 frf:∀b∈frs outer,H b=none
 hok:HOk P w H s.heap
 bare:AllBare s.gens
def CE(outer:List Env)(P:Program)(w:World)(H:Hp)(s:Shared)(Q:VK)(u:Value)(s':Shared):Prop:=
 ∃v H',s'.os=s.os/\AllBare s'.gens/\Un (frs outer) [] H H' s.heap s'.heap/\HOk P w H' s'.heap/\RelV v u/\Q v H'
def CR(CX:CXT)(outer:List Env)(P:Program)(w:World)(H:Hp)(s:Shared)(Q:VK)(E:XK)(r:Result)(s':Shared):Prop:=
 match r with
 | .ok (.ret u)=>CE outer P w H s Q u s'
 | .ok _=>False
 | .error e=>CX outer H s E e s'
structure FnOk(P:Program)(w:World)(K:Jw)(mg:Str->Option Value)(base:Heap)(CX:CXT)(k:Nat)(f:Addr)(fd:FuncData)(ps:List Str)(sp:Sp):Prop where
 len:∀vs H Q E,sp vs H Q E->vs.length=ps.length
 run:∀(A:Around)(outer:List Env)(s:Shared)(H:Hp)(args:Args)(us:List Value)(vs:List V)(Q:VK)(E:XK),Room k A->Env0 P w K mg base A outer s H->BindsTo s fd args (ps.zip us)->Vals vs us->sp vs H Q E->
  codeAny (model P w) A (.call (.ref f) args) (CR CX outer P w H s Q E) s
theorem Env0.make{P:Program}{w:World}{K:Jw}{mg:Str->Option Value}{base:Heap}{A:Around}{outer:List Env}{s:Shared}{H:Hp}(e:Env0 P w K mg base A outer s H)(C:Addr)(us:List Value)(kw:List (Str×Value)):
  Env0 P w K mg base (A.under (.builtin "type.__call__" ⟨.ref C::us,kw⟩)) outer s H:=⟨by first|exact e.frames|(simpa[Around.under,Code.envs,Code.isFrame,pushEnvs] using e.frames),e.mod,e.bs,e.bsz,e.funs,e.frf,e.hok,e.bare⟩
section
variable{X:Cx}{pins:List (Addr×Obj)}{σ:St}{H:Hp}{s s':Shared}
theorem Inv.env0(I:Inv X pins σ H s):Env0 X.prog X.w X.K X.mg X.base X.A X.stack s H:=
 ⟨I.ok.frames,I.ok.mod,I.bs,JA I.ok.bsz I.sz,I.stack,I.stkFree,I.hok,I.bare⟩
theorem Inv.after{Q:VK}{u:Value}(I:Inv X pins σ H s)(h:CE X.stack X.prog X.w H s Q u s'):EP X pins σ Q u s':=by
 obtain⟨v,H',os,bare,un,hok,r,q⟩:=h
 obtain⟨hh,g,d,t,os'⟩:=s'
 obtain rfl:os'=s.os:=os
 rwa[v,H',I.call (h':=hh) (g':=g) (d':=d) (t':=t) (ch:=[]) un hok bare (fun b z=>absurd z (by simp)),r,q]
end
def tCall(sp:Sp)(dvs:List V)(E:XK)(t:TA):TE:=fun σ H Q=>t σ H fun vs H1=>sp (vs++dvs) H1 Q E
def tMeth(C:Addr)(m:Str)(sp:Sp)(dvs:List V)(E:XK)(ta:TE)(t:TA):TE:=fun σ H Q=>ta σ H fun x H1=>∃a dx fs,x=.ref a/\H1 a>>(.ins C dx fs)/\fs.lookup m=none/\
 t σ H1 fun vs H2=>sp (x::(vs++dvs)) H2 Q E
def tMake(C:Addr)(sp:Sp)(dvs:List V)(E:XK)(t:TA):TE:=fun σ H Q=>t σ H fun vs H1=>∀x dx,H1 x=none->H1 dx=none->dx≠x->
 sp (.ref x::(vs++dvs)) (upd (upd H1 dx (.own x)) x (.ins C dx [])) (fun v H2=>v=.non/\Q (.ref x) H2) E
def Binds(K:Jw)(fd:FuncData)(ps:List Str)(ds:List Value):Prop:=
 ∀(s:Shared)(us:List Value),K.In s.heap->(us++ds).length=ps.length->BindsTo s fd ⟨us,[]⟩ (ps.zip (us++ds))
def Binds.all{K:Jw}{fd:FuncData}{ps:List Str}(h:∀us:List Value,us.length=ps.length->bindArgs fd ⟨us,[]⟩=pure (ps.zip us)):Binds K fd ps []:=fun s us _ hl=>by
 rw[J8] at hl⊢
 exact .of_eq (h us hl)
def kdN(CX:CXT)(X:Cx)(E:XK):Prop:=∀(pins:List (Addr×Obj))(σ:St)(H:Hp)(s:Shared)(e:Value)(s':Shared),Inv X pins σ H s->CX X.stack H s E e s'->X.xe e s'
section
variable{X:Cx}{CX:CXT}{k:Nat}{f C:Addr}{fd:FuncData}{ps:List Str}{sp:Sp}{dvs:List V}{ds:List Value}{E:XK}{x m:Str}{p pos apos:Pos}{e o:Expr}{es:List Expr}{ta:TE}{t:TA}
theorem kil{pins:List (Addr×Obj)}{σ:St}{H:Hp}{s:Shared}{Q:VK}{us:List Value}{vs:List V}(F:FnOk X.prog X.w X.K X.mg X.base CX k f fd ps sp)(hr:Room k X.A)(hb:Binds X.K fd ps ds)(hd:Vals dvs ds)(hx:kdN CX X E)
  (I:Inv X pins σ H s) (r:Vals vs us) (h:sp (vs++dvs) H Q E):wpAny (model X.prog X.w) X.A (call (.ref f) us) (EP X pins σ Q) X.xe s:=by
 have r2:Vals (vs++dvs) (us++ds):=r.append hd
 have hl:(us++ds).length=ps.length:=by rw[<-r2.length];exact F.len _ _ _ _ h
 refine wpAny_call (codeAny_mono (F.run X.A X.stack s H ⟨us,[]⟩ (us++ds) (vs++dvs) Q E hr I.env0 (hb s us I.kIn hl) r2 h) fun r s' hq=>?_)
 cases r with
 |error e=>exact hx pins σ H s e s' I hq
 |ok fl=>
  cases fl with
  |ret u=>exact I.after hq
  |next=>exact False.elim hq
  |brk=>exact False.elim hq
  |cont=>exact False.elim hq
theorem kj5(F:FnOk X.prog X.w X.K X.mg X.base CX k f fd ps sp)(hr:Room k X.A)(hg:Gl X x)(hm:X.mg x>>(.ref f))(hk:JU X.K (.ref f)=true)(hb:Binds X.K fd ps ds)(hd:Vals dvs ds)(hx:kdN CX X E)
  (ha:PA X (e::es) t)(hdb:autoParam ((x==("__debug__" :Str))=false) jQ)(he:autoParam (starEach (e::es) X.env=(false,eval e X.env)::starEach es X.env) jz)(hpl:autoParam ((backTo pos (starEach es X.env)).any (·.1)=false) jz):
  PE X (.Call (.Name x p) (e::es) [] pos) (tCall sp dvs E t):=by
 intro pins s σ H Q I h
 refine wpAny_Call_Name_kw (kgh I hg hm ?_ hdb)
 refine MK (h₀:=X.base) I.ok.mod.kin hk (thn (ha pos pins s σ H _ I h) fun us s1 ⟨vs,H1,I1,r,q⟩=>⟨I1.kIn,?_⟩) he hpl
 exact kil F hr hb hd hx I1 r q
theorem kf8{pl:Sem Bool}(he:PE X o ta)(c:Cls X.K C)(hm:Meth X.K C m f)(F:FnOk X.prog X.w X.K X.mg X.base CX k f fd ps sp)(hr:Room k X.A)(hb:Binds X.K fd ps ds)(hd:Vals dvs ds)(hx:kdN CX X E)(ha:PA X (e::es) t)
  (hst:autoParam (starEach (e::es) X.env=(false,eval e X.env)::starEach es X.env) jz)(hpl:autoParam ((backTo pos (starEach es X.env)).any (·.1)=false) jz)
  (ht:autoParam (eval (.Call (.Attribute o m apos) (e::es) [] pos) X.env=(do
   let ov <-eval o X.env
   standAt apos.atName
   let(f,first) <-holding [ov] (getMethod ov m pl)
   callWith pos f first (backTo pos (starEach (e::es) X.env)) (backToKw pos (keywordEach [] X.env)))) jz):
  PE X (.Call (.Attribute o m apos) (e::es) [] pos) (tMeth C m sp dvs E ta t):=by
 intro pins s σ H Q I h
 refine Ek (pl:=pl) (thn (he pins s σ H _ I h) fun u s1 zz=>?_) ht
 obtain⟨x,H1,I1,rx,a,dx,fs,ex,ea,l,q⟩:=zz
 subst ex
 obtain rfl:u=Value.ref a:=rx
 refine kfL I1 ea c hm l ?_
 refine MK (first:=[.ref a]) (h₀:=X.base) I.ok.mod.kin hm.kp (thn (ha pos pins s1 σ H1 _ I1 q) fun us s2 ⟨vs,H2,I2,r,q2⟩=>⟨I2.kIn,?_⟩) hst hpl
 exact kil (us:=.ref a::us) (vs:=.ref a::vs) F hr hb hd hx I2 (.cons rfl r) q2
theorem kco{pl:Sem Bool}(he:PE X o ta)(c:Cls X.K C)(hm:Meth X.K C m f)(F:FnOk X.prog X.w X.K X.mg X.base CX k f fd ps sp)(hr:Room k X.A)(hb:Binds X.K fd ps ds)(hd:Vals dvs ds)(hx:kdN CX X E)
  (ht:autoParam (eval (.Call (.Attribute o m apos) [] [] pos) X.env=(do
   let ov <-eval o X.env
   standAt apos.atName
   let(f,first) <-holding [ov] (getMethod ov m pl)
   callWith pos f first (backTo pos (starEach [] X.env)) (backToKw pos (keywordEach [] X.env)))) jz):
  PE X (.Call (.Attribute o m apos) [] [] pos) (tMeth C m sp dvs E ta tNil):=by
 intro pins s σ H Q I h
 refine Ek (pl:=pl) (thn (he pins s σ H _ I h) fun u s1 zz=>?_) ht
 obtain⟨x,H1,I1,rx,a,dx,fs,ex,ea,l,q⟩:=zz
 subst ex
 obtain rfl:u=Value.ref a:=rx
 refine kfL I1 ea c hm l ?_
 exact EI (first:=[.ref a]) I1.kIn hm.kp (kil (us:=[.ref a]) (vs:=[.ref a]) F hr hb hd hx I1 (.cons rfl .nil) q)
structure Mk(K:Jw)(C f:Addr):Prop where
 makes:Nu K C=true
 init:Jz K (.ref C) "__init__">>(some (.ref f))
 fn:Nt K (.ref f)=true
 kp:JU K (.ref C)=true
theorem kik{pins:List (Addr×Obj)}{σ:St}{H:Hp}{s:Shared}{Q:VK}{us:List Value}{vs:List V}(M:Mk X.K C f)(F:FnOk X.prog X.w X.K X.mg X.base CX k f fd ps sp)(hr:Room (k+1) X.A)(hb:Binds X.K fd ps ds)(hd:Vals dvs ds)
  (hx:kdN CX X E)(I:Inv X pins σ H s)(r:Vals vs us)
  (h:∀x dx,H x=none->H dx=none->dx≠x->sp (.ref x::(vs++dvs)) (upd (upd H dx (.own x)) x (.ins C dx [])) (fun v H2=>v=.non/\Q (.ref x) H2) E):
  wpAny (model X.prog X.w) X.A (call (.ref C) us) (EP X pins σ Q) X.xe s:=by
 have hq:=h (s.heap.objs.size+1) s.heap.objs.size (I.hok.fresh (NY _)) (I.hok.fresh (Jx _)) (J5 (MJ _))
 have I2:=Inv.made (C:=C) I
 have r2:Vals (V.ref (s.heap.objs.size+1)::(vs++dvs)) (Value.ref (s.heap.objs.size+1)::(us++ds)):=.cons rfl (r.append hd)
 have hl:(Value.ref (s.heap.objs.size+1)::us++ds).length=ps.length:=by
  have e:=r2.length
  rw[F.len _ _ _ _ hq] at e
  exact e.symm
 refine wpAny_call (klx (f:=f) I.kIn M.makes M.init (beq_iff_eq.mp M.fn) (codeAny_mono (F.run _ X.stack _ _ ⟨Value.ref (s.heap.objs.size+1)::us,[]⟩ (Value.ref (s.heap.objs.size+1)::(us++ds)) _ _ E (hr.make C us [])
  (I2.env0.make C us []) (hb _ (Value.ref (s.heap.objs.size+1)::us) I2.kIn hl) r2 hq) fun r s' hq'=>?_))
 cases r with
 |error e=>exact hx pins σ _ _ e s' I2 hq'
 | ok fl=>
  cases fl with
  |ret u=>
   obtain⟨v,H',I3,rv,ev,q3⟩:=I2.after hq'
   subst ev
   rwa[rv,⟨V.ref (s.heap.objs.size+1),H',I3,rfl,q3⟩]
  |next=>exact False.elim hq'
  |brk=>exact False.elim hq'
  |cont=>exact False.elim hq'
theorem kbA(M:Mk X.K C f)(F:FnOk X.prog X.w X.K X.mg X.base CX k f fd ps sp)(hr:Room (k+1) X.A)(hg:Gl X x)(hm:X.mg x>>(.ref C))(hb:Binds X.K fd ps ds)(hd:Vals dvs ds)(hx:kdN CX X E)
  (ha:PA X (e::es) t)(hdb:autoParam ((x==("__debug__" :Str))=false) jQ)(he:autoParam (starEach (e::es) X.env=(false,eval e X.env)::starEach es X.env) jz)(hpl:autoParam ((backTo pos (starEach es X.env)).any (·.1)=false) jz):
  PE X (.Call (.Name x p) (e::es) [] pos) (tMake C sp dvs E t):=by
 intro pins s σ H Q I h
 refine wpAny_Call_Name_kw (kgh I hg hm ?_ hdb)
 refine MK (h₀:=X.base) I.ok.mod.kin M.kp (thn (ha pos pins s σ H _ I h) fun us s1 zz=>?_) he hpl
 obtain⟨vs,H1,I1,r,q⟩:=zz
 refine⟨I1.kIn,?_⟩
 exact kik M F hr hb hd hx I1 r q
theorem kli(M:Mk X.K C f)(F:FnOk X.prog X.w X.K X.mg X.base CX k f fd ps sp)(hr:Room (k+1) X.A)(hg:Gl X x)(hm:X.mg x>>(.ref C))(hb:Binds X.K fd ps ds)(hd:Vals dvs ds)(hx:kdN CX X E)
  (hdb:autoParam ((x==("__debug__" :Str))=false) jQ):PE X (.Call (.Name x p) [] [] pos) (tMake C sp dvs E tNil):=by
 intro pins s σ H Q I h
 refine wpAny_Call_Name_kw (kgh I hg hm ?_ hdb)
 exact EI I.kIn M.kp (kik (us:=[]) M F hr hb hd hx I .nil h)
end
section
variable{X:Cx}{CX:CXT}{k:Nat}{f C:Addr}{fd:FuncData}{ps ks:List Str}{sp:Sp}{E:XK}{x m:Str}{p pos apos kpos:Pos}{e o:Expr}{es:List Expr}{kws:List Keyword}{te ta:TE}{t tk:TA}{nm:Option Str}
variable{g:List Value->List Value->List Value}{gV:List V->List V->List V}
end
structure kat(N P:List Str)(sc:Scope):Prop where
 kind:sc.kind=.function
 co:sc.isCoroutine=false
 gen:sc.isGenerator=false
 nd:N.Nodup
 pre:N.take P.length=P
 par:∀x∈P,sc.names.lookup x>>.local∨sc.names.lookup x>>.cell
 nofree:∀y∈sc.names,y.2≠.free
theorem khf{kindOf:Str->Option NameKind}{x:Str}:∀{binds:List (Str×Value)}{m:Str->Option Value},(∀v,(x,v)∉binds)->bindL kindOf binds m x=m x
 |[],_,_=>rfl
 | (n,v)::r,m,h=>by
  unfold bindL
  rw[khf fun w hw=>h w (JQ _ hw)]
  split
  ·have:x≠n:=by rintro rfl;exact h v JS
   simp[this]
  ·rfl
theorem khh{kindOf:Str->Option NameKind}{x:Str}:∀{binds:List (Str×Value)}{m:Str->Option Value},(∀v,(x,v)∉binds)->bindC kindOf binds m x=m x
 |[],_,_=>rfl
 | (n,v)::r,m,h=>by
  unfold bindC
  rw[khh fun w hw=>h w (JQ _ hw)]
  split
  ·rfl
  ·have:x≠n:=by rintro rfl;exact h v JS
   simp[this]
theorem khg{kindOf:Str->Option NameKind}{x:Str}{v:Value}:∀{P:List Str}{vs:List Value}{i:Nat}{m:Str->Option Value},P.Nodup->P[i]?>>x->vs[i]?>>v->kindOf x>>.local->
  bindL kindOf (P.zip vs) m x>>v
 |[],_,_,_,_,h,_,_=>by simp at h
 |_::_,[],_,_,_,_,h,_=>by simp at h
 |p::P,w::vs,0,m,nd,h1,h2,hk=>by
  simp at h1 h2;subst h1;subst h2
  show bindL kindOf ((p,w)::P.zip vs) m p=_
  unfold bindL
  rw[khf fun v hv=>(NO.mp nd).1 (N6 hv).1,if_pos hk]
  simp
 |p::P,w::vs,i+1,m,nd,h1,h2,hk=>by
  show bindL kindOf ((p,w)::P.zip vs) m x=_
  unfold bindL
  exact khg (i:=i) (NO.mp nd).2 (by simpa using h1) (by simpa using h2) hk
theorem khi{kindOf:Str->Option NameKind}{x:Str}{v:Value}:∀{P:List Str}{vs:List Value}{i:Nat}{m:Str->Option Value},P.Nodup->P[i]?>>x->vs[i]?>>v->kindOf x≠some .local->
  bindC kindOf (P.zip vs) m x>>v
 |[],_,_,_,_,h,_,_=>by simp at h
 |_::_,[],_,_,_,_,h,_=>by simp at h
 |p::P,w::vs,0,m,nd,h1,h2,hk=>by
  simp at h1 h2;subst h1;subst h2
  show bindC kindOf ((p,w)::P.zip vs) m p=_
  unfold bindC
  rw[khh fun v hv=>(NO.mp nd).1 (N6 hv).1,if_neg hk]
  simp
 |p::P,w::vs,i+1,m,nd,h1,h2,hk=>by
  show bindC kindOf ((p,w)::P.zip vs) m x=_
  unfold bindC
  exact khi (i:=i) (NO.mp nd).2 (by simpa using h1) (by simpa using h2) hk
noncomputable def start(N:List Str)(vs:List V):St:=vs.map some++JE (N.length-vs.length) none
noncomputable def cxOf(CX:CXT)(P:Program)(w:World)(K:Jw)(mg:Str->Option Value)(base:Heap)(N:List Str)(qual:Str)(scope:Scope)(f:Addr)(cd:Value)(A:Around)(outer:List Env)(s:Shared)(H:Hp)(E:XK):Cx where
 prog:=P
 w:=w
 K:=K
 mg:=mg
 base:=base
 A:=A.deeper (envOfC qual scope s.heap.objs.size f cd)
 N:=N
 s₀:=s
 H₀:=H
 env:=envOfC qual scope s.heap.objs.size f cd
 outer:=outer
 stack:=envOfC qual scope s.heap.objs.size f cd::outer
 ex:=[]
 calm:=true
 fn:=fun _=>true
 pn:=[]
 xe:=fun e s'=>wpAny (model P w) (A.deeper (envOfC qual scope s.heap.objs.size f cd)) (leaving (envOfC qual scope s.heap.objs.size f cd) e) (fun _ s''=>CX outer H s E e s'') (fun e' s''=>CX outer H s E e' s'') s'
def keE{sc:Scope}{n:Nat}{x:Str}(h:sc.names.lookup x>>.cell):∃c,(cellsFrom n sc.names []).lookup x>>c:=by
 have q:=EJ sc.names n [] (.inl h)
 exact EK.mp q
theorem kkz{CX:CXT}{P:Program}{w:World}{K:Jw}{mg:Str->Option Value}{base:Heap}{N ps:List Str}{qual:Str}{scope:Scope}{f:Addr}{cd:Value}{A:Around}{outer:List Env}{s s1:Shared}{H:Hp}{E:XK}{us:List Value}{vs:List V}
  (S:kat N ps scope)(hd:A.handled=none)(e0:Env0 P w K mg base A outer s H)(hl:vs.length=ps.length)(r:Vals vs us)
  (x:InCallC s s.heap.objs.size (bindL (envOfC qual scope s.heap.objs.size f cd).kindOf (ps.zip us) fun _=>none) (cellsFrom (s.heap.objs.size+1) scope.names []) (bindC (envOfC qual scope s.heap.objs.size f cd).kindOf (ps.zip us) fun _=>none) s1):
  Inv (cxOf CX P w K mg base N qual scope f cd A outer s H E) [] (start N vs) H s1:=by
 have hpl:ps.length<=N.length:=by have:=congrArg Ny S.pre;rw[JV] at this;lia
 obtain⟨h1,tk,rfl,hk⟩:=x.done
 have noA:∀b:Addr,b∉(cxOf CX P w K mg base N qual scope f cd A outer s H E).ex:=fun b z=>absurd (show b∈([]:List Addr) from z) (by simp)
 refine⟨⟨e0.mod,S.kind,rfl,rfl,Jx _,fun y z c h1 h2=>?_,fun y hy=>?_,fun y c _ h=>?_,fun _=>hd,Around.frames_deeper e0.frames, .inr ⟨rfl,rfl⟩,fun b z=>absurd z (noA b),e0.bs,e0.bsz,fun b _ _=>noA b,fun b z=>absurd z (noA b),e0.funs,e0.frf⟩,
  rfl,e0.bare,Un.kept hk,⟨_,x.toInCall.ns,fun i y v h1 h2 h3=>?_⟩,fun y c h=>⟨_,x.cell y c h⟩,e0.hok.fresh (Jx _),fun y c h=>?_,fun p hp=>absurd (show p∈([]:List (Addr×Obj)) from hp) (by simp),e0.hok.kept hk,?_⟩
 ·exact name_of_addr x.apart (PySem.mem_of_lookup h1) (PySem.mem_of_lookup h2)
 ·have hy:scope.names.lookup y>>.cell∨scope.names.lookup y>>.free:=hy
  rcases hy with hy|hy
  ·exact keE hy
  ·exact absurd rfl (S.nofree _ (PySem.mem_of_lookup hy))
 ·exact JJ (x.above y c (PySem.mem_of_lookup h))
 ·have hi:i<vs.length:=by
   unfold start at h2
   by_cases hi:i<vs.length
   ·exact hi
   ·rw[Ml (by simpa using hi)] at h2
    rw[El] at h2
    split at h2 <;> cases h2
  have ha:vs[i]?>>v:=by
   unfold start at h2
   rw[Mv (by simpa using hi),JF] at h2
   cases e:vs[i]? with
   |none=>rw[e] at h2;cases h2
   |some a=>rw[e] at h2;cases h2;rfl
  obtain⟨u,hu,rv⟩:=r.get ha
  have hp:ps[i]?>>y:=by
   rw[<-S.pre,EL (by lia)];exact h1
  have ndP:ps.Nodup:=by rw[<-S.pre];exact S.nd.sublist (List.take_sublist _ _)
  rwa[u,rv,?_]
  rcases S.par y (JB hp) with k|k
  ·exact .inl ⟨k,khg ndP hp hu k⟩
  ·obtain⟨c,e⟩:=keE (n:=s.heap.objs.size+1) k
   refine .inr ⟨.inl k,c,e,?_⟩
   have q:=x.cell y c e
   rw[khi ndP hp hu (by show scope.names.lookup y≠_;rw[k];decide)] at q
   exact q
 ·exact e0.hok.fresh (JJ (x.above y c (PySem.mem_of_lookup h)))
 ·unfold start
  show _=N.length
  rw[JN,Jv,N7]
  lia
theorem fn_of{CX:CXT}{P:Program}{w:World}{K:Jw}{mg:Str->Option Value}{base:Heap}{k:Nat}{f:Addr}{name qual:Str}{params:Arguments}{body:List Stmt}{scope:Scope}{dV kV doc pm cdv ct oc:Value}{an od:Option Addr}
  {osl:Array (Option Value)}{N ps:List Str}{sp:Sp}(lk:K.lookup f>>⟨oc,od, .func (JR name qual params body scope dV kV doc pm an cdv ct),osl⟩)(hcd:Nf K cdv qual=true)(S:kat N ps scope)
  (len:∀vs H Q E,sp vs H Q E->vs.length=ps.length)
  (hbody:∀(A:Around)(outer:List Env)(s:Shared)(H:Hp)(vs:List V)(Q:VK)(E:XK),Room k (A.deeper (envOfC qual scope s.heap.objs.size f cdv))->sp vs H Q E->
   ∃t,PSs (cxOf CX P w K mg base N qual scope f cdv A outer s H E) body t/\t {nx:=fun _ H'=>Q .non H',rt:=Q} (start N vs) H):
  FnOk P w K mg base CX (k+1) f (JR name qual params body scope dV kV doc pm an cdv ct) ps sp:=by
 rwa[len,fun A outer s H args us vs Q E hr e0 hb r hsp=>?_]
 have hl:=len _ _ _ _ hsp
 have KX:K.In s.heap:=e0.mod.kin.keeps fun b o e=>(e0.bs b o e).1
 have lim:s.heap.NoLimit:=e0.mod.nolimit.keeps fun b o e=>(e0.bs b o e).1
 have hkind:∀y∈ps.zip us,scope.names.lookup y.1>>.local∨(scope.names.lookup y.1>>.cell/\((cellsFrom (s.heap.objs.size+1) scope.names []).lookup y.1).isSome=true):=fun⟨n,v⟩ hy=>by
  rcases S.par n (N6 hy).1 with q|q
  ·exact .inl q
  ·exact .inr ⟨q,EJ _ _ _ (.inl q)⟩
 refine codeAny_call_function hr.depth (KX _ _ lk) rfl S.co S.gen rfl (PySem.W.codeRec_of KX hcd) (hb _ _ _ _ ?_)
 refine wpAny_newFunctionEnv_cells S.kind hkind fun env he s1 x=>?_
 subst he
 rwa[lim.keeps x.toInCall.keep,codeAny_func ?_]
 obtain⟨t,ht,hq⟩:=hbody A outer s H vs Q E (hr.deeper _) hsp
 have I:Inv (cxOf CX P w K mg base N qual scope f cdv A outer s H E) [] (start N vs) H s1:=kkz S hr.hd e0 hl r x
 refine wpAny_mono (ht [] s1 (start N vs) H _ I hq) (fun fl s' hs=>?_) fun e s' hs=>hs
 have fin:∀{σ':St}{H':Hp}{v:V}{u:Value},Inv (cxOf CX P w K mg base N qual scope f cdv A outer s H E) [] σ' H' s'->RelV v u->Q v H'->CE outer P w H s Q u s':=
  fun {σ' H' v u} J rv q=>⟨v,H',J.os,J.bare,J.base,J.hok,rv,q⟩
 cases fl with
 |ret u=>
  obtain⟨v,σ',H',J,rv,q⟩:=hs
  exact fin J rv q
 |next=>
  obtain⟨σ',H',J,q⟩:=hs
  exact fin (v:=V.non) (u:=Value.none) J rfl q
 |brk=>
  obtain⟨_,_,_,q⟩:=hs
  exact False.elim q
 |cont=>
  obtain⟨_,_,_,q⟩:=hs
  exact False.elim q
section
variable{X:Cx}{x:Str}{p pos:Pos}{e:Expr}{es:List Expr}{t:TA}{id T:String}{r:List V->Hp->VK->Prop}
def tCB(r:List V->Hp->VK->Prop)(t:TA):TE:=fun σ H Q=>t σ H fun vs H1=>r vs H1 Q
theorem kao(hc:CallR X (.builtin id) r)(hg:Gl X x)(hm:X.mg x=none)(hv:bootBuiltins x>>(.builtin id))(ha:PA X (e::es) t)(hn:autoParam (x≠"__name__") jQ)(hdb:autoParam ((x==("__debug__" :Str))=false) jQ)
  (he:autoParam (starEach (e::es) X.env=(false,eval e X.env)::starEach es X.env) jz) (hpl:autoParam ((backTo pos (starEach es X.env)).any (·.1)=false) jz):PE X (.Call (.Name x p) (e::es) [] pos) (tCB r t):=by
 intro pins s σ H Q I h
 refine wpAny_Call_Name_kw (kdH I hg hm hv ?_ hn hdb)
 exact PyProof.Rows.callWith_builtin1 (thn (ha pos pins s σ H _ I h) fun us s1 ⟨vs,H1,I1,r1,q1⟩=>hc pins s1 σ H1 vs us Q I1 r1 q1) he hpl
theorem kaJ(hc:CallR X (.type T) r)(hg:Gl X x)(hm:X.mg x=none)(hv:bootBuiltins x>>(.type T))(ha:PA X (e::es) t)(hn:autoParam (x≠"__name__") jQ)(hdb:autoParam ((x==("__debug__" :Str))=false) jQ)
  (he:autoParam (starEach (e::es) X.env=(false,eval e X.env)::starEach es X.env) jz) (hpl:autoParam ((backTo pos (starEach es X.env)).any (·.1)=false) jz):PE X (.Call (.Name x p) (e::es) [] pos) (tCB r t):=by
 intro pins s σ H Q I h
 refine wpAny_Call_Name_kw (kdH I hg hm hv ?_ hn hdb)
 exact PyProof.Rows.callWith_type1 (thn (ha pos pins s σ H _ I h) fun us s1 ⟨vs,H1,I1,r1,q1⟩=>hc pins s1 σ H1 vs us Q I1 r1 q1) he hpl
end
end L2
namespace HT
open PySem PyProof.Rows
section
open PySem.SeqAt
open PySem.AutoSeq1 (wpAny_loadPart')
open PySem.MeetsSeq PySem.MeetsSeq2 PySem.MeetsSeq3
end
section
variable{prog:Program}{w:World}{A:Around}{E:Value->Shared->Prop}{s:Shared}
noncomputable def sIx(n d:Nat):Option Int->Nat
 |none=>d
 |some v=>if v<0 then(v+(n:Int)).toNat else min v.toNat n
theorem sIx_none(n d:Nat):sIx n d none=d:=rfl
theorem sIx_nat(n d k:Nat):sIx n d (some (k:Int))=min k n:=by
 show(if(k:Int)<0 then((k:Int)+(n:Int)).toNat else min (k:Int).toNat n)=min k n
 rw[if_neg (by lia),Int.toNat_natCast]
end
end HT
namespace L2
open PySem PySem.Spec PyProof.Rows
abbrev TO:=St->Hp->(Option Int->Hp->Prop)->Prop
def PO(X:Cx)(e:Option Expr)(t:TO):Prop:=
 ∀(pins:List (Addr×Obj))(s:Shared)(σ:St)(H:Hp)(Q:Option Int->Hp->Prop),Inv X pins σ H s->t σ H Q->
  wpAny (model X.prog X.w) X.A (evalPart e X.env) (fun u s'=>∃o H',Inv X pins σ H' s'/\IsPart u o/\Q o H') X.xe s
def kmC:TO:=fun _ H Q=>Q none H
def tPart(t:TE):TO:=fun σ H Q=>t σ H fun x H1=>∃i,x=.int i/\Q (some i) H1
theorem intsAre_of{ns:List Int}:∀{us:List Value},Vals (ns.map V.int) us->IntsAre us ns:=by
 induction ns with
 |nil=>intro us r;rw[NZ] at r;cases r;exact .nil
 | cons n ns ih=>
  intro us r
  rw[JG] at r
  cases r with
  |cons r1 r2=>
   obtain⟨t,e⟩:=r1
   subst e
   exact .cons n t (ih r2)
section
variable{X:Cx}{e:Expr}{te:TE}{lo hi:Option Expr}{tl th:TO}{pos p2:Pos}
theorem kj2:PO X none kmC:=by
 intro pins s σ H Q I h
 rw[evalPart_none]
 exact wpAny_pure ⟨none,H,I, .none,h⟩
theorem kf6(h:PE X e te):PO X (some e) (tPart te):=by
 intro pins s σ H Q I hw
 rw[evalPart_some]
 refine thn (h pins s σ H _ I hw) fun u s1 zz=>?_
 obtain⟨x,H1,I1,r1,q1⟩:=zz
 obtain⟨i,rfl,q⟩:=q1
 obtain⟨t,rfl⟩:=r1
 rwa[some i,H1,I1, .int i t,q]
def SlR(X:Cx)(r:V->Option Int->Option Int->Hp->VK->Prop):Prop:=
 ∀(pins:List (Addr×Obj))(s:Shared)(σ:St)(H:Hp)(x:V)(v vl vu:Value)(lo hi:Option Int)(sl:Addr)(Q:VK),Inv X pins σ H s->RelV x v->s.heap.IsSliceOf sl vl vu .none->IsPart vl lo->IsPart vu hi->r x lo hi H Q->
  ∃T id,typeLookup (.type T) "__getitem__"=pure (some (.builtin id))/\s.TypeIs v T/\wpAny (model X.prog X.w) X.A (getItem v (.ref sl)) (EP X pins σ Q) X.xe s
def tSl(r:V->Option Int->Option Int->Hp->VK->Prop)(te:TE)(tl th:TO):TE:=fun σ H Q=>te σ H fun x H1=>tl σ H1 fun l H2=>th σ H2 fun u H3=>r x l u H3 Q
theorem kf7{r:V->Option Int->Option Int->Hp->VK->Prop}(hr:SlR X r)(he:PE X e te)(hl:PO X lo tl)(hu:PO X hi th):PE X (.Subscript e (.Slice lo hi none p2) pos) (tSl r te tl th):=by
 intro pins s σ H Q I h
 refine Subscript_ (thn (he pins s σ H _ I h) fun v s1 zz=>?_)
 obtain⟨x,H1,I1,r1,q1⟩:=zz
 refine wpAny_Slice (thn (hl pins s1 σ H1 _ I1 q1) fun vl s2 zz=>?_)
 obtain⟨l,H2,I2,pl,q2⟩:=zz
 refine thn (hu pins s2 σ H2 _ I2 q2) fun vu s3 zz=>?_
 obtain⟨u,H3,I3,pu,q3⟩:=zz
 rw[evalPart_none]
 refine wpAny_pure ?_
 have I4:Inv X pins σ H3 {s3 with heap:=s3.heap.push {cls:=.type "slice",data:=.fields #[vl,vu, .none]}}:=I3.kept (t':=s3.toks) fun b ob q=>Heap.get?_push_of_some _ q
 obtain⟨T,id,hT,ht,hg⟩:=hr pins {s3 with heap:=s3.heap.push {cls:=.type "slice",data:=.fields #[vl,vu, .none]}} σ H3 x v vl vu l u s3.heap.objs.size Q I4 r1 (Heap.IsSliceOf.new ..) pl pu q3
 show wpAny (model X.prog X.w) X.A (subscriptTail e (.Slice lo hi none p2) v (.ref s3.heap.objs.size)) (EP X pins σ Q) X.xe {s3 with heap:=s3.heap.push {cls:=.type "slice",data:=.fields #[vl,vu, .none]}}
 exact tail_any (ops:=[.ref s3.heap.objs.size,v]) ht hT hg (by with_unfolding_all rfl)
noncomputable def cutV(xs:List V)(lo hi:Option Int):List V:=(xs.drop (HT.sIx xs.length 0 lo)).take (HT.sIx xs.length xs.length hi-HT.sIx xs.length 0 lo)
theorem khT(xs:List V)(lo hi:Option Int):(cutV xs lo hi).length<=xs.length:=by
 unfold cutV
 rw[JV,Mm]
 lia
end
noncomputable def ixN(n:Nat)(i:Int):Option Nat:=if 0<=i then(if i<n then some i.toNat else none) else if -(n:Int)<=i then some (i+n).toNat else none
noncomputable def atI{α:Type}(xs:List α)(i:Int):Option α:=(ixN xs.length i).bind fun j=>xs[j]?
def kkw{n:Nat}{i:Int}{j:Nat}(h:ixN n i>>j):seqIndex? i n>>j/\j<n/\-(n:Int)<=i/\i<n:=by
 unfold ixN at h
 by_cases h0:0<=i
 ·rw[if_pos h0] at h
  by_cases h1:i<n
  ·rw[if_pos h1] at h
   have e:i.toNat=j:=Option.some.inj h
   rwa[by rw[seqIndex_of h0 h1,e],by lia,by lia,h1]
  ·rw[if_neg h1] at h;cases h
 ·rw[if_neg h0] at h
  by_cases h1: -(n:Int)<=i
  ·rw[if_pos h1] at h
   have e:(i+n).toNat=j:=Option.some.inj h
   rwa[by rw[seqIndex_neg (by lia) h1,e],by lia,h1,by lia]
  ·rw[if_neg h1] at h;cases h
theorem khY{α:Type}{xs:List α}{i:Int}{v: α}(h:atI xs i>>v):∃j,seqIndex? i xs.length>>j/\xs[j]?>>v/\j<xs.length/\-(xs.length:Int)<=i/\i<xs.length:=by
 unfold atI at h
 cases e:ixN xs.length i with
 |none=>rw[e] at h;cases h
 |some j=>
  rw[e] at h
  obtain⟨h1,h2,h3,h4⟩:=kkw e
  rwa[j,h1,h,h2,h3,h4]
def kaK{α:Type}{xs:List α}{j:Nat}{v: α}(h:xs[j]?>>v):atI xs (j:Int)>>v:=by
 have hj:j<xs.length:=(JK.mp h).1
 have e:ixN xs.length (j:Int)>>j:=by
  unfold ixN
  rw[if_pos (by lia),if_pos (by lia)];simp
 unfold atI;rw[e];exact h
def knk(b:Expr):Prop:=∀o i,subscripted b false o i=operate [o,i] (getItem o i)
def IxR(X:Cx)(r:R2):Prop:=
 ∀(value slice:Expr)(pins:List (Addr×Obj))(s:Shared)(σ:St)(H:Hp)(x y:V)(v u:Value)(Q:VK),Inv X pins σ H s->RelV x v->RelV y u->r x y H Q->
  subscripted slice false v u=operate [v,u] (getItem v u)->wpAny (model X.prog X.w) X.A (subscriptTail value slice v u) (EP X pins σ Q) X.xe s
def MtR(X:Cx)(id:String)(r:V->List V->Hp->VK->Prop):Prop:=
 ∀(pins:List (Addr×Obj))(s:Shared)(σ:St)(H:Hp)(x:V)(xs:List V)(v:Value)(us:List Value)(Q:VK),Inv X pins σ H s->RelV x v->Vals xs us->r x xs H Q->
  wpAny (model X.prog X.w) X.A (call (.builtin id) (v::us)) (EP X pins σ Q) X.xe s
section
variable{X:Cx}{a b:Expr}{ta tb:TE}{pos:Pos}
theorem pe_ix{r:R2}(hr:IxR X r)(ha:PE X a ta)(hb:PE X b tb)(hs:knk b):PE X (.Subscript a b pos) (tOp r ta tb):=by
 intro pins s σ H Q I h
 exact Subscript_ (binT ha hb I h fun v u s2 x y H2 I2 rx ry q=>hr a b pins s2 σ H2 x y v u Q I2 rx ry q (hs _ _))
def rIxL(K:Jw):R2:=fun x y H Q=>∃p xs i v,x=.ref p/\y=.int i/\SqL K H p xs/\atI xs i>>v/\Q v H
def rIxT(K:Jw):R2:=fun x y H Q=>∃p xs i v,x=.ref p/\y=.int i/\SqT K H p xs/\atI xs i>>v/\Q v H
theorem kaH:IxR X (rIxL X.K):=by
 intro value slice pins s σ H x y v u Q I rx ry h hs
 obtain⟨p,xs,i,z,rfl,rfl,hq,he,q⟩:=h
 cases rx
 obtain⟨t,rfl⟩:=ry
 obtain⟨its,r,pl,hz⟩:=I.list hq
 obtain⟨j,h1,h2,h3,h4,h5⟩:=khY he
 obtain⟨w,ew,rw'⟩:=r.get h2
 have hl:=r.length
 have hn:=kg3
 have fin:EP X pins σ Q w s:=⟨z,H,I,rw',q⟩
 by_cases h0:0<=i
 ·have hj:i.toNat=j:=by
   rw[seqIndex_of h0 h5] at h1
   exact Option.some.inj h1
  exact item_listR pl.isList h0 (by lia) (by rw[hj];simpa using ew) fin hs
 ·have hj:(i+(its.toArray.size:Int)).toNat=j:=by
   rw[seqIndex_neg (by lia) h4] at h1
   rw[JW,<-hl]
   exact Option.some.inj h1
  exact subscriptTail_builtinR (x:=w) pl.isList.typeIs slot_list_getitem.lookup
   (wpAny_getItem_list_neg (Q:=fun r s'=>r=w/\EP X pins σ Q r s') pl.isList (by lia) (by rw[JW] <;> lia) (by lia) (by rw[hj];simpa using ew) ⟨rfl,fin⟩) hs
theorem kdl:IxR X (rIxT X.K):=by
 intro value slice pins s σ H x y v u Q I rx ry h hs
 obtain⟨p,xs,i,z,rfl,rfl,hq,he,q⟩:=h
 cases rx
 obtain⟨t,rfl⟩:=ry
 obtain⟨its,r,pl,hz⟩:=I.tuple hq
 obtain⟨j,h1,h2,h3,h4,h5⟩:=khY he
 obtain⟨w,ew,rw'⟩:=r.get h2
 have hl:=r.length
 have hn:=kg3
 have fin:EP X pins σ Q w s:=⟨z,H,I,rw',q⟩
 exact subscriptTail_builtinR (x:=w) pl.typeIs slot_tuple_getitem.lookup
  (getItem_tuple (j:=j) (Q:=fun r s'=>r=w/\EP X pins σ Q r s') pl (by lia) (by lia) (by rw[JW,<-hl];exact h1) (by simpa using ew) ⟨rfl,fin⟩) hs
theorem ki2(its:List Value)(n j:Nat)(u:Value):Obj.mapSeq (·.setIfInBounds j u) {cls:=.type "list",data:=.seq its.toArray n}= {cls:=.type "list",data:=.seq (its.set j u).toArray n}:=by
 simp[Obj.mapSeq]
theorem Inv.lst{pins:List (Addr×Obj)}{σ:St}{H:Hp}{s:Shared}{p:Addr}{xs:List V}(I:Inv X pins σ H s)(h:H p>>(.lst xs)):
  ∃(its:List Value)(n:Nat),Vals xs its/\s.heap.get? p>>{cls:=.type "list",data:=.seq its.toArray n}/\xs.length<=sizeLine:=by
 obtain⟨z,its,n,r,e⟩:=I.hok p _ h
 rwa[its,n,r,e,z]
theorem Inv.lstUpd{pins:List (Addr×Obj)}{σ:St}{H:Hp}{s:Shared}{p:Addr}{xs ys:List V}{its its':List Value}{n n':Nat}{f:Obj->Obj}(I:Inv X pins σ H s)(h:H p>>(.lst xs))
  (ho:s.heap.get? p>>{cls:=.type "list",data:=.seq its.toArray n})(hf:f {cls:=.type "list",data:=.seq its.toArray n}= {cls:=.type "list",data:=.seq its'.toArray n'})(r:Vals ys its')(hz:ys.length<=sizeLine)(t:Nat):
  Inv X pins σ (upd H p (.lst ys)) {s with heap:=s.heap.update p f,toks:=t}:=by
 have e:(s.heap.update p f).get? p>>{cls:=.type "list",data:=.seq its'.toArray n'}:=by
  rw[Heap.get?_update_self f ho (by rw[hf] <;> rfl),hf]
 refine I.write (x:=p) (e:=p) (by rw[h];trivial) (.inl rfl) (fun b u hb q=>(Heap.get?_update_other _ _ (Ne.symm hb)).trans q) ⟨_,e⟩ ?_
 rwa[hz,its',n',r,e]
def rSetL:V->V->V->Hp->(Hp->Prop)->Prop:=fun o i v H Q=>∃p xs k j,o=.ref p/\i=.int k/\H p>>(.lst xs)/\ixN xs.length k>>j/\Q (upd H p (.lst (xs.set j v)))
theorem set_list:PSet X rSetL:=by
 intro pins s σ H o i v ov iv u Q I ro ri rv h
 obtain⟨p,xs,k,j,rfl,rfl,hp,hj,q⟩:=h
 cases ro
 obtain⟨t,rfl⟩:=ri
 obtain⟨its,n,r,ho,hz⟩:=I.lst hp
 obtain⟨h1,h2,h3,h4⟩:=kkw hj
 have hl:=r.length
 have hn:=kg3
 have I':Inv X pins σ (upd H p (.lst (xs.set j v))) {s with heap:=s.heap.update p (Obj.mapSeq (·.setIfInBounds j u))}:=
  I.lstUpd hp ho (ki2 its n j u) (r.set rv j) (by rw[N8];exact hz) s.toks
 by_cases h0:0<=k
 ·have hk:k.toNat=j:=by
   rw[seqIndex_of h0 h4] at h1
   exact Option.some.inj h1
  exact PySem.W.ki_setAt ho h0 (by lia) (by rw[JW,<-hl];exact h4) (by rw[hk];exact⟨_,I',q⟩)
 ·have hk:(k+(its.toArray.size:Int)).toNat=j:=by
   rw[seqIndex_neg (by lia) h3] at h1
   rw[JW,<-hl]
   exact Option.some.inj h1
  exact PySem.W.ki_setBack ho (by lia) (by rw[JW,<-hl];exact h3) (by lia) (by rw[hk];exact⟨_,I',q⟩)
theorem kgJ(lo hi:Option Int)(n:Nat):(sliceBounds lo hi none n).1=((HT.sIx n 0 lo:Nat):Int)/\(sliceBounds lo hi none n).2.1=((HT.sIx n n hi:Nat):Int)/\(sliceBounds lo hi none n).2.2=1:=by
 rwa[?_,?_,6]
 ·cases lo with
  |none=>simp[sliceBounds,HT.sIx]
  |some i=>
   simp only[sliceBounds,HT.sIx,Em,show(1:Int) > 0 by decide,if_true]
   by_cases h:i<0
   ·simp only[h,if_true] <;> lia
   ·simp only[h,if_false] <;> lia
 ·cases hi with
  |none=>simp[sliceBounds,HT.sIx]
  |some i=>
   simp only[sliceBounds,HT.sIx,Em,show(1:Int) > 0 by decide,if_true]
   by_cases h:i<0
   ·simp only[h,if_true] <;> lia
   ·simp only[h,if_false] <;> lia
theorem kfY(its:List Value)(lo hi:Option Int):slicePick its.toArray lo hi none=((its.drop (HT.sIx its.length 0 lo)).take (HT.sIx its.length its.length hi-HT.sIx its.length 0 lo)).toArray:=by
 obtain⟨h1,h2,h3⟩:=kgJ lo hi its.toArray.size
 unfold slicePick
 rw[h1,h2,h3]
 simp only[sliceRange_one,pick_run,JW] <;> rfl
def rSlL(K:Jw):V->Option Int->Option Int->Hp->VK->Prop:=fun x lo hi H Q=>∃a xs,x=.ref a/\SqL K H a xs/\∀p,H p=none->Q (.ref p) (upd H p (.lst (cutV xs lo hi)))
theorem khs:SlR X (rSlL X.K):=by
 intro pins s σ H x v vl vu lo hi sl Q I rx hs pl pu h
 obtain⟨a,xs,rfl,hx,q⟩:=h
 cases rx
 obtain⟨its,r,ht,hz⟩:=I.list hx
 have hlen:=r.length
 rwa["list",_,slot_list_getitem.lookup,ht.isList.typeIs,?_]
 refine wpAny_getItem_list_slice ht.isList hs pl pu .none (by simp) ?_ (by rw[JW] <;> lia)
 rw[kfY,<-hlen]
 rwa[.ref s.heap.objs.size,_,I.laid (t':=s.toks) (o:=.lst (cutV xs lo hi)) (fun b ob q=>Heap.get?_push_of_some _ q) (Jx _) ?_,6,q _ (I.hok.fresh (Jx _))]
 rwa[JA (khT xs lo hi) hz,_,0,(r.drop (HT.sIx xs.length 0 lo)).take (HT.sIx xs.length xs.length hi-HT.sIx xs.length 0 lo),Heap.get?_push_size _ rfl]
noncomputable def flatV:V->Bool
 | .non=>true
 | .bl _=>true
 | .int _=>true
 | .str _=>true
 |_=>false
noncomputable def eqV:V->V->Bool
 | .non, .non=>true
 | .bl a, .bl b=>a==b
 | .bl a, .int b=>(if a then 1 else 0)==b
 | .int a, .bl b=>a==(if b then 1 else 0)
 | .int a, .int b=>a==b
 | .str a, .str b=>a==b
 |_,_=>false
theorem kfM{A:Around}{s:Shared}{y x:V}{u v:Value}(ry:RelV y u)(rx:RelV x v)(fy:flatV y=true)(fx:flatV x=true):SeqAt.EqAt A s u v (eqV y x):=by
 cases y with
 |non=>
  cases ry
  cases x with
  |non=>cases rx;exact SeqAt.EqAt.same _
  |bl b=>cases rx;exact SeqAt.EqAt.none_bool b
  |int b=>obtain⟨t,rfl⟩:=rx;exact SeqAt.EqAt.none_int b t
  |str b=>obtain⟨t,rfl⟩:=rx;exact SeqAt.EqAt.none_str b t
  |_=>exact absurd (show false=true from fx) JD
 |bl a=>
  cases ry
  cases x with
  |non=>cases rx;exact SeqAt.EqAt.bool_none a
  |bl b=>cases rx;exact SeqAt.EqAt.bool_bool a b
  |int b=>obtain⟨t,rfl⟩:=rx;exact SeqAt.EqAt.bool_int a b t
  |str b=>obtain⟨t,rfl⟩:=rx;exact SeqAt.EqAt.bool_str a b t
  |_=>exact absurd (show false=true from fx) JD
 |int a=>
  obtain⟨t',rfl⟩:=ry
  cases x with
  |non=>cases rx;exact SeqAt.EqAt.int_none a t'
  |bl b=>cases rx;exact SeqAt.EqAt.int_bool a t' b
  |int b=>obtain⟨t,rfl⟩:=rx;exact SeqAt.EqAt.int_int a t' b t
  |str b=>obtain⟨t,rfl⟩:=rx;exact SeqAt.EqAt.int_str a t' b t
  |_=>exact absurd (show false=true from fx) JD
 |str a=>
  obtain⟨t',rfl⟩:=ry
  cases x with
  |non=>cases rx;exact SeqAt.EqAt.str_none a t'
  |bl b=>cases rx;exact SeqAt.EqAt.str_bool a t' b
  |int b=>obtain⟨t,rfl⟩:=rx;exact SeqAt.EqAt.str_int a t' b t
  |str b=>obtain⟨t,rfl⟩:=rx;exact SeqAt.EqAt.str_str a t' b t
  |_=>exact absurd (show false=true from fx) JD
 |_=>exact absurd (show false=true from fy) JD
noncomputable def eqU(x:V)(u:Value):Bool:=match u with
 | .none=>eqV .non x
 | .bool b=>eqV (.bl b) x
 | .int i _=>eqV (.int i) x
 | .str z _=>eqV (.str z) x
 |_=>false
theorem kmo{x y:V}{u:Value}(r:RelV y u)(f:flatV y=true):eqU x u=eqV y x:=by
 cases y with
 |non=>cases r;rfl
 |bl b=>cases r;rfl
 |int i=>obtain⟨t,rfl⟩:=r;rfl
 |str z=>obtain⟨t,rfl⟩:=r;rfl
 |_=>exact absurd (show false=true from f) JD
theorem kfl{x:V}{xs:List V}{us:List Value}(h:Vals xs us)(f:xs.all flatV=true):us.any (eqU x)=xs.any fun y=>eqV y x:=by
 induction h with
 |nil=>rfl
 |cons r t ih=>
  rw[ML,NT] at f
  rw[NF,NF,kmo r f.1,ih f.2]
theorem kdE{A:Around}{s:Shared}{x:V}{v:Value}(rx:RelV x v)(fx:flatV x=true){xs:List V}{us:List Value}(h:Vals xs us)(f:xs.all flatV=true):∀u∈us,SeqAt.EqAt A s u v (eqU x u):=by
 induction h with
 |nil=>intro u hu;cases hu
 |cons r t ih=>
  intro u' hu
  rw[ML,NT] at f
  rcases JY.mp hu with rfl|hu
  ·rw[kmo r f.1];exact kfM r rx f.1 fx
  ·exact ih f.2 u' hu
noncomputable def inV(x:V)(xs:List V):Bool:=xs.any fun y=>eqV y x
def rIn(K:Jw)(neg:Bool):R2:=fun x y H Q=>∃p xs,y=.ref p/\(SqL K H p xs∨SqT K H p xs)/\flatV x=true/\xs.all flatV=true/\Q (.bl (if neg then !inV x xs else inV x xs)) H
theorem kch:OpR X (compareOp .In) (rIn X.K false):=by
 intro pins s σ H x y v u Q I rx ry h
 obtain⟨p,xs,rfl,hq,fx,fs,q⟩:=h
 cases ry
 rcases hq with hq|hq
 ·obtain⟨its,r,pl,hz⟩:=I.list hq
  refine SeqAt.in_listAt (eqU x) pl.isList (fun w hw=>kdE rx fx r fs w (by simpa using hw)) ⟨.bl _,H,I,rfl,?_⟩
  rw[show its.toArray.any (eqU x)=its.any (eqU x) by simp,kfl r fs]
  exact q
 ·obtain⟨its,r,pl,hz⟩:=I.tuple hq
  refine SeqAt.in_tupleAt (eqU x) pl (fun w hw=>kdE rx fx r fs w (by simpa using hw)) ⟨.bl _,H,I,rfl,?_⟩
  rw[show its.toArray.any (eqU x)=its.any (eqU x) by simp,kfl r fs]
  exact q
theorem kgT:OpR X (compareOp .NotIn) (rIn X.K true):=by
 intro pins s σ H x y v u Q I rx ry h
 obtain⟨p,xs,rfl,hq,fx,fs,q⟩:=h
 cases ry
 rcases hq with hq|hq
 ·obtain⟨its,r,pl,hz⟩:=I.list hq
  refine SeqAt.notIn_listAt (eqU x) pl.isList (fun w hw=>kdE rx fx r fs w (by simpa using hw)) ⟨.bl _,H,I,rfl,?_⟩
  rw[show its.toArray.any (eqU x)=its.any (eqU x) by simp,kfl r fs]
  exact q
 ·obtain⟨its,r,pl,hz⟩:=I.tuple hq
  refine SeqAt.notIn_tupleAt (eqU x) pl (fun w hw=>kdE rx fx r fs w (by simpa using hw)) ⟨.bl _,H,I,rfl,?_⟩
  rw[show its.toArray.any (eqU x)=its.any (eqU x) by simp,kfl r fs]
  exact q
theorem kap:CallR X (.builtin "len") (fun xs H Q=>∃p ys,xs=[.ref p]/\(SqL X.K H p ys∨SqT X.K H p ys)/\Q (.int ys.length) H):=by
 intro pins s σ H xs us Q I r h
 obtain⟨p,ys,rfl,hq,q⟩:=h
 obtain⟨u,rfl,rx⟩:=vals1 r
 cases rx
 have hn:=kg3
 rcases hq with hq|hq
 ·obtain⟨its,r',pl,hz⟩:=I.list hq
  have hlen:=r'.length
  exact Calls.call_len_list pl.isList (by simp only[JW] <;> lia) ⟨.int ys.length,H,I.tok _,⟨s.toks+1,by rw[JW,hlen]⟩,q⟩
 ·obtain⟨its,r',pl,hz⟩:=I.tuple hq
  have hlen:=r'.length
  exact len_tuple pl (by simp only[JW] <;> lia) ⟨.int ys.length,H,I.tok _,⟨s.toks+1,by rw[JW,hlen]⟩,q⟩
theorem kaC:CallR X (.type "list") (fun xs H Q=>∃p ys,xs=[.ref p]/\(SqL X.K H p ys∨SqT X.K H p ys)/\∀l,H l=none->Q (.ref l) (upd H l (.lst ys))):=by
 intro pins s σ H xs us Q I r h
 obtain⟨p,ys,rfl,hq,q⟩:=h
 obtain⟨u,rfl,rx⟩:=vals1 r
 cases rx
 have fin:∀(its:List Value),Vals ys its->ys.length<=sizeLine->∀(h':Heap)(c':Nat),(∀b o',s.heap.get? b>>o'->h'.get? b>>o')->
   h'.get? s.heap.objs.size>>{cls:=.type "list",dict:=none,data:=.seq its.toArray c',slots:=#[]}->EP X pins σ Q (.ref s.heap.objs.size) {s with heap:=h'}:=fun its r' hz h' c' kp e=>
  ⟨.ref s.heap.objs.size,_,I.laid (t':=s.toks) kp (Jx _) (show ObjOk X.prog X.w _ h' _ (.lst ys) from⟨hz,its,c',r',e⟩),rfl,q _ (I.hok.fresh (Jx _))⟩
 rcases hq with hq|hq
 ·obtain⟨its,r',pl,hz⟩:=I.list hq
  have hlen:=r'.length
  obtain⟨o,ho,hc,n,hd⟩:=pl.isList
  exact call_list_seq p (.inl rfl) ho hc hd (fun h' c' kp e=>fin its r' hz h' c' kp e) (by simp only[JW] <;> lia)
 ·obtain⟨its,r',pl,hz⟩:=I.tuple hq
  have hlen:=r'.length
  obtain⟨o,ho,hc,n,hd⟩:=pl
  exact call_list_seq p (.inr rfl) ho hc hd (fun h' c' kp e=>fin its r' hz h' c' kp e) (by simp only[JW] <;> lia)
theorem kgr:CallR X (.type "tuple") (fun xs H Q=>∃p ys,xs=[.ref p]/\((SqL X.K H p ys/\∀l,H l=none->Q (.ref l) (upd H l (.tup ys)))∨(SqT X.K H p ys/\Q (.ref p) H))):=by
 intro pins s σ H xs us Q I r h
 obtain⟨p,ys,rfl,h⟩:=h
 obtain⟨u,rfl,rx⟩:=vals1 r
 cases rx
 rcases h with⟨hq,q⟩|⟨hq,q⟩
 ·obtain⟨its,r',pl,hz⟩:=I.list hq
  have hlen:=r'.length
  refine call_tuple_list pl.isList (fun h' kp=>?_) (by simp only[JW] <;> lia)
  have I1:Inv X pins σ H {s with heap:=h'}:=I.kept (t':=s.toks) kp
  have I2:Inv X pins σ (upd H h'.objs.size (.tup ys)) {s with heap:=h'.push {cls:=.type "tuple",data:=.seq its.toArray}}:=
   I1.laid (t':=s.toks) (fun b o e=>Heap.get?_push_of_some _ e) (Jx _) (show ObjOk X.prog X.w _ _ _ (.tup ys) from⟨hz,its,r',IsTup.new _ _⟩)
  rwa[.ref h'.objs.size,_,I2,6,q _ (I1.hok.fresh (Jx _))]
 ·obtain⟨its,r',pl,hz⟩:=I.tuple hq
  exact call_tuple_same pl ⟨.ref p,H,I,rfl,q⟩
def tyV(K:Jw)(T:String)(x:V)(H:Hp):Prop:=match x with
 | .str _=>T="str"
 | .int _=>T="int"
 | .ref p=>(T="list"/\∃xs,SqL K H p xs)∨(T="tuple"/\∃o,K.lookup p>>o/\o.cls=.type "tuple"/\o.dict=none)∨
   (T="dict"/\((∃kvs,H p>>(.dK kvs))∨∃kvs,H p>>(.dT kvs)))∨(T="set"/\∃S n,H p>>(.set S n))
 |_=>False
theorem klY{pins:List (Addr×Obj)}{σ:St}{H:Hp}{s:Shared}{T:String}{x:V}{v:Value}(I:Inv X pins σ H s)(r:RelV x v)(ty:tyV X.K T x H):
  s.TypeIs v T/\∀a,v=.ref a->∃ob,s.heap.get? a>>ob/\ob.dict=none:=by
 cases x with
 |str z=>
  obtain⟨t,rfl⟩:=r
  cases(show T="str" from ty)
  rwa[typeIs_str s z t,fun _ e=>nomatch e]
 |int i=>
  obtain⟨t,rfl⟩:=r
  cases(show T="int" from ty)
  rwa[typeIs_int s i t,fun _ e=>nomatch e]
 | ref p=>
  cases r
  rcases ty with⟨rfl,xs,hq⟩|⟨rfl,o,hk,hc,hd⟩|⟨rfl,hk⟩|⟨rfl,S,n,hk⟩
  ·obtain⟨its,_,pl,_⟩:=I.list hq
   rwa[pl.isList.typeIs,fun a e=>?_]
   cases e
   obtain⟨o,n,e,c,hd,_⟩:=pl
   rwa[o,e,hd]
  ·rwa[⟨o,I.kIn p o hk,hc⟩,fun a e=>?_]
   cases e
   rwa[o,I.kIn _ o hk,hd]
  ·have z:∃o,s.heap.get? p>>o/\o.ExactDict:=by
    rcases hk with⟨kvs,hk⟩|⟨kvs,hk⟩
    ·obtain⟨_,_,_,_,o,_,_,e,ex,_⟩:=I.hok p _ hk
     rwa[o,e,ex]
    ·obtain⟨_,_,_,_,o,_,_,e,ex,_⟩:=I.hok p _ hk
     rwa[o,e,ex]
   obtain⟨o,e,ex⟩:=z
   rwa[⟨o,e,ex.1⟩,fun a e2=>?_]
   cases e2
   rwa[o,e,ex.2.1]
  ·obtain⟨o,_,_,_,e,ex,_⟩:=I.hok p _ hk
   rwa[⟨o,e,ex.1⟩,fun a e2=>?_]
   cases e2
   rwa[o,e,ex.2.1]
 |_=>exact False.elim ty
def tBM(K:Jw)(T:String)(r:V->List V->Hp->VK->Prop)(to:TE)(t:TA):TE:=fun σ H Q=>to σ H fun x H1=>tyV K T x H1/\t σ H1 fun xs H2=>r x xs H2 Q
variable{o e:Expr}{es:List Expr}{to:TE}{t:TA}{name:Str}{apos cpos:Pos}{T id:String}{r:V->List V->Hp->VK->Prop}
theorem pe_bm(pa:PlainAttrs T)(slot:Slot T name id)(hty:typeOf (.builtin id)=pure (.type "method_descriptor"))(hm:MtR X id r)(ho:PE X o to)(ha:PA X (e::es) t)
  (hbase:autoParam (attributeBase o name X.env (eval o X.env)=eval o X.env) jz)
  (hfew:autoParam (((backTo cpos (starEach (e::es) X.env)).all (fun x=>!x.1)&&(backToKw cpos (keywordEach [] X.env)).all (fun x=>x.1.isSome)
   &&decide ((e::es).length+([]:List Keyword).length+(if([]:List Keyword).isEmpty then 0 else 1)<30))=true) jz)
  (hline:autoParam ((apos.endLine==cpos.line)=true) jz)(hs:autoParam (starEach (e::es) X.env=(false,eval e X.env)::starEach es X.env) jz)(hplain:autoParam ((backTo cpos (starEach es X.env)).any (·.1)=false) jz):
  PE X (.Call (.Attribute o name apos) (e::es) [] cpos) (tBM X.K T r to t):=by
 intro pins s σ H Q I h
 refine wpAny_Call_method_late hbase hfew hline rfl (thn (ho pins s σ H _ I h) fun v s1 zz=>?_)
 obtain⟨x,H1,I1,r1,ty,q1⟩:=zz
 obtain⟨h1,h2⟩:=klY I1 r1 ty
 rwa[T,id,pa,slot,hty,h1,h2,?_]
 have hA:=ha cpos pins s1 σ H1 _ I1 q1
 rw[hs] at hA⊢
 refine Calls.callWith_builtin (by show(false||(backTo cpos (starEach es X.env)).any (·.1))=false;rw[hplain] <;> rfl) (Calls.evalArgs_plain ?_)
 exact thn hA fun us s2 ⟨vs,H2,I2,r2,q2⟩=>hm pins s2 σ H2 x vs v us Q I2 r1 r2 q2
end
def MtM(X:Cx)(id:String)(r:V->List V->Hp->VK->Prop):Prop:=
 ∀(pins:List (Addr×Obj))(s:Shared)(σ:St)(H:Hp)(x:V)(xs:List V)(v:Value)(us:List Value)(Q:VK),Inv X pins σ H s->RelV x v->Vals xs us->r x xs H Q->
  wpAny (model X.prog X.w) X.A (call (.builtin id) (v::us)) (EP X pins σ Q) X.xe s
theorem Vals.one{x:V}{us:List Value}(h:Vals [x] us):∃u,us=[u]/\RelV x u:=by
 cases h with|cons r t=>cases t;exact⟨_,rfl,r⟩
theorem Vals.rep{xs:List V}{us:List Value}(h:Vals xs us):∀k:Nat,Vals (JE k xs).flatten (JE k us).flatten
 |0=>.nil
 |k+1=>by
  rw[N2,N2,J9,J9]
  exact Vals.append h (Vals.rep h k)
theorem foldl_rep(its:List Value):∀(k:Nat)(acc:List Value),
  List.foldl (fun x1 x2=>x1++x2) acc.toArray (JE k its.toArray)=(acc++(JE k its).flatten).toArray
 |0,acc=>by simp
 | k+1,acc=>by
  have e:acc.toArray++its.toArray=(acc++its).toArray:=by simp
  have e2:(acc++its)++(JE k its).flatten=acc++(JE (k+1) its).flatten:=by
   rw[N2,J9,Nc]
  rw[<-e2,<-foldl_rep its k (acc++its),<-e,N2,List.foldl_cons]
section
variable{X:Cx}{pins:List (Addr×Obj)}{σ:St}{H:Hp}{s:Shared}{l b:Addr}{xs ys zs:List V}
theorem Inv.lset{its its':List Value}{n:Nat}{f:Array Value->Array Value}{t':Nat}(I:Inv X pins σ H s)(hH:H l>>(.lst xs))
  (e:s.heap.get? l>>{cls:=.type "list",data:=.seq its.toArray n})(hf:f its.toArray=its'.toArray)(hv:Vals ys its')(hz:ys.length<=sizeLine):
  Inv X pins σ (upd H l (.lst ys)) {s with heap:=s.heap.update l (Obj.mapSeq f),toks:=t'}:=by
 have q:=PySem.IsL.update e f
 rw[hf] at q
 refine I.write (x:=l) (e:=l) (by rw[hH];exact trivial) (.inl rfl) (fun b' u hb hu=>(Heap.get?_update_other s.heap (Obj.mapSeq f) (Ne.symm hb)).trans hu) ⟨_,q⟩ ?_
 rwa[hz,its',_,hv,q]
theorem Inv.lnew{its:List Value}{t':Nat}(I:Inv X pins σ H s)(hv:Vals ys its)(hz:ys.length<=sizeLine):
  Inv X pins σ (upd H s.heap.objs.size (.lst ys)) {s with heap:=s.heap.push {cls:=.type "list",data:=.seq its.toArray},toks:=t'}:=
 I.laid (fun _ _ q=>Heap.get?_push_of_some _ q) (Jx _) ⟨hz,its,0,hv,Heap.get?_push_size _ rfl⟩
theorem Inv.fresh(I:Inv X pins σ H s):H s.heap.objs.size=none:=I.hok.fresh (Jx _)
theorem Inv.lstM(I:Inv X pins σ H s)(hH:H l>>(.lst xs)):xs.length<=sizeLine/\∃(its:List Value)(n:Nat),Vals xs its/\xs.length=its.length/\s.heap.get? l>>{cls:=.type "list",data:=.seq its.toArray n}:=by
 obtain⟨z,its,n,r,e⟩:=I.hok l _ hH
 rwa[z,its,n,r,r.length,e]
theorem kiy{n:Nat}(h:n<=sizeLine):Builtin.List.listTooLong n=false:=by
 unfold Builtin.List.listTooLong
 exact decide_eq_false (by lia)
end
section
variable{X:Cx}
def kmK:V->List V->Hp->VK->Prop:=fun x vs H Q=>∃l xs y,x=.ref l/\vs=[y]/\H l>>(.lst xs)/\xs.length<sizeLine/\Q .non (upd H l (.lst (xs++[y])))
theorem kbc:MtM X "list.append" kmK:=by
 intro pins s σ H x vs v us Q I rx rv h
 obtain⟨l,xs,y,rfl,rfl,hH,hz,q⟩:=h
 cases rx
 obtain⟨u,rfl,ru⟩:=rv.one
 obtain⟨z,its,n,r,hl,e⟩:=I.lstM hH
 refine call_meets F.slot_list_append ⟨_,e,rfl⟩ F.entry_list_append (F.args_list_append_2 _ _) (PySem.list_append l its.toArray n u (by rw[JW];lia)) ⟨e,?_⟩
 rwa[.non,_,I.lset (its':=its++[u]) hH e (by simp) (r.append (.cons ru .nil)) ?_,6,q]
 rw[JN,Nv]
 lia
def kmJ:V->List V->Hp->VK->Prop:=fun x vs H Q=>∃l b xs zs,x=.ref l/\vs=[.ref b]/\H l>>(.lst xs)/\H b>>(.lst zs)/\xs.length+zs.length<=sizeLine/\Q .non (upd H l (.lst (xs++zs)))
theorem kgZ:MtM X "list.extend" kmJ:=by
 intro pins s σ H x vs v us Q I rx rv h
 obtain⟨l,b,xs,zs,rfl,rfl,hH,hB,hz,q⟩:=h
 cases rx
 obtain⟨u,rfl,ru⟩:=rv.one
 cases ru
 obtain⟨z,its,n,r,hl,e⟩:=I.lstM hH
 obtain⟨z2,its2,n2,r2,hl2,e2⟩:=I.lstM hB
 have hsz:its.toArray.size+its2.toArray.size<=sizeLine:=by rw[JW,JW];lia
 have hlong:¬(!its.toArray.isEmpty&&Builtin.List.listTooLong (its.toArray.size+its2.toArray.size))=true:=by
  rw[kiy hsz,Bool.and_false]
  exact JD
 refine call_meets F.slot_list_extend ⟨_,e,rfl⟩ F.entry_list_extend (F.args_list_extend_2 _ _)
  (AutoSeq1.list_extend_list_list_0 l its.toArray n b its2.toArray n2 hlong (by rw[JW];lia) (by lia)) ⟨e,e2,?_⟩
 rwa[.non,_,I.lset (its':=its++its2) hH e (by simp) (r.append r2) ?_,6,q]
 rw[JN]
 lia
def rCat:R2:=fun x y H Q=>∃l b xs zs,x=.ref l/\y=.ref b/\H l>>(.lst xs)/\H b>>(.lst zs)/\xs.length+zs.length<=sizeLine/\∀p,H p=none->Q (.ref p) (upd H p (.lst (xs++zs)))
theorem kit:OpR X (binaryOp .Add) rCat:=by
 intro pins s σ H x y v u Q I rx ry h
 obtain⟨l,b,xs,zs,rfl,rfl,hH,hB,hz,q⟩:=h
 cases rx
 cases ry
 obtain⟨z,its,n,r,hl,e⟩:=I.lstM hH
 obtain⟨z2,its2,n2,r2,hl2,e2⟩:=I.lstM hB
 refine PySem.P.add_list e e2 ?_ (by rw[JW,JW];lia)
 have ea:its.toArray++its2.toArray=(its++its2).toArray:=by simp
 rw[ea]
 rwa[.ref _,_,I.lnew (t':=s.toks) (r.append r2) (by rw[JN];lia),6,q _ I.fresh]
def rRep:R2:=fun x y H Q=>∃l k xs,x=.ref l/\y=.int k/\H l>>(.lst xs)/\-(2 ^ 63)<=k/\k<2 ^ 63/\xs.length*k.toNat<=sizeLine/\
 ∀p,H p=none->Q (.ref p) (upd H p (.lst (JE k.toNat xs).flatten))
theorem len_rep{α:Type}(xs:List α)(k:Nat):(JE k xs).flatten.length=k*xs.length:=by
 induction k with
 |zero=>simp
 |succ k ih=>rw[N2,J9,JN,ih,Nat.succ_mul,Nat.add_comm]
theorem kmb:OpR X (binaryOp .Mult) rRep:=by
 intro pins s σ H x y v u Q I rx ry h
 obtain⟨l,k,xs,rfl,rfl,hH,h1,h2,hz,q⟩:=h
 cases rx
 obtain⟨t,rfl⟩:=ry
 obtain⟨z,its,n,r,hl,e⟩:=I.lstM hH
 have hlen:its.toArray.size*k.toNat<=sizeLine:=by rw[JW,<-hl];exact hz
 have hcap:¬its.toArray.size*k.toNat > (2 ^ 63-1)/8:=by
  have:(sizeLine:Nat)<=(2 ^ 63-1)/8:=by decide
  lia
 have hfit:¬(!Builtin.List.listFitsIndex k)=true:=by
  rw[fitsIndex_both h1 h2]
  exact JD
 have hlong:¬Builtin.List.listTooLong (its.toArray.size*k.toNat)=true:=by
  rw[kiy hlen]
  exact JD
 have hnew:List.foldl (fun x1 x2=>x1++x2) #[] (JE (if its.toArray.isEmpty=true then 0 else k.toNat) its.toArray)=(JE k.toNat its).flatten.toArray:=by
  have f0:∀m:Nat,List.foldl (fun x1 x2=>x1++x2) #[] (JE m its.toArray)=(JE m its).flatten.toArray:=fun m=>by
   have:=foldl_rep its m []
   rw[NG] at this
   exact this
  rw[f0]
  cases its with
  |nil=>simp
  |cons a r'=>rw[if_neg (by simp)]
 refine wpAny_binaryOp_repeat_ref (T:="list") (U:="int") (by decide) ⟨_,e,rfl⟩ (fun s'=>typeIs_int s' k t) noFill_list_mul F.fills_int_mul F.slot_int_rmul repeat_list F.slot_int_index.lookup
  (call_meets F.slot_int_rmul (typeIs_int s k t) F.entry_int_rmul (F.args_int_rmul_2 _ _) (int___rmul___int_list k t l its.toArray n)
   ⟨e,rfl,⟨_,e,rfl⟩,call_meets F.slot_list_mul ⟨_,e,rfl⟩ F.entry_list_mul (F.args_list_mul_2 _ _) (AutoListH.list___mul___list_int_3 l its.toArray n k t hfit hcap hlong) ⟨e,?_⟩⟩)
 rw[hnew]
 rwa[.ref _,_,I.lnew (t':=s.toks) (r.rep k.toNat) (by rw[len_rep,Nat.mul_comm];exact hz),6,q _ I.fresh]
end
section
variable{prog:Program}{w:World}{A:Around}{E:Value->Shared->Prop}{s:Shared}
set_option maxRecDepth 100000 in
end
section
variable{X:Cx}
end
end L2
namespace Att
open PySem PySem.W PySem.Calls PyProof.Rows
theorem kfb{P:Params}{h:Heap}:∀(ns:List Int)(vs:List Value),WellAll P h vs (ns.map WData.int)->IntsAre vs ns:=by
 intro ns
 induction ns with
 |nil=>
  intro vs w
  rw[NZ] at w
  cases w
  exact .nil
 | cons n ns ih=>
  intro vs w
  rw[JG] at w
  cases w with
  |cons a b=>
   cases a
   exact .cons _ _ (ih _ b)
theorem kjM{l:OpenLaw}{n:Nat}(hn:l.most>>n){P:Params}{h:Heap}{args:List WData}{vals:List Value}
  (hpre:l.row.toRowW.claim.pre args=true)(hwl:WellAll P h vals args):
  ∃a vs ns,vals=[Value.ref a]/\args=[WData.list (ns.map WData.int)]/\h.get? a>>{cls:=.type "list",data:=.seq vs.toArray}/\IntsAre vs ns/\ns.length<=n:=by
 have hsh:WShape.hasAll [] args [.list .int]=true:=(pre_splitW hpre).1
 have hc:l.pre.holds [] {args:=args}=true:=(pre_splitW hpre).2
 obtain⟨d,r,rfl,h1,h2⟩:=hasAllW_cons hsh
 obtain rfl:=hasAllW_nil h2
 obtain⟨xs,rfl,h3⟩:=hasW_list h1
 obtain⟨ns,rfl⟩:=items_int h3
 have hlen:ns.length<=n:=by
  unfold OpenLaw.pre at hc
  have h4:(WTm.not (.lt (.lit (.int (n:Int))) (.len (.arg 0)))).holds [] {args:=[.list (ns.map .int)]}=true:=by
   have h4:=(holds_andW hc).1
   rw[hn] at h4
   exact h4
  have h5:=condW_of h4 (w_not (w_lt w_lit (w_len_list (w_arg rfl))))
  rw[Jv] at h5
  refine Nat.le_of_not_lt fun q=>?_
  have q':(n:Int)<((ns.length:Nat):Int):=by lia
  first
   |(rw[decide_eq_true q'] at h5;exact absurd h5 (by decide))
   |(simp at h5;lia)
 cases hwl with
 |cons w1 w2=>
  cases w2
  cases w1 with
  |list ho hall=>exact⟨_,_,ns,rfl,rfl,ho,kfb ns _ hall,hlen⟩
def kj1(l:OpenLaw)(args:List WData):l.row.toRowW.claim.post args (.bool true) args=true:=
 postW_of (r:=l.row.toRowW) (X:=(true==true))
  (show WShape.has [] (.bool true) .bool=true by first|rfl|decide|simp[WShape.has,WShape.arms,WShape.armsAll])
  (show(WTm.eq .res (.lit (.bool true))).value [] {args:=args,res:=some (.bool true),after:=args}>>(.bool (true==true)) from w_eq_bool (w_res rfl) w_lit) rfl
theorem attach_call{l:OpenLaw}{n:Nat}{q:Program}{loose:List Str}{XP:(Str->Option Value)->Heap->Prop}{YP:World->Heap->Prop}{d:DefRec}
  (hn:l.most>>n)(hdf:d.params.defaults=[])
  (call:∀(w:World)(s₀ s₁:Shared)(mg mb:Str->Option Value)(fa:Addr)(o:Obj)(pm cd doc:Value)(a:Addr)(vs:List Value)(ns:List Int),
   Ground q loose [] XP w s₀ mg mb s₁.heap->YP w s₁.heap->
   s₁.heap.get? fa>>o->o.data=.func (docDef d.name d.params d.body d.scope pm cd doc)->s₁.heap.CodeRec cd d.name->mg d.name>>(.ref fa)->
   s₁.heap.get? a>>{cls:=.type "list",data:=.seq vs.toArray}->IntsAre vs ns->ns.length<=n->s₁.gens= #[]->
   codeAny (model l.prog w) callerA (.call (.ref fa) ⟨[.ref a],[]⟩) (fun r s'=>r=.ok (.ret (.bool true))/\OldK s₁.heap s'.heap/\s'.os=s₁.os/\AllBare s'.gens) s₁):
  WalkO q loose XP YP l.row.toRowW d [] (fun f vs=>PySem.call f vs):=by
 intro w s₀ s₁ mg mb G Y fa o pm cd doc dV kV ho hd hcd hD hmg hg args vals as hpre hlay hrd hwl hlo
 obtain rfl:dV=.none:=Dflts.none hD hdf
 obtain rfl:kV=.none:=Dflts.noKw hD
 obtain⟨a,vs,ns,rfl,rfl,hobj,hints,hlen⟩:=kjM hn hpre hwl
 refine enter_call (codeAny_mono (call w s₀ s₁ mg mb fa o pm cd doc a vs ns G Y ho (fd_plain hd) hcd hmg hobj hints hlen hg) fun r s' hq=>?_)
 obtain⟨rfl,h2,h3,h4⟩:=hq
 rwa[.inl ⟨.bool true, .bool true,[],rfl,fun _=>rfl, .bool true,kj1 l _,fun _=>⟨NH.nil,fun _ hm=>(nomatch hm)⟩⟩,h2,h3,h4]
section
variable{prog:Program}{w:World}{A:Around}{E:Value->Shared->Prop}{s:Shared}{K:Frag}
end
end Att
namespace L2
open PySem PySem.Spec PyProof.Rows
theorem kgx{vs:List Value}{ns:List Int}(h:IntsAre vs ns):Vals (ns.map V.int) vs:=by
 induction h with|nil=>exact .nil|cons n t h ih=>exact .cons ⟨t,rfl⟩ ih
noncomputable def inClass(s:Stmt)(j:Nat):Stmt:=match s with
 | .ClassDef _ _ _ body _ _ _ _ _ _ _=>body.getD j (.Pass ⟨0,0,0,0⟩)
 |_=>.Pass ⟨0,0,0,0⟩
noncomputable def kaE(s:Stmt):Arguments:=match s with
 | .FunctionDef _ a _ _ _ _ _ _ _ _=>a
 |_=>{posonlyargs:=[],args:=[],vararg:=none,kwonlyargs:=[],kw_defaults:=[],kwarg:=none,defaults:=[]}
noncomputable def kaD(s:Stmt):List Stmt:=match s with
 | .FunctionDef _ _ b _ _ _ _ _ _ _=>b
 |_=>[]
noncomputable def kah(s:Stmt):Scope:=match s with
 | .FunctionDef _ _ _ _ _ _ sc _ _ _=>sc
 |_=>{kind:=.function,names:=[],isGenerator:=false,isCoroutine:=false}
abbrev CX0:CXT:=fun _ _ _ _ _ _=>False
abbrev E0:XK:=fun _ _ _=>False
def pass0{X:Cx}:kdN CX0 X E0:=fun _ _ _ _ _ _ _ h=>h.elim
section
variable{P:Program}{w:World}{K:Jw}{mg:Str->Option Value}{base:Heap}
end
def hu_of{A:Around}{k:Nat}(hr:Room k A):A.units+1<cLine:=NU (Nat.add_le_add_left (by decide:1<=64) _) hr.units
def kas{n:Nat}(h:n<=1000):n<sizeLine:=NU h (by decide)
section
variable{X:Cx}
theorem pv(i:Nat){x:Str}{pos:Pos}(hN:autoParam (X.N[i]?>>x) jz)(hv:autoParam (Vis X.env.scope x) jX)(hd:autoParam ((x==("__debug__" :Str))=false) jQ)
  (hcd:autoParam ((x==("__classdict__" :Str))=false) jQ):PE X (.Name x pos) (tVar i):=knt hN hv hd hcd
end
def iteF{A B:Prop}(h:B):if false=true then A else B:=by
 rw[if_neg JD]
 exact h
def iteT{A B:Prop}(h:A):if true=true then A else B:=by
 rw[if_pos rfl]
 exact h
def ite2{c A B:Prop} [Decidable c] (h1:c->A) (h2:¬c->B):if c then A else B:=by
 by_cases h:c
 ·rw[if_pos h]
  exact h1 h
 ·rw[if_neg h]
  exact h2 h
end L2
namespace L2
open PySem PySem.Spec PyProof.Rows
section
variable{X:Cx}
theorem log2_small{n:Nat}(h:n<2 ^ 200):n.log2<9000:=by
 by_cases h0:n=0
 ·subst h0
  decide
 ·have h1:n.log2<200:=(Nat.log2_lt h0).mpr h
  lia
def CDivB(_ j:Int):Prop:=0<j/\j<2 ^ 199
theorem kis:OpR X (binaryOp .FloorDiv) (rI CDivB fun i j=>.int (i/j)):=opI fun i j _ _ _ _ _ hc q=>by
 have h1:(0:Int)<j:=hc.1
 have h2:j<2 ^ 199:=hc.2
 have h3:j.natAbs<2 ^ 200:=by lia
 exact floordiv_int (by lia) (by rw[Int.fdiv_eq_ediv_of_nonneg i (by lia)];exact q) (.inl (PyProof.noPylong_of_log2 (log2_small h3)))
theorem kcM(hc:X.calm=true):CallR X (.builtin "sum") (fun xs H Q=>∃(p:Addr)(ns:List Int),xs=[.ref p]/\SqL X.K H p (ns.map V.int)/\Q (.int ns.sum) H):=by
 intro pins s σ H xs us Q I r h
 obtain⟨p,ns,rfl,hq,q⟩:=h
 obtain⟨u,rfl,rx⟩:=vals1 r
 cases rx
 obtain⟨its,r',pl,hz⟩:=I.list hq
 have hi:IntsAre its ns:=intsAre_of r'
 have ha:=hi.allInts
 obtain⟨zs,hx⟩:=ha.items
 have hl:=pl.isList
 rw[hx] at hl
 refine sum_intListG (I.ok.hd hc) hl fun h' tk t' hk=>⟨.int ns.sum,H,I.kept hk,⟨t',?_⟩,q⟩
 have e2:preSum (numAt zs) zs.size=(numsOf (intItems zs).toList).sum:=by
  rw[nums_intItems,preSum_eq,N9 (by simp)]
 have e3:numsOf its.toArray.toList=ns:=hi.numsOf
 rw[e2,<-hx,e3]
noncomputable def eqVs:List V->List V->Bool
 |[],[]=>true
 |x::xs,y::ys=>eqV x y&&eqVs xs ys
 |_,_=>false
theorem kgn:∀{xs ys:List V},xs.length≠ys.length->eqVs xs ys=false
 |[],[],h=>absurd rfl h
 |[],_::_,_=>rfl
 |_::_,[],_=>rfl
 |x::xs,y::ys,h=>by
  show(eqV x y&&eqVs xs ys)=false
  rw[kgn (fun e=>h (by simp[e])),Bool.and_false]
theorem kc8:∀(xs ys:List V),xs.length=ys.length->(Jy xs.length).all (fun j=>eqV (xs.getD j .non) (ys.getD j .non))=eqVs xs ys
 |[],[],_=>rfl
 |[],_::_,h=>by simp at h
 |_::_,[],h=>by simp at h
 |x::xs,y::ys,h=>by
  have ih:=kc8 xs ys (by simpa using h)
  show(Jy (xs.length+1)).all _=(eqV x y&&eqVs xs ys)
  rw[List.range_succ_eq_map,ML,List.all_map]
  show(eqV x y&&_)=_
  rw[<-ih]
  rfl
theorem kiK{x:V}(h:flatV x=true):eqV x x=true:=by
 cases x<;>first|rfl|(simp[eqV];done)|cases h
theorem kfe:∀{xs:List V},xs.all flatV=true->eqVs xs xs=true
 |[],_=>rfl
 |x::xs,h=>by
  rw[ML,NT] at h
  show(eqV x x&&eqVs xs xs)=true
  rw[kiK h.1,kfe h.2]
  rfl
theorem kff:∀{ns ms:List Int},eqVs (ns.map V.int) (ms.map V.int)=decide (ns=ms)
 |[],[]=>by simp[eqVs]
 |[],_::_=>by simp[eqVs]
 |_::_,[]=>by simp[eqVs]
 |n::ns,m::ms=>by
  show((n==m)&&eqVs (ns.map V.int) (ms.map V.int))=_
  rw[kff]
  by_cases h:n=m <;> by_cases h':ns=ms <;> simp[h,h']
theorem kbR(ns:List Int):(ns.map V.int).all flatV=true:=by
 rw[Ma]
 intro x hx
 obtain⟨n,_,rfl⟩:=JP.mp hx
 rfl
def rEqL(K:Jw)(neg:Bool):R2:=fun x y H Q=>∃a b xs ys,x=.ref a/\y=.ref b/\SqL K H a xs/\SqL K H b ys/\xs.all flatV=true/\ys.all flatV=true/\Q (.bl (if neg then !eqVs xs ys else eqVs xs ys)) H
theorem kkH{xs:List V}(h:xs.all flatV=true){j:Nat}(hj:j<xs.length):flatV xs[j]=true:=by
 rw[Ma] at h
 exact h _ (Mw hj)
theorem kfg{A:Around}{s:Shared}{xs ys:List V}{us ws:List Value}(r:Vals xs us)(q:Vals ys ws)(fx:xs.all flatV=true)(fy:ys.all flatV=true):
  ∀j (h1:j<us.toArray.size) (h2:j<ws.toArray.size),SeqAt.EqAt A s us.toArray[j] ws.toArray[j] (eqV (xs.getD j .non) (ys.getD j .non)):=by
 intro j h1 h2
 have l1:=r.length
 have l2:=q.length
 have h1':j<us.length:=by simpa using h1
 have h2':j<ws.length:=by simpa using h2
 have k1:j<xs.length:=by lia
 have k2:j<ys.length:=by lia
 obtain⟨u,e1,r1⟩:=r.get (i:=j) (x:=xs[j]) (by simp[k1])
 obtain⟨w,e2,r2⟩:=q.get (i:=j) (x:=ys[j]) (by simp[k2])
 have g1:us.toArray[j]=u:=by
  have:=JK.mp e1
  obtain⟨_,e⟩:=this
  simpa using e
 have g2:ws.toArray[j]=w:=by
  have:=JK.mp e2
  obtain⟨_,e⟩:=this
  simpa using e
 have d1:xs.getD j .non=xs[j]:=by simp[k1]
 have d2:ys.getD j .non=ys[j]:=by simp[k2]
 rw[g1,g2,d1,d2]
 exact kfM r1 r2 (kkH fx k1) (kkH fy k2)
theorem knw(hu:X.A.units<cLine):OpR X (compareOp .Eq) (rEqL X.K false):=by
 intro pins s σ H x y v u Q I rx ry h
 obtain⟨a,b,xs,ys,rfl,rfl,hx,hy,fx,fy,q⟩:=h
 cases rx
 cases ry
 obtain⟨us,r1,p1,z1⟩:=I.list hx
 obtain⟨ws,r2,p2,z2⟩:=I.list hy
 have l1:=r1.length
 have l2:=r2.length
 by_cases hl:xs.length=ys.length
 ·refine SeqAt.eq_listAt p1.isList p2.isList (by simp;lia) hu (kfg r1 r2 fx fy) ⟨.bl (eqVs xs ys),H,I,?_,q⟩
  have e:us.toArray.size=xs.length:=by simp[l1]
  rw[e,kc8 xs ys hl]
  rfl
 ·refine SeqAt.eq_list_lengthsAt p1.isList p2.isList (by simp;lia) hu ⟨.bl (eqVs xs ys),H,I,?_,q⟩
  rw[kgn hl]
  rfl
noncomputable def cV:V->Value
 | .ty n=>.type n
 | .ref a=>.ref a
 |_=>.none
theorem ka2:CallR X (.builtin "isinstance") (fun xs H Q=>∃x c t b,xs=[x,c]/\((∃n,c=.ty n)∨∃a,c=.ref a)/\TyOf X.K H x t/\JZ X.K t (cV c)>>b/\Q (.bl b) H):=by
 intro pins s σ H xs us Q I r h
 obtain⟨x,c,t,b,rfl,hc,ty,e,q⟩:=h
 obtain⟨u,w',rfl,r1,r2⟩:=vals2 r
 have ew:w'=cV c:=by
  rcases hc with⟨n,rfl⟩|⟨a,rfl⟩
  ·exact r2
  ·exact r2
 subst ew
 exact kkx I r1 ty e fun tk=>⟨.bl b,H,I.tok tk,rfl,q⟩
theorem b_isi:bootBuiltins "isinstance">>(.builtin "isinstance"):=by cutsat
theorem knP:bootBuiltins "bool">>(.type "bool"):=by cutsat
theorem kbF:bootBuiltins "list">>(.type "list"):=by cutsat
theorem b_sum:bootBuiltins "sum">>(.builtin "sum"):=by cutsat
theorem b_min:bootBuiltins "min">>(.builtin "min"):=by cutsat
theorem b_max:bootBuiltins "max">>(.builtin "max"):=by cutsat
theorem b_len:bootBuiltins "len">>(.builtin "len"):=by cutsat
theorem kcJ(K:Jw)(t:Value):JZ K t t>>true:=by
 unfold JZ
 rw[if_pos (by simp)]
def tCut(t:TS):TS:=fun D σ H=>∃P:St->Hp->Prop,t {D with nx:=P} σ H/\∀σ' H',P σ' H'->D.nx σ' H'
theorem kcn{st:Stmt}{t:TS}(h:PS X st t):PS X st (tCut t):=by
 intro pins s σ H D I hw
 obtain⟨P,h1,h2⟩:=hw
 refine thn (h pins s σ H {D with nx:=P} I h1) fun f s' q=>?_
 cases f with
 |next=>
  obtain⟨σ',H',I',q'⟩:=q
  rwa[σ',H',I',h2 σ' H' q']
 |brk=>exact q
 |cont=>exact q
 |ret u=>exact q
def tCutE(t:TE):TE:=fun σ H Q=>∃P:V->Hp->Prop,t σ H P/\∀v H',P v H'->Q v H'
theorem kl9{e:Expr}{t:TE}(h:PE X e t):PE X e (tCutE t):=by
 intro pins s σ H Q I hw
 obtain⟨P,h1,h2⟩:=hw
 exact thn (h pins s σ H P I h1) fun u s' ⟨v,H',I',r,q⟩=>⟨v,H',I',r,h2 v H' q⟩
noncomputable def Its(lo st:Int)(n:Nat):It:=⟨fun i _=>i<n,fun i H x H'=>H'=H/\x=.int (lo+i*st),fun i _=>n<=i⟩
theorem kje{P:Program}{w:World}{K:Jw}{tg:Expr}(it:Addr)(lo st:Int)(n:Nat):Turn P w K tg (Its lo st n) [it] it (fun i h=>IsRangeIter h it (lo+(i:Nat)*st) ((n:Int)-(i:Nat)) st) where
 mem:=by simp
 obj:=fun i h st b hb=>by
  have e:b=it:=by simpa using hb
  subst e
  exact⟨_,st,fun v z=>by
   have z':Data.fields _=Data.cell v:=z
   cases z'⟩
 keep:=fun i h h' st k=>k it (by simp) _ st
 item:=by
  intro X hP hw hK hc i pins s σ H E I hf st' hg
  subst hP hw hK
  obtain⟨f0,f1,f2,f3,f4,f5⟩:=hf it (by simp)
  have W:=Walks.range (prog:=X.prog) (w:=X.w) (I.ok.hd hc) it lo st n
  refine W.item i s _ _ hg st' fun v h' tk hv st'' kk=>?_
  obtain⟨t,rfl⟩:=hv
  have I1:Inv X pins σ H {s with heap:=h',toks:=tk}:=I.turned (fun b o hb e=>kk b o (by simpa using hb) e) f0 f1 f3 f4 f5
  rwa[8,go_of (s:={s with heap:=h',toks:=tk}) (n:="range_iterator") st'' rfl rfl (by decide) ⟨.int (lo+i*st),H,I1,⟨t,rfl⟩,⟨rfl,rfl⟩,st'',fun b hb=>(hf b hb).1⟩]
 done:=by
  intro X hP hw hK hc i pins s σ H E I hf st hg
  subst hP hw hK
  obtain⟨f0,f1,f2,f3,f4,f5⟩:=hf it (by simp)
  exact wpAny_pyNext_range_end (I.ok.hd hc) st (by have:n<=i:=hg;lia) fun h' eb=>⟨rfl,I.turned (t':=s.toks) (fun b o hb e=>eb b o hb e) f0 f1 f3 f4 f5⟩
 self:=fun _ _ _ _ _ st h=>wpAny_pyIter_rangeiter st h
theorem kgK{a b c:Int}(hc:0<c)(ha: -(2 ^ 31)<=a/\a<2 ^ 31)(hb: -(2 ^ 31)<=b/\b<2 ^ 31):0<=Builtin.Range.rangeSize a b c/\Builtin.Range.rangeSize a b c<2 ^ 33:=by
 unfold Builtin.Range.rangeSize
 rw[if_pos hc]
 split
 ·have h1:0<=(b-a-1)/c:=Int.ediv_nonneg (by lia) (by lia)
  have h2:(b-a-1)/c<=b-a-1:=Int.ediv_le_self _ (by lia)
  lia
 ·lia
theorem kiU{a b c:Int}(hc:0<c)(hc2:c<2 ^ 30)(ha: -(2 ^ 31)<=a/\a<2 ^ 31)(hb: -(2 ^ 31)<=b/\b<2 ^ 31):Builtin.Range.small a b c=true:=by
 have h:=kgK hc ha hb
 unfold Builtin.Range.small
 generalize Builtin.Range.rangeSize a b c=n at h
 simp only[Builtin.Range.rangeFitsLong,NT,En,decide_eq_true_eq,beq_iff_eq,show c > 0 from hc,if_true]
 lia
end
def knN(xs:List V)(k:Nat):cutV xs none (some (k:Int))=xs.take k:=by
 unfold cutV
 rw[HT.sIx_none,HT.sIx_nat,List.drop_zero,Nat.sub_zero,EM]
 lia
def klQ(ns:List Int)(lo hi:Option Int):∃ms:List Int,cutV (ns.map V.int) lo hi=ms.map V.int/\ms.length<=ns.length:=by
 rwa[(ns.drop (HT.sIx ns.length 0 lo)).take (HT.sIx ns.length ns.length hi-HT.sIx ns.length 0 lo),?_,?_]
 ·unfold cutV
  rw[Jv,<-Eo,<-Mx]
 ·rw[JV,Mm]
  lia
def Inv.adopt{X:Cx}{pins:List (Addr×Obj)}{σ:St}{H:Hp}{s:Shared}{a:Addr}{o:HO}(I:Inv X pins σ H s)(f:FpOk X pins H a)(h0:X.s₀.heap.objs.size<=a)(new:ObjOk X.prog X.w (upd H a o) s.heap a o):Inv X pins σ (upd H a o) s:=by
 obtain⟨hn,hL,_,_,hC,hp⟩:=f
 have nt:∀b u,H b>>u->b≠a:=fun b u e=>kai e hn
 rwa[I.ok,I.os,I.bare,⟨I.base.keep,I.base.slot,fun b ob e n hx=>?_,I.base.there,fun b xs e=>?_,fun b ob u e=>?_,fun b ps e=>?_⟩,I.loc,I.cell,?_,fun x c e=>?_,fun p hp'=>?_,fun b u e=>?_,I.len]
 ·rw[kak (J5 (J6 (Heap.lt_size e) h0))]
  exact I.base.free b ob e n hx
 ·have q:=I.base.tups b xs e
  rw[kak (nt _ _ q)]
  exact q
 ·have q:=I.base.frzs b ob u e
  rw[kak (nt _ _ q)]
  exact q
 ·obtain⟨m,q⟩:=I.base.tbls b ps e
  rwa[m,by rw[kak (nt _ _ q)];exact q]
 ·rw[kak (Ne.symm hL)]
  exact I.free
 ·rw[kak (hC x c e)]
  exact I.freeC x c e
 ·obtain⟨e,n,r⟩:=I.pin p hp'
  rwa[e,by rw[kak (hp p hp')];exact n,r]
 ·by_cases hb:b=a
  ·subst hb
   rw[kae] at e
   cases e
   exact new
  ·rw[kak hb] at e
   exact(I.hok b u e).stay (fun c v _ q=>q) (fun c q=>by rw[kak (nt _ _ q)];exact q) fun c xs q=>by rw[kak (nt _ _ q)];exact q
noncomputable def capσ(cap:List (Option Nat))(σ:St):St:=cap.map fun o=>match o with
 |some i=>(σ[i]?).getD none
 |none=>none
noncomputable def closL(cells:List (Str×Addr))(names:List (Str×NameKind)):List (Str×Addr)->List (Str×Addr):=fun acc=>names.foldl (fun acc p=>if p.2== .free then(p.1,(cells.lookup p.1).getD 0)::acc else acc) acc
theorem kfc{α β:Type}{f: α->β->Sem (ForInStep β)}{g: β->α->β}:∀(l:List α)(b: β),(∀x∈l,∀b,f x b=pure (.yield (g b x)))->forIn l b f=pure (l.foldl g b)
 |[],b,_=>by rw[List.forIn_nil];rfl
 |x::l,b,h=>by
  rw[List.forIn_cons,h x JS]
  show forIn l (g b x) f=_
  rw[kfc l (g b x) fun y hy=>h y (JQ _ hy)]
  rfl
def kgq{scope:Scope}{env:Env}(h:∀x∈scope.names,x.2=.free->∃c,env.cells.lookup x.1>>c):closureFor scope env=pure (closL env.cells scope.names []):=by
 unfold closureFor
 dsimp only
 rw[kfc (g:=fun acc p=>if p.2== .free then(p.1,(env.cells.lookup p.1).getD 0)::acc else acc) scope.names [] fun x hx b=>?_]
 ·rfl
 ·obtain⟨n,k⟩:=x
  by_cases hk:k=.free
  ·subst hk
   obtain⟨c,ec⟩:=h _ hx rfl
   have ec':env.cells.lookup n>>c:=ec
   have e1:cellOf env n=pure c:=by unfold cellOf;rw[ec']
   simp only[beq_self_eq_true,if_true,e1,ec',Option.getD_some]
   rfl
  ·have:(k==NameKind.free)=false:=by simpa using hk
   simp only[this,Ng,if_false]
def kfO(cells:List (Str×Addr))(p:Str×NameKind)(r:List (Str×NameKind))(acc:List (Str×Addr)):closL cells (p::r) acc=closL cells r (if p.2== .free then(p.1,(cells.lookup p.1).getD 0)::acc else acc):=rfl
theorem keD{cells:List (Str×Addr)}{x:Str}{c:Addr}:∀(names:List (Str×NameKind))(acc:List (Str×Addr)),(closL cells names acc).lookup x>>c->(((x,NameKind.free)∈names/\c=(cells.lookup x).getD 0)∨acc.lookup x>>c)
 |[],acc,h=>.inr h
 | (n,k)::r,acc,h=>by
  rw[kfO] at h
  rcases keD r _ h with⟨h1,h2⟩|h1
  ·exact .inl ⟨JQ _ h1,h2⟩
  ·by_cases hk:k=.free
   ·subst hk
    simp only[beq_self_eq_true,if_true] at h1
    rw[Nj] at h1
    by_cases hx:x=n
    ·subst hx
     simp only[beq_self_eq_true] at h1
     exact .inl ⟨JS,(Option.some.inj h1).symm⟩
    ·have hb:(x==n)=false:=beq_eq_false_iff_ne.mpr hx
     rw[hb] at h1
     exact .inr h1
   ·have:(k==NameKind.free)=false:=by simpa using hk
    simp only[this,Ng,if_false] at h1
    exact .inr h1
theorem kc5{cells:List (Str×Addr)}{x:Str}:∀(names:List (Str×NameKind))(acc:List (Str×Addr)),((x,NameKind.free)∈names∨∃c,acc.lookup x>>c)->∃c,(closL cells names acc).lookup x>>c
 |[],acc,h=>by
  rcases h with h|h
  ·cases h
  ·exact h
 | (n,k)::r,acc,h=>by
  rw[kfO]
  refine kc5 r _ ?_
  by_cases hm:(x,NameKind.free)∈r
  ·exact .inl hm
  ·refine .inr ?_
   rcases h with h|⟨c,h⟩
   ·rcases JY.mp h with e|h
    ·cases e
     simp[Nj]
    ·exact absurd h hm
   ·split
    ·rw[Nj]
     by_cases hx:x=n
     ·subst hx
      simp
     ·have hb:(x==n)=false:=beq_eq_false_iff_ne.mpr hx
      rw[hb]
      rwa[c,h]
    ·rwa[c,h]
theorem kcL:∀(names:List (Str×NameKind))(n:Nat)(acc acc':List (Str×Addr)),cellsFrom n names (acc++acc')=cellsFrom n names acc++acc'
 |[],_,_,_=>rfl
 |(m,k)::r,n,acc,acc'=>by
  unfold cellsFrom
  split
  ·exact kcL r (n+1) ((m,n)::acc) acc'
  ·exact kcL r n acc acc'
def kcl(names:List (Str×NameKind))(n:Nat)(acc:List (Str×Addr))(x:Str):(cellsFrom n names acc).lookup x=((cellsFrom n names []).lookup x).or (acc.lookup x):=by
 rw[<-List.lookup_append,<-kcL,NG]
theorem kcK{x:Str}:∀(names:List (Str×NameKind))(n:Nat)(acc:List (Str×Addr)),(x,NameKind.cell)∉names->(cellsFrom n names acc).lookup x=acc.lookup x
 |[],_,_,_=>rfl
 | (m,k)::r,n,acc,h=>by
  unfold cellsFrom
  by_cases hk:k=.cell
  ·subst hk
   simp only[beq_self_eq_true,if_true]
   rw[kcK r _ _ fun z=>h (JQ _ z),Nj]
   have hx:x≠m:=fun e=>h (by rw[e];exact JS)
   have hb:(x==m)=false:=beq_eq_false_iff_ne.mpr hx
   rw[hb]
  ·have:(k==NameKind.cell)=false:=by simpa using hk
   simp only[this,Ng,if_false]
   exact kcK r _ _ fun z=>h (JQ _ z)
noncomputable def relN(names ns:List (Str×NameKind)):List (Str×NameKind):=names.map fun(n,k)=>if(k== .free&&ns.lookup n==some .cell) then(n, .cell) else(n,k)
def kdv{scope:Scope}{env:Env}(hk:env.scope.kind=.function):(relabel scope env).names=relN scope.names env.scope.names:=by
 unfold relabel relN
 have e:(ScopeKind.function==ScopeKind.function)=true:=by decide
 simp only[hk,e,MN]
 rfl
theorem kdo{ns:List (Str×NameKind)}{x:Str}:∀(names:List (Str×NameKind)),(relN names ns).lookup x=(names.lookup x).map fun k=>if(k== .free&&ns.lookup x==some .cell) then .cell else k
 |[]=>rfl
 | (n,k)::r=>by
  have ih:=kdo (ns:=ns) (x:=x) r
  show NM x ((if(k== .free&&ns.lookup n==some .cell)=true then(n,NameKind.cell) else(n,k))::relN r ns)=_
  by_cases hx:x=n
  ·subst hx
   by_cases hc:(k== .free&&ns.lookup x==some .cell)=true
   ·rw[if_pos hc]
    simp only[Nj,beq_self_eq_true,N3]
    rw[if_pos hc]
   ·rw[if_neg hc]
    simp only[Nj,beq_self_eq_true,N3]
    rw[if_neg hc]
  ·have hb:(x==n)=false:=beq_eq_false_iff_ne.mpr hx
   by_cases hc:(k== .free&&ns.lookup n==some .cell)=true
   ·rw[if_pos hc]
    simp only[Nj,hb]
    exact ih
   ·rw[if_neg hc]
    simp only[Nj,hb]
    exact ih
theorem kmI{names ns:List (Str×NameKind)}{x:Str}(h:(relN names ns).lookup x>>.cell∨(relN names ns).lookup x>>.free):names.lookup x>>.cell∨names.lookup x>>.free:=by
 rw[kdo] at h
 cases e:names.lookup x with
 |none=>rw[e] at h;simp at h
 |some k=>
  rw[e] at h
  cases k <;> simp_all
def kjT{names ns:List (Str×NameKind)}{x:Str}(h:names.lookup x>>.free):(relN names ns).lookup x>>.cell∨(relN names ns).lookup x>>.free:=by
 rw[kdo,h]
 by_cases hc:ns.lookup x==some .cell
 ·left;simp[hc]
 ·right;simp[hc]
structure CompScope(X:Cx)(scope:Scope)(N:List Str)(cap:List (Option Nat)):Prop where
 kind:scope.kind=.function
 names:∀x∈scope.names,x.2=.local->scope.names.lookup x.1>>.local
 free:∀x∈scope.names,x.2=.free->X.env.scope.names.lookup x.1>>.cell∨X.env.scope.names.lookup x.1>>.free
 nd:N.Nodup
 len:cap.length=N.length
 cap:∀(j i:Nat)(x:Str),cap[j]?>>(some i)->N[j]?>>x->X.N[i]?>>x/\scope.names.lookup x>>.free/\(x,NameKind.cell)∉scope.names
noncomputable def kef(X:Cx)(scope:Scope)(C:Addr):List (Str×Addr):=cellsFrom (C+1) scope.names (closL X.env.cells scope.names [])
noncomputable def cxC(X:Cx)(scope:Scope)(N:List Str)(fp:List Addr)(s:Shared)(H:Hp)(C:Addr):Cx:=
 {X with N:=N,s₀:=s,H₀:=H,env:=compEnvC scope (kef X scope C) C X.env,outer:=X.stack,ex:=fp,fn:=fun x=>scope.names.lookup x==some .cell,pn:=[],xe:=fun _ _=>False}
theorem kgf{M:Model}{A:Around}{E:Value->Shared->Prop}{s:Shared}{scope:Scope}{globals:Addr}{cl:List (Str×Addr)}{qual:Str}{func:Option Addr}{code:Value}{outer:Env}{builtins:Addr}{Q:Env->Shared->Prop}
  (hQ:Q (newEnv scope s.heap.objs.size globals (cellsFrom (s.heap.objs.size+1) scope.names cl) qual func code (some outer) builtins) {s with heap:=pushCells (s.heap.push {cls:=.type "dict",data:=.dict #[]}) scope.names}):
  wpAny M A (newFunctionEnv scope globals cl [] qual func code (some outer) builtins) Q E s:=by
 simp only[newFunctionEnv,Option.isSome_some,if_true]
 refine wpAny_bind (wpAny_alloc ?_)
 refine wpAny_bind (wpAny_layCells _ (fun name kind cells=>by cases hkc:kind==NameKind.cell <;> simp[hkc]) _ _ _ _ ?_)
 rw[show({s with heap:=s.heap.push {cls:=.type "dict",data:=.dict #[]}}:Shared).heap.objs.size=s.heap.objs.size+1 from Heap.size_push ..]
 exact wpAny_bind (wpAny_pure (wpAny_pure hQ))
section
variable{X:Cx}{scope:Scope}{N:List Str}{cap:List (Option Nat)}{pins:List (Addr×Obj)}{σ:St}{H:Hp}{s:Shared}
theorem kjn(I:Inv X pins σ H s){b:Addr}(hb:b∈frs X.stack):b<s.heap.objs.size:=by
 obtain⟨_,o,ho,_⟩:=I.stack.mem hb
 exact Heap.lt_size ho
theorem kc4(S:CompScope X scope N cap)(I:Inv X pins σ H s):closureFor scope X.env=pure (closL X.env.cells scope.names []):=
 kgq fun x hx hf=>I.ok.has x.1 (S.free x hx hf)
theorem kcm{C:Addr}{x:Str}{c:Addr}(S:CompScope X scope N cap)(I:Inv X pins σ H s)(h:(kef X scope C).lookup x>>c):(cellsFrom (C+1) scope.names []).lookup x>>c∨X.env.cells.lookup x>>c:=by
 unfold kef at h
 rw[kcl] at h
 cases e:(cellsFrom (C+1) scope.names []).lookup x with
 |some c'=>
  rw[e] at h
  exact .inl h
 | none=>
  rw[e] at h
  have h':(closL X.env.cells scope.names []).lookup x>>c:=h
  rcases keD _ _ h' with⟨h1,h2⟩|h1
  ·obtain⟨c',ec⟩:=I.ok.has x (S.free _ h1 rfl)
   rw[ec] at h2
   rw[h2]
   exact .inr ec
  ·cases h1
theorem klD{fp:List Addr}{C D:Addr}{o:Obj}{s4:Shared}{m:Str->Option Value}(S:CompScope X scope N cap)(I:Inv X pins σ H s)(f:∀b∈fp,FpOk X pins H b)(hfp:∀b∈fp,b<s.heap.objs.size)
  (hk:∀b u,s.heap.get? b>>u->s4.heap.get? b>>u)(hns:s4.heap.Ns C m)(hC:s.heap.objs.size<=C)(hD:s.heap.objs.size<=D)(hDC:D≠C)(eD:s4.heap.get? D>>o)(hcell:∀v,o.data≠.cell v)
  (hnew:CellsOk s4.heap (C+1) (cellsFrom (C+1) scope.names []))(hos:s4.os=s.os)(hg:s4.gens=s.gens):Inv (cxC X scope N fp s H C) [(D,o)] (capσ cap σ) H s4:=by
 have stkne:∀b∈fp,b∉frs X.stack:=fun b hb hz=>by
  obtain⟨_,h1,h2,_⟩:=f b hb
  rcases JY.mp (I.stkSub b hz) with e|e
  ·exact h1 e
  ·exact h2 e
 have nw:∀{x:Str}{c:Addr},(cellsFrom (C+1) scope.names []).lookup x>>c->s4.heap.IsCell c none/\Nat.lt C c:=fun {x c} h=>hnew.empty x c (PySem.mem_of_lookup h)
 have od:∀{x:Str}{c:Addr},X.env.cells.lookup x>>c->c<s.heap.objs.size:=fun {x c} h=>let⟨_,q⟩:=I.cell x c h;q.lt
 refine⟨⟨I.ok.mod,S.kind,I.ok.glob,I.ok.blt,hC,fun x y c h1 h2=>?_,fun x h=>?_,fun x c h1 h2=>?_,I.ok.hd,I.ok.frames, .inl rfl,fun b hb=>⟨?_,fun x c e=>?_⟩,I.bs,JA I.ok.bsz I.sz,fun b ob e hb=>?_,stkne,I.stack,I.stkFree⟩,
  hos,by rw[hg];exact I.bare,Un.kept hk,⟨m,hns,fun j x v e1 e2 e3=>?_⟩,fun x c e=>?_,I.hok.fresh hC,fun x c e=>?_,fun p hp=>?_,I.hok.kept hk,?_⟩
 ·rcases kcm S I h1 with q1|q1 <;> rcases kcm S I h2 with q2|q2
  ·exact name_of_addr hnew.apart (PySem.mem_of_lookup q1) (PySem.mem_of_lookup q2)
  ·exact absurd (NU hC (nw q1).2) (Nat.not_lt_of_lt (od q2))
  ·exact absurd (NU hC (nw q2).2) (Nat.not_lt_of_lt (od q1))
  ·exact I.ok.inj x y c q1 q2
 ·have h':(relabel scope X.env).names.lookup x>>.cell∨(relabel scope X.env).names.lookup x>>.free:=h
  rw[kdv I.ok.kind] at h'
  show ∃c,(cellsFrom (C+1) scope.names (closL X.env.cells scope.names [])).lookup x>>c
  rw[kcl]
  rcases kmI h' with q|q
  ·obtain⟨c,e⟩:=keE (n:=C+1) q
   rwa[c,by rw[e];rfl]
  ·obtain⟨c,e⟩:=kc5 (cells:=X.env.cells) scope.names [] (.inl (PySem.mem_of_lookup q))
   cases e2:(cellsFrom (C+1) scope.names []).lookup x with
   |some c'=>exact⟨c',rfl⟩
   |none=>exact⟨c,e⟩
 ·have h1':(scope.names.lookup x==some .cell)=true:=h1
  have q:scope.names.lookup x>>.cell:=by simpa using h1'
  obtain⟨c',e⟩:=keE (n:=C+1) q
  have h2':(cellsFrom (C+1) scope.names (closL X.env.cells scope.names [])).lookup x>>c:=h2
  rw[kcl,e] at h2'
  have h3:c'=c:=Option.some.inj h2'
  rw[<-h3]
  exact JJ (NU hC (nw e).2)
 ·exact J5 (J6 (hfp b hb) hC)
 ·rcases kcm S I e with q|q
  ·exact NL (MO (J6 (hfp b hb) hC) (nw q).2)
  ·exact(f b hb).2.2.2.2.1 x c q
 ·obtain⟨_,_,_,h4,_⟩:=f b hb
  rcases h4 with h4|h4
  ·exact I.ok.noex b ob e h4
  ·exact absurd (J6 (Heap.lt_size e) (JA I.ok.bsz h4)) (ND _)
 ·
  have e2':(cap.map fun o=>match o with|some i=>(σ[i]?).getD none|none=>none)[j]?>>(some v):=e2
  rw[JF] at e2'
  cases ec:cap[j]? with
  |none=>rw[ec] at e2';cases e2'
  | some oi=>
   rw[ec] at e2'
   cases oi with
   |none=>cases e2'
   | some i=>
    have e4:(σ[i]?).getD none>>v:=Option.some.inj e2'
    have e5: σ[i]?>>(some v):=by
     cases q: σ[i]? with
     |none=>rw[q] at e4;cases e4
     |some w=>rw[q] at e4;exact congrArg some e4
    obtain⟨h1,hf,hnc⟩:=S.cap j i x ec e1
    have hm:=PySem.mem_of_lookup hf
    have h2:=S.free _ hm rfl
    obtain⟨mo,_,hl⟩:=I.loc
    obtain⟨u,ru,lk⟩:=hl i x v h1 e5 (.inr h2)
    have h3:(relabel scope X.env).names.lookup x>>.cell∨(relabel scope X.env).names.lookup x>>.free:=by
     rw[kdv I.ok.kind]
     exact kjT hf
    rwa[u,ru, .inr ⟨h3,?_⟩]
    rcases lk with⟨k1,_⟩|⟨_,c,ec',z⟩
    ·have k1':X.env.scope.names.lookup x>>.local:=k1
     rcases h2 with h2|h2 <;> rw[h2] at k1' <;> cases k1'
    ·obtain⟨c',ec2⟩:=kc5 (cells:=X.env.cells) scope.names [] (.inl hm)
     have ec3:(kef X scope C).lookup x>>c':=by
      unfold kef
      rw[kcK _ _ _ hnc]
      exact ec2
     rcases keD _ _ ec2 with⟨_,q2⟩|q2
     ·rw[ec'] at q2
      have q3:c'=c:=q2
      subst q3
      obtain⟨oc,ho,hd⟩:=z
      rwa[c',ec3,oc,hk _ _ ho,hd]
     ·cases q2
 ·rcases kcm S I e with q|q
  ·rwa[none,(nw q).1]
  ·obtain⟨v,oc,ho,hd⟩:=I.cell x c q
   rwa[v,oc,hk _ _ ho,hd]
 ·rcases kcm S I e with q|q
  ·exact I.hok.fresh (JA hC (JJ (nw q).2))
  ·exact I.freeC x c q
 ·have e:p=(D,o):=by simpa[cxC] using hp
  subst e
  rwa[eD,I.hok.fresh hD,hDC,fun hz=>absurd (kjn I hz) (MP.mpr hD),hcell]
 ·show(cap.map _).length=N.length
  rw[Jv,S.len]
theorem comp_back{fp:List Addr}{C:Addr}{σ':St}{H':Hp}{s':Shared}(I:Inv X pins σ H s)(f:∀b∈fp,FpOk X pins H b)(J:Inv (cxC X scope N fp s H C) [] σ' H' s'):Inv X pins σ H' s':=
 I.call' (ch:=fp) J.os J.base J.hok J.bare fun b hb=>let⟨_,h1,_,h3,h4,h5⟩:=f b hb;⟨h3,h1,h4,h5⟩
end
def PIf(X:Cx)(ifs:List Expr)(t:TT):Prop:=∀(pins:List (Addr×Obj))(s:Shared)(σ:St)(H:Hp)(Q:Bool->Hp->Prop),Inv X pins σ H s->t σ H Q->
 wpAny (model X.prog X.w) X.A (forIn ifs true fun c r=>if r=true then do let ok <-isTrue c X.env (eval c X.env);pure (ForInStep.yield ok) else pure (ForInStep.yield r)) (TP X pins σ Q) X.xe s
def tYes:TT:=fun _ H Q=>Q true H
def kj3{X:Cx}:PIf X [] tYes:=fun _ _ _ H _ I h=>wpAny_tests_nil ⟨H,I,h⟩
def kdX{X:Cx}{c:Expr}{t:TT}(h:PT X c t):PIf X [c] t:=fun pins s σ H Q I hw=>wpAny_tests_one (h pins s σ H Q I hw)
theorem khd{prog:Program}{w:World}{A:Around}{R:Result->Shared->Prop}{s:Shared}{elt target iter:Expr}{ifs:List Expr}{scope:Scope}{pos:Pos}{it acc:Value}{env:Env}(I:Nat->Shared->Prop)
  (turn:∀n s,I n s->wpAny (model prog w) A (pyNext it) (fun r s₁=>match r with
   |none=>R (.ok .next) s₁
   | some v=>wpAny (model prog w) A (letOwnedTupleGo target it v) (fun _ s₁'=>wpAny (model prog w) A (assign target env v) (fun _ s₂=>
     wpAny (model prog w) A (forIn ifs true fun c r=>if r=true then do let ok <-isTrue c env (eval c env);pure (ForInStep.yield ok) else pure (ForInStep.yield r)) (fun ok s₂'=>
      if ok=true then wpAny (model prog w) A (eval elt env) (fun x s₃=>
       wpAny (model prog w) A (call (.builtin "list.append") [acc,x]) (fun _ s₄=>∃m,m<n/\I m s₄) (fun _ _=>False) s₃) (fun _ _=>False) s₂'
      else ∃m,m<n/\I m s₂') (fun _ _=>False) s₂) (fun _ _=>False) s₁') (fun _ _=>False) s₁) (fun _ _=>False) s)
  (n:Nat)(h:I n s):codeAny (model prog w) A (.compLoop (.ListComp elt [⟨target,iter,ifs,0⟩] scope pos) 0 it acc env) R s:=by
 refine codeAny_loop rfl I (fun n s hI=>?_) n h
 show wpAny _ _ ((compTurn (.ListComp elt [⟨target,iter,ifs,0⟩] scope pos) 0 it acc env).onRaise (fun x=>do noteFrame x env;theTreesLotGoes x)) _ _ s
 refine wpAny_noted ?_
 rw[compTurn_list]
 refine wpAny_bind (wpAny_standAt (wpAny_bind (wpAny_mono (turn n s hI) (fun r s₁ h₁=>?_) fun _ _ h'=>h'.elim)))
 cases r with
 |none=>exact wpAny_pure h₁
 | some v=>
  refine wpAny_bind (wpAny_mono h₁ (fun _ s₁' h₁'=>?_) fun _ _ h'=>h'.elim)
  refine wpAny_bind (wpAny_mono h₁' (fun _ s₂ h₂=>wpAny_bind (wpAny_mono h₂ (fun ok s₂' h₂'=>?_) fun _ _ h'=>h'.elim)) fun _ _ h'=>h'.elim)
  cases ok with
  |false=>exact wpAny_pure ⟨rfl,h₂'⟩
  |true=>
   exact wpAny_bind (wpAny_bind (wpAny_mono h₂' (fun x s₃ h₃=>wpAny_bind (wpAny_mono h₃ (fun _ s₄ h₄=>wpAny_pure (wpAny_pure ⟨rfl,h₄⟩)) fun _ _ h'=>h'.elim)) fun _ _ h'=>h'.elim))
def knn(wi:TI)(cap:List (Option Nat))(g:TG)(tt:TT)(te:TE):TE:=fun σ H Q=>wi σ H fun J H1=>∃W:Nat->Nat->St->List V->Hp->Prop,(∃m,W 0 m (capσ cap σ) [] H1)/\∀i m σ' ys H',W i m σ' ys H'->
 (J.stop i H'/\∀D,H' D=none->Q (.ref D) (upd H' D (.lst ys)))∨(J.go i H'/\ys.length<sizeLine/\∃(N:St->V->Hp->Prop)(N0:St->Hp->Prop),(∀σ2 y H4,N σ2 y H4->∃m',m'<m/\W (i+1) m' σ2 (ys++[y]) H4)/\(∀σ2 H4,N0 σ2 H4->∃m',m'<m/\W (i+1) m' σ2 ys H4)/\
  ∀x H2,J.yld i H' x H2->g x σ' H2 fun σ2 H3=>tt σ2 H3 fun b H4=>if b=true then te σ2 H4 (N σ2) else N0 σ2 H4)
def tComp(wi:TI)(cap:List (Option Nat))(g:TG)(te:TE):TE:=fun σ H Q=>wi σ H fun J H1=>∃W:Nat->Nat->St->List V->Hp->Prop,(∃m,W 0 m (capσ cap σ) [] H1)/\∀i m σ' ys H',W i m σ' ys H'->
 (J.stop i H'/\∀D,H' D=none->Q (.ref D) (upd H' D (.lst ys)))∨(J.go i H'/\ys.length<sizeLine/\∃N:St->V->Hp->Prop,(∀σ2 y H4,N σ2 y H4->∃m',m'<m/\W (i+1) m' σ2 (ys++[y]) H4)/\
  ∀x H2,J.yld i H' x H2->g x σ' H2 fun σ2 H3=>te σ2 H3 (N σ2))
section
variable{X:Cx}{scope:Scope}{N:List Str}{cap:List (Option Nat)}{pins:List (Addr×Obj)}{σ:St}{H2:Hp}{s2:Shared}{tg elt iter:Expr}{ifs:List Expr}{pos:Pos}{g:TG}{tt:TT}{te:TE}
theorem kd7{fp:List Addr}{it:Addr}{tn:Nat->Heap->Prop}{J:It}{Q:VK}{RR:Value->Addr->Result->Shared->Prop}{E:Value->Shared->Prop}(S:CompScope X scope N cap)(hc:X.calm=true)
  (hg:∀fp s H C,PG (cxC X scope N fp s H C) tg g)(ht:∀fp s H C,PIf (cxC X scope N fp s H C) ifs tt)(he:∀fp s H C,PE (cxC X scope N fp s H C) elt te)
  (I2:Inv X pins σ H2 s2)(T:Turn X.prog X.w X.K tg J fp it tn)(st2:tn 0 s2.heap)(f2:∀b∈fp,FpOk X pins H2 b)
  (W:Nat->Nat->St->List V->Hp->Prop){m0:Nat}(w0:W 0 m0 (capσ cap σ) [] H2)
  (turn:∀i m σ' ys H',W i m σ' ys H'->(J.stop i H'/\∀D,H' D=none->Q (.ref D) (upd H' D (.lst ys)))∨(J.go i H'/\ys.length<sizeLine/\∃(N:St->V->Hp->Prop)(N0:St->Hp->Prop),(∀σ2 y H4,N σ2 y H4->∃m',m'<m/\W (i+1) m' σ2 (ys++[y]) H4)/\(∀σ2 H4,N0 σ2 H4->∃m',m'<m/\W (i+1) m' σ2 ys H4)/\
   ∀x H2,J.yld i H' x H2->g x σ' H2 fun σ2 H3=>tt σ2 H3 fun b H4=>if b=true then te σ2 H4 (N σ2) else N0 σ2 H4))
  (hRR:∀(D C:Addr)(H':Hp)(s':Shared)(m:Str->Option Value),Inv X pins σ H' s'->FpOk X pins H' C->C≠D->s'.heap.Ns C m->Q (.ref D) H'->RR (.ref D) C (.ok .next) s'):
  wpAny (model X.prog X.w) X.A (newList []) (fun acc s₃=>wpAny (model X.prog X.w) X.A (newFunctionEnv scope X.env.globals (closL X.env.cells scope.names []) [] X.env.qual none .none (some X.env)) (fun cenv s₄=>
   codeAny (model X.prog X.w) X.A (.compStart (.ListComp elt [⟨tg,iter,ifs,0⟩] scope pos) 0 (.ref it) acc {cenv with scope:=relabel scope X.env}) (RR acc cenv.locals) s₄) E s₃) E s2:=by
 refine wpAny_newObj_type (kgf ?_)
 dsimp only
 generalize hP:s2.heap.push {cls:=.type "list",dict:=none,data:=.seq ([]:List Value).toArray}=P
 have hnew:CellsOk (pushCells (P.push {cls:=.type "dict",data:=.dict #[]}) scope.names) (P.objs.size+1) (cellsFrom (P.objs.size+1) scope.names []):=by
  have q:=cellsFrom_ok scope.names (P.push {cls:=.type "dict",data:=.dict #[]}) (P.objs.size+1) [] ⟨fun _ _ hm=>(nomatch hm),NH.nil⟩ (by rw[Heap.size_push];exact Jx _)
  rwa [Heap.size_push] at q
 have hns₁:(pushCells (P.push {cls:=.type "dict",data:=.dict #[]}) scope.names).Ns P.objs.size (fun _=>none):=(Heap.Ns.new P (.type "dict")).keeps (pushCells_keeps _ _)
 have keep₁:∀b o,P.get? b>>o->(pushCells (P.push {cls:=.type "dict",data:=.dict #[]}) scope.names).get? b>>o:=fun b o e=>pushCells_keeps _ _ b o (Heap.get?_push_of_some _ e)
 generalize pushCells (P.push {cls:=.type "dict",data:=.dict #[]}) scope.names=h₁ at hnew hns₁ keep₁⊢
 have hC:P.objs.size=s2.heap.objs.size+1:=by rw[<-hP,Heap.size_push]
 have hDC:s2.heap.objs.size≠P.objs.size:=by rw[hC];exact J5 (MJ _)
 have hCle:s2.heap.objs.size<=P.objs.size:=by rw[hC];exact NY _
 have hDle:s2.heap.objs.size<=s2.heap.objs.size:=Jx _
 have old:∀b o,s2.heap.get? b>>o->h₁.get? b>>o:=fun b o e=>keep₁ b o (hP▸Heap.get?_push_of_some _ e)
 have hacc:h₁.get? s2.heap.objs.size>>{cls:=.type "list",data:=.seq ([]:List Value).toArray}:=keep₁ _ _ (hP▸Heap.get?_push_size _ rfl)
 have hfp:∀b∈fp,b<s2.heap.objs.size:=fun b hb=>let⟨_,e,_⟩:=T.obj 0 _ st2 b hb;Heap.lt_size e
 generalize hDd:s2.heap.objs.size=D at hacc hDC hDle⊢
 rw[hDd] at hCle hC
 generalize P.objs.size=C at hnew hns₁ hC hDC hCle⊢
 have dne:∀b∈fp,D≠b:=fun b hb=>NL (hDd▸hfp b hb)
 have cne:∀b∈fp,b≠C:=fun b hb=>J5 (J6 (hDd▸hfp b hb) hCle)
 have stkne:∀b∈fp,b∉frs X.stack:=fun b hb hz=>by
  obtain⟨_,h1,h2,_⟩:=f2 b hb
  rcases JY.mp (I2.stkSub b hz) with e|e
  ·exact h1 e
  ·exact h2 e
 have dfs:D∉frs X.stack:=fun hz=>absurd (kjn I2 hz) (by rw[hDd];exact ND _)
 have dcell:∀x c,(kef X scope C).lookup x>>c->c≠D:=fun x c e z=>by
  rcases kcm S I2 e with e|e
  ·have q:Nat.lt C c:=(hnew.empty x c (PySem.mem_of_lookup e)).2
   rw[z] at q
   exact absurd (NU hCle q) (ND _)
  ·obtain⟨v,q⟩:=I2.cell x c e
   have:=q.lt
   rw[z,hDd] at this
   exact absurd this (ND _)
 have bcell:∀b∈fp,∀x c,(kef X scope C).lookup x>>c->c≠b:=fun b hb x c e=>by
  rcases kcm S I2 e with e|e
  ·have q:Nat.lt C c:=(hnew.empty x c (PySem.mem_of_lookup e)).2
   exact NL (MO (J6 (hDd▸hfp b hb) hCle) q)
  ·exact(f2 b hb).2.2.2.2.1 x c e
 have stat:∀{o:Obj}{H':Hp},(∀b∈fp,H' b=none)->∀b∈fp,FpOk (cxC X scope N fp s2 H2 C) [(D,o)] H' b:=fun {o H'} hn b hb=>
  ⟨hn b hb,cne b hb,stkne b hb, .inl hb,bcell b hb,fun p hp=>by
   have e:p=(D,o):=by simpa[cxC] using hp
   subst e
   exact dne b hb⟩
 have loop:∀s₃:Shared,s₃= {s2 with heap:=h₁}->
   codeAny (model X.prog X.w) X.A (.compLoop (.ListComp elt [⟨tg,iter,ifs,0⟩] scope pos) 0 (.ref it) (.ref D) (compEnvC scope (kef X scope C) C X.env)) (RR (.ref D) C) s₃:=by
  rintro s₃ rfl
  have I3:Inv (cxC X scope N fp s2 H2 C) [(D,_)] (capσ cap σ) H2 {s2 with heap:=h₁}:=
   klD S I2 f2 hfp old hns₁ (by rw[hDd];exact hCle) (by rw[hDd];exact Jx _) hDC hacc (fun v z=>by cases z) hnew rfl rfl
  refine khd (fun n s'=>∃i σ' ys H' its k,Inv (cxC X scope N fp s2 H2 C) [] σ' H' s'/\tn i s'.heap/\(∀b∈fp,H' b=none)/\H' D=none/\s'.heap.get? D>>{cls:=.type "list",data:=.seq (its:List Value).toArray k}/\Vals ys its/\ys.length<=sizeLine/\W i n σ' ys H') ?_ m0
   ⟨0,_,[],H2,[],_,I3.pins_of (fun p hp=>nomatch hp),T.keep _ _ _ st2 (fun b hb o e=>old b o e),fun b hb=>(f2 b hb).1,I2.hok.fresh (by rw[hDd];exact Jx _),hacc, .nil,J7 _,w0⟩
  rintro n s3 ⟨i,σ3,ys,H3,its,k,J3,st3,fr3,hD3,e3,r3,z3,w3⟩
  have J3':Inv (cxC X scope N fp s2 H2 C) [(D,{cls:=.type "list",data:=.seq its.toArray k})] σ3 H3 s3:=J3.pins_of fun p hp=>by
   have e:p=(D,{cls:=.type "list",data:=.seq its.toArray k}):=by simpa using hp
   subst e
   rwa[e3,hD3,hDC,dfs,fun v z=>by cases z]
  rcases turn i n σ3 ys H3 w3 with⟨stop,qn⟩|⟨go,hlt,N',N0',hN,hN0,step⟩
  ·refine thn (T.done (cxC X scope N fp s2 H2 C) rfl rfl rfl hc i _ s3 σ3 H3 (fun _ _=>False) J3' (stat fr3) st3 stop) fun r s4 zz=>?_
   obtain⟨hr,I4⟩:=zz
   subst hr
   have e4:=(I4.pin (D,{cls:=.type "list",data:=.seq its.toArray k}) (by simp[cxC])).1
   have B:Inv X pins σ H3 s4:=comp_back I2 f2 (I4.pins_of fun p hp=>nomatch hp)
   obtain⟨m,hm,_⟩:=I4.loc
   have fD:FpOk X pins H3 D:=I2.fpOk (by rw[hDd];exact Jx _) hD3
   have B':Inv X pins σ (upd H3 D (.lst ys)) s4:=B.adopt fD (by rw[<-hDd];exact I2.sz) ⟨z3,its,k,r3,e4⟩
   refine hRR D C _ s4 m B' (I2.fpOk (by rw[hDd];exact hCle) ?_) hDC.symm hm (qn D hD3)
   rw[kak hDC.symm]
   exact I4.free
  ·refine thn (T.item (cxC X scope N fp s2 H2 C) rfl rfl rfl hc i _ s3 σ3 H3 (fun _ _=>False) J3' (stat fr3) st3 go) fun r s4 zz=>?_
   obtain⟨u,hr,h4⟩:=zz
   subst hr
   refine thn h4 fun _ s5 zz=>?_
   obtain⟨x,H5,I5,r5,y5,st5,fr5⟩:=zz
   have I5':=I5.pinned (stat fr5) (T.obj _ _ st5)
   refine thn (hg fp s2 H2 C _ s5 σ3 H5 x u _ I5' r5 (step x H5 y5)) fun _ s6 zz=>?_
   obtain⟨σ6,H6,I6,q6⟩:=zz
   refine thn (ht fp s2 H2 C _ s6 σ6 H6 _ I6 q6) fun ok s6' zz=>?_
   obtain⟨H6',I6',q6'⟩:=zz
   cases ok with
   | false=>
    have q6':N0' σ6 H6':=by simpa using q6'
    obtain⟨m',hm',w7⟩:=hN0 σ6 H6' q6'
    have p7:=I6'.pin (D,{cls:=.type "list",data:=.seq its.toArray k}) (by simp[cxC])
    have e7:s6'.heap.get? D>>{cls:=.type "list",data:=.seq its.toArray k}:=p7.1
    have pf:∀b∈fp,∀o,s5.heap.get? b>>o->s6'.heap.get? b>>o/\H6' b=none:=fun b hb o e=>
     let z:=I6'.pin (b,o) (Nm _ (Nm _ (kda hb e)))
     ⟨z.1,z.2.1⟩
    rwa[m',hm',i+1,σ6,ys,H6',its,_,I6'.pins_of (fun p hp=>nomatch hp),T.keep _ _ _ st5 (fun b hb o e=>(pf b hb o e).1),fun b hb=>?_,p7.2.1,e7,r3,z3,w7]
    obtain⟨o,e,_⟩:=T.obj _ _ st5 b hb
    exact(pf b hb o e).2
   |true=>
   have q6':te σ6 H6' (N' σ6):=by simpa using q6'
   refine thn (he fp s2 H2 C _ s6' σ6 H6' _ I6' q6') fun v s7 zz=>?_
   obtain⟨y,H7,I7,r7,q7⟩:=zz
   obtain⟨m',hm',w7⟩:=hN σ6 y H7 q7
   have p7:=I7.pin (D,{cls:=.type "list",data:=.seq its.toArray k}) (by simp[cxC])
   have e7:s7.heap.get? D>>{cls:=.type "list",data:=.seq its.toArray k}:=p7.1
   have hl7:=r3.length
   refine call_meets F.slot_list_append ⟨_,e7,rfl⟩ F.entry_list_append (F.args_list_append_2 _ _) (PySem.list_append D its.toArray k v (by rw[JW];lia)) ⟨e7,?_⟩
   have q8:=PySem.IsL.update e7 (·.push v)
   have ex8:its.toArray.push v=(its++[v]).toArray:=by simp
   rw[ex8] at q8
   have pf:∀b∈fp,∀o,s5.heap.get? b>>o->s7.heap.get? b>>o/\H7 b=none:=fun b hb o e=>
    let z:=I7.pin (b,o) (Nm _ (Nm _ (kda hb e)))
    ⟨z.1,z.2.1⟩
   have I7':Inv (cxC X scope N fp s2 H2 C) [] σ6 H7 s7:=I7.pins_of fun p hp=>nomatch hp
   refine⟨m',hm',i+1,σ6,ys++[y],H7,its++[v],_,I7'.turned (it:=D) (fun b o hb e=>(Heap.get?_update_other _ _ (Ne.symm hb)).trans e) p7.2.1 hDC (.inr (by show s2.heap.objs.size<=D;rw[hDd];exact Jx _)) dcell (fun p hp=>nomatch hp),
    T.keep _ _ _ st5 (fun b hb o e=>(Heap.get?_update_other _ _ (dne b hb)).trans (pf b hb o e).1),fun b hb=>?_,p7.2.1,q8,r3.append (.cons r7 .nil),by rw[JN,Nv];lia,w7⟩
   obtain⟨o,e,_⟩:=T.obj _ _ st5 b hb
   exact(pf b hb o e).2
 have st1:tn 0 h₁:=T.keep _ _ _ st2 (fun b hb o e=>old b o e)
 exact codeAny_compStart_list (loop _ rfl) (T.self X.A 0 _ _ _ st1 (loop _ rfl))
theorem kc9{wi:TI}(S:CompScope X scope N cap)(hc:X.calm=true)(hi:PI X tg iter wi)(hg:∀fp s H C,PG (cxC X scope N fp s H C) tg g)(ht:∀fp s H C,PIf (cxC X scope N fp s H C) ifs tt)(he:∀fp s H C,PE (cxC X scope N fp s H C) elt te)
  (hs:autoParam (∀x,foldedSetIterable iter X.env x=pure x) jJ):PE X (.ListComp elt [⟨tg,iter,ifs,0⟩] scope pos) (knn wi cap g tt te):=by
 intro pins s σ H Q I h
 rw[eval_ListComp]
 refine wpAny_comprehension_free (use:=none) rfl hs (kc4 S I) S.kind S.names (thn (hi pins s σ H _ I h) fun v s1 h1=>thn h1 fun itv s2 h2=>?_)
 obtain⟨it,fp,tn,J,H2,e,I2,T,st2,f2,W,⟨m0,w0⟩,turn⟩:=h2
 subst e
 refine kd7 (RR:=fun acc C=>compPost (model X.prog X.w) X.A X.xe none (EP X pins σ Q) acc C) S hc hg ht he I2 T st2 f2 W w0 turn fun D C H' s' m B fC hCD hm q=>?_
 obtain⟨c0,c1,c2,c3,c4,c5⟩:=fC
 rwa[m,hm,fun h' hs'=>⟨.ref D,H',B.turned (t':=s'.toks) (fun b o hb e=>(hs'.2 b hb).trans e) c0 c1 c3 c4 c5,rfl,q⟩]
theorem khc{J:It}{Q:VK}{W:Nat->Nat->St->List V->Hp->Prop}(h:∀i m σ' ys H',W i m σ' ys H'->(J.stop i H'/\∀D,H' D=none->Q (.ref D) (upd H' D (.lst ys)))∨(J.go i H'/\ys.length<sizeLine/\∃N:St->V->Hp->Prop,(∀σ2 y H4,N σ2 y H4->∃m',m'<m/\W (i+1) m' σ2 (ys++[y]) H4)/\
   ∀x H2,J.yld i H' x H2->g x σ' H2 fun σ2 H3=>te σ2 H3 (N σ2))):∀i m σ' ys H',W i m σ' ys H'->(J.stop i H'/\∀D,H' D=none->Q (.ref D) (upd H' D (.lst ys)))∨(J.go i H'/\ys.length<sizeLine/\∃(N:St->V->Hp->Prop)(N0:St->Hp->Prop),(∀σ2 y H4,N σ2 y H4->∃m',m'<m/\W (i+1) m' σ2 (ys++[y]) H4)/\(∀σ2 H4,N0 σ2 H4->∃m',m'<m/\W (i+1) m' σ2 ys H4)/\
   ∀x H2,J.yld i H' x H2->g x σ' H2 fun σ2 H3=>tYes σ2 H3 fun b H4=>if b=true then te σ2 H4 (N σ2) else N0 σ2 H4):=by
 intro i m σ' ys H' w
 rcases h i m σ' ys H' w with h|⟨go,hl,N,hN,st⟩
 ·exact .inl h
 ·refine .inr ⟨go,hl,N,fun _ _=>False,hN,(fun _ _ z=>z.elim),fun x H2 y=>?_⟩
  have e:(fun(σ2:St)(H3:Hp)=>tYes σ2 H3 fun b H4=>if b=true then te σ2 H4 (N σ2) else False)=fun σ2 H3=>te σ2 H3 (N σ2):=by
   funext σ2 H3
   show(if true=true then te σ2 H3 (N σ2) else False)=te σ2 H3 (N σ2)
   rw[if_pos rfl]
  rw[e]
  exact st x H2 y
theorem kbZ{wi:TI}(S:CompScope X scope N cap)(hc:X.calm=true)(hi:PI X tg iter wi)(hg:∀fp s H C,PG (cxC X scope N fp s H C) tg g)(he:∀fp s H C,PE (cxC X scope N fp s H C) elt te)
  (hs:autoParam (∀x,foldedSetIterable iter X.env x=pure x) jJ):PE X (.ListComp elt [⟨tg,iter,[],0⟩] scope pos) (tComp wi cap g te):=by
 intro pins s σ H Q I h
 rw[eval_ListComp]
 refine wpAny_comprehension_free (use:=none) rfl hs (kc4 S I) S.kind S.names (thn (hi pins s σ H _ I h) fun v s1 h1=>thn h1 fun itv s2 h2=>?_)
 obtain⟨it,fp,tn,J,H2,e,I2,T,st2,f2,W,⟨m0,w0⟩,turn⟩:=h2
 subst e
 refine kd7 (RR:=fun acc C=>compPost (model X.prog X.w) X.A X.xe none (EP X pins σ Q) acc C) S hc hg (fun _ _ _ _=>kj3) he I2 T st2 f2 W w0 (khc turn) fun D C H' s' m B fC hCD hm q=>?_
 obtain⟨c0,c1,c2,c3,c4,c5⟩:=fC
 rwa[m,hm,fun h' hs'=>⟨.ref D,H',B.turned (t':=s'.toks) (fun b o hb e=>(hs'.2 b hb).trans e) c0 c1 c3 c4 c5,rfl,q⟩]
theorem kdW{wi:TI}{i:Nat}{y:Str}{py spos:Pos}(S:CompScope X scope N cap)(hc:X.calm=true)(hi:PI X tg iter wi)(hg:∀fp s H C,PG (cxC X scope N fp s H C) tg g)(he:∀fp s H C,PE (cxC X scope N fp s H C) elt te)
  (hA:PG X (.Name y py) (gName i))(hsw:autoParam (swapsWith (.ListComp elt [⟨tg,iter,[],0⟩] scope pos) (some (.Name y py)) spos.line X.env=pure true) jz)
  (hs:autoParam (∀x,foldedSetIterable iter X.env x=pure x) jJ):PS X (.Assign [.Name y py] (.ListComp elt [⟨tg,iter,[],0⟩] scope pos) spos) (tAsg (tComp wi cap g te) (gName i)):=by
 intro pins s σ H D I h
 rw[exec_Assign_Name_used _ _ _ _ hsw]
 refine wpAny_bind (wpAny_standAt (wpAny_bind ?_))
 show wpAny _ X.A (do let _ <-comprehension (.ListComp elt [⟨tg,iter,[],0⟩] scope pos) scope X.env _ (newList []) false (eval iter X.env) (some (assign (.Name y py) X.env))) _ _ s
 refine wpAny_bind (wpAny_mono (wpAny_comprehension_free (use:=some (assign (.Name y py) X.env)) (Q:=fun _ s'=>SP X pins D .next s') rfl hs (kc4 S I) S.kind S.names
  (thn (hi pins s σ H _ I h) fun v s1 h1=>thn h1 fun itv s2 h2=>?_)) (fun _ s' hq=>wpAny_pure (wpAny_pure hq)) fun _ _ e=>e)
 obtain⟨it,fp,tn,J,H2,e,I2,T,st2,f2,W,⟨m0,w0⟩,turn⟩:=h2
 subst e
 refine kd7 (Q:=fun v H'=>gName i v σ H' D.nx) (RR:=fun acc C=>compPost (model X.prog X.w) X.A X.xe (some (assign (.Name y py) X.env)) (fun _ s'=>SP X pins D .next s') acc C) S hc hg (fun _ _ _ _=>kj3) he I2 T st2 f2 W w0 (khc (Q:=fun v H'=>gName i v σ H' D.nx) turn) fun D' C H' s' m B fC hCD hm q=>?_
 obtain⟨c0,c1,c2,c3,c4,c5⟩:=fC
 obtain⟨oC,es,ep,eC,dC,kC⟩:=hm
 have B':Inv X (pins++[(C,oC)]) σ H' s':=B.pins_of fun p hp=>by
  rcases Na.mp hp with hp|hp
  ·exact B.pin p (Nm _ hp)
  ·have e:p=(C,oC):=by simpa using hp
   subst e
   rwa[eC,c0,c1,c2,fun v z=>by rw[dC] at z;cases z]
 refine thn (hA _ s' σ H' (.ref D') (.ref D') _ B' rfl q) fun _ s'' zz=>?_
 obtain⟨σ2,H3,I3,q3⟩:=zz
 obtain⟨e3,n3,_⟩:=I3.pin (C,oC) (Nm _ (Nm _ (by simp)))
 rwa[m,⟨oC,es,ep,e3,dC,kC⟩,fun h' hs'=>⟨σ2,H3,I3.unpinned.turned (t':=s''.toks) (fun b o hb e=>(hs'.2 b hb).trans e) n3 c1 c3 c4 c5,q3⟩]
end
section
variable{g:TG}{te:TE}{σ:St}{H:Hp}{R:List V->Hp->Addr->Prop}
theorem kaY{K:Jw}{a:Addr}{xs:List V}(Pv:Nat->St->List V->Hp->Prop)(h0:Pv 0 σ [] H)(hz:xs.length<=sizeLine)(hl:∀i σ ys H,i<=xs.length->Pv i σ ys H->SqL K H a xs/\ys.length=i)
  (hs:∀i x σ ys H,xs[i]?>>x->Pv i σ ys H->g x σ H fun σ2 H2=>te σ2 H2 fun y H3=>Pv (i+1) σ2 (ys++[y]) H3)(hd:∀σ ys H,Pv xs.length σ ys H->∀D,H D=none->R ys H D):
  ∃ W:Nat->Nat->St->List V->Hp->Prop,(∃m,W 0 m σ [] H)/\∀i m σ' ys H',W i m σ' ys H'->
   ((Itl K a).stop i H'/\∀D,H' D=none->R ys H' D)∨((Itl K a).go i H'/\ys.length<sizeLine/\∃N:St->V->Hp->Prop,(∀σ2 y H4,N σ2 y H4->∃m',m'<m/\W (i+1) m' σ2 (ys++[y]) H4)/\
    ∀x H2,(Itl K a).yld i H' x H2->g x σ' H2 fun σ2 H3=>te σ2 H3 (N σ2)):=by
 rwa[fun i m σ ys H=>m=xs.length-i/\i<=xs.length/\Pv i σ ys H,⟨xs.length,by simp,J7 _,h0⟩,?_]
 rintro i m σ ys H ⟨rfl,hi,p⟩
 obtain⟨q,el⟩:=hl i σ ys H hi p
 by_cases hlt:i<xs.length
 ·refine .inr ⟨⟨xs,xs[i],q,by simp[hlt]⟩,by lia,fun σ2 y H3=>Pv (i+1) σ2 (ys++[y]) H3,fun σ' y H' p'=>⟨xs.length-(i+1),by lia,rfl,hlt,p'⟩,fun x H' yl=>?_⟩
  obtain⟨e,yl⟩:=yl
  subst e
  exact hs i x σ ys _ (yl xs q) p
 ·have e:i=xs.length:=by lia
  subst e
  exact .inl ⟨⟨xs,q,Jx _⟩,hd σ ys H p⟩
theorem kja{lo:Int}{n:Nat}(Pv:Nat->St->List V->Hp->Prop)(h0:Pv 0 σ [] H)(hz:n<=sizeLine)(hl:∀i σ ys H,i<=n->Pv i σ ys H->ys.length=i)
  (hs:∀i σ ys H,i<n->Pv i σ ys H->g (.int (lo+i)) σ H fun σ2 H2=>te σ2 H2 fun y H3=>Pv (i+1) σ2 (ys++[y]) H3)(hd:∀σ ys H,Pv n σ ys H->∀D,H D=none->R ys H D):
  ∃ W:Nat->Nat->St->List V->Hp->Prop,(∃m,W 0 m σ [] H)/\∀i m σ' ys H',W i m σ' ys H'->
   ((Itr lo n).stop i H'/\∀D,H' D=none->R ys H' D)∨((Itr lo n).go i H'/\ys.length<sizeLine/\∃N:St->V->Hp->Prop,(∀σ2 y H4,N σ2 y H4->∃m',m'<m/\W (i+1) m' σ2 (ys++[y]) H4)/\
    ∀x H2,(Itr lo n).yld i H' x H2->g x σ' H2 fun σ2 H3=>te σ2 H3 (N σ2)):=by
 rwa[fun i m σ ys H=>m=n-i/\i<=n/\Pv i σ ys H,⟨n,by simp,J7 _,h0⟩,?_]
 rintro i m σ ys H ⟨rfl,hi,p⟩
 have el:=hl i σ ys H hi p
 by_cases hlt:i<n
 ·refine .inr ⟨hlt,by lia,fun σ2 y H3=>Pv (i+1) σ2 (ys++[y]) H3,fun σ' y H' p'=>⟨n-(i+1),by lia,rfl,hlt,p'⟩,fun x H' yl=>?_⟩
  obtain⟨e,yl⟩:=yl
  subst e yl
  exact hs i σ ys _ hlt p
 ·have e:i=n:=by lia
  subst e
  exact .inl ⟨Jx _,hd σ ys H p⟩
end
theorem CompScope.plain{X:Cx}{scope:Scope}{N:List Str}(kind:scope.kind=.function)(names:∀x∈scope.names,x.2=.local->scope.names.lookup x.1>>.local)(_:∀x∈scope.names,x.2≠.cell)(nf:∀x∈scope.names,x.2≠.free)(nd:N.Nodup):
  CompScope X scope N (JE N.length none):=by
 rwa[kind,names,fun x hx hf=>absurd hf (nf x hx),nd,by simp,fun j i x e _=>?_]
 rw[El] at e
 split at e
 ·cases e
 ·cases e
noncomputable def kmq(scope:Scope)(ns:List (Str×NameKind))(XN N:List Str)(cap:List (Option Nat)):Bool:=
 scope.kind== .function&&scope.names.all (fun x=>!(x.2== .local)||scope.names.lookup x.1==some .local)&&scope.names.all (fun x=>!(x.2== .free)||(ns.lookup x.1==some .cell||ns.lookup x.1==some .free))&&decide N.Nodup&&decide (cap.length=N.length) &&
  (cap.zip N).all fun p=>match p.1 with
   |none=>true
   |some i=>XN[i]? ==some p.2&&scope.names.lookup p.2==some .free&&scope.names.all fun y=>!(y.1==p.2&&y.2== .cell)
def CompScope.of{X:Cx}{scope:Scope}{N:List Str}{cap:List (Option Nat)}(ns:List (Str×NameKind))(XN:List Str)(hn:X.env.scope.names=ns)(hN:X.N=XN)(h:kmq scope ns XN N cap=true):CompScope X scope N cap:=by
 unfold kmq at h
 simp only[NT,decide_eq_true_eq,Ma,En,Bool.not_eq_true',beq_iff_eq,beq_eq_false_iff_ne] at h
 obtain⟨⟨⟨⟨⟨h1,h2⟩,h3⟩,h4⟩,h5⟩,h6⟩:=h
 rwa[h1,fun x hx hl=>?_,fun x hx hf=>?_,h4,h5,fun j i x e1 e2=>?_]
 ·rcases h2 x hx with q|q
  ·exact absurd hl q
  ·exact q
 ·rw[hn]
  rcases h3 x hx with q|q
  ·exact absurd hf q
  ·exact q
 ·have hz:(cap.zip N)[j]?>>(some i,x):=by
   rw[Ep]
   rwa[e1,e2]
  have q:=h6 _ (JB hz)
  simp only[NT,beq_iff_eq,Ma,Bool.not_eq_true',Bool.and_eq_false_iff,beq_eq_false_iff_ne] at q
  obtain⟨⟨q1,q2⟩,q3⟩:=q
  rwa[by rw[hN];exact q1,q2,fun z=>?_]
  rcases q3 _ z with q|q
  ·exact q rfl
  ·exact q rfl
theorem Inv.turnedL{X:Cx}{pins:List (Addr×Obj)}{σ:St}{H:Hp}{s:Shared}{h':Heap}{t':Nat}{ch:List Addr}(I:Inv X pins σ H s)(k:∀b o,b∉ch->s.heap.get? b>>o->h'.get? b>>o)(hf:∀b∈ch,FpOk X pins H b):
  Inv X pins σ H {s with heap:=h',toks:=t'}:=by
 have nch:∀b u,H b>>u->b∉ch:=fun b u e z=>by
  have:=(hf b z).1
  rw[this] at e
  cases e
 refine I.step (g':=s.gens) (d':=s.drawn) (ch:=ch) (fun b hb=>let⟨_,h1,_,h3,h4,h5⟩:=hf b hb;⟨h3,h1,h4,h5⟩) (fun b o _ _ hc e _=>k b o hc e) (fun b o _ _ hc e _=>⟨o.slots,k b o hc e⟩) (fun _ _ _ _ n=>n)
  (fun b o hc e=>⟨o,k b o hc e⟩) (fun _ _ e=>e) (fun _ _ _ e=>e) (fun b ps e=>⟨#[],by rw[e];simp⟩) (fun m hm=>?_) (fun b u e=>?_) I.bare
 ·obtain⟨o,es,ep,ho,r⟩:=hm
  rwa[o,es,ep,k _ o (fun z=>(hf _ z).2.1 rfl) ho,r]
 ·refine(I.hok b u e).stay (fun c v hc q=>k c v ?_ q) (fun _ q=>q) fun _ _ q=>q
  rcases hc with z|z
  ·rw[z];exact nch b u e
  ·exact nch c _ z
noncomputable def Ite(a:Addr):It:=⟨fun i H=>∃xs x,H a>>(.lst xs)/\xs[i]?>>x,fun i H x H'=>∃t y,H t=none/\x=.ref t/\H'=upd H t (.tup [.int i,y])/\∀xs,H a>>(.lst xs)->xs[i]?>>y,fun i H=>∃xs,H a>>(.lst xs)/\xs.length<=i⟩
theorem kjg{P:Program}{w:World}{K:Jw}{es:List Expr}{k:Nat}{pos:Pos}(a e it:Addr)(hne:e≠it):Turn P w K (.Tuple es k pos) (Ite a) [e,it] e (fun i h=>(∃old,IsEnum h e it ((i:Nat):Int) old)/\h.IsListIter it a i) where
 mem:=by simp
 obj:=fun i h st b hb=>by
  obtain⟨⟨old,he⟩,o,eo,c,d⟩:=st
  have hb':b=e∨b=it:=by simpa using hb
  rcases hb' with rfl|rfl
  ·exact⟨_,he,fun v z=>by
    have z':Data.fields _=Data.cell v:=z
    cases z'⟩
  ·rwa[o,eo,fun v z=>by rw[d] at z;cases z]
 keep:=fun i h h' st k=>⟨let⟨old,he⟩:=st.1;⟨old,k e (by simp) _ he⟩,st.2.at fun o eo=>k it (by simp) o eo⟩
 item:=by
  intro X hP hw hK hc i pins s σ H E I hf st hg
  subst hP hw hK
  obtain⟨⟨old,he⟩,hit⟩:=st
  obtain⟨xs,x,hq,hx⟩:=hg
  obtain⟨its,n,r,ho,hz⟩:=I.lst hq
  obtain⟨u,hu,ru⟩:=r.get hx
  have hl:s.heap.IsList a its.toArray:=⟨_,ho,rfl,n,rfl⟩
  refine wpAny_pyNext_enum_item he hit hl (x:=u) (by simpa using hu) hne fun h1 heo hit1 ht1 hz1 hk1=>?_
  rwa[.ref s.heap.objs.size,6,wpAny_letOwnedTupleGo_enum heo fun h2 he2 hs2=>?_]
  have hs2':Heap.SameBut e h1 h2:=hs2
  have el:e<s.heap.objs.size:=Heap.lt_size he
  have kk:∀b o,b∉[e,it]->s.heap.get? b>>o->h2.get? b>>o:=fun b o hb eo=>by
   have hb':b≠e/\b≠it:=by simpa using hb
   exact(hs2'.2 b hb'.1).trans (hk1 b o hb'.1 hb'.2 eo)
  have I1:Inv X pins σ H {s with heap:=h2,toks:=s.toks+1}:=I.turnedL (ch:=[e,it]) kk hf
  have fr:H s.heap.objs.size=none:=I.hok.fresh (Jx _)
  have ft:FpOk X pins H s.heap.objs.size:=I.fpOk (Jx _) fr
  have ht2:h2.get? s.heap.objs.size>>{cls:=.type "tuple",data:=.seq #[.int i s.toks,u]}:=(hs2'.2 _ (NL el)).trans ht1
  have I2:Inv X pins σ (upd H s.heap.objs.size (.tup [.int i,x])) {s with heap:=h2,toks:=s.toks+1}:=
   I1.adopt ft I.sz ⟨by show 2<=sizeLine;decide,[.int i s.toks,u], .cons ⟨_,rfl⟩ (.cons ru .nil),_,ht2,rfl,_,rfl⟩
  have hit2:h2.IsListIter it a (i+1):=hit1.extBut hs2'.extBut (Ne.symm hne)
  rwa[.ref s.heap.objs.size,_,I2,6,⟨s.heap.objs.size,x,fr,rfl,rfl,fun ys hy=>by rw[hq] at hy;cases hy;exact hx⟩,⟨⟨u,?_⟩,hit2⟩,fun b hb=>?_]
  ·have e1:((i+1:Nat):Int)=(i:Int)+1:=rfl
   rw[e1]
   exact he2
  ·have hbl:b<s.heap.objs.size:=by
    have hb':b=e∨b=it:=by simpa using hb
    rcases hb' with rfl|rfl
    ·exact el
    ·obtain⟨o,eo,_⟩:=hit
     exact Heap.lt_size eo
   rw[kak (J5 hbl)]
   exact(hf b hb).1
 done:=by
  intro X hP hw hK hc i pins s σ H E I hf st hg
  subst hP hw hK
  obtain⟨⟨old,he⟩,hit⟩:=st
  obtain⟨xs,hq,hx⟩:=hg
  obtain⟨its,n,r,ho,hz⟩:=I.lst hq
  have hl:s.heap.IsList a its.toArray:=⟨_,ho,rfl,n,rfl⟩
  have hlen:=r.length
  obtain⟨f0,f1,f2,f3,f4,f5⟩:=hf it (by simp)
  exact wpAny_pyNext_enum_end (I.ok.hd hc) he hit hl (by simp;lia) fun h' eb=>⟨rfl,I.turned (t':=s.toks) (fun b o hb e=>eb b o hb e) f0 f1 f3 f4 f5⟩
 self:=fun _ _ _ _ _ st h=>let⟨_,he⟩:=st.1;wpAny_pyIter_enum he h
section
variable{X:Cx}
def iEnum(ta:TA):TI:=fun σ H R=>ta σ H fun vs H1=>∃a xs,vs=[.ref a]/\H1 a>>(.lst xs)/\R (Ite a) H1
theorem khD{es:List Expr}{k:Nat}{tpos:Pos}{e:Expr}{ta:TA}{p pos:Pos}(hg:Gl X "enumerate")(hm:X.mg "enumerate"=none)(ha:PA X [e] ta)(he:autoParam (starEach [e] X.env=(false,eval e X.env)::starEach [] X.env) jz)
  (hpl:autoParam ((backTo pos (starEach [] X.env)).any (·.1)=false) jz):PI X (.Tuple es k tpos) (.Call (.Name "enumerate" p) [e] [] pos) (iEnum ta):=by
 intro pins s σ H R I h
 refine Call_ (kdH I hg hm boot_enumerate (PyProof.Rows.callWith_type1 (thn (ha pos pins s σ H _ I h) fun us s1 zz=>?_) he hpl))
 obtain⟨vs,H1,I1,r1,q1⟩:=zz
 obtain⟨a,xs,rfl,hq,q⟩:=q1
 obtain⟨u,rfl,rx⟩:=vals1 r1
 cases rx
 obtain⟨its,n,r,ho,hz⟩:=I1.lst hq
 refine call_enumerate_1 ho fun h' he' hit' hsz hk=>wpAny_pyIter_enum he' ?_
 have I2:Inv X pins σ H1 {s1 with heap:=h'}:=I1.kept (t':=s1.toks) hk
 rwa[s1.heap.objs.size+1,[s1.heap.objs.size+1,s1.heap.objs.size],_,_,H1,6,I2,kjg a (s1.heap.objs.size+1) s1.heap.objs.size (Nat.succ_ne_self _),⟨⟨_,he'⟩,hit'⟩,fun b hb=>?_,q]
 have hb':b=s1.heap.objs.size+1∨b=s1.heap.objs.size:=by simpa using hb
 have hle:s1.heap.objs.size<=b:=by rcases hb' with rfl|rfl <;> lia
 exact I1.fpOk hle (I1.hok.fresh hle)
end
theorem kiH{a:Addr}{xs:List V}{g:TG}{tb:TS}{D:Ends}{σ:St}{H:Hp}(Pv:Nat->St->Hp->Prop)(h0:Pv 0 σ H)(hl:∀i σ H,i<=xs.length->Pv i σ H->H a>>(.lst xs))
  (hs:∀i y t σ H,xs[i]?>>y->Pv i σ H->H t=none->g (.ref t) σ (upd H t (.tup [.int (i:Nat),y])) fun σ2 H2=>tb {D with nx:=Pv (i+1),ct:=Pv (i+1),bk:=D.nx} σ2 H2)(hd:∀σ H,Pv xs.length σ H->D.nx σ H):
  ∃W:Nat->Nat->St->Hp->Prop,(∃m,W 0 m σ H)/\∀i m σ H,W i m σ H->
   ((Ite a).stop i H/\D.nx σ H)∨((Ite a).go i H/\∃N:St->Hp->Prop,(∀σ' H',N σ' H'->∃m',m'<m/\W (i+1) m' σ' H')/\∀x H',(Ite a).yld i H x H'->g x σ H' fun σ2 H2=>tb {D with nx:=N,ct:=N,bk:=D.nx} σ2 H2):=by
 rwa[fun i m σ H=>m=xs.length-i/\i<=xs.length/\Pv i σ H,⟨xs.length,by simp,J7 _,h0⟩,?_]
 rintro i m σ H ⟨rfl,hi,p⟩
 have q:=hl i σ H hi p
 by_cases hlt:i<xs.length
 ·refine .inr ⟨⟨xs,xs[i],q,by simp[hlt]⟩,Pv (i+1),fun σ' H' p'=>⟨xs.length-(i+1),by lia,rfl,hlt,p'⟩,fun x H' y=>?_⟩
  obtain⟨t,y,hn,rfl,rfl,hy⟩:=y
  exact hs i y t σ _ (hy xs q) p hn
 ·have e:i=xs.length:=by lia
  subst e
  exact .inl ⟨⟨xs,q,Jx _⟩,hd σ H p⟩
section
variable{X:Cx}
end
section
variable{X:Cx}
end
section
variable{prog:Program}{w:World}{A:Around}{E:Value->Shared->Prop}{s:Shared}
end
section
variable{X:Cx}
end
section
variable{X:Cx}{CX:CXT}{k:Nat}{f C:Addr}{fd:FuncData}{ps ks:List Str}{sp:Sp}{E:XK}{x:Str}{p pos:Pos}{e:Expr}{es:List Expr}{kws:List Keyword}{t tk:TA}{g:List Value->List Value->List Value}{gV:List V->List V->List V}
end
def kbf(K:Jw):List V->Hp->VK->Prop:=fun xs H Q=>∃p ys,xs=[.ref p]/\(SqL K H p ys∨SqT K H p ys)/\∀l,H l=none->Q (.ref l) (upd H l (.lst ys))
def kaG(K:Jw):List V->Hp->VK->Prop:=fun xs H Q=>∃p ys,xs=[.ref p]/\(SqL K H p ys∨SqT K H p ys)/\Q (.int ys.length) H
def rSum(K:Jw):List V->Hp->VK->Prop:=fun xs H Q=>∃(p:Addr)(ns:List Int),xs=[.ref p]/\SqL K H p (ns.map V.int)/\Q (.int ns.sum) H
def rIsi(K:Jw):List V->Hp->VK->Prop:=fun xs H Q=>∃x c t b,xs=[x,c]/\((∃n,c=.ty n)∨∃a,c=.ref a)/\TyOf K H x t/\JZ K t (cV c)>>b/\Q (.bl b) H
section
variable{X:Cx}{K:Jw}{pos:Pos}
theorem kaj{e:Expr}{ta:TE}{f:Str}(he:PE X e ta)(hb:attributeBase e f X.env (eval e X.env)=eval e X.env)(hK:autoParam (X.K=K) jz):PE X (.Attribute e f pos) (tFld K ta f):=by
 subst hK
 exact knu he hb
theorem kaB{tg l:Expr}{tl:TE}(hl:PE X l tl)(hK:autoParam (X.K=K) jz):PI X tg l (iList K tl):=by
 subst hK
 exact kmO hl
theorem kbh{es:List Expr}{k:Nat}{t:TGs}{n:Nat}(hc:X.calm=true)(h:PGs X es t)(hK:autoParam (X.K=K) jz)
  (hn:autoParam ((assignEach es X.env).length=n) jz) (hst:autoParam ((assignEach es X.env).findIdx? (·.1)=none) jz):PG X (.Tuple es k pos) (gTup K n t):=by
 subst hK
 exact kns hc h hn hst
end
inductive DEq(K:Jw)(H:Hp):Nat->V->V->Prop
 |flat {n:Nat} {x y:V} (fx:flatV x=true) (fy:flatV y=true) (e:eqV x y=true):DEq K H n x y
 |same {n:Nat} (a:Addr):DEq K H n (.ref a) (.ref a)
 |lst {n:Nat} {a b:Addr} {xs ys:List V} (ha:SqL K H a xs) (hb:SqL K H b ys) (hl:xs.length=ys.length) (h:∀(i:Nat)(x y:V),xs[i]?>>x->ys[i]?>>y->DEq K H n x y):DEq K H (n+1) (.ref a) (.ref b)
 |tup {n:Nat} {a b:Addr} {xs ys:List V} (ha:SqT K H a xs) (hb:SqT K H b ys) (hl:xs.length=ys.length) (h:∀(i:Nat)(x y:V),xs[i]?>>x->ys[i]?>>y->DEq K H n x y):DEq K H (n+1) (.ref a) (.ref b)
def DEq.self{K:Jw}{H:Hp}{n:Nat}{x:V}(h:flatV x=true):DEq K H n x x:=.flat h h (kiK h)
def DEq.int{K:Jw}{H:Hp}{n:Nat}(i:Int):DEq K H n (.int i) (.int i):=.self rfl
def DEq.bl{K:Jw}{H:Hp}{n:Nat}(i:Bool):DEq K H n (.bl i) (.bl i):=.self rfl
def DEq.non{K:Jw}{H:Hp}{n:Nat}:DEq K H n .non .non:=.self rfl
def DEq.str{K:Jw}{H:Hp}{n:Nat}(i:Str):DEq K H n (.str i) (.str i):=.self rfl
section
variable{X:Cx}
theorem kg6{xs:List V}{us:List Value}(r:Vals xs us){j:Nat}(h:j<us.toArray.size):∃x,xs[j]?>>x/\RelV x us.toArray[j]:=by
 have h':j<us.length:=by simpa using h
 have l:=r.length
 obtain⟨u,e,ru⟩:=r.get (i:=j) (x:=xs[j]'(by lia)) (by simp[show j<xs.length by lia])
 rwa[xs[j]'(by lia),by simp[show j<xs.length by lia],?_]
 have:us.toArray[j]=u:=by
  obtain⟨_,e'⟩:=JK.mp e
  simpa using e'
 rw[this]
 exact ru
end
noncomputable def Itz(a b:Addr):It:=⟨fun i H=>∃xs ys x y,H a>>(.lst xs)/\H b>>(.lst ys)/\xs[i]?>>x/\ys[i]?>>y,
 fun i H v H'=>∃t x y,H t=none/\v=.ref t/\H'=upd H t (.tup [x,y])/\(∀xs,H a>>(.lst xs)->xs[i]?>>x)/\∀ys,H b>>(.lst ys)->ys[i]?>>y,
 fun i H=>∃xs ys,H a>>(.lst xs)/\H b>>(.lst ys)/\(xs.length<=i∨ys.length<=i)⟩
theorem kk7{P:Program}{w:World}{K:Jw}{es:List Expr}{k:Nat}{pos:Pos}(a b z TI TO i1 i2:Addr)(nd:[z,TI,TO,i1,i2].Nodup):
  Turn P w K (.Tuple es k pos) (Itz a b) [z,TI,TO,i1,i2] z (fun i h=>IsZip h z TI TO .none/\IsPair h TI (.ref i1) (.ref i2)/\(∃u v,IsPair h TO u v)/\h.IsListIter i1 a i/\h.IsListIter i2 b i) where
 mem:=by simp
 obj:=fun i h st b hb=>by
  obtain⟨hz,hI,⟨_,_,hO⟩,⟨o1,e1,_,d1⟩,⟨o2,e2,_,d2⟩⟩:=st
  simp only[JY,Mb,or_false] at hb
  rcases hb with rfl|rfl|rfl|rfl|rfl
  ·rwa[_,hz,fun v q=>by cases(show Data.fields _=Data.cell v from q)]
  ·rwa[_,hI,fun v q=>by cases(show Data.seq _ _=Data.cell v from q)]
  ·rwa[_,hO,fun v q=>by cases(show Data.seq _ _=Data.cell v from q)]
  ·rwa[o1,e1,fun v q=>by rw[d1] at q;cases q]
  ·rwa[o2,e2,fun v q=>by rw[d2] at q;cases q]
 keep:=fun i h h' st kk=>by
  obtain⟨hz,hI,⟨u,v,hO⟩,h1,h2⟩:=st
  rwa[kk z (by simp) _ hz,kk TI (by simp) _ hI,⟨u,v,kk TO (by simp) _ hO⟩,h1.at fun o e=>kk i1 (by simp) o e,h2.at fun o e=>kk i2 (by simp) o e]
 item:=by
  intro X hP hw hK hc i pins s σ H E I hf st hg
  subst hP hw hK
  obtain⟨hz,hI,⟨u,v,hO⟩,h1,h2⟩:=st
  obtain⟨xs,ys,x,y,ha,hb,hx,hy⟩:=hg
  obtain⟨its1,n1,r1,ho1,_⟩:=I.lst ha
  obtain⟨its2,n2,r2,ho2,_⟩:=I.lst hb
  obtain⟨u1,g1,ru1⟩:=r1.get hx
  obtain⟨u2,g2,ru2⟩:=r2.get hy
  have L1:s.heap.IsList a its1.toArray:=⟨_,ho1,rfl,n1,rfl⟩
  have L2':s.heap.IsList b its2.toArray:=⟨_,ho2,rfl,n2,rfl⟩
  have off:∀{l:Addr}{zs:List V},H l>>(.lst zs)->l∉[z,TI,TO,i1,i2]:=fun {l zs} e m=>by
   have:=(hf l m).1
   rw[this] at e
   cases e
  have oa:=off ha
  have ob:=off hb
  have nd':=nd
  simp only[NO,JY,Mb,or_false,not_or,MQ,and_true,not_false_eq_true] at nd' oa ob
  obtain⟨⟨nzI,nzO,nz1,nz2⟩,⟨nIO,nI1,nI2⟩,⟨nO1,nO2⟩,n12⟩:=nd'
  have D:ZipApart z TI TO i1 i2 a b:=⟨Ne.symm nzI,Ne.symm nzO,Ne.symm nz1,Ne.symm nz2,nIO,nI1,nI2,nO1,nO2,n12,oa.1,oa.2.2.1,oa.2.2.2.1,oa.2.2.2.2,ob.1,ob.2.2.1,ob.2.2.2.1,ob.2.2.2.2⟩
  refine wpAny_pyNext_zip_item D hz hI hO h1 h2 L1 L2' (x:=u1) (y:=u2) (by simpa using g1) (by simpa using g2) fun h' a1 a2 a3 a4 a5 a6 a7=>?_
  rwa[.ref s.heap.objs.size,6,wpAny_letOwnedTupleGo_zip a1 fun h2' z2 s2=>?_]
  have s2':Heap.SameBut z h' h2':=s2
  have zl:z<s.heap.objs.size:=Heap.lt_size hz
  have kk:∀b o,b∉[z,TI,TO,i1,i2]->s.heap.get? b>>o->h2'.get? b>>o:=fun b o hb eo=>by
   simp only[JY,Mb,or_false,not_or] at hb
   exact(s2'.2 b hb.1).trans (a7 b o hb.1 hb.2.2.1 hb.2.2.2.1 hb.2.2.2.2 eo)
  have I1:Inv X pins σ H {s with heap:=h2',toks:=s.toks}:=I.turnedL (ch:=[z,TI,TO,i1,i2]) kk hf
  have fr:H s.heap.objs.size=none:=I.hok.fresh (Jx _)
  have ft:FpOk X pins H s.heap.objs.size:=I.fpOk (Jx _) fr
  have t2:h2'.get? s.heap.objs.size>>{cls:=.type "tuple",data:=.seq #[u1,u2]}:=(s2'.2 _ (NL zl)).trans a5
  have I2:Inv X pins σ (upd H s.heap.objs.size (.tup [x,y])) {s with heap:=h2',toks:=s.toks}:=
   I1.adopt ft I.sz ⟨by show 2<=sizeLine;decide,[u1,u2], .cons ru1 (.cons ru2 .nil),_,t2,rfl,_,rfl⟩
  have hI2:IsPair h2' TI (.ref i1) (.ref i2):=(s2'.2 _ (Ne.symm nzI)).trans (a7 TI _ (Ne.symm nzI) nIO nI1 nI2 hI)
  refine⟨.ref s.heap.objs.size,_,I2,rfl,⟨s.heap.objs.size,x,y,fr,rfl,rfl,fun ws e=>by rw[ha] at e;cases e;exact hx,fun ws e=>by rw[hb] at e;cases e;exact hy⟩,
   ⟨z2,hI2,⟨_,_,(s2'.2 _ (Ne.symm nzO)).trans a2⟩,a3.extBut s2'.extBut (Ne.symm nz1),a4.extBut s2'.extBut (Ne.symm nz2)⟩,fun b hb=>?_⟩
  have hbl:b<s.heap.objs.size:=by
   simp only[JY,Mb,or_false] at hb
   rcases hb with rfl|rfl|rfl|rfl|rfl
   ·exact zl
   ·exact Heap.lt_size hI
   ·exact Heap.lt_size hO
   ·obtain⟨o,e,_⟩:=h1;exact Heap.lt_size e
   ·obtain⟨o,e,_⟩:=h2;exact Heap.lt_size e
  rw[kak (J5 hbl)]
  exact(hf b hb).1
 done:=by
  intro X hP hw hK hc i pins s σ H E I hf st hg
  subst hP hw hK
  obtain⟨hz,hI,⟨u,v,hO⟩,h1,h2⟩:=st
  obtain⟨xs,ys,ha,hb,hx⟩:=hg
  obtain⟨its1,n1,r1,ho1,_⟩:=I.lst ha
  obtain⟨its2,n2,r2,ho2,_⟩:=I.lst hb
  have L1:s.heap.IsList a its1.toArray:=⟨_,ho1,rfl,n1,rfl⟩
  have L2':s.heap.IsList b its2.toArray:=⟨_,ho2,rfl,n2,rfl⟩
  have hlen1:=r1.length
  have hlen2:=r2.length
  have off:∀{l:Addr}{zs:List V},H l>>(.lst zs)->l∉[z,TI,TO,i1,i2]:=fun {l zs} e m=>by
   have:=(hf l m).1
   rw[this] at e
   cases e
  have oa:=off ha
  have ob:=off hb
  have nd':=nd
  simp only[NO,JY,Mb,or_false,not_or,MQ,and_true,not_false_eq_true] at nd' oa ob
  obtain⟨⟨nzI,nzO,nz1,nz2⟩,⟨nIO,nI1,nI2⟩,⟨nO1,nO2⟩,n12⟩:=nd'
  have D:ZipApart z TI TO i1 i2 a b:=⟨Ne.symm nzI,Ne.symm nzO,Ne.symm nz1,Ne.symm nz2,nIO,nI1,nI2,nO1,nO2,n12,oa.1,oa.2.2.1,oa.2.2.2.1,oa.2.2.2.2,ob.1,ob.2.2.1,ob.2.2.2.1,ob.2.2.2.2⟩
  refine wpAny_pyNext_zip_end (I.ok.hd hc) D hz hI hO h1 h2 L1 L2' ?_ fun h' hk=>⟨rfl,?_⟩
  ·rcases hx with hx|hx
   ·exact .inl (by simp;lia)
   ·exact .inr (by simp;lia)
  ·refine I.turnedL (t':=s.toks) (ch:=[z,TI,TO,i1,i2]) (fun b o hb e=>?_) hf
   simp only[JY,Mb,or_false,not_or] at hb
   exact hk b o hb.1 hb.2.2.1 hb.2.2.2.1 hb.2.2.2.2 e
 self:=fun _ _ _ _ _ st h=>wpAny_pyIter_zip st.1 h
def km8(n:Nat):([n+4,n+2,n+3,n,n+1]:List Nat).Nodup:=by
 simp only[NO,JY,Mb,or_false,not_or,MQ,and_true,not_false_eq_true]
 lia
def km9{n x:Nat}(h:x∈([n+4,n+2,n+3,n,n+1]:List Nat)):n<=x:=by
 simp only[JY,Mb,or_false] at h
 lia
section
variable{X:Cx}
def iZip(ta:TA):TI:=fun σ H R=>ta σ H fun vs H1=>∃a b xs ys,vs=[.ref a, .ref b]/\H1 a>>(.lst xs)/\H1 b>>(.lst ys)/\R (Itz a b) H1
theorem knO:bootBuiltins "zip">>(.type "zip"):=by cutsat
theorem kdY{es:List Expr}{k:Nat}{tpos:Pos}{e1 e2:Expr}{ta:TA}{p pos:Pos}(hg:Gl X "zip")(hm:X.mg "zip"=none)(ha:PA X [e1,e2] ta)(he:autoParam (starEach [e1,e2] X.env=(false,eval e1 X.env)::starEach [e2] X.env) jz)
  (hpl:autoParam ((backTo pos (starEach [e2] X.env)).any (·.1)=false) jz):PI X (.Tuple es k tpos) (.Call (.Name "zip" p) [e1,e2] [] pos) (iZip ta):=by
 intro pins s σ H R I h
 refine Call_ (kdH I hg hm knO (PyProof.Rows.callWith_type1 (thn (ha pos pins s σ H _ I h) fun us s1 zz=>?_) he hpl))
 obtain⟨vs,H1,I1,r1,q1⟩:=zz
 obtain⟨a,b,xs,ys,rfl,qa,qb,q⟩:=q1
 cases r1 with
 | cons ra rr=>
  cases rr with
  |cons rb rr=>
   cases rr
   cases ra
   cases rb
   obtain⟨its1,n1,_,ho1,_⟩:=I1.lst qa
   obtain⟨its2,n2,_,ho2,_⟩:=I1.lst qb
   refine call_zip_2 (xs:=its1.toArray) (ys:=its2.toArray) ⟨_,ho1,rfl,n1,rfl⟩ ⟨_,ho2,rfl,n2,rfl⟩ fun h' b1 b2 b3 b4 b5 _ hk=>wpAny_pyIter_zip b1 ?_
   have I2:Inv X pins σ H1 {s1 with heap:=h'}:=I1.kept (t':=s1.toks) hk
   rwa[s1.heap.objs.size+4,[s1.heap.objs.size+4,s1.heap.objs.size+2,s1.heap.objs.size+3,s1.heap.objs.size,s1.heap.objs.size+1],_,_,H1,6,I2,kk7 a b _ _ _ _ _ (km8 _),⟨b1,b2,⟨_,_,b3⟩,b4,b5⟩,fun x hx=>?_,q]
   have hle:s1.heap.objs.size<=x:=km9 hx
   exact I1.fpOk hle (I1.hok.fresh hle)
end
theorem kgk{a b:Addr}{xs ys:List V}{g:TG}{tb:TS}{D:Ends}{σ:St}{H:Hp}(Pv:Nat->St->Hp->Prop)(h0:Pv 0 σ H)(hl:∀i σ H,i<=min xs.length ys.length->Pv i σ H->H a>>(.lst xs)/\H b>>(.lst ys))
  (hs:∀i x y t σ H,xs[i]?>>x->ys[i]?>>y->Pv i σ H->H t=none->g (.ref t) σ (upd H t (.tup [x,y])) fun σ2 H2=>tb {D with nx:=Pv (i+1),ct:=Pv (i+1),bk:=D.nx} σ2 H2)(hd:∀σ H,Pv (min xs.length ys.length) σ H->D.nx σ H):
  ∃W:Nat->Nat->St->Hp->Prop,(∃m,W 0 m σ H)/\∀i m σ H,W i m σ H->
   ((Itz a b).stop i H/\D.nx σ H)∨((Itz a b).go i H/\∃N:St->Hp->Prop,(∀σ' H',N σ' H'->∃m',m'<m/\W (i+1) m' σ' H')/\∀x H',(Itz a b).yld i H x H'->g x σ H' fun σ2 H2=>tb {D with nx:=N,ct:=N,bk:=D.nx} σ2 H2):=by
 rwa[fun i m σ H=>m=min xs.length ys.length-i/\i<=min xs.length ys.length/\Pv i σ H,⟨min xs.length ys.length,by simp,J7 _,h0⟩,?_]
 rintro i m σ H ⟨rfl,hi,p⟩
 obtain⟨q1,q2⟩:=hl i σ H hi p
 by_cases hlt:i<min xs.length ys.length
 ·refine .inr ⟨⟨xs,ys,xs[i]'(by lia),ys[i]'(by lia),q1,q2,by simp[show i<xs.length by lia],by simp[show i<ys.length by lia]⟩,Pv (i+1),fun σ' H' p'=>⟨min xs.length ys.length-(i+1),by lia,rfl,hlt,p'⟩,fun x H' y=>?_⟩
  obtain⟨t,x,y,hn,rfl,rfl,h1,h2⟩:=y
  exact hs i x y t σ _ (h1 _ q1) (h2 _ q2) p hn
 ·have e:i=min xs.length ys.length:=by lia
  refine .inl ⟨⟨xs,ys,q1,q2,by lia⟩,?_⟩
  rw[e] at p
  exact hd σ H p
theorem kiN{a b:Addr}{xs ys:List V}{g:TG}{te:TE}{σ:St}{H:Hp}{R:List V->Hp->Addr->Prop}(Pv:Nat->St->List V->Hp->Prop)(h0:Pv 0 σ [] H)(hz:min xs.length ys.length<=sizeLine)(hl:∀i σ zs H,i<=min xs.length ys.length->Pv i σ zs H->H a>>(.lst xs)/\H b>>(.lst ys)/\zs.length=i)
  (hs:∀i x y t σ zs H,xs[i]?>>x->ys[i]?>>y->Pv i σ zs H->H t=none->g (.ref t) σ (upd H t (.tup [x,y])) fun σ2 H2=>te σ2 H2 fun z H3=>Pv (i+1) σ2 (zs++[z]) H3)(hd:∀σ zs H,Pv (min xs.length ys.length) σ zs H->∀D,H D=none->R zs H D):
  ∃ W:Nat->Nat->St->List V->Hp->Prop,(∃m,W 0 m σ [] H)/\∀i m σ' zs H',W i m σ' zs H'->
   ((Itz a b).stop i H'/\∀D,H' D=none->R zs H' D)∨((Itz a b).go i H'/\zs.length<sizeLine/\∃N:St->V->Hp->Prop,(∀σ2 y H4,N σ2 y H4->∃m',m'<m/\W (i+1) m' σ2 (zs++[y]) H4)/\
    ∀x H2,(Itz a b).yld i H' x H2->g x σ' H2 fun σ2 H3=>te σ2 H3 (N σ2)):=by
 rwa[fun i m σ zs H=>m=min xs.length ys.length-i/\i<=min xs.length ys.length/\Pv i σ zs H,⟨min xs.length ys.length,by simp,J7 _,h0⟩,?_]
 rintro i m σ zs H ⟨rfl,hi,p⟩
 obtain⟨q1,q2,el⟩:=hl i σ zs H hi p
 by_cases hlt:i<min xs.length ys.length
 ·refine .inr ⟨⟨xs,ys,xs[i]'(by lia),ys[i]'(by lia),q1,q2,by simp[show i<xs.length by lia],by simp[show i<ys.length by lia]⟩,by lia,fun σ2 y H3=>Pv (i+1) σ2 (zs++[y]) H3,fun σ' y H' p'=>⟨min xs.length ys.length-(i+1),by lia,rfl,hlt,p'⟩,fun x H' yl=>?_⟩
  obtain⟨t,x,y,hn,rfl,rfl,h1,h2⟩:=yl
  exact hs i x y t σ zs _ (h1 _ q1) (h2 _ q2) p hn
 ·have e:i=min xs.length ys.length:=by lia
  refine .inl ⟨⟨xs,ys,q1,q2,by lia⟩,?_⟩
  rw[e] at p
  exact hd σ zs H p
section
variable{g:TG}{tt:TT}{te:TE}{σ:St}{H:Hp}{R:List V->Hp->Addr->Prop}
theorem kgo{J:It}{n:Nat}(Pv:Nat->St->List V->Hp->Prop)(h0:Pv 0 σ [] H)(hz:n<=sizeLine)(hl:∀i σ ys H,i<=n->Pv i σ ys H->ys.length<=i)(hgo:∀i σ ys H,i<n->Pv i σ ys H->J.go i H)(hst:∀σ ys H,Pv n σ ys H->J.stop n H)
  (hs:∀i σ ys H x H',i<n->Pv i σ ys H->J.yld i H x H'->g x σ H' fun σ2 H2=>tt σ2 H2 fun b H3=>if b=true then te σ2 H3 (fun y H4=>Pv (i+1) σ2 (ys++[y]) H4) else Pv (i+1) σ2 ys H3)(hd:∀σ ys H,Pv n σ ys H->∀D,H D=none->R ys H D):
  ∃ W:Nat->Nat->St->List V->Hp->Prop,(∃m,W 0 m σ [] H)/\∀i m σ' ys H',W i m σ' ys H'->
   (J.stop i H'/\∀D,H' D=none->R ys H' D)∨(J.go i H'/\ys.length<sizeLine/\∃(N:St->V->Hp->Prop)(N0:St->Hp->Prop),(∀σ2 y H4,N σ2 y H4->∃m',m'<m/\W (i+1) m' σ2 (ys++[y]) H4)/\(∀σ2 H4,N0 σ2 H4->∃m',m'<m/\W (i+1) m' σ2 ys H4)/\
    ∀x H2,J.yld i H' x H2->g x σ' H2 fun σ2 H3=>tt σ2 H3 fun b H4=>if b=true then te σ2 H4 (N σ2) else N0 σ2 H4):=by
 rwa[fun i m σ ys H=>m=n-i/\i<=n/\Pv i σ ys H,⟨n,by simp,J7 _,h0⟩,?_]
 rintro i m σ ys H ⟨rfl,hi,p⟩
 have el:=hl i σ ys H hi p
 by_cases hlt:i<n
 ·refine .inr ⟨hgo i σ ys H hlt p,by lia,fun σ2 y H3=>Pv (i+1) σ2 (ys++[y]) H3,fun σ2 H3=>Pv (i+1) σ2 ys H3,fun σ' y H' p'=>⟨n-(i+1),by lia,rfl,hlt,p'⟩,fun σ' H' p'=>⟨n-(i+1),by lia,rfl,hlt,p'⟩,fun x H' yl=>?_⟩
  exact hs i σ ys H x H' hlt p yl
 ·have e:i=n:=by lia
  subst e
  exact .inl ⟨hst σ ys H p,hd σ ys H p⟩
theorem kde{K:Jw}{a:Addr}{xs:List V}(Pv:Nat->St->List V->Hp->Prop)(h0:Pv 0 σ [] H)(hz:xs.length<=sizeLine)(hl:∀i σ ys H,i<=xs.length->Pv i σ ys H->SqL K H a xs/\ys.length<=i)
  (hs:∀i x σ ys H,xs[i]?>>x->Pv i σ ys H->g x σ H fun σ2 H2=>tt σ2 H2 fun b H3=>if b=true then te σ2 H3 (fun y H4=>Pv (i+1) σ2 (ys++[y]) H4) else Pv (i+1) σ2 ys H3)(hd:∀σ ys H,Pv xs.length σ ys H->∀D,H D=none->R ys H D):
  ∃ W:Nat->Nat->St->List V->Hp->Prop,(∃m,W 0 m σ [] H)/\∀i m σ' ys H',W i m σ' ys H'->
   ((Itl K a).stop i H'/\∀D,H' D=none->R ys H' D)∨((Itl K a).go i H'/\ys.length<sizeLine/\∃(N:St->V->Hp->Prop)(N0:St->Hp->Prop),(∀σ2 y H4,N σ2 y H4->∃m',m'<m/\W (i+1) m' σ2 (ys++[y]) H4)/\(∀σ2 H4,N0 σ2 H4->∃m',m'<m/\W (i+1) m' σ2 ys H4)/\
    ∀x H2,(Itl K a).yld i H' x H2->g x σ' H2 fun σ2 H3=>tt σ2 H3 fun b H4=>if b=true then te σ2 H4 (N σ2) else N0 σ2 H4):=
 kgo Pv h0 hz (fun i σ ys H hi p=>(hl i σ ys H hi p).2) (fun i σ ys H hi p=>⟨xs,xs[i],(hl i σ ys H (JJ hi) p).1,by simp[hi]⟩) (fun σ ys H p=>⟨xs,(hl _ σ ys H (Jx _) p).1,Jx _⟩)
  (fun i σ ys H x H' hi p yl=>by
   obtain⟨e,q⟩:=yl
   subst e
   exact hs i x σ ys _ (q xs (hl i σ ys _ (JJ hi) p).1) p) hd
theorem khV{lo:Int}{n:Nat}(Pv:Nat->St->List V->Hp->Prop)(h0:Pv 0 σ [] H)(hz:n<=sizeLine)(hl:∀i σ ys H,i<=n->Pv i σ ys H->ys.length<=i)
  (hs:∀i σ ys H,i<n->Pv i σ ys H->g (.int (lo+i)) σ H fun σ2 H2=>tt σ2 H2 fun b H3=>if b=true then te σ2 H3 (fun y H4=>Pv (i+1) σ2 (ys++[y]) H4) else Pv (i+1) σ2 ys H3)(hd:∀σ ys H,Pv n σ ys H->∀D,H D=none->R ys H D):
  ∃ W:Nat->Nat->St->List V->Hp->Prop,(∃m,W 0 m σ [] H)/\∀i m σ' ys H',W i m σ' ys H'->
   ((Itr lo n).stop i H'/\∀D,H' D=none->R ys H' D)∨((Itr lo n).go i H'/\ys.length<sizeLine/\∃(N:St->V->Hp->Prop)(N0:St->Hp->Prop),(∀σ2 y H4,N σ2 y H4->∃m',m'<m/\W (i+1) m' σ2 (ys++[y]) H4)/\(∀σ2 H4,N0 σ2 H4->∃m',m'<m/\W (i+1) m' σ2 ys H4)/\
    ∀x H2,(Itr lo n).yld i H' x H2->g x σ' H2 fun σ2 H3=>tt σ2 H3 fun b H4=>if b=true then te σ2 H4 (N σ2) else N0 σ2 H4):=
 kgo Pv h0 hz hl (fun _ _ _ _ hi _=>hi) (fun _ _ _ _=>Jx _) (fun i σ ys H x H' hi p yl=>by
  obtain⟨e,q⟩:=yl
  subst e q
  exact hs i σ ys _ hi p) hd
theorem kjb{a:Addr}{xs:List V}(Pv:Nat->St->List V->Hp->Prop)(h0:Pv 0 σ [] H)(hz:xs.length<=sizeLine)(hl:∀i σ ys H,i<=xs.length->Pv i σ ys H->H a>>(.lst xs)/\ys.length<=i)
  (hs:∀i y t σ ys H,xs[i]?>>y->Pv i σ ys H->H t=none->g (.ref t) σ (upd H t (.tup [.int (i:Nat),y])) fun σ2 H2=>tt σ2 H2 fun b H3=>if b=true then te σ2 H3 (fun y H4=>Pv (i+1) σ2 (ys++[y]) H4) else Pv (i+1) σ2 ys H3)(hd:∀σ ys H,Pv xs.length σ ys H->∀D,H D=none->R ys H D):
  ∃ W:Nat->Nat->St->List V->Hp->Prop,(∃m,W 0 m σ [] H)/\∀i m σ' ys H',W i m σ' ys H'->
   ((Ite a).stop i H'/\∀D,H' D=none->R ys H' D)∨((Ite a).go i H'/\ys.length<sizeLine/\∃(N:St->V->Hp->Prop)(N0:St->Hp->Prop),(∀σ2 y H4,N σ2 y H4->∃m',m'<m/\W (i+1) m' σ2 (ys++[y]) H4)/\(∀σ2 H4,N0 σ2 H4->∃m',m'<m/\W (i+1) m' σ2 ys H4)/\
    ∀x H2,(Ite a).yld i H' x H2->g x σ' H2 fun σ2 H3=>tt σ2 H3 fun b H4=>if b=true then te σ2 H4 (N σ2) else N0 σ2 H4):=
 kgo Pv h0 hz (fun i σ ys H hi p=>(hl i σ ys H hi p).2) (fun i σ ys H hi p=>⟨xs,xs[i],(hl i σ ys H (JJ hi) p).1,by simp[hi]⟩) (fun σ ys H p=>⟨xs,(hl _ σ ys H (Jx _) p).1,Jx _⟩)
  (fun i σ ys H x H' hi p yl=>by
   obtain⟨t,y,hn,rfl,rfl,hy⟩:=yl
   exact hs i y t σ ys _ (hy xs (hl i σ ys _ (JJ hi) p).1) p hn) hd
end
section
variable{X:Cx}
noncomputable def isI(k:Int):Value->Bool
 | .int a _=>a==k
 |_=>false
theorem kg7{ns:List Int}{us:List Value}(h:Vals (ns.map V.int) us)(j:Nat)(n:Int)(e:ns[j]?>>n):∃t,us[j]?>>(.int n t):=by
 induction ns generalizing us j with
 |nil=>simp at e
 |cons m ns ih=>
  cases h with|cons r t=>?_
  cases j with
  |zero=>
   have e':m=n:=by simpa using e
   subst e'
   obtain⟨t,rfl⟩:=r
   rwa[t,6]
  |succ j=>
   obtain⟨q,h⟩:=ih t j (by simpa using e)
   rwa[q,by simpa using h]
end
structure BaseT(K:Jw)(C:Addr)(m:Str)(f:Addr):Prop where
 rd:PySem.W.readsIn K C (.type "type")=true
 ga:Mu K (.ref C) "__getattribute__">>(some (.builtin "type.__getattribute__"))
 fc:PySem.W.findCls K (.ref C) (.type "type") m>>(.val (.ref f))
section
variable{X:Cx}{CX:CXT}{k:Nat}{f C:Addr}{fd:FuncData}{ps:List Str}{sp:Sp}{dvs:List V}{ds:List Value}{E:XK}{x m:Str}{p pos apos:Pos}{e o:Expr}{es:List Expr}{ta:TE}{t:TA}
theorem keP{pl:Sem Bool}(B:BaseT X.K C m f)(F:FnOk X.prog X.w X.K X.mg X.base CX k f fd ps sp)(hr:Room k X.A)(hg:Gl X x)(hm:X.mg x>>(.ref C))(hk:JU X.K (.ref f)=true)(hb:Binds X.K fd ps ds)(hd:Vals dvs ds)(hx:kdN CX X E)
  (ha:PA X (e::es) t)(hdb:autoParam ((x==("__debug__" :Str))=false) jQ)
  (hst:autoParam (starEach (e::es) X.env=(false,eval e X.env)::starEach es X.env) jz)(hpl:autoParam ((backTo pos (starEach es X.env)).any (·.1)=false) jz)
  (ht:autoParam (eval (.Call (.Attribute (.Name x p) m apos) (e::es) [] pos) X.env=(do
   let ov <-eval (.Name x p) X.env
   standAt apos.atName
   let(f,first) <-holding [ov] (getMethod ov m pl)
   callWith pos f first (backTo pos (starEach (e::es) X.env)) (backToKw pos (keywordEach [] X.env)))) jz):
  PE X (.Call (.Attribute (.Name x p) m apos) (e::es) [] pos) (tCall sp dvs E t):=by
 intro pins s σ H Q I h
 refine Ek (pl:=pl) (thn (kcD (v:=.ref C) hg hm rfl hdb pins s σ H (fun y H1=>y=.ref C/\H1=H) I ⟨rfl,rfl⟩) fun u s1 zz=>?_) ht
 obtain⟨y,H1,I1,ry,ey,eH⟩:=zz
 subst ey eH
 obtain rfl:u=Value.ref C:=ry
 refine PySem.W.method_cls I1.kIn B.ga (PySem.W.cls_value I1.kIn B.rd B.fc rfl ?_)
 have I2:=I1.tok (s1.toks+1)
 refine MK (h₀:=X.base) I.ok.mod.kin hk (thn (ha pos pins _ σ H1 _ I2 h) fun us s2 ⟨vs,H2,I3,r,q2⟩=>⟨I3.kIn,?_⟩) hst hpl
 exact kil F hr hb hd hx I3 r q2
end
def kkX:bootBuiltins "tuple">>(.type "tuple"):=by cutsat
def kd6{n j:Nat}(h:j<n):ixN n (j:Int)>>j:=by
 unfold ixN
 rw[if_pos (by lia),if_pos (by lia)]
 simp
section
variable{X:Cx}
end
section
variable{X:Cx}
def knH(ta:TA):TI:=fun σ H R=>ta σ H fun vs H1=>∃i j k:Int,vs=[.int i, .int j, .int k]/\(-(2 ^ 31)<=i/\i<2 ^ 31)/\(-(2 ^ 31)<=j/\j<2 ^ 31)/\0<k/\k<2 ^ 30/\R (Its i k (Builtin.Range.rangeSize i j k).toNat) H1
theorem kiX{tg a b c:Expr}{ta:TA}{p pos:Pos}(hg:Gl X "range")(hm:X.mg "range"=none)(ha:PA X [a,b,c] ta)(he:autoParam (starEach [a,b,c] X.env=(false,eval a X.env)::starEach [b,c] X.env) jz)
  (hpl:autoParam ((backTo pos (starEach [b,c] X.env)).any (·.1)=false) jz):PI X tg (.Call (.Name "range" p) [a,b,c] [] pos) (knH ta):=by
 intro pins s σ H R I h
 refine Call_ (kdH I hg hm boot_range (PyProof.Rows.callWith_type1 (thn (ha pos pins s σ H _ I h) fun us s1 zz=>?_) he hpl))
 obtain⟨vs,H1,I1,r1,q1⟩:=zz
 obtain⟨i,j,k,e,hi,hj,hk,hk2,q⟩:=q1
 subst e
 cases r1 with
 | cons r rr=>
  cases rr with
  | cons r' rr=>
   cases rr with
   | cons r'' rr=>
    cases rr
    obtain⟨t,rfl⟩:=r
    obtain⟨t',rfl⟩:=r'
    obtain⟨t'',rfl⟩:=r''
    refine call_range_3 (by lia) ?_ (.inl (PyProof.noPylong_small (by lia)))
    refine wpAny_pyIter_range (IsRange.new ..) (kiU hk hk2 hi hj) ?_
    have I2:Inv X pins σ H1 {s1 with heap:=s1.heap.push {cls:=.type "range",data:=.fields #[.int i t, .int j t', .int k t'']},toks:=s1.toks}:=I1.kept fun b o e=>Heap.get?_push_of_some _ e
    have hn:=kgK hk hi hj
    refine⟨(s1.heap.push {cls:=.type "range",data:=.fields #[.int i t, .int j t', .int k t'']}).objs.size,[(s1.heap.push {cls:=.type "range",data:=.fields #[.int i t, .int j t', .int k t'']}).objs.size],_,_,H1,rfl,
     I2.kept (t':=s1.toks) fun b o e=>Heap.get?_push_of_some _ e,kje _ i k (Builtin.Range.rangeSize i j k).toNat,?_,fun b hb=>?_,q⟩
    ·have e1:i+((0:Nat):Int)*k=i:=by simp
     have e2:(((Builtin.Range.rangeSize i j k).toNat:Nat):Int)-((0:Nat):Int)=Builtin.Range.rangeSize i j k:=by lia
     show IsRangeIter _ _ (i+((0:Nat):Int)*k) ((((Builtin.Range.rangeSize i j k).toNat:Nat):Int)-((0:Nat):Int)) k
     rw[e1,e2]
     exact Heap.get?_push_size _ rfl
    ·have e:b=(s1.heap.push {cls:=.type "range",data:=.fields #[.int i t, .int j t', .int k t'']}).objs.size:=by simpa using hb
     subst e
     exact I2.fpOk (Jx _) (I2.hok.fresh (Jx _))
end
section
variable{g:TG}{te:TE}{σ:St}{H:Hp}{R:List V->Hp->Addr->Prop}
theorem kkR{lo st:Int}{n:Nat}(Pv:Nat->St->List V->Hp->Prop)(h0:Pv 0 σ [] H)(hz:n<=sizeLine)(hl:∀i σ ys H,i<=n->Pv i σ ys H->ys.length=i)
  (hs:∀i σ ys H,i<n->Pv i σ ys H->g (.int (lo+i*st)) σ H fun σ2 H2=>te σ2 H2 fun y H3=>Pv (i+1) σ2 (ys++[y]) H3)(hd:∀σ ys H,Pv n σ ys H->∀D,H D=none->R ys H D):
  ∃ W:Nat->Nat->St->List V->Hp->Prop,(∃m,W 0 m σ [] H)/\∀i m σ' ys H',W i m σ' ys H'->
   ((Its lo st n).stop i H'/\∀D,H' D=none->R ys H' D)∨((Its lo st n).go i H'/\ys.length<sizeLine/\∃N:St->V->Hp->Prop,(∀σ2 y H4,N σ2 y H4->∃m',m'<m/\W (i+1) m' σ2 (ys++[y]) H4)/\
    ∀x H2,(Its lo st n).yld i H' x H2->g x σ' H2 fun σ2 H3=>te σ2 H3 (N σ2)):=by
 rwa[fun i m σ ys H=>m=n-i/\i<=n/\Pv i σ ys H,⟨n,by simp,J7 _,h0⟩,?_]
 rintro i m σ ys H ⟨rfl,hi,p⟩
 have el:=hl i σ ys H hi p
 by_cases hlt:i<n
 ·refine .inr ⟨hlt,by lia,fun σ2 y H3=>Pv (i+1) σ2 (ys++[y]) H3,fun σ' y H' p'=>⟨n-(i+1),by lia,rfl,hlt,p'⟩,fun x H' yl=>?_⟩
  obtain⟨e,yl⟩:=yl
  subst e yl
  exact hs i σ ys _ hlt p
 ·have e:i=n:=by lia
  subst e
  exact .inl ⟨Jx _,hd σ ys H p⟩
end
def kht{L m:Nat}(hm:0<m):(Builtin.Range.rangeSize 0 ((L:Int)-(m:Int)+1) (m:Int)).toNat=L/m:=by
 unfold Builtin.Range.rangeSize
 rw[if_pos (by lia)]
 by_cases h:m<=L
 ·rw[if_pos (by lia),show(L:Int)-(m:Int)+1-0-1=((L-m:Nat):Int) by lia,<-Int.natCast_ediv,Nat.div_eq_sub_div hm h]
  generalize (L-m)/m=q
  lia
 ·rw[if_neg (by lia),Nat.div_eq_of_lt (by lia)]
  rfl
inductive Src where
 |p (i:Nat)
 |k (j:Nat)
 |d (v:Value) (x:V)
noncomputable def Src.val(us ws:List Value):Src->Value
 | .p i=>us.getD i .none
 | .k j=>ws.getD j .none
 | .d v _=>v
noncomputable def Src.abs(vs zs:List V):Src->V
 | .p i=>vs.getD i .non
 | .k j=>zs.getD j .non
 | .d _ x=>x
def Src.Ok:Src->Prop
 | .d v x=>RelV x v
 |_=>True
noncomputable def gk(nu nw:Nat)(ss:List Src)(us ws:List Value):List Value:=if us.length=nu/\ws.length=nw then ss.map (Src.val us ws) else []
section
variable{X:Cx}{CX:CXT}{k:Nat}{f C:Addr}{fd:FuncData}{ps ks:List Str}{sp:Sp}{E:XK}{x:Str}{p pos:Pos}{kws:List Keyword}{tk:TA}{g:List Value->List Value->List Value}{gV:List V->List V->List V}
end
noncomputable def atK(kvs:List (Key×V))(k:Key):Option V:=(kvs.find? fun p=>decide (p.1=k)).map Prod.snd
theorem khX{kvs:List (Key×V)}{vs:List (Key×Value)}(h:KV kvs vs)(k:Key):RelO (atK kvs k) (valueAt vs k):=by
 induction h with
 |nil=>exact True.intro
 |@cons p q ps qs h t ih=>
  obtain⟨h1,h2⟩:=h
  unfold atK valueAt at *
  by_cases e:p.1=k
  ·have e':q.1=k:=h1.symm.trans e
   simp only[NP,e,e',decide_true,N3]
   exact h2
  ·have e':¬q.1=k:=fun z=>e (h1.trans z)
   simp only[NP,e,e',decide_false]
   exact ih
theorem kvAny{kvs:List (Key×V)}{vs:List (Key×Value)}(h:KV kvs vs)(k:Key)(hn:atK kvs k=none):(vs.any fun p=>decide (p.1=k))=false:=by
 induction h with
 |nil=>rfl
 |@cons p q ps qs h t ih=>
  obtain⟨h1,h2⟩:=h
  unfold atK at hn
  by_cases e:p.1=k
  ·simp[NP,e] at hn
  ·have e':¬q.1=k:=fun z=>e (h1.trans z)
   rw[NF,decide_eq_false e',Bool.false_or]
   refine ih ?_
   unfold atK
   simpa[NP,e] using hn
theorem kmk{kvs:List (Key×V)}{vs:List (Key×Value)}(h:KV kvs vs){k:Key}{y:V}{u:Value}(r:RelV y u):KV (kvs++[(k,y)]) (vs++[(k,u)]):=by
 induction h with|nil=>exact .cons ⟨rfl,r⟩ .nil|cons h t ih=>exact .cons h ih
theorem kvLen{kvs:List (Key×V)}{vs:List (Key×Value)}(h:KV kvs vs):kvs.length=vs.length:=Paired.length h
theorem kmj:∀{kvs:List (Key×V)}{vs:List (Key×Value)},KV kvs vs->Vals (kvs.map Prod.snd) (vs.map Prod.snd)
 |_,_, .nil=>.nil
 |_,_, .cons h t=>.cons h.2 (kmj t)
section
variable{X:Cx}
def knl:TE:=fun _ H Q=>∀p,H p=none->Q (.ref p) (upd H p (.dK []))
theorem klk{pos:Pos}:PE X (.Dict [] [] pos) knl:=fun pins s σ H Q I h=>
 have big:sysModules<s.heap.objs.size:=MO (by decide) (show mainGlobals<s.heap.objs.size from(I.mod.glob.keeps I.bk).lt)
 wpAny_Dict_empty ⟨.ref s.heap.objs.size,_,I.laid (a:=s.heap.objs.size) (o:=.dK []) (t':=s.toks) (fun _ _ q=>Heap.get?_push_of_some _ q) (Jx _)
  (show ObjOk X.prog X.w _ _ _ (.dK []) from⟨J7 _,beq_eq_false_iff_ne.mpr (Ne.symm (J5 big)),[], .nil,Heap.DictOf.new _⟩),rfl,h _ (I.hok.fresh (Jx _))⟩
def rSetd:V->List V->Hp->VK->Prop:=fun x vs H Q=>∃(a:Addr)(kvs:List (Key×V))(i:Int)(y:V),x=.ref a/\vs=[.int i,y]/\H a>>(.dK kvs)/\kvs.length<sizeLine/\(∀v,atK kvs (.inl i)>>v->Q v H)/\(atK kvs (.inl i)=none->Q y (upd H a (.dK (kvs++[(.inl i,y)]))))
theorem kgg:MtM X "dict.setdefault" rSetd:=by
 intro pins s σ H x vs v us Q I rx rv h
 obtain⟨a,kvs,i,y,rfl,rfl,e,hz,h1,h2⟩:=h
 cases rx
 obtain⟨u1,u2,rfl,⟨t,rfl⟩,ru2⟩:=vals2 rv
 obtain⟨z,hd,ws,rel,dd⟩:=(show ObjOk X.prog X.w H s.heap a (.dK kvs) from I.hok a _ e)
 have key:(kbj X.prog X.w).is (Sum.inl i:Key) (.int i t)=true:=ke3 _ _ i t
 refine call_meetsIn EN dd.typeIs PySem.F.entry_dict_setdefault (PySem.F.args_dict_setdefault_3 _ _ _) (kt_meets_setdefault (kbj X.prog X.w) a key hd u2)
  ⟨ws,dd,by rw[<-kvLen rel];exact z,fun v hv=>?_,fun hn h' dd' hs=>?_⟩
 ·have r:=khX rel (Sum.inl i)
  rw[hv] at r
  cases ea:atK kvs (Sum.inl i) with
  |none=>rw[ea] at r;exact(show False from r).elim
  |some w'=>
   rw[ea] at r
   rwa[w',H,I.tok _,r,h1 w' ea]
 ·have r:=khX rel (Sum.inl i)
  rw[hn] at r
  have ea:atK kvs (Sum.inl i)=none:=by
   cases ea:atK kvs (Sum.inl i) with
   |none=>rfl
   |some w'=>rw[ea] at r;exact(show False from r).elim
  have est:stored ws (Sum.inl i:Key) u2=ws++[(Sum.inl i,u2)]:=by
   unfold stored
   rw[kvAny rel _ ea,if_neg JD]
  rw[est] at dd'
  have he:∃q,h'.get? a>>q:=let⟨q,_,_,hq,_⟩:=dd';⟨q,hq⟩
  rwa[y,_,I.write (x:=a) (e:=a) (by rw[e];exact True.intro) (.inl rfl) (fun b q hb w'=>(hs.2 b hb).trans w') he ?_,ru2,h2 ea]
  exact(show ObjOk X.prog X.w _ h' a (.dK (kvs++[(.inl i,y)])) from⟨by rw[JN,Nv];lia,hd,_,kmk rel ru2,dd'⟩)
def kji(te:TE):TE:=fun σ H Q=>te σ H fun v H1=>∃(a:Addr)(kvs:List (Key×V)),v=.ref a/\H1 a>>(.dK kvs)/\∀l,H1 l=none->Q (.ref l) (upd H1 l (.lst (kvs.map Prod.snd)))
theorem khE{e:Expr}{te:TE}{p1 pos1 apos cpos:Pos}(hc:X.calm=true)(h1:Gl X "list")(m1:X.mg "list"=none)(he:PE X e te)
  (hbase:autoParam (attributeBase e "values" X.env (eval e X.env)=eval e X.env) jz)(hline:autoParam ((apos.endLine==cpos.line)=true) jz)
  (s2:autoParam (starEach [.Call (.Attribute e "values" apos) [] [] cpos] X.env=[(false,eval (.Call (.Attribute e "values" apos) [] [] cpos) X.env)]) jz):PE X (.Call (.Name "list" p1) [.Call (.Attribute e "values" apos) [] [] cpos] [] pos1) (kji te):=by
 intro pins s σ H Q I h
 refine wpAny_Call_Name_kw (kdH I h1 m1 kbF ?_ (by decide) (by decide))
 refine PyProof.Rows.callWith_type1 ?_ s2 rfl
 rw[s2]
 refine Calls.spliced_cons (wpAny_Call_method0_late hbase hline (thn (he pins s σ H _ I h) fun u s3 zz=>?_))
 obtain⟨v,H1,I1,r1,a,kvs,ev,ea,q⟩:=zz
 subst ev
 cases r1
 obtain⟨t1,t2⟩:=klY (T:="dict") (x:=.ref a) (v:=.ref a) I1 rfl (.inr (.inr (.inl ⟨rfl, .inl ⟨kvs,ea⟩⟩)))
 obtain⟨z,hd,ws,rel,dd⟩:=(show ObjOk X.prog X.w H1 s3.heap a (.dK kvs) from I1.hok a _ ea)
 obtain⟨ep,hat⟩:=dd.dictAt
 rwa["dict","dict.values",EO,ER,PySem.F.type_dict_values,t1,t2,Calls.callWith_builtin rfl (PySem.evalArgs_none ?_)]
 refine call_meetsIn ER dd.typeIs PySem.F.entry_dict_values (PySem.F.args_dict_values_1 _) (meets_dict_values (kbj X.prog X.w) a hd) ⟨⟨ws,dd⟩,Calls.spliced_nil ?_⟩
 refine PySem.W.kdl_call (PySem.W.kdl_values (knd:=kbj X.prog X.w) (kvs:=ws) (ep:=ep)) (I1.ok.hd hc) ⟨⟨_,Heap.get?_push_size _ rfl,rfl,rfl⟩,hat.push _⟩ (by rw[<-kvLen rel];exact z) fun h' tk acc' c' hk hS hacc=>?_
 have hv:acc'.toList=ws.map (·.2):=PySem.W.kdl_vals_eq acc'.toList (by rw[Mg];exact hacc.1) fun j v' ej=>hacc.2 j v' (by rw[<-Array.getElem?_toList];exact ej)
 generalize ho:({cls:=.type "dict_values",data:=.fields #[.ref a]}:Obj)=ob at *
 have hsz:(s3.heap.push ob).objs.size=s3.heap.objs.size+1:=Heap.size_push ..
 have rv:Vals (kvs.map Prod.snd) acc'.toList:=by rw[hv];exact kmj rel
 have I2:Inv X pins σ (upd H1 (s3.heap.push ob).objs.size (.lst (kvs.map Prod.snd))) {s3 with heap:=h',toks:=tk}:=
  I1.laid (fun b o e=>hk b o (Heap.get?_push_of_some _ e)) (by rw[hsz];exact NY _) (show ObjOk X.prog X.w _ h' _ (.lst (kvs.map Prod.snd)) from⟨by rw[Jv];exact z,acc'.toList,c',rv,by simpa using hS⟩)
 rwa[.ref _,_,I2,6,q _ (I1.hok.fresh (by rw[hsz];exact NY _))]
end
section
variable{X:Cx}
end
end L2
namespace Stb
open PySem PyProof.Rows
noncomputable def T(xs:Array Keyed)(i:Nat):Int:=match xs[i]? with
 |some p=>numOf p.2
 |none=>0
def T_at{xs ys:Array Keyed}{i j:Nat}(h:xs[i]?=ys[j]?):T xs i=T ys j:=by unfold T;rw[h]
def Lx(xs:Array Keyed)(i j:Nat):Prop:=K xs i<K xs j∨(K xs i=K xs j/\T xs i<T xs j)
def Lx.trans{xs:Array Keyed}{i j k:Nat}(h:Lx xs i j)(h':Lx xs j k):Lx xs i k:=by unfold Lx at *;lia
def Lx.le{xs:Array Keyed}{i j:Nat}(h:Lx xs i j):K xs i<=K xs j:=by unfold Lx at *;lia
def Up(xs:Array Keyed)(k:Nat):Prop:=∀i j,i<j->j<k->Lx xs i j
def Dn(xs:Array Keyed)(k:Nat):Prop:=∀i j,i<j->j<k->Lx xs j i
def Lat(a₀ xs:Array Keyed)(k:Nat):Prop:=∀i j,i<j->k<=j->j<a₀.size->T xs i<T xs j
def Lat.mono{a₀ xs:Array Keyed}{k k':Nat}(h:Lat a₀ xs k)(hk:k<=k'):Lat a₀ xs k':=fun i j h1 h2 h3=>h i j h1 (by lia) h3
theorem kiO{xs:Array Keyed}{src d:Nat}(hs:src<xs.size)(hd:d<=src)(k:Nat):
  ∃k',(K (bubble xs src d) k=K xs k'/\T (bubble xs src d) k=T xs k')/\k'=if k=src-d then src else if src-d<k/\k<=src then k-1 else k:=by
 rwa[_,?_,6]
 have e:=getElem?_bubble hs d hd k
 have e':(bubble xs src d)[k]?=xs[if k=src-d then src else if src-d<k/\k<=src then k-1 else k]?:=by
  rw[e]
  split
  ·rfl
  ·split <;> rfl
 rwa[K_congr e',T_at e']
theorem kcQ{xs:Array Keyed}{i j:Nat}(hj:j<=xs.size)(k:Nat):
  ∃k',(K (mirror xs i j ((j-i)/2)) k=K xs k'/\T (mirror xs i j ((j-i)/2)) k=T xs k')/\k'=if i<=k/\k<j then i+j-1-k else k:=by
 rwa[_,?_,6]
 have e:=getElem?_mirror_all (i:=i) hj k
 have e':(mirror xs i j ((j-i)/2))[k]?=xs[if i<=k/\k<j then i+j-1-k else k]?:=by
  rw[e]
  split <;> rfl
 rwa[K_congr e',T_at e']
def khM{a₀ xs:Array Keyed}{i j k:Nat}(hj:j<=xs.size)(hk:j<=k)(h:Lat a₀ xs k):Lat a₀ (mirror xs i j ((j-i)/2)) k:=by
 intro a b hab hkb hb
 obtain⟨a',⟨_,ea⟩,ha⟩:=kcQ (i:=i) hj a
 obtain⟨b',⟨_,eb⟩,hb'⟩:=kcQ (i:=i) hj b
 rw[ea,eb]
 rw[if_neg (by lia)] at hb'
 subst hb'
 refine h _ _ ?_ hkb hb
 rw[ha]
 split <;> lia
section
variable{prog:Program}{w:World}{A:Around}{E:Value->Shared->Prop}{s:Shared}{a₀:Array Keyed}
theorem asc{st:SortSt}{a nrem:Nat}{Q:AscSt->SortSt->Prop}(h0:IntKeys a₀)(hn:nrem<=a₀.size)(ha:1<=a)(han:a<=nrem)(hB:SBase a₀ st)(hs:Up (arrOf st) a)(hl:Lat a₀ (arrOf st) a)
  (h:∀n,a<=n->n<=nrem->Up (arrOf st) n->(n=nrem∨K (arrOf st) n<K (arrOf st) (n-1))->Q (none,n) st):wpS (model prog w) A E s (ascLoop a nrem) Q st:=by
 unfold ascLoop
 refine wpS_forRange (I:=fun x c st'=>st'=st/\c=(none,x)/\Up (arrOf st) x) ?turn ?over ⟨rfl,rfl,hs⟩
 case over=>
  rintro c st' ⟨rfl,rfl,u⟩
  rw[show max a nrem=nrem by lia] at u⊢
  exact h nrem han (Jx _) u (.inl rfl)
 case turn=>
  rintro x c st' hax hxn ⟨rfl,rfl,u⟩
  dsimp only
  refine wpS_bind (wpS_ltK hB h0 (by lia) (by lia) ?_)
  by_cases c1:K (arrOf st') x<K (arrOf st') (x-1)
  ·simp only[c1,decide_true,if_true]
   exact wpS_pure (h x hax (by lia) u (.inr c1))
  ·simp only[c1,decide_false,Ng,if_false]
   refine wpS_pure ⟨rfl,rfl,fun i j hij hj=>?_⟩
   by_cases hjx:j<x
   ·exact u i j hij hjx
   ·have e:j=x:=by lia
    subst e
    have t1:=hl (j-1) j (by lia) hax (by lia)
    have l1:Lx (arrOf st') (j-1) j:=by unfold Lx;lia
    by_cases e2:i=j-1
    ·rw[e2];exact l1
    ·exact(u i (j-1) (by lia) (by lia)).trans l1
theorem tail{st:SortSt}{n nrem:Nat}{Q:Option Nat->SortSt->Prop}(h0:IntKeys a₀)(hn:nrem<=a₀.size)(h1:1<=n)(hnn:n<=nrem)(hB:SBase a₀ st)(hs:Dn (arrOf st) n)(hl:Lat a₀ (arrOf st) n)
  (h:∀m st',SBase a₀ st'->1<=m->m<=nrem->Up (arrOf st') m->Lat a₀ (arrOf st') m->Q (some m) st'):wpS (model prog w) A E s (tail3 n nrem) Q st:=by
 unfold tail3
 have sz:n<=(arrOf st).size:=by rw[hB.size];lia
 refine wpS_bind (wpS_reverse ?_)
 have hB2:SBase a₀ (setArr st (mirror (arrOf st) 0 n ((n-0)/2))):=hB.setArr (mirror_perm _ _ _ _)
 have hl2:Lat a₀ (mirror (arrOf st) 0 n ((n-0)/2)) n:=khM sz (Jx _) hl
 refine wpS_bind (asc h0 hn h1 hnn hB2 ?_ hl2 fun m hm1 hm2 hu _=>wpS_pure (h m _ hB2 (by lia) hm2 hu (hl2.mono hm1)))
 intro i j hij hj
 show Lx (mirror (arrOf st) 0 n ((n-0)/2)) i j
 obtain⟨i',⟨k1,t1⟩,e1⟩:=kcQ (i:=0) sz i
 obtain⟨j',⟨k2,t2⟩,e2⟩:=kcQ (i:=0) sz j
 rw[if_pos (by lia)] at e1 e2
 have:=hs j' i' (by lia) (by lia)
 unfold Lx at this⊢
 rw[k1,k2,t1,t2]
 exact this
structure Fl(a₀ xs:Array Keyed)(x neq:Nat):Prop where
 few:neq+1<=x
 hd:Dn xs (x-(neq+1))
 cr:∀i j,i<x-(neq+1)->x-(neq+1)<=j->j<x->K xs j<K xs i
 tl:∀i j,x-(neq+1)<=i->i<j->j<x->K xs i=K xs j/\T xs i<T xs j
 lat:Lat a₀ xs x
theorem Fl.turned{xs:Array Keyed}{x neq:Nat}(h:Fl a₀ xs x neq)(hx:x<=xs.size):Dn (mirror xs (x-(neq+1)) x ((x-(x-(neq+1)))/2)) x/\(∀i,i<x->K xs (x-1)<=K (mirror xs (x-(neq+1)) x ((x-(x-(neq+1)))/2)) i)/\Lat a₀ (mirror xs (x-(neq+1)) x ((x-(x-(neq+1)))/2)) x/\
  ∀k,x<=k->K (mirror xs (x-(neq+1)) x ((x-(x-(neq+1)))/2)) k=K xs k:=by
 have hf:=h.few
 rwa[fun i j hij hj=>?_,fun i hi=>?_,khM hx (Jx _) h.lat,fun k hk=>?_]
 ·obtain⟨i',⟨k1,t1⟩,e1⟩:=kcQ (i:=x-(neq+1)) hx i
  obtain⟨j',⟨k2,t2⟩,e2⟩:=kcQ (i:=x-(neq+1)) hx j
  unfold Lx
  rw[k1,k2,t1,t2]
  by_cases c1:j<x-(neq+1)
  ·rw[if_neg (by lia)] at e1 e2
   subst e1 e2
   exact h.hd i' j' hij c1
  ·rw[if_pos (by lia)] at e2
   by_cases c2:i<x-(neq+1)
   ·rw[if_neg (by lia)] at e1
    subst e1
    exact .inl (h.cr i' j' c2 (by lia) (by lia))
   ·rw[if_pos (by lia)] at e1
    have:=h.tl j' i' (by lia) (by lia) (by lia)
    lia
 ·obtain⟨i',⟨k1,_⟩,e1⟩:=kcQ (i:=x-(neq+1)) hx i
  rw[k1]
  by_cases c2:i<x-(neq+1)
  ·rw[if_neg (by lia)] at e1
   subst e1
   have:=h.cr i' (x-1) c2 (by lia) (by lia)
   lia
  ·rw[if_pos (by lia)] at e1
   by_cases c3:i'=x-1
   ·rw[c3];exact Int.le_refl _
   ·have:=h.tl i' (x-1) (by lia) (by lia) (by lia)
    lia
 ·obtain⟨k',⟨k1,_⟩,e1⟩:=kcQ (i:=x-(neq+1)) hx k
  rw[if_neg (by lia)] at e1
  rw[k1,e1]
theorem Fl.plain{xs:Array Keyed}{x:Nat}(h:Fl a₀ xs x 0):Dn xs x/\(∀i,i<x->K xs (x-1)<=K xs i):=by
 have hf:=h.few
 rwa[fun i j hij hj=>?_,fun i hi=>?_]
 ·by_cases c1:j<x-(0+1)
  ·exact h.hd i j hij c1
  ·exact .inl (h.cr i j (by lia) (by lia) hj)
 ·by_cases c3:i=x-1
  ·rw[c3];exact Int.le_refl _
  ·have:=h.cr i (x-1) (by lia) (by lia) (by lia)
   lia
theorem Fl.next{xs:Array Keyed}{x:Nat}(hd:Dn xs x)(hk:∀i,i<x->K xs x<K xs i)(hl:Lat a₀ xs x):Fl a₀ xs (x+1) 0:=
 ⟨by lia,fun i j h1 h2=>hd i j h1 (by lia),fun i j h1 h2 h3=>by
  have e:j=x:=by lia
  subst e
  exact hk i (by lia),fun i j h1 h2 h3=>by lia,hl.mono (by lia)⟩
theorem desc{st:SortSt}{n nrem:Nat}{Q:DescSt->SortSt->Prop}(h0:IntKeys a₀)(hn:nrem<=a₀.size)(hnn:n<=nrem)(hB:SBase a₀ st)(hs:Fl a₀ (arrOf st) n 0)
  (h:∀m neq st',SBase a₀ st'->n<=m->m<=nrem->Fl a₀ (arrOf st') m neq->Q (none,m,neq) st'):wpS (model prog w) A E s (descLoop n nrem) Q st:=by
 unfold descLoop
 refine wpS_forRange (I:=fun x c st'=>∃neq,c=(none,x,neq)/\SBase a₀ st'/\Fl a₀ (arrOf st') x neq) ?turn ?over ⟨0,rfl,hB,hs⟩
 case over=>
  rintro c st' ⟨neq,rfl,hB',f⟩
  rw[show max n nrem=nrem by lia] at f⊢
  exact h nrem neq st' hB' hnn (Jx _) f
 case turn=>
  rintro x c st' hax hxn ⟨neq,rfl,hB',f⟩
  dsimp only
  have few:=f.few
  have sz:x<=(arrOf st').size:=by rw[hB'.size];lia
  refine wpS_bind (wpS_ltK hB' h0 (by lia) (by lia) ?_)
  by_cases c1:K (arrOf st') x<K (arrOf st') (x-1)
  ·simp only[c1,decide_true,if_true]
   by_cases c2:neq > 0
   ·rw[if_pos c2]
    obtain⟨d1,d2,d3,d4⟩:=f.turned sz
    refine wpS_bind (wpS_reverse (wpS_pure ⟨0,rfl,hB'.setArr (mirror_perm _ _ _ _),Fl.next d1 (fun i hi=>?_) d3⟩))
    have:=d2 i hi
    have e:=d4 x (Jx _)
    show K (mirror (arrOf st') _ _ _) x<K (mirror (arrOf st') _ _ _) i
    lia
   ·rw[if_neg c2]
    have e:neq=0:=by lia
    subst e
    obtain⟨d1,d2⟩:=f.plain
    exact wpS_pure ⟨0,rfl,hB',Fl.next d1 (fun i hi=>by have:=d2 i hi;lia) f.lat⟩
  ·simp only[c1,decide_false,Ng,if_false]
   refine wpS_bind (wpS_ltK hB' h0 (by lia) (by lia) ?_)
   by_cases c2:K (arrOf st') (x-1)<K (arrOf st') x
   ·simp only[c2,decide_true,if_true]
    exact wpS_pure (h x neq st' hB' hax (by lia) f)
   ·simp only[c2,decide_false,Ng,if_false]
    have ek:K (arrOf st') x=K (arrOf st') (x-1):=by lia
    refine wpS_pure ⟨neq+1,rfl,hB',⟨by lia,?_,?_,?_,f.lat.mono (by lia)⟩⟩
    ·rw[show x+1-(neq+1+1)=x-(neq+1) by lia]
     exact f.hd
    ·rw[show x+1-(neq+1+1)=x-(neq+1) by lia]
     intro i j h1 h2 h3
     by_cases c3:j<x
     ·exact f.cr i j h1 h2 c3
     ·have e:j=x:=by lia
      subst e
      rw[ek]
      exact f.cr i (j-1) h1 (by lia) (by lia)
    ·rw[show x+1-(neq+1+1)=x-(neq+1) by lia]
     intro i j h1 h2 h3
     by_cases c3:j<x
     ·exact f.tl i j h1 h2 c3
     ·have e:j=x:=by lia
      subst e
      rwa[?_,f.lat i j h2 (Jx _) (by lia)]
      rw[ek]
      by_cases c4:i=j-1
      ·rw[c4]
      ·exact(f.tl i (j-1) h1 (by lia) (by lia)).1
theorem falls{st:SortSt}{n nrem:Nat}{Q:Option Nat->SortSt->Prop}(h0:IntKeys a₀)(hn:nrem<=a₀.size)(hnn:n+1<=nrem)(hB:SBase a₀ st)(hs:Fl a₀ (arrOf st) (n+1) 0)
  (h:∀m st',SBase a₀ st'->1<=m->m<=nrem->Up (arrOf st') m->Lat a₀ (arrOf st') m->Q (some m) st'):wpS (model prog w) A E s (descPart n nrem) Q st:=by
 unfold descPart
 refine wpS_bind (wpS_lift (wpAny_rule ⟨rfl,?_⟩))
 refine wpS_bind (desc h0 hn hnn hB hs fun m neq st' hB' hm1 hm2 f=>?_)
 dsimp only
 have sz:m<=(arrOf st').size:=by rw[hB'.size];lia
 by_cases c2:neq > 0
 ·rw[if_pos c2]
  obtain⟨d1,_,d3,_⟩:=f.turned sz
  exact wpS_bind (wpS_reverse (tail h0 hn (by lia) hm2 (hB'.setArr (mirror_perm _ _ _ _)) d1 d3 h))
 ·rw[if_neg c2]
  have e:neq=0:=by lia
  subst e
  exact tail h0 hn (by lia) hm2 hB' f.plain.1 f.lat h
theorem count{st:SortSt}{nrem:Nat}{Q:Option Nat->SortSt->Prop}(h0:IntKeys a₀)(hn:nrem<=a₀.size)(h1:1<=nrem)(hB:SBase a₀ st)(hl:Lat a₀ (arrOf st) 1)
  (h:∀m st',SBase a₀ st'->1<=m->m<=nrem->Up (arrOf st') m->Lat a₀ (arrOf st') m->Q (some m) st'):wpS (model prog w) A E s (countRun' 0 nrem) Q st:=by
 rw[countRun0_eq]
 refine wpS_bind (asc h0 hn (Jx 1) h1 hB (fun i j hij hj=>by lia) hl fun n hn1 hn2 hu hor=>?_)
 dsimp only
 by_cases c1:n=nrem
 ·rw[if_pos (by simpa using c1)]
  exact wpS_pure (h n st hB hn1 hn2 hu (hl.mono hn1))
 ·rw [if_neg (by simpa using c1)]
  have lt:K (arrOf st) n<K (arrOf st) (n-1):=hor.resolve_left c1
  by_cases c2:n > 1
  ·rw [if_pos c2]
   refine wpS_bind (wpS_ltK hB h0 (by lia) (by lia) ?_)
   by_cases c3:K (arrOf st) 0<K (arrOf st) (n-1)
   ·simp only[c3,decide_true,if_true]
    exact wpS_pure (h n st hB hn1 hn2 hu (hl.mono hn1))
   ·simp only[c3,decide_false,Ng,if_false]
    have sz:n<=(arrOf st).size:=by rw[hB.size];lia
    have same:∀i,i<n->K (arrOf st) i=K (arrOf st) (n-1):=fun i hi=>by
     by_cases z:i=0
     ·subst z
      have:=(hu 0 (n-1) (by lia) (by lia)).le
      lia
     ·have a1:=(hu 0 i (by lia) hi).le
      by_cases z2:i=n-1
      ·rw[z2]
      ·have a2:=(hu i (n-1) (by lia) (by lia)).le
       lia
    refine wpS_bind (wpS_reverse (falls h0 hn (by lia) (hB.setArr (mirror_perm _ _ _ _)) (Fl.next (fun i j hij hj=>?_) (fun i hi=>?_) (khM sz (Jx _) (hl.mono hn1))) h))
    ·show Lx (mirror (arrOf st) 0 n ((n-0)/2)) j i
     obtain⟨i',⟨k1,t1⟩,e1⟩:=kcQ (i:=0) sz i
     obtain⟨j',⟨k2,t2⟩,e2⟩:=kcQ (i:=0) sz j
     rw[if_pos (by lia)] at e1 e2
     have:=hu j' i' (by lia) (by lia)
     unfold Lx at this⊢
     rw[k1,k2,t1,t2]
     exact this
    ·show K (mirror (arrOf st) 0 n ((n-0)/2)) n<K (mirror (arrOf st) 0 n ((n-0)/2)) i
     obtain⟨i',⟨k1,_⟩,e1⟩:=kcQ (i:=0) sz i
     obtain⟨n',⟨k2,_⟩,e2⟩:=kcQ (i:=0) sz n
     rw[if_pos (by lia)] at e1
     rw[if_neg (by lia)] at e2
     subst e2
     rw[k1,k2,same i' (by lia)]
     exact lt
  ·rw[if_neg c2]
   have e:n=1:=by lia
   subst e
   refine falls h0 hn (by lia) hB (Fl.next (fun i j hij hj=>by lia) (fun i hi=>?_) hl) h
   have z:i=0:=by lia
   subst z
   exact lt
theorem insert{st:SortSt}{n ok:Nat}{Q:Bool->SortSt->Prop}(h0:IntKeys a₀)(hn:n<=a₀.size)(h1:1<=ok)(hok:ok<=n)(hB:SBase a₀ st)(hs:Up (arrOf st) ok)(hl:Lat a₀ (arrOf st) ok)
  (h:∀st',SBase a₀ st'->Up (arrOf st') n->Q true st'):wpS (model prog w) A E s (binarySort' 0 n ok) Q st:=by
 rw[binarySort'_eq]
 simp only[My]
 refine wpS_bind (wpS_mono (wpS_forRange (I:=fun k c st'=>c=(none,())/\SBase a₀ st'/\Up (arrOf st') (min k n)/\Lat a₀ (arrOf st') (min k n)) (Q:=fun c st'=>c=(none,())/\SBase a₀ st'/\Up (arrOf st') n) ?turn ?over ?begin) ?behind)
 case behind=>
  rintro c st' ⟨rfl,hB',hu⟩
  exact wpS_pure (h st' hB' hu)
 case begin=>
  rw[show max ok 1=ok by lia,show min ok n=ok by lia]
  rwa[6,hB,hs,hl]
 case over=>
  rintro c st' ⟨hc,hB',hu,_⟩
  rwa[hc,hB',?_]
  rwa [show min (max (max ok 1) n) n=n by lia] at hu
 case turn=>
  rintro k c st' hak hkn ⟨rfl,hB',hu,hla⟩
  rw[show min k n=k by lia] at hu hla
  have hk:k<a₀.size:=by lia
  refine wpS_bind (wpS_mono (wpS_forRange (I:=fun x c st''=>st''=st'/\∃l r,c=(none,l,r)/\l<=r/\r<=k/\r-l<=k-x/\(∀i,i<l->K (arrOf st') i<=K (arrOf st') k)/\(∀i,r<=i->i<k->K (arrOf st') k<K (arrOf st') i))
   (Q:=fun c st''=>st''=st'/\∃l r,c=(none,l,r)/\l<=k/\(∀i,i<l->K (arrOf st') i<=K (arrOf st') k)/\(∀i,l<=i->i<k->K (arrOf st') k<K (arrOf st') i)) ?turn2 ?over2 ?begin2) ?behind2)
  case begin2=>exact⟨rfl,0,k,rfl,by lia,by lia,by lia,fun i hi=>by lia,fun i a b=>by lia⟩
  case over2=>
   rintro c st'' ⟨rfl,l,r,rfl,hlr,hrk,hm,lo,hi⟩
   have e:l=r:=by lia
   subst e
   rwa[6,l,l,6,hrk,lo,hi]
  case turn2=>
   rintro x c st'' _ hxk ⟨rfl,l,r,rfl,hlr,hrk,hm,lo,hi⟩
   dsimp only
   by_cases c1:l≥r
   ·rw[if_pos c1]
    have e:l=r:=by lia
    subst e
    exact wpS_pure ⟨rfl,l,l,rfl,hrk,lo,hi⟩
   ·rw[if_neg c1]
    refine wpS_bind (wpS_ltK hB' h0 hk (by lia) ?_)
    by_cases c2:K (arrOf st'') k<K (arrOf st'') ((l+r)/2)
    ·simp only[c2,decide_true,if_true]
     refine wpS_pure ⟨rfl,l,(l+r)/2,rfl,by lia,by lia,by lia,lo,fun i a b=>?_⟩
     by_cases z:i=(l+r)/2
     ·rw[z];exact c2
     ·exact Int.lt_of_lt_of_le c2 (hu _ _ (by lia) b).le
    ·simp only[c2,decide_false,Ng,if_false]
     refine wpS_pure ⟨rfl,(l+r)/2+1,r,rfl,by lia,by lia,by lia,fun i a=>?_,hi⟩
     by_cases z:i=(l+r)/2
     ·rw[z];lia
     ·exact Int.le_trans (hu i ((l+r)/2) (by lia) (by lia)).le (Int.not_lt.mp c2)
  case behind2=>
   rintro c st'' ⟨rfl,l,r,rfl,hlk,lo,hi⟩
   show wpS _ _ _ _ (do moveDown' k l;pure (ForInStep.yield (none,()))) _ _
   rw[moveDown'_eq]
   have hks:k<(arrOf st'').size:=by rw[hB'.size];exact hk
   refine wpS_bind (wpS_modify (wpS_pure ⟨rfl,hB'.setArr (bubble_perm _ _ _),?_,?_⟩))
   ·rw [show min (k+1) n=k+1 by lia]
    intro i j hij hj
    show Lx (bubble (arrOf st'') k (k-l)) i j
    obtain⟨i',⟨k1,t1⟩,e1⟩:=kiO hks (show k-l<=k by lia) i
    obtain⟨j',⟨k2,t2⟩,e2⟩:=kiO hks (show k-l<=k by lia) j
    rw[show k-(k-l)=l by lia] at e1 e2
    unfold Lx
    rw[k1,k2,t1,t2]
    by_cases z1:i=l
    ·rw[if_pos z1] at e1
     rw[if_neg (by lia),if_pos (by lia)] at e2
     subst e1
     exact .inl (hi j' (by lia) (by lia))
    ·rw[if_neg z1] at e1
     by_cases z2:j=l
     ·rw[if_pos z2] at e2
      rw[if_neg (by lia)] at e1
      subst e2
      have a1:=lo i' (by lia)
      have a2:=hla i' j' (by lia) (Jx _) hk
      lia
     ·rw[if_neg z2] at e2
      refine hu i' j' ?_ ?_
      ·rw[e1,e2]
       repeat' split
       all_goals lia
      ·rw[e2]
       split <;> lia
   ·rw[show min (k+1) n=k+1 by lia]
    intro a b hab hkb hb
    show T (bubble (arrOf st'') k (k-l)) a<T (bubble (arrOf st'') k (k-l)) b
    obtain⟨a',⟨_,t1⟩,e1⟩:=kiO hks (show k-l<=k by lia) a
    obtain⟨b',⟨_,t2⟩,e2⟩:=kiO hks (show k-l<=k by lia) b
    rw[show k-(k-l)=l by lia] at e1 e2
    rw[if_neg (by lia),if_neg (by lia)] at e2
    subst e2
    rw[t1,t2]
    refine hla a' b' ?_ (by lia) hb
    rw[e1]
    repeat' split
    all_goals lia
def Done(a₀:Array Keyed)(st:SortSt):Prop:=(arrOf st).Perm a₀/\failedOf st=none/\pendingOf st= #[(0,a₀.size,0)]/\Up (arrOf st) a₀.size
theorem done{st:SortSt}(hB:SBase a₀ st)(hu:Up (arrOf st) a₀.size):Done a₀ (setPending st ((pendingOf st).push (0,a₀.size,0))):=⟨hB.perm,hB.failed,by show(pendingOf st).push _=_;rw[hB.pend];rfl,hu⟩
theorem runs{st:SortSt}{Q:Unit->SortSt->Prop}(h0:IntKeys a₀)(hB:SBase a₀ st)(h2:2<=a₀.size)(h64:a₀.size<64)(hl:Lat a₀ (arrOf st) 1)
  (h:∀st',(arrOf st').Perm a₀->failedOf st'=none->Up (arrOf st') a₀.size->Q () st'):wpS (model prog w) A E s sortRuns' Q st:=by
 rw[sortRuns'_eq]
 refine wpS_bind (wpS_get ?_)
 dsimp only
 have mr:minRun' a₀.size a₀.size 0=a₀.size:=by
  obtain⟨f,hf⟩:∃f,a₀.size=f+1:=⟨a₀.size-1,by lia⟩
  have z:minRun' (f+1) a₀.size 0=a₀.size:=by rw[minRun'_succ,if_pos h64];rfl
  rwa [<-hf] at z
 simp only[hB.size,mr]
 refine wpS_bind (wpS_mono (wpS_forRange (I:=fun x c st'=>(x=0/\c=(none,0)/\st'=st)∨(1<=x/\c=(none,a₀.size)/\Done a₀ st')) (Q:=fun c st'=>c=(none,a₀.size)/\Done a₀ st') ?turn ?over (.inl ⟨rfl,rfl,rfl⟩)) ?behind)
 case over=>
  rintro c st' (⟨hx,_,_⟩|⟨_,hc,hD⟩)
  ·lia
  ·rwa[hc,hD]
 case turn=>
  rintro x c st' _ hx (⟨rfl,rfl,rfl⟩|⟨hx1,rfl,hD⟩)
  ·dsimp only
   rw[if_neg (by lia)]
   simp only[Nat.sub_zero,Mc,My]
   refine wpS_bind (count h0 (Jx _) (by lia) hB hl fun m st2 hB2 hm1 hm2 hu2 hl2=>?_)
   dsimp only
   by_cases c1:m<a₀.size
   ·rw[if_pos c1]
    refine wpS_bind (wpS_lift (wpAny_rule ⟨rfl,?_⟩))
    refine wpS_bind (insert h0 (Jx _) hm1 hm2 hB2 hu2 hl2 fun st3 hB3 hu3=>?_)
    simp only[Er,Ng,if_false]
    refine wpS_bind (wpS_get ?_)
    have hb:(pendingOf st3).back?=none:=by rw[hB3.pend];rfl
    rw[hb]
    dsimp only
    exact wpS_bind (wpS_modify (wpS_pure (.inr ⟨by lia,rfl,done hB3 hu3⟩)))
   ·rw[if_neg c1]
    have e:m=a₀.size:=by lia
    subst e
    refine wpS_bind (wpS_get ?_)
    have hb:(pendingOf st2).back?=none:=by rw[hB2.pend];rfl
    rw[hb]
    dsimp only
    exact wpS_bind (wpS_modify (wpS_pure (.inr ⟨by lia,rfl,done hB2 hu2⟩)))
  ·dsimp only
   rw[if_pos (Jx _)]
   exact wpS_pure ⟨rfl,hD⟩
 case behind=>
  rintro c st' ⟨rfl,hD⟩
  dsimp only
  refine wpS_bind (wpS_mono (wpS_forRange (I:=fun _ c st''=>st''=st'/\c=(none,())) (Q:=fun c st''=>st''=st'/\c=(none,())) ?_ (fun _ _ z=>z) ⟨rfl,rfl⟩) ?_)
  ·rintro x c st'' _ _ ⟨rfl,rfl⟩
   refine wpS_bind (wpS_get ?_)
   rw[if_pos (by rw[hD.2.2.1];exact Jx 1)]
   exact wpS_pure ⟨rfl,rfl⟩
  ·rintro c st'' ⟨rfl,rfl⟩
   exact wpS_pure (h _ hD.1 hD.2.1 hD.2.2.2)
end
structure SJ(J:Shared->Prop)(n0:Nat):Prop where
 sz:∀s,J s->n0<=s.heap.objs.size
 push:∀s c xs n,J s->J {s with heap:=s.heap.push (seqObj c xs n)}
 upd:∀s b g,J s->n0<=b->J {s with heap:=s.heap.update b (Obj.mapSeq g)}
def Tells(J:Shared->Prop)(n0:Nat)(k:Int)(s:Shared)(v:Value)(s':Shared):Prop:=(∃t,v=.int k t)/\J s'/\∀b o,n0<=b->s.heap.get? b>>o->s'.heap.get? b>>o
def Rows(keys:Array Value)(vs:List Value)(out:Array Value):Prop:=∃xs:Array Keyed,xs.Perm (keys.zip vs.toArray)/\Up xs xs.size/\out=xs.map (·.2)
section
variable{prog:Program}{w:World}{A:Around}{E:Value->Shared->Prop}{s:Shared}{J:Shared->Prop}{n0:Nat}{a kS:Addr}{vs:List Value}{kz:List Int}{keys:Array Value}{e e1:Nat}{P:PySem.Fin->Shared->Prop}
theorem tailK(S:SJ J n0)(hJ:J s)(hk:s.heap.get? kS>>(seqObj "list" keys e))(ha:s.heap.get? a>>(seqObj "list" #[] e1))(ne:kS≠a)(nk:n0<=kS)(na:n0<=a){st:SortSt}(hz:keys.size<=64)(hp:(arrOf st).Perm (keys.zip vs.toArray))(hu:Up (arrOf st) (arrOf st).size)
  (hf:failedOf st=none)(hv:vs.length<=64)(h:∀h' out c,J {s with heap:=h'}->h'.get? a>>(seqObj "list" out c)->Rows keys vs out->P (.done (.ret .none)) {s with heap:=h'}):wpAny (model prog w) A (ksk_tail a false e1 (.ref kS) st) P E s:=by
 have sz2:(arrOf st).size<=64:=by
  have hvs:vs.toArray.size=vs.length:=by simp
  rw[hp.size_eq,MR]
  lia
 have q1:=Heap.SameBut.update s.heap kS (Obj.mapSeq fun _=>(#[]:Array Value))
 have g1:(s.heap.update kS (Obj.mapSeq fun _=>(#[]:Array Value))).get? a>>(seqObj "list" #[] e1):=(q1.2 a ne.symm).trans ha
 have J1:=S.upd s kS (fun _=>#[]) hJ nk
 have J2:=S.upd _ a (fun _=>(arrOf st).map (·.2)) J1 na
 unfold ksk_tail
 try dsimp only
 refine wpAny_bind (listUpdate_at hk rfl ?_ (by rw[sizeLine_eq];lia) (J7 _))
 refine wpAny_bind (wpAny_letGo ?_)
 refine wpAny_bind (seqEpoch_at g1 rfl ?_)
 refine wpAny_bind (listUpdate_at g1 rfl ?_ (J7 _) (by simp only[Ng,if_false,Array.size_map];rw[sizeLine_eq];lia))
 rw[hf]
 simp only[bne_self_eq_false,Ng,if_false]
 exact wpAny_pure (h _ _ _ J2 (get?_update_seq g1 fun _=>(arrOf st).map (·.2)) ⟨arrOf st,hp,hu,rfl⟩)
theorem zip_T{keys:Array Value}{vs:List Value}{i:Nat}(hl:keys.size=vs.length):T (keys.zip vs.toArray) i=match vs[i]? with|some v=>numOf v|none=>0:=by
 unfold T
 have hvs:vs.toArray.size=vs.length:=by simp
 cases ev:vs[i]? with
 |none=>
  have hi:vs.length<=i:=Ec.mp ev
  have e:(keys.zip vs.toArray)[i]?=none:=Array.getElem?_eq_none (by rw[MR];lia)
  rw[e]
 | some v=>
  have hi:i<vs.length:=(JK.mp ev).1
  have hz:i<(keys.zip vs.toArray).size:=by rw[MR];lia
  have ev':vs[i]=v:=by
   rw[Nw hi] at ev
   exact Option.some.inj ev
  have e:(keys.zip vs.toArray)[i]?>>(keys[i]'(by lia),vs[i]):=by
   rw[MS hz]
   simp
  rw[e,ev']
theorem endK(S:SJ J n0)(hJ:J s)(hk:s.heap.get? kS>>(seqObj "list" keys e))(ha:s.heap.get? a>>(seqObj "list" #[] e1))(ne:kS≠a)(nk:n0<=kS)(na:n0<=a)(hi:IntsAre keys.toList kz)(hl:keys.size=vs.length)(h64:vs.length<64)
  (up:∀(i j:Nat)(x y:Value),i<j->vs[i]?>>x->vs[j]?>>y->numOf x<numOf y)
  (h:∀h' out c,J {s with heap:=h'}->h'.get? a>>(seqObj "list" out c)->Rows keys vs out->P (.done (.ret .none)) {s with heap:=h'}):wpAny (model prog w) A (ksk_end a false vs.toArray e1 (.ref kS) keys) P E s:=by
 have hvs:vs.toArray.size=vs.length:=by simp
 have zs:(keys.zip vs.toArray).size=vs.length:=by rw[MR];lia
 unfold ksk_end
 try dsimp only
 simp only[Ng,if_false]
 by_cases h2:vs.toArray.size<2
 ·rw[if_pos h2,if_pos h2]
  refine wpAny_bind (wpAny_pure ?_)
  rw[StateT.run_pure]
  refine wpAny_bind (wpAny_pure ?_)
  try dsimp only
  refine tailK (st:=SortSt.mk' general' (keys.zip vs.toArray) #[] 7 none) S hJ hk ha ne nk na (by lia) (MT.refl _) ?_ rfl (by lia) h
  intro i j hij hj
  have hj2:j<(keys.zip vs.toArray).size:=hj
  rw[zs] at hj2
  rw[JW] at h2
  lia
 ·rw[if_neg h2,if_neg h2]
  rw[JW] at h2
  rw[ksk_kind hi (by rw[hl];lia)]
  refine wpAny_bind (wpAny_pure ?_)
  have lat:Lat (keys.zip vs.toArray) (keys.zip vs.toArray) 1:=fun i j hij _ hj=>by
   rw[zs] at hj
   rw[zip_T hl,zip_T hl,Nw (show i<vs.length by lia),Nw hj]
   exact up i j _ _ hij (Nw (show i<vs.length by lia)) (Nw hj)
  refine wpAny_bind (wpAny_mono (runs (a₀:=keys.zip vs.toArray) (st:=SortSt.mk' oneType' (keys.zip vs.toArray) #[] 7 none) (Q:=fun _ st'=>(arrOf st').Perm (keys.zip vs.toArray)/\failedOf st'=none/\Up (arrOf st') (keys.zip vs.toArray).size)
   (ksk_intKeys hi) ⟨MT.refl _,rfl,rfl,rfl⟩ (by rw[zs];lia) (by rw[zs];exact h64) lat fun st' b1 b2 b3=>⟨b1,b2,b3⟩) ?_ fun _ _ z=>z)
  rintro⟨⟨⟩,st'⟩ s' ⟨rfl,b1,b2,b3⟩
  try dsimp only
  exact tailK S hJ hk ha ne nk na (by lia) b1 (by rw[b1.size_eq];exact b3) b2 (by lia) h
theorem restK{f:Value}(S:SJ J n0)(hJ:J s)(hk:s.heap.get? kS>>(seqObj "list" #[] 0))(ha:s.heap.get? a>>(seqObj "list" #[] e1))(ne:kS≠a)(nk:n0<=kS)(na:n0<=a)(hl:kz.length=vs.length)(h64:vs.length<64)
  (up:∀(i j:Nat)(x y:Value),i<j->vs[i]?>>x->vs[j]?>>y->numOf x<numOf y)
  (turn:∀(i:Nat)(v:Value)(k:Int),vs[i]?>>v->kz[i]?>>k->∀s',J s'->wpAny (model prog w) A (call f [v]) (Tells J n0 k s') (fun _ _=>False) s')
  (h:∀s' keys out c,J s'->s'.heap.get? a>>(seqObj "list" out c)->IntsAre keys.toList kz->keys.size=vs.length->Rows keys vs out->P (.done (.ret .none)) s'):wpAny (model prog w) A (ksk_rest a f false vs.toArray e1 (.ref kS)) P E s:=by
 unfold ksk_rest
 refine wpAny_bind (wpAny_rule ?_)
 first
  |rw[List.forIn_toArray]
  |rw[<-Array.forIn_toList]
 refine wpAny_bind (ksk_fold (fun i s'=>J s'/\∃kA e,s'.heap.get? kS>>(seqObj "list" kA e)/\s'.heap.get? a>>(seqObj "list" #[] e1)/\IntsAre kA.toList (kz.take i)) vs 0 s ⟨hJ,#[],0,hk,ha,by simpa using IntsAre.nil⟩ ?turnP ?doneP)
 case turnP=>
  rintro j x s' hx ⟨J',kA,e,g1,g2,hi⟩
  simp only[My] at hi⊢
  have hj:j<vs.length:=(JK.mp hx).1
  obtain⟨k,ek⟩:∃k,kz[j]?>>k:=⟨_,Nw (by lia)⟩
  have lz:kA.size<=vs.length:=by
   have h1:=hi.length
   rw[Mg,JV] at h1
   lia
  refine wpAny_bind (wpAny_attempt (wpAny_mono (turn j x k hx ek s' J') (fun v s'' hT=>?_) fun _ _ z=>z.elim))
  obtain⟨⟨t,rfl⟩,J2,kp⟩:=hT
  try dsimp only
  have g1':=kp _ _ nk g1
  have g2':=kp _ _ na g2
  have q1:=Heap.SameBut.update s''.heap kS (Obj.mapSeq (·.push (.int k t)))
  refine wpAny_bind (listUpdate_at g1' rfl ?_ (by rw[sizeLine_eq];lia) (JA (Mt (Array.size_push ..)) (by rw[sizeLine_eq];lia)))
  have et:kz.take (j+1)=kz.take j++[k]:=by rw[NQ,ek];simp
  have ep:(kA.push (Value.int k t)).toList=kA.toList++[Value.int k t]:=by simp
  exact wpAny_pure ⟨rfl,S.upd _ kS _ J2 nk,kA.push (.int k t),_,get?_update_seq g1' (·.push (.int k t)),(q1.2 a ne.symm).trans g2',by rw[ep,et];exact ksk_snoc hi⟩
 case doneP=>
  rintro s' ⟨J',kA,e,g1,g2,hi⟩
  have e3:kz.take (0+vs.length)=kz:=N9 (by lia)
  rw[e3] at hi
  have lk:kA.size=vs.length:=by
   have:=hi.length
   rw[Mg] at this
   lia
  try dsimp only
  refine wpAny_bind (listItems_at g1 rfl ?_)
  exact endK S J' g1 g2 ne nk na hi lk h64 up fun h' out c z1 z2 z3=>h _ kA out c z1 z2 hi lk z3
theorem sortK{f:Value}{n:Nat}(S:SJ J n0)(hJ:J s)(ho:s.heap.get? a>>(seqObj "list" vs.toArray n))(na:n0<=a)(hl:kz.length=vs.length)(h64:vs.length<64)
  (up:∀(i j:Nat)(x y:Value),i<j->vs[i]?>>x->vs[j]?>>y->numOf x<numOf y)
  (turn:∀(i:Nat)(v:Value)(k:Int),vs[i]?>>v->kz[i]?>>k->∀s',J s'->wpAny (model prog w) A (call f [v]) (Tells J n0 k s') (fun _ _=>False) s')
  (h:∀s' keys out c,J s'->s'.heap.get? a>>(seqObj "list" out c)->IntsAre keys.toList kz->keys.size=vs.length->Rows keys vs out->P (.done (.ret .none)) s'):wpAny (model prog w) A (ksk_tree a f false) P E s:=by
 have la:a<s.heap.objs.size:=Heap.lt_size ho
 have J1:=S.upd s a (fun _=>#[]) hJ na
 have J2:=S.push _ "tuple" vs.toArray 0 J1
 have J3:=S.push _ "list" #[] 0 J2
 obtain⟨e1,g1⟩:∃e1,(s.heap.update a (Obj.mapSeq fun _=>(#[]:Array Value))).get? a>>(seqObj "list" #[] e1):=⟨_,get?_update_seq ho fun _=>#[]⟩
 have sz:((s.heap.update a (Obj.mapSeq fun _=>(#[]:Array Value))).push (seqObj "tuple" vs.toArray 0)).objs.size=s.heap.objs.size+1:=by rw[size_push',Heap.size_update]
 have n0s:=S.sz s hJ
 unfold ksk_tree
 refine wpAny_bind (listItems_at ho rfl ?_)
 refine wpAny_bind (listUpdate_at ho rfl ?_ (by rw[JW,sizeLine_eq];lia) (J7 _))
 refine wpAny_bind (seqEpoch_at g1 rfl ?_)
 refine wpAny_bind (wpAny_newTuple ?_ (by show vs.length<=_;rw[sizeLine_eq];lia))
 refine wpAny_bind (wpAny_newList ?_ (J7 _))
 refine wpAny_holding ?_
 refine restK (s:={s with heap:=((s.heap.update a (Obj.mapSeq fun _=>(#[]:Array Value))).push (seqObj "tuple" vs.toArray 0)).push (seqObj "list" #[] 0)}) (kS:=((s.heap.update a (Obj.mapSeq fun _=>(#[]:Array Value))).push (seqObj "tuple" vs.toArray 0)).objs.size)
  S J3 (Heap.get?_push_size _ rfl) (Heap.get?_push_of_some _ (Heap.get?_push_of_some _ g1)) (by rw[sz];exact NL (Nat.lt_succ_of_lt la)) (by rw[sz];lia) na hl h64 up turn h
end
section
variable{prog:Program}{w:World}{A:Around}{E:Value->Shared->Prop}{s:Shared}{J:Shared->Prop}{n0:Nat}{vs:List Value}{kz:List Int}{Q:Value->Shared->Prop}
theorem sortedK{l f:Addr}(S:SJ J n0)(hJ:J s)(hL:s.heap.IsList l vs.toArray)(hl:kz.length=vs.length)(h64:vs.length<64)
  (up:∀(i j:Nat)(x y:Value),i<j->vs[i]?>>x->vs[j]?>>y->numOf x<numOf y)
  (turn:∀(i:Nat)(v:Value)(k:Int),vs[i]?>>v->kz[i]?>>k->∀s',J s'->wpAny (model prog w) A.in1.in1 (call (.ref f) [v]) (Tells J n0 k s') (fun _ _=>False) s')
  (h:∀s' D keys out c,n0<=D->J s'->s'.heap.get? D>>(seqObj "list" out c)->IntsAre keys.toList kz->keys.size=vs.length->Rows keys vs out->Q (.ref D) s'):wpAny (model prog w) A (call (.builtin "sorted") [.ref l] [(Str.ofString "key", .ref f)]) Q E s:=by
 refine call_function_entry_kw kind_sorted plain_sorted entry_sorted (ksk_s1 _ _) ?_
 unfold Builtin.«sorted»
 refine wpAny_bind (m:=checkCount "sorted" 1 1 _) (wpAny_pure ?_)
 refine wpAny_bind (collect_list hL ?_ (by rw[sizeLine_eq];lia))
 refine wpAny_bind (wpAny_newList ?_ (by rw[sizeLine_eq];lia))
 have n0s:=S.sz s hJ
 have J1:=S.push s "list" #[] 0 hJ
 have J2:=S.upd _ s.heap.objs.size (· ++vs.toArray) J1 n0s
 have J3:=S.push _ "list" vs.toArray 0 J2
 have sz:((s.heap.push (seqObj "list" #[] 0)).update s.heap.objs.size (Obj.mapSeq (· ++vs.toArray))).objs.size=s.heap.objs.size+1:=by rw[Heap.size_update,size_push']
 have g1:(((s.heap.push (seqObj "list" #[] 0)).update s.heap.objs.size (Obj.mapSeq (· ++vs.toArray))).push (seqObj "list" vs.toArray 0)).get? (s.heap.objs.size+1)>>(seqObj "list" vs.toArray 0):=by
  rw[<-sz]
  exact Heap.get?_push_size _ rfl
 show wpAny _ _ _ _ _ {s with heap:=((s.heap.push (seqObj "list" #[] 0)).update s.heap.objs.size (Obj.mapSeq (· ++vs.toArray))).push (seqObj "list" vs.toArray 0)}
 rw[sz]
 refine wpAny_bind (wpAny_holding (wpAny_call_entry_kw slot_list_sort ⟨_,g1,rfl⟩ entry_list_sort ?inner (ksk_l1 _ _)))
 case inner=>
  show wpAny (model prog w) A.in1.in1 (Builtin.«list.sort» ⟨[.ref (s.heap.objs.size+1)],[(Str.ofString "key", .ref f)]⟩) _ _ _
  rw[ksk_t1]
  refine sortK (s:={s with heap:=((s.heap.push (seqObj "list" #[] 0)).update s.heap.objs.size (Obj.mapSeq (· ++vs.toArray))).push (seqObj "list" vs.toArray 0)}) S J3 g1 (by lia) hl h64 up turn fun s' keys out c z1 z2 z3 z4 z5=>⟨_,rfl,?_⟩
  exact wpAny_pure ⟨_,rfl,h s' _ keys out c (by lia) z1 z2 z3 z4 z5⟩
end
end Stb
namespace L2
open PySem PySem.Spec PyProof.Rows
structure kdO(X:Cx)(scope:Scope)(x:Str)(N:List Str)(cap:List (Option Nat)):Prop where
 S:CompScope X scope N (none::cap)
 hd:N[0]?>>x
 par:scope.names.lookup x>>.local
 co:scope.isCoroutine=false
 gen:scope.isGenerator=false
 nocell:∀y∈scope.names,y.2≠.cell
abbrev kkq(X:Cx)(scope:Scope)(qual:Str)(L f c:Addr):Env:=PySem.W.envX qual scope L f (.ref c) (closL X.env.cells scope.names [])
noncomputable def cxL(X:Cx)(A:Around)(scope:Scope)(N:List Str)(qual:Str)(f c:Addr)(s:Shared)(H:Hp):Cx:=
 {X with A:=A.deeper (kkq X scope qual s.heap.objs.size f c),N:=N,s₀:=s,H₀:=H,env:=kkq X scope qual s.heap.objs.size f c,outer:=X.stack,stack:=kkq X scope qual s.heap.objs.size f c::X.stack,ex:=[],fn:=fun _=>false,calm:=true,pn:=[],xe:=fun _ _=>False}
section
variable{X:Cx}{A:Around}{scope:Scope}{x:Str}{N:List Str}{cap:List (Option Nat)}{pins:List (Addr×Obj)}{σ:St}{H:Hp}{s s1:Shared}{qual:Str}{f c:Addr}
theorem kc0(S:kdO X scope x N cap)(I:Inv X pins σ H s){y:Str}{a:Addr}(h:(closL X.env.cells scope.names []).lookup y>>a):X.env.cells.lookup y>>a:=by
 rcases keD _ _ h with⟨h1,h2⟩|h1
 ·obtain⟨a',ea⟩:=I.ok.has y (S.S.free _ h1 rfl)
  rw[ea] at h2
  rw[h2]
  exact ea
 ·cases h1
theorem km4(S:kdO X scope x N cap)(I:Inv X pins σ H s)(hfr:A.frames>>X.stack)(hh:A.handled=none){v:V}{u:Value}(r:RelV v u){h1:Heap}{t:Nat}(hns:h1.Ns s.heap.objs.size fun y=>[(x,u)].reverse.lookup y)(hk:∀b o,s.heap.get? b>>o->h1.get? b>>o):
  Inv (cxL X A scope N qual f c s H) [] (some v::capσ cap σ) H {s with heap:=h1,toks:=t}:=by
 have noA:∀b:Addr,b∉(cxL X A scope N qual f c s H).ex:=fun b z=>absurd (show b∈([]:List Addr) from z) (by simp)
 have od:∀{y:Str}{a:Addr},X.env.cells.lookup y>>a->a<s.heap.objs.size:=fun {y a} h=>let⟨_,q⟩:=I.cell y a h;q.lt
 refine⟨⟨I.ok.mod,S.S.kind,rfl,rfl,Jx _,fun y z a e1 e2=>I.ok.inj y z a (kc0 S I e1) (kc0 S I e2),fun y hy=>?_,fun y a e1 _=>?_,fun _=>hh,Around.frames_deeper hfr, .inr ⟨rfl,rfl⟩,fun b z=>absurd z (noA b),I.bs,JA I.ok.bsz I.sz,fun b _ _=>noA b,fun b z=>absurd z (noA b),I.stack,I.stkFree⟩,
  rfl,I.bare,Un.kept hk,⟨_,hns,fun j y w e1 e2 e3=>?_⟩,fun y a e=>?_,I.hok.fresh (Jx _),fun y a e=>I.freeC y a (kc0 S I e),fun p hp=>absurd (show p∈([]:List (Addr×Obj)) from hp) (by simp),I.hok.kept hk,?_⟩
 ·have hy':scope.names.lookup y>>.cell∨scope.names.lookup y>>.free:=hy
  rcases hy' with q|q
  ·exact absurd rfl (S.nocell _ (PySem.mem_of_lookup q))
  ·exact kc5 (cells:=X.env.cells) scope.names [] (.inl (PySem.mem_of_lookup q))
 ·cases(show false=true from e1)
 ·cases j with
  | zero=>
   have ex:y=x:=by
    have e1':N[0]?>>y:=e1
    rw[S.hd] at e1'
    exact(Option.some.inj e1').symm
   have ev:w=v:=by
    have e2':some (some v)>>(some w):=e2
    exact(Option.some.inj (Option.some.inj e2')).symm
   subst ex ev
   rwa[u,r, .inl ⟨S.par,?_⟩]
   simp
  | succ j=>
   have e2':(capσ cap σ)[j]?>>(some w):=by simpa using e2
   have e2'':(cap.map fun o=>match o with|some i=>(σ[i]?).getD none|none=>none)[j]?>>(some w):=e2'
   rw[JF] at e2''
   cases ec:cap[j]? with
   |none=>rw[ec] at e2'';cases e2''
   | some oi=>
    rw[ec] at e2''
    cases oi with
    |none=>cases e2''
    | some i=>
     have e4:(σ[i]?).getD none>>w:=Option.some.inj e2''
     have e5: σ[i]?>>(some w):=by
      cases q: σ[i]? with
      |none=>rw[q] at e4;cases e4
      |some w'=>rw[q] at e4;exact congrArg some e4
     obtain⟨q1,hf,_⟩:=S.S.cap (j+1) i y (by simpa using ec) e1
     have hm:=PySem.mem_of_lookup hf
     have q2:=S.S.free _ hm rfl
     obtain⟨mo,_,hl⟩:=I.loc
     obtain⟨u',ru,lk⟩:=hl i y w q1 e5 (.inr q2)
     rwa[u',ru, .inr ⟨.inr hf,?_⟩]
     rcases lk with⟨k1,_⟩|⟨_,a,ea,z⟩
     ·have k1':X.env.scope.names.lookup y>>.local:=k1
      rcases q2 with q2|q2 <;> rw[q2] at k1' <;> cases k1'
     ·obtain⟨a',ea2⟩:=kc5 (cells:=X.env.cells) scope.names [] (.inl hm)
      have e6:=kc0 S I ea2
      rw[ea] at e6
      have e7:a=a':=Option.some.inj e6
      subst e7
      obtain⟨oc,ho,hd⟩:=z
      rwa[a,ea2,oc,hk _ _ ho,hd]
 ·obtain⟨w,oc,ho,hd⟩:=I.cell y a (kc0 S I e)
  rwa[w,oc,hk _ _ ho,hd]
 ·have:=S.S.len
  show(some v::capσ cap σ).length=N.length
  rw[<-this,Nb,Nb]
  unfold capσ
  rw[Jv]
theorem klA{name:Str}{params:Arguments}{body:Expr}{pm ctv:Value}{te:TE}{v:V}{u:Value}{Q:VK}(S:kdO X scope x N cap)(I:Inv X pins σ H s)(hfr:A.frames>>X.stack)(hh:A.handled=none)(hdp:A.depth<recursionLimit)
  (ho:s.heap.get? f>>(MU name qual params body scope (closL X.env.cells scope.names []) pm c ctv))(hcd:s.heap.CodeRec (.ref c) qual)
  (hbind:bindArgs (PySem.W.kla_fn name qual params body scope (closL X.env.cells scope.names []) pm (.ref c) ctv) ⟨[u],[]⟩=pure [(x,u)])(r:RelV v u)(he:PE (cxL X A scope N qual f c s H) body te)(hq:te (some v::capσ cap σ) H Q):
  wpAny (model X.prog X.w) A (call (.ref f) [u]) (fun w' s'=>∃v' H',Inv X pins σ H' s'/\RelV v' w'/\Q v' H'/\Un (frs X.stack) [] H H' s.heap s'.heap/\s.heap.objs.size<=s'.heap.objs.size) (fun _ _=>False) s:=by
 refine wpAny_call (PySem.W.kla_callFunE hdp ho rfl S.co S.gen rfl hcd ?_)
 rw[hbind]
 refine wpAny_pure (wpAny_newFunctionEnv S.nocell (fun y hy=>?_) (fun h1 hns hsb=>⟨I.nolimit.fresh _ hsb,?_⟩) S.S.kind)
 ·rw[Nz] at hy
  subst hy
  exact S.par
 have hk:∀b o,s.heap.get? b>>o->h1.get? b>>o:=fun b o e=>hsb.extBut b o (J5 (Heap.lt_size e)) (Heap.get?_push_of_some _ e)
 have J:=km4 (A:=A) (qual:=qual) (f:=f) (c:=c) (t:=s.toks+1) S I hfr hh r hns hk
 refine PySem.W.kla_codeExpr (wpAny_mono (he [] _ _ _ Q J hq) (fun w' s' hw=>?_) fun _ _ z=>z.elim)
 obtain⟨v',H',J',rv,qv⟩:=hw
 rwa[v',H',I.call' (ch:=[]) J'.os J'.base J'.hok J'.bare (fun b hb=>by simp at hb),rv,qv,J'.base,J'.sz]
end
noncomputable def CodeO(c:Addr)(qual:Str):HO:=.ext fun h=>h.CodeRec (.ref c) qual
noncomputable def lamN(p:Pos):Str:=if p.col=38 then "first_use.<locals>.<lambda>" else "falling_groups.<locals>.<lambda>"
def klB{p p':Pos}(h:p.col=p'.col):lamN p=lamN p':=by unfold lamN;rw[h]
def TbAt(P:Addr)(H:Hp):Prop:=∃ps:Array Value,H P>>(.tbl ps)/\TriplesOk ps.toList/\∀pos c,codeAmong pos ps.toList>>c->∃c',c=.ref c'/\H c'>>(CodeO c' (lamN pos))
structure Grew(P:Addr)(H H':Hp):Prop where
 kp:∀b o,b≠P->H b>>o->H' b>>o
 tb:TbAt P H'
theorem kk2{pos:Pos}{a b:Int}{c:Value}(l:List Value)(h:TriplesOk l){x:Value}(e:codeAmong pos (l++[rawInt a,rawInt b,c])>>x):codeAmong pos l>>x∨(x=c/\b=pos.col):=by
 fun_induction TriplesOk l with
 |case1=>
  right
  unfold rawInt codeAmong at e
  simp only[NG] at e
  split at e
  next hc=>exact⟨(Option.some.inj e).symm,by simpa using(Bool.and_eq_true_iff.mp hc).2⟩
  ·simp[codeAmong] at e
 | case2 n t m u d rest ih=>
  simp only[Mz,codeAmong] at e⊢
  split at e
  ·left
   rename_i hc
   rw[if_pos hc]
   exact e
  ·rename_i hc
   rw[if_neg hc]
   exact ih h e
 |case3=>exact h.elim
def CodeK(K:Jw)(c P:Addr):Prop:=
 ∃o vs file tf flags tg inF text tt,K.lookup c>>o/\o.cls=.type "code"/\o.data=.fields vs/\vs[11]?>>(.ref P)/\vs.getD 11 .none=.ref P/\vs.getD 18 .none=.str file tf/\vs.getD 7 .none=.int flags tg/\vs.getD 9 .none=.bool inF/\vs.getD 10 .none=.int text tt/\c≠P
def CodeK.hd{K:Jw}{c P:Addr}{h:Heap}(x:CodeK K c P)(X:K.In h):PySem.W.CodeHd h c P:=by
 obtain⟨o,vs,file,tf,flags,tg,inF,text,tt,e,r⟩:=x
 rwa[o,vs,file,tf,flags,tg,inF,text,tt,X _ _ e,r]
def BltM(mg:Str->Option Value)(base:Heap):Prop:=∃bm ob,mg "__builtins__">>(.ref bm)/\bm≠builtinsNs/\base.get? bm>>ob/\ob.cls=.type "module"/\ob.dict>>builtinsNs/\ob.data=.plain
section
variable{X:Cx}{scope:Scope}{x:Str}{N:List Str}{cap:List (Option Nat)}{pins:List (Addr×Obj)}{σ:St}{H:Hp}{s:Shared}{c0 P:Addr}{params:Arguments}{body:Expr}{lpos:Pos}
theorem klz{E:Value->Shared->Prop}{Q:Value->Shared->Prop}(S:kdO X scope x N cap)(I:Inv X pins σ H s)(hcode:X.env.code=.ref c0)(CK:CodeK X.K c0 P)(hB:BltM X.mg X.base)(TB:TbAt P H)(hq:X.env.qual++ "<lambda>"=(lamN lpos))(hdef:defaultsOf params X.env=([],[]))
  (h:∀(s':Shared)(H':Hp)(f c:Addr)(pm ctv:Value),Inv X pins σ H' s'->Grew P H H'->s'.heap.get? f>>(MU "<lambda>" (lamN lpos) params body scope (closL X.env.cells scope.names []) pm c ctv)->H' f=none->s.heap.objs.size<=f->(∀b,s.heap.objs.size<=b->s'.heap.objs.size<=b->H' b=none)->H' c>>(CodeO c (lamN lpos))->Q (.ref f) s'):
  wpAny (model X.prog X.w) X.A (eval (.Lambda params body scope lpos) X.env) Q E s:=by
 obtain⟨ps,eP,ht,hor⟩:=TB
 have hP:s.heap.get? P>>(MV ps):=(show ObjOk X.prog X.w H s.heap P (.tbl ps) from I.hok P _ eP)
 have hg:=I.mod.glob.keeps I.bk
 have nbP:∀b o,X.base.get? b>>o->b≠P:=fun b o e z=>by
  have:=(I.bs b o e).2
  rw[z,eP] at this
  cases this
 have hgP:mainGlobals≠P:=by
  obtain⟨o,_,_,e,_⟩:=I.mod.glob
  exact nbP _ o e
 have hb:s.heap.BuiltinsAt X.mg P:=by
  obtain⟨bm,ob,b1,b2,b3,b4,b5,b6⟩:=hB
  rwa[bm,ob,b1,b2,fun z=>?_,nbP _ ob b3,I.bk _ _ b3,b4,b5,b6]
  obtain⟨o,es,ep,e,hd,_⟩:=I.mod.glob
  rw[<-z,b3] at e
  cases e
  rw[b6] at hd
  cases hd
 have CH:=CK.hd I.kIn
 refine PySem.W.kla_eval hdef ?_
 rw[hq]
 cases hor':codeAmong lpos ps.toList with
 | none=>
  have hnf:=hor'
  refine PySem.W.kla_makeFunction (mg:=X.mg) (kc4 S.S I) I.ok.glob hg hcode CH hP ht hnf hgP hb fun c' ctv h' tk hx hge hlt hrec htb=>?_
  have hc0:H c'=none:=I.hok.fresh hge
  have nPc:P≠c':=kai eP hc0
  have szP:P<s.heap.objs.size:=Heap.lt_size hP
  generalize hob:MU "<lambda>" (lamN lpos) params body scope (closL X.env.cells scope.names []) ((X.mg "__name__").getD .none) c' ctv=ob
  have k2:∀b o,b≠P->s.heap.get? b>>o->(h'.push ob).get? b>>o:=fun b o hbp e=>Heap.get?_push_of_some _ (hx b o hbp e)
  have nN:∀{b:Addr},H b=none->b≠P:=fun {b} n z=>by rw[z,eP] at n;cases n
  have at2:∀{b:Addr},b≠P->b≠c'->(upd (upd H P (.tbl (ps++ #[rawInt lpos.line,rawInt lpos.col, .ref c']))) c' (CodeO c' (lamN lpos))) b=H b:=fun {b} h1 h2=>by rw[kak h2,kak h1]
  have eP2:(upd (upd H P (.tbl (ps++ #[rawInt lpos.line,rawInt lpos.col, .ref c']))) c' (CodeO c' (lamN lpos))) P>>(.tbl (ps++ #[rawInt lpos.line,rawInt lpos.col, .ref c'])):=by rw[kak nPc,kae]
  have ec2:(upd (upd H P (.tbl (ps++ #[rawInt lpos.line,rawInt lpos.col, .ref c']))) c' (CodeO c' (lamN lpos))) c'>>(CodeO c' (lamN lpos)):=kae
  have fresh2:∀b,s.heap.objs.size<=b->(h'.push ob).objs.size<=b->(upd (upd H P (.tbl (ps++ #[rawInt lpos.line,rawInt lpos.col, .ref c']))) c' (CodeO c' (lamN lpos))) b=none:=fun b h1 h2=>by
   rw[Heap.size_push] at h2
   rw[at2 (NL (J6 szP h1)) (NL (J6 hlt (Nat.le_of_succ_le h2)))]
   exact I.hok.fresh h1
  have ff:(upd (upd H P (.tbl (ps++ #[rawInt lpos.line,rawInt lpos.col, .ref c']))) c' (CodeO c' (lamN lpos))) h'.objs.size=none:=by
   have h1:s.heap.objs.size<=h'.objs.size:=JA hge (JJ hlt)
   rw[at2 (NL (J6 szP h1)) (NL hlt)]
   exact I.hok.fresh h1
  generalize upd (upd H P (.tbl (ps++ #[rawInt lpos.line,rawInt lpos.col, .ref c']))) c' (CodeO c' (lamN lpos))=H2 at *
  have un:Un X.fs [] H H2 s.heap (h'.push ob):=by
   rwa[fun b o e n _ _=>k2 b o (nN n) e,fun b o e n _ _=>⟨o.slots,k2 b o (nN n) e⟩,fun b o e n _=>?_,fun b o e _=>?_,fun b xs e=>?_,fun b o u e=>?_,fun b qs e=>?_]
   ·rw[at2 (nN n) (J5 (J6 (Heap.lt_size e) hge))]
    exact n
   ·by_cases hbp:b=P
    ·subst hbp
     rwa[_,Heap.get?_push_of_some _ htb]
    ·rwa[o,k2 b o hbp e]
   ·rw[at2 (ne_of e eP (by intro z;cases z)) (kai e hc0)]
    exact e
   ·rw[at2 (ne_of e eP (by intro z;cases z)) (kai e hc0)]
    exact e
   ·by_cases hbp:b=P
    ·subst hbp
     rw[eP] at e
     cases e
     rwa[_,eP2]
    ·rwa[#[],?_]
     rw[at2 hbp (kai e hc0),e]
     simp
  have hok2:HOk X.prog X.w H2 (h'.push ob):=fun b u e=>by
   by_cases hbp:b=P
   ·subst hbp
    rw[eP2] at e
    cases e
    exact(show(h'.push ob).get? b>>_ from Heap.get?_push_of_some _ htb)
   ·by_cases hbc:b=c'
    ·subst hbc
     rw[ec2] at e
     cases e
     obtain⟨cc,oc,vs,t,e1,e2,e3,e4⟩:=hrec
     cases e1
     refine(show ObjOk X.prog X.w H2 (h'.push ob) b (CodeO b (lamN lpos)) from⟨⟨b,oc,vs,t,rfl,Heap.get?_push_of_some _ e2,e3,e4⟩,⟨oc,Heap.get?_push_of_some _ e2⟩,fun h1 h2 q k=>?_⟩)
     obtain⟨c3,o3,vs3,t3,z1,z2,z3,z4⟩:=q
     cases z1
     rwa[b,o3,vs3,t3,6,k _ z2,z3,z4]
    ·rw[at2 hbp hbc] at e
     have nown:∀d y,H d>>(.own y)->d≠P/\d≠c':=fun d y r=>⟨ne_of r eP (by intro z;cases z),kai r hc0⟩
     refine(I.hok b u e).stay (fun d v hd r=>k2 d v ?_ r) (fun d r=>by rw[at2 (nown d b r).1 (nown d b r).2];exact r) fun d xs r=>by rw[at2 (ne_of r eP (by intro z;cases z)) (kai r hc0)];exact r
     rcases hd with rfl|hd
     ·exact hbp
     ·exact(nown d b hd).1
  subst hob
  refine h _ H2 h'.objs.size c' _ ctv (I.un (t':=tk) un hok2) ⟨fun b o hbp e=>by rw[at2 hbp (kai e hc0)];exact e,_,eP2,?_,fun pos d ed=>?_⟩ (Heap.get?_push_size _ rfl) ff (JA hge (JJ hlt)) fresh2 ec2
  ·have:=TriplesOk_snoc lpos.line lpos.col (.ref c') ps.toList ht
   simpa using this
  ·have ed':codeAmong pos (ps.toList++[rawInt lpos.line,rawInt lpos.col, .ref c'])>>d:=by simpa using ed
   rcases kk2 ps.toList ht ed' with z|z
   ·obtain⟨d',rfl,ed2⟩:=hor pos d z
    rwa[d',6,by rw[at2 (ne_of ed2 eP (by intro z;cases z)) (kai ed2 hc0)];exact ed2]
   ·rwa[c',z.1,by rw[klB (p:=pos) (p':=lpos) (by have:=z.2;lia)];exact ec2]
 |some cv=>
  have hf:=hor'
  obtain⟨c',rfl,ec'⟩:=hor lpos cv hf
  refine PySem.W.kla_makeFunctionHit (mg:=X.mg) (kc4 S.S I) I.ok.glob hg hcode CH hP ht hf hb fun ctv h' tk hk hsz=>?_
  have k2:∀b o,s.heap.get? b>>o->(h'.push (MU "<lambda>" (lamN lpos) params body scope (closL X.env.cells scope.names []) ((X.mg "__name__").getD .none) c' ctv)).get? b>>o:=fun b o e=>Heap.get?_push_of_some _ (hk b o e)
  exact h _ H h'.objs.size c' _ ctv (I.kept (t':=tk) k2) ⟨fun b o _ e=>e,ps,eP,ht,hor⟩ (Heap.get?_push_size _ rfl) (I.hok.fresh hsz) hsz (fun b h1 _=>I.hok.fresh h1) ec'
end
theorem kiG{ns:List Int}{us:List Value}(h:Vals (ns.map V.int) us):IntsAre us ns:=by
 induction ns generalizing us with
 |nil=>cases h;exact .nil
 |cons n ns ih=>
  cases h with|cons h t=>?_
  obtain⟨tk,rfl⟩:=h
  exact .cons n tk (ih t)
theorem kh2:∀{us:List Value}{ns:List Int},IntsAre us ns->Vals (ns.map V.int) us
 |_,_, .nil=>.nil
 |_,_, .cons n t h=>.cons ⟨t,rfl⟩ (kh2 h)
theorem kla{ns:List Int}{key:Int->Int}{keys:Array Value}{us:List Value}{out:Array Value}(hu:IntsAre us ns)(hk:IntsAre keys.toList (ns.map key))(hl:keys.size=us.length)(h:Stb.Rows keys us out):
  ∃ms:List Int,IntsAre out.toList ms/\ms.Perm ns/\ms.Pairwise fun a b=>key a<key b∨(key a=key b/\a<b):=by
 obtain⟨xs,hp,hup,rfl⟩:=h
 have pl:xs.toList.Perm (keys.toList.zip us):=by
  rw[<-ksk_zip]
  exact Array.perm_iff_toList_perm.mp hp
 have mem:∀p∈keys.toList.zip us,p.2∈us/\numOf p.1=key (numOf p.2):=fun p hp=>by
  obtain⟨i,hi,rfl⟩:=List.mem_iff_getElem.mp hp
  have l1:i<keys.toList.length:=by
   rw[List.length_zip] at hi
   lia
  have l2:i<us.length:=by
   rw[List.length_zip] at hi
   lia
  rw[List.getElem_zip]
  rwa[Mw l2,?_]
  have e1:(keys.toList.map numOf)[i]?=(ns.map key)[i]?:=by rw[hk.nums]
  have e2:(us.map numOf)[i]?=ns[i]?:=by rw[hu.nums]
  rw[JF,Nw l1,JF] at e1
  rw[JF,Nw l2] at e2
  rw[<-e2] at e1
  exact Option.some.inj e1
 have memx:∀p∈xs.toList,p.2∈us/\numOf p.1=key (numOf p.2):=fun p hp=>mem p (pl.mem_iff.mp hp)
 rwa[xs.toList.map fun p=>numOf p.2,?_,?_,?_]
 ·have e:(xs.map (·.2)).toList=xs.toList.map (·.2):=by simp
  rw[e]
  have:=intsAre_map (xs.toList.map (·.2)) fun v hv=>by
   obtain⟨p,hp',rfl⟩:=JP.mp hv
   exact hu.all _ (memx p hp').1
  rw[JO] at this
  exact this
 ·have h1:=pl.map (fun p:Keyed=>numOf p.2)
  have e2:(keys.toList.zip us).map (fun p:Keyed=>numOf p.2)=ns:=by
   have e3:(keys.toList.zip us).map (fun p:Keyed=>numOf p.2)=((keys.toList.zip us).map Prod.snd).map numOf:=by rw[JO];rfl
   rw[e3,List.map_snd_zip (by have e:=Mg (xs:=keys);lia),hu.nums]
  rw[e2] at h1
  exact h1
 ·rw[Md]
  intro i j hi hj hij
  have hi':i<xs.size:=by simpa using hi
  have hj':j<xs.size:=by simpa using hj
  have q:=hup i j hij hj'
  have ki:=(memx xs[i] (by simp)).2
  have kj:=(memx xs[j] (by simp)).2
  unfold Stb.Lx Stb.T at q
  rw[K_eq hi',K_eq hj',MS hi',MS hj'] at q
  simp only[MA,Array.getElem_toList]
  rw[<-ki,<-kj]
  exact q
section
variable{X:Cx}{scope:Scope}{x:Str}{N:List Str}{cap:List (Option Nat)}{pins:List (Addr×Obj)}{σ:St}{H:Hp}{s1:Shared}{f:Addr}{fo:Obj}
def Held(X:Cx)(pins:List (Addr×Obj))(σ:St)(H:Hp)(n0:Nat)(f:Addr)(fo:Obj)(s:Shared):Prop:=Inv X pins σ H s/\n0<=s.heap.objs.size/\s.heap.get? f>>fo
theorem km5(I:Inv X pins σ H s1)(hf:f<s1.heap.objs.size):Stb.SJ (Held X pins σ H s1.heap.objs.size f fo) s1.heap.objs.size where
 sz:=fun s h=>h.2.1
 push:=fun s c xs n h=>⟨h.1.kept (t':=s.toks) fun b o e=>Heap.get?_push_of_some _ e,JA h.2.1 (by rw[Heap.size_push];exact NY _),Heap.get?_push_of_some _ h.2.2⟩
 upd:=fun s b g h hb=>by
  obtain⟨q1,q2,q3,q4,q5,q6⟩:=I.fpOk hb (I.hok.fresh hb)
  have sb:=Heap.SameBut.update s.heap b (Obj.mapSeq g)
  rwa[h.1.turned (t':=s.toks) (it:=b) (fun d o hd e=>(sb.2 d hd).trans e) q1 q2 q4 q5 q6,by rw[Heap.size_update];exact h.2.1,(sb.2 f (J5 (J6 hf hb))).trans h.2.2]
def kk8(K:Jw)(P:Addr)(tl:TE)(cap:List (Option Nat))(te:TE):TE:=fun σ H Q=>tl σ H fun v H1=>∃(a:Addr)(ns:List Int)(key:Int->Int),v=.ref a/\SqL K H1 a (ns.map V.int)/\ns.length<64/\ns.Pairwise (· < ·)/\TbAt P H1/\a≠P/\
 (∀H2,Grew P H1 H2->∀n∈ns,te (some (.int n)::capσ cap σ) H2 fun v H3=>v=.int (key n)/\H3=H2)/\
 ∀(H2:Hp)(l:Addr)(ms:List Int),Grew P H1 H2->H1 l=none->H2 l=none->ms.Perm ns->(ms.Pairwise fun a b=>key a<key b∨(key a=key b/\a<b))->Q (.ref l) (upd H2 l (.lst (ms.map V.int)))
theorem kiQ:bootBuiltins "sorted">>(.builtin "sorted"):=by cutsat
theorem Grew.seq{K:Jw}{P:Addr}{H H':Hp}{a:Addr}{xs:List V}(g:Grew P H H')(ha:a≠P)(h:SqL K H a xs):SqL K H' a xs:=by
 rcases h with(h|⟨o,h⟩)|h
 ·exact .inl (.inl (g.kp _ _ ha h))
 ·exact .inl (.inr ⟨o,g.kp _ _ ha h⟩)
 ·exact .inr h
theorem kiY{l:Expr}{tl te:TE}{c0 P:Addr}{params:Arguments}{body:Expr}{lpos p pos kpos:Pos}(hl:PE X l tl)(S:kdO X scope x N cap)(hc:X.calm=true)(hdp:X.A.depth<recursionLimit)(hcode:X.env.code=.ref c0)(CK:CodeK X.K c0 P)(hB:BltM X.mg X.base)
  (hg:Gl X "sorted")(hm:X.mg "sorted"=none)(hbind:∀(cl:List (Str×Addr))(pm:Value)(c:Addr)(ctv u:Value),bindArgs (PySem.W.kla_fn "<lambda>" (lamN lpos) params body scope cl pm (.ref c) ctv) ⟨[u],[]⟩=pure [(x,u)])
  (he:∀A f c s H,PE (cxL X A scope N (lamN lpos) f c s H) body te)(hq:X.env.qual++ "<lambda>"=(lamN lpos))(hdef:autoParam (defaultsOf params X.env=([],[])) jz)(s1:autoParam (starEach [l] X.env=[(false,eval l X.env)]) jz):
  PE X (.Call (.Name "sorted" p) [l] [⟨some "key", .Lambda params body scope lpos,kpos⟩] pos) (kk8 X.K P tl cap te):=by
 intro pins s σ H Q I h
 refine wpAny_Call_Name_kw (kdH I hg hm kiQ ?_ (by decide) (by decide))
 refine callWith_kw ?_ (by rw[s1];rfl) (by rw[s1];rfl)
 rw[s1]
 refine Calls.spliced_cons (thn (hl pins s σ H _ I h) fun u s3 zz=>Calls.spliced_nil ?_)
 obtain⟨v,H1,I1,r1,a,ns,key,ev,hS,h64,hup,TB,haP,hte,q⟩:=zz
 subst ev
 cases r1
 show wpAny _ _ (evalAll ((do let v <-eval (.Lambda params body scope lpos) X.env;standAt pos;pure v):: [])) _ _ s3
 refine wpAny_evalAll_cons (wpAny_bind (klz S I1 hcode CK hB TB hq hdef fun s4 H4 lf c pm ctv I4 G ef ff hsf hfr ec=>wpAny_bind (wpAny_standAt (wpAny_pure (wpAny_evalAll_nil ?_)))))
 show wpAny _ _ (call (.builtin "sorted") [.ref a] [(Str.ofString "key", .ref lf)]) _ _ s4
 obtain⟨its,rv,pl,hz⟩:=I4.list (G.seq haP hS)
 have hi:=kiG rv
 have lu:=hi.length
 have lf4:lf<s4.heap.objs.size:=Heap.lt_size ef
 have rising:∀(i j:Nat)(y z:Value),i<j->its[i]?>>y->its[j]?>>z->numOf y<numOf z:=fun i j y z hij ey ez=>by
  have e1:ns[i]?>>(numOf y):=by rw[<-hi.nums,JF,ey];rfl
  have e2:ns[j]?>>(numOf z):=by rw[<-hi.nums,JF,ez];rfl
  obtain⟨l1,q1⟩:=JK.mp e1
  obtain⟨l2,q2⟩:=JK.mp e2
  have:=Md.mp hup i j l1 l2 hij
  rw[q1,q2] at this
  exact this
 refine Stb.sortedK (kz:=ns.map key) (J:=Held X pins σ H4 s4.heap.objs.size lf _) (km5 I4 lf4) ⟨I4,Jx _,ef⟩ pl.isList (by rw[Jv,lu]) (by lia) rising (fun i v k ev ek s5 hJ=>?_) fun s5 D keys out cc hD hJ eD hk hkl hR=>?_
 ·have en:ns[i]?>>(numOf v):=by rw[<-hi.nums,JF,ev];rfl
  have ek':k=key (numOf v):=by
   rw[JF,en] at ek
   exact(Option.some.inj ek).symm
  subst ek'
  obtain⟨n,t,rfl⟩:=hi.all v (JB ev)
  have hcr:s5.heap.CodeRec (.ref c) (lamN lpos):=(show ObjOk X.prog X.w H4 s5.heap c (CodeO c (lamN lpos)) from hJ.1.hok c _ ec).1
  refine wpAny_mono (klA (A:=X.A.in1.in1) (v:=.int n) (u:=.int n t) S hJ.1 I.ok.frames (I.ok.hd hc) hdp hJ.2.2 hcr (hbind _ _ _ _ _) ⟨t,rfl⟩ (he _ _ _ _ _) (hte H4 G n (JB en))) (fun w' s6 hw=>?_) fun _ _ z=>z
  obtain⟨v',H6,I6,rv',⟨e1,e2⟩,un,sz6⟩:=hw
  subst e1 e2
  have nst:∀b,s3.heap.objs.size<=b->b∉frs X.stack:=fun b hb z=>absurd (kjn I1 z) (MP.mpr hb)
  have s34:s3.heap.objs.size<=s4.heap.objs.size:=JJ (NU hsf lf4)
  have kp:∀b o,s3.heap.objs.size<=b->H6 b=none->s5.heap.get? b>>o->s6.heap.get? b>>o:=fun b o hb hn e=>un.keep b o e hn (nst b hb) (by simp)
  rwa[rv',⟨I6,?_,kp lf _ hsf ff hJ.2.2⟩,fun b o hb e=>kp b o (JA s34 hb) (I4.hok.fresh hb) e]
  exact JA hJ.2.1 sz6
 ·obtain⟨ms,m1,m2,m3⟩:=kla hi hk (by lia) hR
  have hn:H4 D=none:=I4.hok.fresh hD
  have fp:=I4.fpOk hD hn
  have h10:H1 D=none:=I1.hok.fresh (JA (JJ (NU hsf lf4)) hD)
  have vm:=kh2 m1
  have lz:(ms.map V.int).length<=sizeLine:=by
   rw[Jv,m2.length_eq,sizeLine_eq]
   lia
  rwa[.ref D,_,hJ.1.adopt (a:=D) (o:=.lst (ms.map V.int)) fp ?_ ?_,6,q H4 D ms G h10 hn m2 m3]
  ·exact JA I4.sz hD
  ·exact(show ObjOk X.prog X.w _ s5.heap D (.lst (ms.map V.int)) from⟨lz,out.toList,cc,vm,by simpa using eD⟩)
end
end L2
namespace L2
open PySem PySem.W PyProof.Rows
section
variable{X:Cx}
def knq:V->List V->Hp->VK->Prop:=fun x vs H Q=>∃(l:Addr)(ns:List Int)(k:Int),x=.ref l/\vs=[.int k]/\H l>>(.lst (ns.map V.int))/\Q (.int (ns.count k:Nat)) H
theorem kfi{ns:List Int}{us:List Value}(k:Int)(h:Vals (ns.map V.int) us):us.countP (isI k)=ns.count k:=by
 induction ns generalizing us with
 |nil=>cases h;rfl
 |cons m ns ih=>
  cases h with|cons r t=>?_
  obtain⟨tk,rfl⟩:=r
  rw[List.countP_cons,Es,ih t]
  rfl
theorem kez:MtM X "list.count" knq:=by
 intro pins s σ H x vs v us Q I rx rv h
 obtain⟨l,ns,k,rfl,rfl,hH,q⟩:=h
 cases rx
 obtain⟨u,rfl,ru⟩:=rv.one
 obtain⟨t,rfl⟩:=ru
 obtain⟨z,its,n,r,hl,e⟩:=I.lstM hH
 refine call_meets F.slot_list_count ⟨_,e,rfl⟩ F.entry_list_count (F.args_list_count_2 _ _)
  (MeetsSeq.list_count l its.toArray n (.int k t) (isI k) (fun y hy=>?_)) ⟨e,?_⟩
 ·obtain⟨j,hj',rfl⟩:=Et.mp hy
  have hjl:j<its.length:=by simpa using hj'
  have hln:its.length=ns.length:=by rw[<-hl,Jv]
  obtain⟨tk,et⟩:=kg7 r j ns[j] (by simp)
  obtain⟨_,e'⟩:=JK.mp et
  have e2:its.toArray[j]=.int ns[j] tk:=by simpa using e'
  rw[e2]
  exact MeetsSeq.EqGives.int _ k tk t
 ·rwa[.int (ns.count k:Nat),H,I.tok _,⟨s.toks,?_⟩,q]
  rw[List.toList_toArray,kfi k r]
end
section
variable{X:Cx}{pins:List (Addr×Obj)}{σ:St}{H:Hp}{s:Shared}{A:Around}{E:Value->Shared->Prop}{Q:Value->Shared->Prop}
noncomputable def rowV(H:Hp):V->List V
 | .ref b=>match H b with
  |some (.lst zs)=>zs
  |some (.tup zs)=>zs
  |_=>[]
 |_=>[]
theorem klb{H:Hp}{b:Addr}{zs:List V}(h:H b>>(.lst zs)):rowV H (.ref b)=zs:=by simp only[rowV,h]
noncomputable def rowU(H:Hp)(xs:List V):Value->Bool
 | .ref b=>eqVs (rowV H (.ref b)) xs
 |_=>false
end
section
variable{X:Cx}
theorem klI:PGet X (rIxL X.K):=by
 intro pins s σ H o i ov iv Q I ro ri h
 obtain⟨p,xs,i,z,rfl,rfl,hq,he,q⟩:=h
 cases ro
 obtain⟨t,rfl⟩:=ri
 obtain⟨its,r,pl,hz⟩:=I.list hq
 obtain⟨j,h1,h2,h3,h4,h5⟩:=khY he
 obtain⟨w,ew,rw'⟩:=r.get h2
 have hl:=r.length
 have hn:=kg3
 have fin:EP X pins σ Q w s:=⟨z,H,I,rw',q⟩
 by_cases h0:0<=i
 ·have hj:i.toNat=j:=by
   rw[seqIndex_of h0 h5] at h1
   exact Option.some.inj h1
  exact wpAny_getItem_list pl.isList h0 (by lia) (by rw[hj];simpa using ew) fin
 ·have hj:(i+(its.toArray.size:Int)).toNat=j:=by
   rw[seqIndex_neg (by lia) h4] at h1
   rw[JW,<-hl]
   exact Option.some.inj h1
  exact wpAny_getItem_list_neg pl.isList (by lia) (by rw[JW] <;> lia) (by lia) (by rw[hj];simpa using ew) fin
end
end L2
namespace L2
open PySem PySem.Spec PyProof.Rows
section
variable{prog:Program}{w:World}{A:Around}{E:Value->Shared->Prop}{s:Shared}
end
section
variable{prog:Program}{w:World}{A:Around}{E:Value->Shared->Prop}{s:Shared}
end
section
variable{X:Cx}
end
section
variable{X:Cx}
end
section
variable{κ:Type}[DecidableEq κ]
noncomputable def valV(kvs:List (κ×V))(k: κ):Option V:=(kvs.find? fun kv=>decide (kv.1=k)).map (·.2)
noncomputable def putK(kvs:List (κ×V))(k: κ)(v:V):List (κ×V):=
 if(kvs.any fun kv=>decide (kv.1=k))=true then kvs.map (fun kv=>if kv.1=k then(kv.1,v) else kv) else kvs++[(k,v)]
theorem kbx{p: κ×V}{r:List (κ×V)}{k: κ}(e:p.1=k):valV (p::r) k>>p.2:=by simp[valV,NP,e]
theorem kby{p: κ×V}{r:List (κ×V)}{k: κ}(e:¬p.1=k):valV (p::r) k=valV r k:=by simp[valV,NP,e]
theorem ket(k: κ):∀kvs:List (κ×V),(kvs.any fun kv=>decide (kv.1=k))=(valV kvs k).isSome
 |[]=>rfl
 |p::r=>by
  rw[NF]
  by_cases e:p.1=k
  ·simp only[kbx e,decide_eq_true e,Bool.true_or,Option.isSome_some]
  ·rw[kby e,decide_eq_false e,Bool.false_or];exact ket k r
theorem kh3(k j: κ)(y:V):∀kvs:List (κ×V),valV (kvs.map fun kv=>if kv.1=k then(kv.1,y) else kv) j=(valV kvs j).map fun x=>if j=k then y else x
 |[]=>rfl
 | p::r=>by
  have ih:=kh3 k j y r
  rw[JG]
  by_cases h:p.1=k
  ·rw[if_pos h]
   by_cases e:p.1=j
   ·rw[kbx (p:=(p.1,y)) e,kbx e,N3,if_pos (e.symm.trans h)]
   ·rw[kby (p:=(p.1,y)) e,kby e,ih]
  ·rw[if_neg h]
   by_cases e:p.1=j
   ·rw[kbx (p:=p) e,kbx e,N3,if_neg (fun z=>h (e.trans z))]
   ·rw[kby (p:=p) e,kby e,ih]
theorem kgy(k j: κ)(y:V):∀kvs:List (κ×V),valV kvs k=none->valV (kvs++[(k,y)]) j=if j=k then some y else valV kvs j
 |[],_=>by
  by_cases e:k=j
  ·rw[if_pos e.symm];exact kbx (p:=(k,y)) e
  ·rw[if_neg (fun z=>e z.symm)];exact kby (p:=(k,y)) e
 |p::r,hn=>by
  rw[Mz]
  have hk:¬p.1=k:=fun z=>by rw[kbx z] at hn;cases hn
  rw[kby hk] at hn
  have ih:=kgy k j y r hn
  by_cases e:p.1=j
  ·rw[kbx e,kbx e,if_neg (fun z=>hk (e.trans z))]
  ·rw[kby e,kby e,ih]
theorem kk6(kvs:List (κ×V))(k j: κ)(y:V):valV (putK kvs k y) j=if j=k then some y else valV kvs j:=by
 unfold putK
 by_cases a:(kvs.any fun kv=>decide (kv.1=k))=true
 ·rw[if_pos a,kh3]
  rw[ket] at a
  by_cases e:j=k
  ·obtain⟨x,hx⟩:=EK.mp a
   rw[if_pos e,e,hx,N3,if_pos rfl]
  ·rw[if_neg e]
   cases valV kvs j with
   |none=>rfl
   |some x=>rw[N3,if_neg e]
 ·rw[if_neg a]
  refine kgy k j y kvs ?_
  rw[ket] at a
  cases q:valV kvs k with
  |none=>rfl
  |some x=>rw[q] at a;exact(a rfl).elim
theorem kdp(kvs:List (κ×V))(k: κ)(v:V):(putK kvs k v).length<=kvs.length+1:=by
 unfold putK
 split
 ·rw[Jv];lia
 ·rw[JN,Nb,MB];lia
theorem RelO.isSome_eq{o:Option V}{u:Option Value}(r:RelO o u):o.isSome=u.isSome:=by
 cases o with
 |none=>cases u with
  |none=>rfl
  |some _=>exact(show False from r).elim
 |some _=>cases u with
  |none=>exact(show False from r).elim
  |some _=>rfl
theorem KV.val{kvs:List (κ×V)}{vs:List (κ×Value)}(r:KV kvs vs)(k: κ):RelO (valV kvs k) (valueAt vs k):=by
 unfold KV at r
 induction r with
 |nil=>exact True.intro
 | @cons p q ps qs h t ih=>
  obtain⟨h1,h2⟩:=h
  by_cases e:p.1=k
  ·have e':q.1=k:=h1.symm.trans e
   have b:valueAt (q::qs) k>>q.2:=by simp[valueAt,NP,e']
   rw[kbx e,b];exact h2
  ·have e':¬q.1=k:=fun z=>e (h1.trans z)
   have b:valueAt (q::qs) k=valueAt qs k:=by simp[valueAt,NP,e']
   rw[kby e,b];exact ih
theorem KV.any{kvs:List (κ×V)}{vs:List (κ×Value)}(r:KV kvs vs)(k: κ):(kvs.any fun kv=>decide (kv.1=k))=vs.any fun kv=>decide (kv.1=k):=by
 unfold KV at r
 induction r with
 |nil=>rfl
 |cons h t ih=>rw[NF,NF,ih,h.1]
theorem KV.repl{kvs:List (κ×V)}{vs:List (κ×Value)}(r:KV kvs vs)(k: κ){y:V}{u:Value}(ry:RelV y u):
  KV (kvs.map fun kv=>if kv.1=k then(kv.1,y) else kv) (vs.map fun kv=>if kv.1=k then(kv.1,u) else kv):=by
 unfold KV at r⊢
 induction r with
 |nil=>exact .nil
 | @cons p q ps qs h t ih=>
  rw[JG,JG]
  refine .cons ?_ ih
  obtain⟨h1,h2⟩:=h
  by_cases e:p.1=k
  ·rw[if_pos e,if_pos (h1.symm.trans e)];exact⟨h1,ry⟩
  ·rw[if_neg e,if_neg (fun z=>e (h1.trans z))];exact⟨h1,h2⟩
theorem KV.put{kvs:List (κ×V)}{vs:List (κ×Value)}(r:KV kvs vs)(k: κ){y:V}{u:Value}(ry:RelV y u):KV (putK kvs k y) (stored vs k u):=by
 unfold putK stored
 rw[r.any k]
 by_cases e:(vs.any fun kv=>decide (kv.1=k))=true
 ·rw[if_pos e,if_pos e];exact r.repl k ry
 ·rw[if_neg e,if_neg e];exact Paired.snoc r ⟨rfl,ry⟩
theorem KV.length{kvs:List (κ×V)}{vs:List (κ×Value)}(r:KV kvs vs):kvs.length=vs.length:=Paired.length r
end
theorem kV_is{P:Program}{w:World}{k:Key}{u:Value}(r:RelV (kV k) u):(kbj P w).is k u=true:=by
 cases k with
 |inl i=>obtain⟨t,e⟩:=(show ∃t,u=Value.int i t from r);subst e;exact ke3 P w i t
 |inr x=>obtain⟨t,e⟩:=(show ∃t,u=Value.str x t from r);subst e;exact khH P w x t
theorem kg5{P:Program}{w:World}:∀{ks:List Key}{us:List Value},Vals (ks.map kV) us->ItemsAre (kbj P w) ks us
 |[],_,r=>by rw[NZ] at r;cases r;exact .nil
 |k::ks,_,r=>by
  rw[JG] at r
  cases r with
  |cons h t=>exact .cons (kV_is h) (kg5 t)
abbrev KT(H:Hp):List (List Key×V)->List (List Key×Addr×Value)->Prop:=Paired fun p q=>p.1=q.1/\H q.2.1>>(.tup (p.1.map kV))/\RelV p.2 q.2.2
theorem KT.val{H:Hp}{kvs:List (List Key×V)}{xs:List (List Key×Addr×Value)}(r:KT H kvs xs)(k:List Key):RelO (valV kvs k) ((atKey xs k).map (·.2)):=by
 induction r with
 |nil=>exact True.intro
 | @cons p q ps qs h t ih=>
  obtain⟨h1,_,h2⟩:=h
  by_cases e:p.1=k
  ·have e':q.1=k:=h1.symm.trans e
   have b:atKey (q::qs) k>>q.2:=by simp[atKey,NP,e']
   rw[kbx e,b];exact h2
  ·have e':¬q.1=k:=fun z=>e (h1.trans z)
   have b:atKey (q::qs) k=atKey qs k:=by simp[atKey,NP,e']
   rw[kby e,b];exact ih
theorem KT.repl{H:Hp}{kvs:List (List Key×V)}{xs:List (List Key×Addr×Value)}(r:KT H kvs xs)(k:List Key){y:V}{u:Value}(ry:RelV y u):
  KT H (kvs.map fun kv=>if kv.1=k then(kv.1,y) else kv) (xs.map (putAt k u)):=by
 induction r with
 |nil=>exact .nil
 | @cons p q ps qs h t ih=>
  rw[JG,JG]
  refine .cons ?_ ih
  obtain⟨h1,h2,h3⟩:=h
  unfold putAt
  by_cases e:p.1=k
  ·rw[if_pos e,if_pos (h1.symm.trans e)];exact⟨h1,h2,ry⟩
  ·rw[if_neg e,if_neg (fun z=>e (h1.trans z))];exact⟨h1,h2,h3⟩
theorem KT.put{H:Hp}{kvs:List (List Key×V)}{xs:List (List Key×Addr×Value)}(r:KT H kvs xs)(k:List Key){b:Addr}{y:V}{u:Value}(hb:H b>>(.tup (k.map kV)))(ry:RelV y u):
  KT H (putK kvs k y) (storedH xs k b u):=by
 have e:(kvs.any fun kv=>decide (kv.1=k))=(atKey xs k).isSome:=by
  rw[ket,(r.val k).isSome_eq,Option.isSome_map]
 unfold putK storedH
 rw[e]
 by_cases q:(atKey xs k).isSome=true
 ·rw[if_pos q,if_pos q];exact r.repl k ry
 ·rw[if_neg q,if_neg q];exact Paired.snoc r ⟨rfl,hb,ry⟩
def KT.keeps{H H':Hp}{kvs:List (List Key×V)}{xs:List (List Key×Addr×Value)}(r:KT H kvs xs)(ht:∀b ys,H b>>(.tup ys)->H' b>>(.tup ys)):KT H' kvs xs:=
 Paired.mapP r fun _ _ z=>⟨z.1,ht _ _ z.2.1,z.2.2⟩
section
variable{P:Program}{w:World}{H:Hp}{h:Heap}{a:Addr}
theorem rd_of{u:HO}(ok:HOk P w H h)(e:Rd H a u):ObjOk P w H h a u:=e.ok ok
theorem dk_rd{kvs:List (Key×V)}(ok:HOk P w H h)(e:Rd H a (.dK kvs)):kvs.length<=sizeLine/\(a==sysModules)=false/\∃vs,KV kvs vs/\h.DictOf (kbj P w) a vs:=
 show ObjOk P w H h a (.dK kvs) from rd_of ok e
theorem dk_of{kvs:List (Key×V)}(ok:HOk P w H h)(e:H a>>(.dK kvs)):kvs.length<=sizeLine/\(a==sysModules)=false/\∃vs,KV kvs vs/\h.DictOf (kbj P w) a vs:=dk_rd ok (.inl e)
theorem kkt{ks:List Key}(ok:HOk P w H h)(e:H a>>(.tup (ks.map kV))):(tupleKind (kbj P w)).is h ks a:=by
 obtain⟨_,its,r,o,h1,h2,n,h3⟩:=(show ObjOk P w H h a (.tup (ks.map kV)) from ok a _ e)
 rwa[o,its.toArray,n,h1,h2,h3,by simpa using kg5 r]
theorem dt_rd{kvs:List (List Key×V)}(ok:HOk P w H h)(e:Rd H a (.dT kvs)):kvs.length<=sizeLine/\(a==sysModules)=false/\
  ∃xs,KT H kvs xs/\h.DictOfH (tupleKind (kbj P w)) a xs:=by
 obtain⟨z,y,xs,r,o,es,ep,h1,h2,h3,h4,h5⟩:=(show ObjOk P w H h a (.dT kvs) from rd_of ok e)
 rwa[z,y,xs,r,o,es,ep,h1,h2,h3,h4,fun x hx=>?_,h5]
 have all:∀{l:List (List Key×V)}{m:List (List Key×Addr×Value)},KT H l m->∀x∈m,(tupleKind (kbj P w)).is h x.1 x.2.1:=by
  intro l m q
  induction q with
  |nil=>intro x hx;exact nomatch hx
  | @cons p q ps qs hq t ih=>
   intro x hx
   rcases JY.mp hx with e|hx
   ·subst e
    exact kkt ok (by rw[<-hq.1];exact hq.2.1)
   ·exact ih x hx
 exact all r x hx
theorem dt_of{kvs:List (List Key×V)}(ok:HOk P w H h)(e:H a>>(.dT kvs)):kvs.length<=sizeLine/\(a==sysModules)=false/\
  ∃xs,KT H kvs xs/\h.DictOfH (tupleKind (kbj P w)) a xs:=dt_rd ok (.inl e)
end
def DGet(H:Hp)(a:Addr)(y:V)(r:Option V):Prop:=
 (∃kvs k,Rd H a (.dK kvs)/\y=kV k/\r=valV kvs k)∨∃kvs k b,Rd H a (.dT kvs)/\y=.ref b/\H b>>(.tup (k.map kV))/\r=valV kvs k
def DPut(H:Hp)(a:Addr)(y v:V)(H':Hp):Prop:=
 (∃kvs k,H a>>(.dK kvs)/\y=kV k/\kvs.length<sizeLine/\H'=upd H a (.dK (putK kvs k v)))∨
 ∃kvs k b,H a>>(.dT kvs)/\y=.ref b/\H b>>(.tup (k.map kV))/\kvs.length<sizeLine/\H'=upd H a (.dT (putK kvs k v))
def DGet.t{H:Hp}{a b:Addr}{kvs:List (List Key×V)}{k:List Key}(e:H a>>(.dT kvs))(eb:H b>>(.tup (k.map kV))):DGet H a (.ref b) (valV kvs k):=.inr ⟨kvs,k,b, .inl e,rfl,eb,rfl⟩
theorem DPut.t{H:Hp}{a b:Addr}{kvs:List (List Key×V)}{k:List Key}{v:V}(e:H a>>(.dT kvs))(eb:H b>>(.tup (k.map kV)))(hl:kvs.length<sizeLine):
  DPut H a (.ref b) v (upd H a (.dT (putK kvs k v))):=.inr ⟨kvs,k,b,e,rfl,eb,hl,rfl⟩
section
variable{X:Cx}{pins:List (Addr×Obj)}{σ:St}{H:Hp}{s:Shared}{a:Addr}{y v:V}{u r:Value}{o:Option V}{A:Around}{E:Value->Shared->Prop}
theorem Inv.big(I:Inv X pins σ H s):sysModules<s.heap.objs.size:=by
 have h:mainGlobals<s.heap.objs.size:=(I.mod.glob.keeps I.bk).lt
 exact MO (by decide) h
theorem kne{Q:Value->Shared->Prop}(hu:A.units+1<cLine)(I:Inv X pins σ H s)(g:DGet H a y o)(ry:RelV y u)(h:∀s',Inv X pins σ H s'->Q (.bool (!o.isSome)) s'):
  wpAny (model X.prog X.w) A (compareOp .NotIn u (.ref a)) Q E s:=by
 rcases g with⟨kvs,k,e,ey,l⟩|⟨kvs,k,b,e,ey,eb,l⟩
 ·subst ey
  obtain⟨z,hd,vs,rel,dd⟩:=dk_rd I.hok e
  refine wpAny_notIn_of (kV_is ry) hd dd.mapOf ?_
  rw[<-(rel.val k).isSome_eq,<-l]
  exact h _ (I.tok _)
 ·subst ey
  cases(show u=Value.ref b from ry)
  obtain⟨z,hd,xs,rel,dd⟩:=dt_rd I.hok e
  refine wpAny_notIn_heap (tupleKind_room_in1 hu) (kkt I.hok eb) hd dd ?_
  have q:=(rel.val k).isSome_eq
  rw[Option.isSome_map] at q
  rw[<-q,<-l]
  exact h _ (I.tok _)
theorem kkP{h':Heap}{t':Nat}{ob:HO}(I:Inv X pins σ H s)(mu:Mut (H a))(hs:Heap.SameBut a s.heap h')(he:∃q,h'.get? a>>q)(new:ObjOk X.prog X.w (upd H a ob) h' a ob):
  Inv X pins σ (upd H a ob) {s with heap:=h',toks:=t'}:=
 I.write (x:=a) (e:=a) mu (.inl rfl) (fun b q hb z=>(hs.2 b hb).trans z) he new
theorem knM{P:Program}{w:World}{H':Hp}{h':Heap}{kvs:List (Key×V)}{vs:List (Key×Value)}(z:kvs.length<=sizeLine)(hd:(a==sysModules)=false)(rel:KV kvs vs)(dd:h'.DictOf (kbj P w) a vs):
  ObjOk P w H' h' a (.dK kvs):=⟨z,hd,vs,rel,dd⟩
theorem kkQ{H':Hp}{Q:Unit->Shared->Prop}(hu:A.units+1<cLine)(I:Inv X pins σ H s)(g:DPut H a y v H')(ry:RelV y u)(rv:RelV v r)(h:∀s',Inv X pins σ H' s'->Q () s'):
  wpAny (model X.prog X.w) A (setItem (.ref a) u r) Q E s:=by
 rcases g with⟨kvs,k,e,ey,l,eH⟩|⟨kvs,k,b,e,ey,eb,l,eH⟩
 ·subst ey eH
  obtain⟨z,hd,vs,rel,dd⟩:=dk_of I.hok e
  have hz:vs.length<=sizeLine:=by rw[<-rel.length];exact z
  have hl:(putK kvs k v).length<=sizeLine:=by have:=kdp kvs k v;lia
  refine wpAny_setItem_pairs (hsz:=hz) (kV_is ry) dd fun h' dd' hs=>h _ ?_
  have he:∃q,h'.get? a>>q:=let⟨q,_,_,hq,_⟩:=dd';⟨q,hq⟩
  exact kkP I (by rw[e];exact True.intro) hs he (knM hl hd (rel.put k rv) dd')
 ·subst ey eH
  cases(show u=Value.ref b from ry)
  obtain⟨z,hd,xs,rel,dd⟩:=dt_of I.hok e
  have hz:xs.length<=sizeLine:=by rw[<-Paired.length rel];exact z
  have hl:(putK kvs k v).length<=sizeLine:=by have:=kdp kvs k v;lia
  refine wpAny_setItem_heap (hsz:=hz) (tupleKind_room_in1 hu) (kkt I.hok eb) dd fun h' dd' hs=>h _ ?_
  obtain⟨q,es,ep,hq,h2,h3,h4,_,h5⟩:=dd'
  refine kkP I (by rw[e];exact True.intro) hs ⟨q,hq⟩ ⟨hl,hd,_,(rel.put k eb rv).keeps fun c ys ec=>?_,q,es,ep,hq,h2,h3,h4,h5⟩
  rw[kak (ne_of ec e (fun z=>nomatch z))]
  exact ec
end
section
variable{X:Cx}{pins:List (Addr×Obj)}{σ:St}{H:Hp}{s:Shared}{a:Addr}{kvs:List (Key×V)}{k:Key}{u:Value}{A:Around}{E:Value->Shared->Prop}
end
def kmD(ty td:TE):TE:=fun σ H Q=>ty σ H fun y H1=>td σ H1 fun x H2=>∃a o,x=.ref a/\DGet H2 a y o/\Q (.bl (!o.isSome)) H2
def sDPut(td ty tv:TE):TS:=fun D σ H=>tv σ H fun v H1=>td σ H1 fun x H2=>ty σ H2 fun y H3=>∃a H4,x=.ref a/\DPut H3 a y v H4/\D.nx σ H4
section
variable{X:Cx}{o i e value:Expr}{pos pos' tpos:Pos}{td ty tv:TE}
theorem kgR(hu:X.A.units+1<cLine)(hi:PE X i ty)(ho:PE X o td):PC X .NotIn i o (kmD ty td):=by
 intro pins s σ H Q I h
 refine thn (hi pins s σ H _ I h) fun iv s1 zz=>?_
 obtain⟨y,H1,I1,ry,q1⟩:=zz
 refine thn (ho pins s1 σ H1 _ I1 q1) fun u s2 zz=>?_
 obtain⟨x,H2,I2,rx,a,ov,ex,g,q2⟩:=zz
 subst ex
 obtain rfl:u=Value.ref a:=rx
 exact kne hu I2 g ry fun s3 I3=>⟨.bl (!ov.isSome),H2,I3,rfl,q2⟩
theorem kmL(hu:X.A.units+1<cLine)(ho:PE X o td)(hi:PE X i ty)(hv:PE X value tv)(hs:swapsWith value (some (.Subscript o i pos')) pos.line X.env=pure false):
  PS X (.Assign [.Subscript o i pos'] value pos) (sDPut td ty tv):=by
 intro pins s σ H D I h
 refine wpAny_Assign_Subscript (thn (hv pins s σ H _ I h) fun r s1 zz=>?_) hs
 obtain⟨v,H1,I1,rv,q1⟩:=zz
 refine thn (ho pins s1 σ H1 _ I1 q1) fun u s2 zz=>?_
 obtain⟨x,H2,I2,rx,q2⟩:=zz
 refine thn (hi pins s2 σ H2 _ I2 q2) fun iv s3 zz=>?_
 obtain⟨y,H3,I3,ry,a,H4,ex,g,q3⟩:=zz
 subst ex
 obtain rfl:u=Value.ref a:=rx
 exact kkQ hu I3 g ry rv fun s4 I4=>⟨σ,H4,I4,q3⟩
end
def klN{P:Program}{w:World}{H:Hp}(h:Heap)(hb:sysModules<h.objs.size):ObjOk P w H (h.push {cls:=.type "dict",data:=.dict #[]}) h.objs.size (.dT []):=
 ⟨J7 _,beq_eq_false_iff_ne.mpr (Ne.symm (J5 hb)),[], .nil,_,#[],0,Heap.get?_push_size _ rfl,⟨rfl,rfl,rfl⟩,rfl,rfl,MQ⟩
def knm:TE:=fun _ H Q=>∀p,H p=none->Q (.ref p) (upd H p (.dT []))
section
variable{X:Cx}{pos:Pos}
theorem klj:PE X (.Dict [] [] pos) knm:=fun pins s σ H Q I h=>
 wpAny_Dict_empty ⟨.ref s.heap.objs.size,_,I.laid (a:=s.heap.objs.size) (o:=.dT []) (t':=s.toks) (fun _ _ q=>Heap.get?_push_of_some _ q) (Jx _) (klN s.heap I.big),rfl,h _ (I.hok.fresh (Jx _))⟩
end
end L2
end Lake
open Lake
namespace PySem.SeqAt
open AutoSeq1 (wpAny_loadPart')
open MeetsSeq MeetsSeq2 MeetsSeq3
def lexL:List Int->List Int->Bool
 |[],[]=>false
 |[],_::_=>true
 |_::_,[]=>false
 |x::xs,y::ys=>if x=y then lexL xs ys else decide (x<y)
def IntsAt(items:Array Value)(xs:List Int):Prop:=items.size=xs.length/\∀(j:Nat)(h:j<items.size)(h':j<xs.length),∃t,items[j]=Value.int xs[j] t
theorem kke(l b:Addr)(items items2:Array Value)(n n2:Nat)(dd dd2:Option Addr)(sl sl2:Array (Option Value))(xs ys:List Int)(hx:IntsAt items xs)(hy:IntsAt items2 ys)(k:Nat):
  ∀ i:Nat,items.size-i=k->i<=items.size->i<=items2.size->Meets (Builtin.«list.__eq__.loop» ⟨[.ref l, .ref b,rawInt i,rawInt 0],[]⟩)
   (fun A R s=>s.heap.get? l>>{cls:=.type "list",dict:=dd,data:=.seq items n,slots:=sl}/\s.heap.get? b>>{cls:=.type "list",dict:=dd2,data:=.seq items2 n2,slots:=sl2}/\
    (∀j (h1:j<items.size) (h2:j<items2.size),EqAt A.in1 s items[j] items2[j] (decide (xs.getD j 0=ys.getD j 0)))/\
    R (.ok (.ret (.bool (lexL (xs.drop i) (ys.drop i))))) s):=by
 induction k with
 | zero=>
  intro i hk hi hi' prog w A R s h
  obtain⟨hp,g,d,tk,os⟩:=s;obtain⟨hl,hb,he,h⟩:=h
  wp_walk using wpAny_loadPart' hl,wpAny_loadPart' hb
  have hi1:items[((i:Nat):Int).toNat]?=none:=by simp;lia
  have hd:xs.drop i=[]:=by have:=hx.1;simp;lia
  rw[hd] at h
  rw[hi1]
  wp_walk using wpAny_loadPart' hl,wpAny_loadPart' hb
  show R (.ok (.ret (.bool (decide (items.size<items2.size))))) _
  have e:decide (items.size<items2.size)=lexL [] (ys.drop i):=by
   have hs:=hy.1
   cases hz:ys.drop i with
   |nil=>
    have:=congrArg Ny hz
    rw[Mm,MB] at this
    exact decide_eq_false (by lia)
   |cons z zs=>
    have:=congrArg Ny hz
    rw[Mm,Nb] at this
    exact decide_eq_true (by lia)
  rw[e]
  exact h
 | succ k ih=>
  intro i hk hi hi' prog w A R s h
  obtain⟨hp,g,d,tk,os⟩:=s;obtain⟨hl,hb,he,h⟩:=h
  wp_walk using wpAny_loadPart' hl,wpAny_loadPart' hb
  have hlt:i<items.size:=by lia
  have hxl:i<xs.length:=by have:=hx.1;lia
  have hi1:items[((i:Nat):Int).toNat]?>>items[i]:=by simp[hlt]
  have hdx:xs.drop i=xs[i]::xs.drop (i+1):=MW hxl
  have hc:((i:Int)+1)=((i+1:Nat):Int):=by push_cast;rfl
  rw[hdx] at h
  rw[hi1]
  by_cases hlt2:i<items2.size
  ·have hyl:i<ys.length:=by have:=hy.1;lia
   have hi2:items2[((i:Nat):Int).toNat]?>>items2[i]:=by simp[hlt2]
   have hdy:ys.drop i=ys[i]::ys.drop (i+1):=MW hyl
   rw[hdy] at h
   rw[hi2]
   refine wpAny_bind (he i hlt hlt2 prog w _ _ ?_)
   have g1:xs.getD i 0=xs[i]:=by simp[hxl]
   have g2:ys.getD i 0=ys[i]:=by simp[hyl]
   rw[g1,g2]
   unfold lexL at h
   by_cases c:xs[i]=ys[i]
   ·rw[if_pos c] at h
    rw[decide_eq_true c]
    wp_walk
    rw[hc]
    exact⟨plainId_quiet plain_eq_loop _,codeAny_builtin entry_eq_loop (by
     rw[Around.under_plainId plain_eq_loop _]
     exact ih (i+1) (by lia) (by lia) (by lia) prog w A R _ ⟨hl,hb,he,h⟩)⟩
   ·rw[if_neg c] at h
    rw[decide_eq_false c]
    wp_walk using wpAny_loadPart' hl,wpAny_loadPart' hb
    rw[hi1,hi2]
    obtain⟨t,e1⟩:=hx.2 i hlt hxl
    obtain⟨u,e2⟩:=hy.2 i hlt2 hyl
    rw[e1,e2]
    refine wpAny_bind (wpAny_lt_int ?_)
    wp_walk
    exact h
  ·have hi2:items2[((i:Nat):Int).toNat]?=none:=by simp;lia
   have hdy:ys.drop i=[]:=by have:=hy.1;simp;lia
   rw[hdy] at h
   rw[hi2]
   wp_walk using wpAny_loadPart' hl,wpAny_loadPart' hb
   show R (.ok (.ret (.bool (decide (items.size<items2.size))))) _
   rw[decide_eq_false (by lia)]
   exact h
theorem kkj(l b:Addr)(items items2:Array Value)(n n2:Nat)(dd dd2:Option Addr)(sl sl2:Array (Option Value))(xs ys:List Int)(hx:IntsAt items xs)(hy:IntsAt items2 ys):
  Meets (Builtin.«list.__lt__» ⟨[.ref l, .ref b],[]⟩)
   (fun A R s=>s.heap.get? l>>{cls:=.type "list",dict:=dd,data:=.seq items n,slots:=sl}/\s.heap.get? b>>{cls:=.type "list",dict:=dd2,data:=.seq items2 n2,slots:=sl2}/\
    (∀j (h1:j<items.size) (h2:j<items2.size),EqAt A.in1 s items[j] items2[j] (decide (xs.getD j 0=ys.getD j 0)))/\
    R (.ok (.ret (.bool (lexL xs ys)))) s):=by
 intro prog w A R s h
 obtain⟨hp,g,d,tk,os⟩:=s;obtain⟨hl,hb,he,h⟩:=h
 have f3:=AutoSeq1.sub_list_list
 wp_walk using wpAny_loadPart' hl,wpAny_loadPart' hb
 exact⟨plainId_quiet plain_eq_loop _,codeAny_builtin entry_eq_loop (by
  rw[Around.under_plainId plain_eq_loop _]
  exact kke l b items items2 n n2 dd dd2 sl sl2 xs ys hx hy _ 0 rfl (J7 _) (J7 _) prog w A R _ ⟨hl,hb,he,by simpa using h⟩)⟩
theorem lt_lists{A:Around}{s:Shared}{l b:Addr}{items items2:Array Value}{xs ys:List Int}(hl:s.heap.IsList l items)(hb:s.heap.IsList b items2)(hx:IntsAt items xs)(hy:IntsAt items2 ys)(hu:A.units<cLine)
  (he:∀j (h1:j<items.size) (h2:j<items2.size),EqAt A.in1 s items[j] items2[j] (decide (xs.getD j 0=ys.getD j 0)))(prog:Program)(w:World)(E:Value->Shared->Prop)(Q:Value->Shared->Prop)(h:Q (.bool (lexL xs ys)) s):
  wpAny (model prog w) A (richCompare .Lt (.ref l) (.ref b)) Q E s:=by
 obtain⟨⟨cls,dd,data,sl⟩,ho,hc,n,hd⟩:=id hl
 obtain⟨⟨cls2,dd2,data2,sl2⟩,ho2,hc2,n2,hd2⟩:=id hb
 simp only at hc hd hc2 hd2
 subst hc hd hc2 hd2
 exact richCompare_meets_room (op:=.Lt) ⟨_,ho,rfl⟩ ⟨_,ho2,rfl⟩ F.slot_list_lt F.entry_list_lt (F.args_list_lt_2 _ _) (kkj l b items items2 n n2 dd dd2 sl sl2 xs ys hx hy)
  ⟨ho,ho2,he,show Value.bool (lexL xs ys)≠Value.notImplemented/\Q (.bool (lexL xs ys)) s from⟨(fun x=>nomatch x),h⟩⟩ hu
end PySem.SeqAt
namespace Lake
namespace L2
open PySem PySem.Spec PyProof.Rows
section
variable{X:Cx}
theorem kgi{xs:List Int}{us:List Value}(r:Vals (xs.map V.int) us):SeqAt.IntsAt us.toArray xs:=by
 have l:=r.length
 rw[Jv] at l
 rwa[by simp;lia,fun j h h'=>?_]
 obtain⟨u,e,ru⟩:=r.get (i:=j) (x:=V.int xs[j]) (by simp[h'])
 have:us.toArray[j]=u:=by
  obtain⟨_,e'⟩:=JK.mp e
  simpa using e'
 rw[this]
 obtain⟨t,et⟩:=ru
 rwa[t,et]
def rEqTF(K:Jw):R2:=fun x y H Q=>∃(a b:Addr)(xs ys:List V),x=.ref a/\y=.ref b/\SqT K H a xs/\SqT K H b ys/\xs.all flatV=true/\ys.all flatV=true/\xs.length=ys.length/\Q (.bl (eqVs xs ys)) H
theorem kmT(hu:X.A.units<cLine):OpR X (compareOp .Eq) (rEqTF X.K):=by
 intro pins s σ H x y v u Q I rx ry h
 obtain⟨a,b,xs,ys,rfl,rfl,hx,hy,fx,fy,hl,q⟩:=h
 cases rx
 cases ry
 obtain⟨us,r1,p1,z1⟩:=I.tuple hx
 obtain⟨ws,r2,p2,z2⟩:=I.tuple hy
 have l1:=r1.length
 have l2:=r2.length
 refine SeqAt.eq_tupleAt p1 p2 hu (kfg r1 r2 fx fy) ⟨.bl (eqVs xs ys),H,I,?_,q⟩
 have e:us.toArray.size=xs.length:=by simp[l1]
 have e2:ws.toArray.size=xs.length:=by simp;lia
 rw[e,e2,Mc,kc8 xs ys hl]
 simp[RelV]
def kjV(K:Jw):List V->Hp->VK->Prop:=fun xs H Q=>∃(p:Addr)(ys:List V),xs=[.ref p]/\SqL K H p ys/\∀l,H l=none->Q (.ref l) (upd H l (.tup ys))
theorem khe:CallR X (.type "tuple") (kjV X.K):=by
 intro pins s σ H xs us Q I r h
 obtain⟨p,ys,e,hq,q⟩:=h
 exact kgr pins s σ H xs us Q I r ⟨p,ys,e, .inl ⟨hq,q⟩⟩
end
end L2
end Lake
open Lake
namespace PySem.SeqAt
open AutoSeq1 (wpAny_loadPart')
open MeetsSeq MeetsSeq2 MeetsSeq3
def LtAt(A:Around)(s:Shared)(u v:Value)(k:Bool):Prop:=∀(prog:Program)(w:World)(E:Value->Shared->Prop)(Q:Value->Shared->Prop),Q (.bool k) s->wpAny (model prog w) A (richCompare .Lt u v) Q E s
theorem kj7(l b:Addr)(a0 a1 b0 b1:Value)(n n2:Nat)(dd dd2:Option Addr)(sl sl2:Array (Option Value))(e0 l0 e1 l1:Bool):
  Meets (Builtin.«tuple.__lt__» ⟨[.ref l, .ref b],[]⟩)
   (fun A R s=>s.heap.get? l>>{cls:=.type "tuple",dict:=dd,data:=.seq #[a0,a1] n,slots:=sl}/\s.heap.get? b>>{cls:=.type "tuple",dict:=dd2,data:=.seq #[b0,b1] n2,slots:=sl2}/\
    EqAt A.in1 s a0 b0 e0/\LtAt A.in1 s a0 b0 l0/\EqAt A.in1 s a1 b1 e1/\LtAt A.in1 s a1 b1 l1/\
    R (.ok (.ret (.bool (if e0 then(if e1 then false else l1) else l0)))) s):=
 .of_wp fun prog w A R s h=>by
  obtain⟨hp,g,d,tk,os⟩:=s;obtain⟨hl,hb,he0,hl0,he1,hl1,h⟩:=h
  have f2:=AutoSeq1.sub_tuple_tuple
  wp_walk using wpAny_loadPart' hl,wpAny_loadPart' hb,wpAny_forIn_list _ (fun rest z s'=>z.1=none/\s'=⟨hp,g,d,tk,os⟩/\(rest=[(a0,b0),(a1,b1)]∨(e0=true/\rest=[(a1,b1)])∨(e0=true/\e1=true/\rest=[]))) _
  case turn=>
   rintro⟨y,x⟩ rest z s' ⟨hz,rfl,hr⟩
   rcases hr with hr|⟨c0,hr⟩|⟨c0,c1,hr⟩
   ·injection hr with p q
    injection p with p1 p2
    subst p1 p2 q
    refine wpAny_bind (he0 prog w _ _ ?_)
    cases c:e0 with
    |true=>
     wp_walk
     rwa[6,6, .inr (.inl ⟨rfl,rfl⟩)]
    |false=>
     rw[c] at h
     simp only[Bool.not_false,if_true]
     refine wpAny_bind (wpAny_rule (wpAny_bind (hl0 prog w _ _ ?_)))
     wp_walk
     rwa[8,by simpa using h]
   ·injection hr with p q
    injection p with p1 p2
    subst p1 p2 q
    refine wpAny_bind (he1 prog w _ _ ?_)
    cases c:e1 with
    |true=>
     wp_walk
     rwa[6,6, .inr (.inr ⟨c0,rfl,rfl⟩)]
    |false=>
     rw[c0,c] at h
     simp only[Bool.not_false,if_true]
     refine wpAny_bind (wpAny_rule (wpAny_bind (hl1 prog w _ _ ?_)))
     wp_walk
     rwa[8,by simpa using h]
   ·cases hr
  case fin=>
   rintro⟨z1,z2⟩ s' ⟨hz,rfl,hr⟩
   simp only at hz
   subst hz
   rcases hr with hr|⟨c0,hr⟩|⟨c0,c1,hr⟩
   ·cases hr
   ·cases hr
   ·rw[c0,c1] at h
    wp_walk
    rwa[8,by simpa[Builtin.Tuple.tupleCompareSizes] using h]
  case h=>
   rwa[6,6, .inl rfl]
theorem lt_pairs{A:Around}{s:Shared}{l b:Addr}{a0 a1 b0 b1:Value}{e0 l0 e1 l1:Bool}(hl:s.heap.IsTuple l #[a0,a1])(hb:s.heap.IsTuple b #[b0,b1])(hu:A.units<cLine)
  (he0:EqAt A.in1 s a0 b0 e0) (hl0:LtAt A.in1 s a0 b0 l0) (he1:EqAt A.in1 s a1 b1 e1) (hl1:LtAt A.in1 s a1 b1 l1):LtAt A s (.ref l) (.ref b) (if e0 then(if e1 then false else l1) else l0):=fun prog w E Q h=>by
 obtain⟨⟨cls,dd,data,sl⟩,ho,hc,n,hd⟩:=id hl
 obtain⟨⟨cls2,dd2,data2,sl2⟩,ho2,hc2,n2,hd2⟩:=id hb
 simp only at hc hd hc2 hd2
 subst hc hd hc2 hd2
 exact richCompare_meets_room (op:=.Lt) ⟨_,ho,rfl⟩ ⟨_,ho2,rfl⟩ F.slot_tuple_lt F.entry_tuple_lt (F.args_tuple_lt_2 _ _) (kj7 l b a0 a1 b0 b1 n n2 dd dd2 sl sl2 e0 l0 e1 l1)
  ⟨ho,ho2,he0,hl0,he1,hl1,show Value.bool (if e0 then(if e1 then false else l1) else l0)≠Value.notImplemented/\Q (.bool (if e0 then(if e1 then false else l1) else l0)) s from⟨(fun x=>nomatch x),h⟩⟩ hu
end PySem.SeqAt
namespace Lake
end Lake
open Lake
namespace PySem
def Has(h0 h:Heap):Prop:=∀b o,h0.get? b>>o->h.get? b>>o
def Has.go{h0 h h':Heap}{wr:List Addr}(z:∀b∈wr,h0.get? b=none)(p:Has h0 h)(q:∀b o,b∉wr->h.get? b>>o->h'.get? b>>o):Has h0 h':=fun b o e=>q b o (fun m=>by rw[z b m] at e;cases e) (p b o e)
def Has.one{h0 h h':Heap}{S:Addr}(z:h0.get? S=none)(p:Has h0 h)(q:∀b o,b≠S->h.get? b>>o->h'.get? b>>o):Has h0 h':=fun b o e=>q b o (fun m=>by rw[m,z] at e;cases e) (p b o e)
section
variable{prog:Program}{w:World}{A:Around}{R:Result->Shared->Prop}{J:Addr}{fp wr:List Addr}{m:Nat}{P:Nat->Value->Prop}{St:Nat->Heap->Prop}
theorem nmin:(toString "min" ++toString ".loop" :String)="min.loop":=by decide
theorem minK(Wk:Walks prog w A.in1 J fp wr m P St)(h0:Heap)(z0:∀b∈wr,h0.get? b=none)(bt:Nat->Nat->Bool)
  (hc:∀i j x y (s:Shared) (Q:Value->Shared->Prop) (E:Value->Shared->Prop),Has h0 s.heap->P i x->P j y->Q (.bool (bt i j)) s->wpAny (model prog w) A.in1 (richCompare .Lt x y) Q E s)
  (Z:Addr)(zZ:h0.get? Z=none)(fZ:Z∉fp):∀(k j:Nat)(s:Shared)(x:Value)(c:Nat),m-(j+1)=k->j+1<=m->St (j+1) s.heap->Has h0 s.heap->P (argBest bt j) x->
  s.heap.get? Z>>{cls:=.type "list",dict:=none,data:=.seq #[x,x] c,slots:=#[]}->
  (∀v h' tk,P (argBest bt (m-1)) v->Has h0 h'->R (.ok (.ret v)) {s with heap:=h',toks:=tk})->
  codeAny (model prog w) A (.builtin "min.loop" ⟨[.ref J, .none, .ref Z],[]⟩) R s
 |0,j,s,x,c,hk,hj,st,hh,px,hz,fin=>by
  have wZ:Z∉wr:=fun q=>fZ (Wk.sub _ q)
  have ej:j+1=m:=by lia
  refine codeAny_builtin F.entry_min_loop ?_
  rw[Around.under_plainId F.plain_min_loop _]
  show wpAny _ A.in1 (seqItems? (.ref Z) >>= _) _ _ s
  refine wpAny_bind (wpAny_seqItems hz rfl ?_)
  show wpAny _ A.in1 (tryCatch (pyNext (.ref J)) _ >>= _) _ _ s
  refine wpAny_bind (wpAny_tryCatch (Wk.done s _ _ (ej▸st) fun h1 tk f1=>?_))
  have hz1:=f1 Z _ wZ hz
  show wpAny _ A.in1 (updateSeq Z (fun _=>#[]) >>= _) _ _ _
  refine wpAny_bind (wpAny_updateSeq hz1 rfl (wpAny_bind (wpAny_letGo (wpAny_pure ?_))))
  exact fin x _ tk (by rw[<-ej];exact px) ((hh.go z0 f1).one zZ fun b o nb e=>(Heap.get?_update_other _ _ (Ne.symm nb)).trans e)
 | k+1,j,s,x,c,hk,hj,st,hh,px,hz,fin=>by
  have wZ:Z∉wr:=fun q=>fZ (Wk.sub _ q)
  refine codeAny_builtin F.entry_min_loop ?_
  rw[Around.under_plainId F.plain_min_loop _]
  show wpAny _ A.in1 (seqItems? (.ref Z) >>= _) _ _ s
  refine wpAny_bind (wpAny_seqItems hz rfl ?_)
  show wpAny _ A.in1 (tryCatch (pyNext (.ref J)) _ >>= _) _ _ s
  refine wpAny_bind (wpAny_tryCatch (Wk.item (j+1) s _ _ (by lia) st fun v h1 tk pv st1 f1=>?_))
  have hz1:=f1 Z _ wZ hz
  have hh1:=hh.go z0 f1
  show wpAny _ A.in1 (tryCatch (holding [v,v] (richCompare .Lt v x >>= _)) _ >>= _) _ _ _
  refine wpAny_bind (wpAny_tryCatch (wpAny_holding (wpAny_bind (hc (j+1) (argBest bt j) v x _ _ _ hh1 pv px ?_))))
  refine wpAny_bind (wpAny_holding (wpAny_truthy_bool ?_))
  refine wpAny_bind (wpAny_letGo (wpAny_pure ?_))
  cases eb:bt (j+1) (argBest bt j) with
  |true=>
   simp only[if_true]
   refine wpAny_bind (wpAny_updateSeq hz1 rfl (wpAny_bind (wpAny_letGo ?_)))
   rw[nmin]
   refine wpAny_pure ⟨plainId_quiet F.plain_min_loop _,minK Wk h0 z0 bt hc Z zZ fZ k (j+1) _ v _ (by lia) (by lia) (Wk.frame _ _ _ st1 fun b fb o e=>?_) (hh1.one zZ fun b o nb e=>(Heap.get?_update_other _ _ (Ne.symm nb)).trans e) (by simp only[argBest,eb,if_true];exact pv) (Heap.get?_update_self _ hz1 rfl) fun v' h2 tk2 p2 f2=>fin v' h2 tk2 p2 f2⟩
   exact(Heap.get?_update_other _ _ (fun q:Z=b=>fZ (by rw[q];exact fb))).trans e
  |false=>
   simp only[Ng,if_false]
   refine wpAny_bind (wpAny_letGo ?_)
   rw[nmin]
   exact wpAny_pure ⟨plainId_quiet F.plain_min_loop _,minK Wk h0 z0 bt hc Z zZ fZ k (j+1) _ x c (by lia) (by lia) st1 hh1 (by simp only[argBest,eb,Ng,if_false];exact px) hz1 fun v' h2 tk2 p2 f2=>fin v' h2 tk2 p2 f2⟩
theorem minK0(Wk:Walks prog w A.in1 J fp wr m P St)(h0:Heap)(z0:∀b∈wr,h0.get? b=none)(bt:Nat->Nat->Bool)
  (hc:∀i j x y (s:Shared) (Q:Value->Shared->Prop) (E:Value->Shared->Prop),Has h0 s.heap->P i x->P j y->Q (.bool (bt i j)) s->wpAny (model prog w) A.in1 (richCompare .Lt x y) Q E s)
  (Z:Addr)(zZ:h0.get? Z=none)(fZ:Z∉fp)(pos:0<m){s:Shared}{c:Nat}(st:St 0 s.heap)(hh:Has h0 s.heap)(hz:s.heap.get? Z>>{cls:=.type "list",dict:=none,data:=.seq #[] c,slots:=#[]})
  (fin:∀v h' tk,P (argBest bt (m-1)) v->Has h0 h'->R (.ok (.ret v)) {s with heap:=h',toks:=tk}):
  codeAny (model prog w) A (.builtin "min.loop" ⟨[.ref J, .none, .ref Z],[]⟩) R s:=by
 have wZ:Z∉wr:=fun q=>fZ (Wk.sub _ q)
 refine codeAny_builtin F.entry_min_loop ?_
 rw[Around.under_plainId F.plain_min_loop _]
 show wpAny _ A.in1 (seqItems? (.ref Z) >>= _) _ _ s
 refine wpAny_bind (wpAny_seqItems hz rfl ?_)
 show wpAny _ A.in1 (tryCatch (pyNext (.ref J)) _ >>= _) _ _ s
 refine wpAny_bind (wpAny_tryCatch (Wk.item 0 s _ _ pos st fun v h1 tk pv st1 f1=>?_))
 have hz1:=f1 Z _ wZ hz
 have hh1:=hh.go z0 f1
 show wpAny _ A.in1 (updateSeq Z (fun _=>#[v,v]) >>= _) _ _ _
 refine wpAny_bind (wpAny_updateSeq hz1 rfl ?_)
 rw[nmin]
 refine wpAny_pure ⟨plainId_quiet F.plain_min_loop _,minK Wk h0 z0 bt hc Z zZ fZ _ 0 _ v _ rfl pos (Wk.frame _ _ _ st1 fun b fb o e=>?_) (hh1.one zZ fun b o nb e=>(Heap.get?_update_other _ _ (Ne.symm nb)).trans e) pv (Heap.get?_update_self _ hz1 rfl) fun v' h2 tk2 p2 f2=>fin v' h2 tk2 p2 f2⟩
 exact(Heap.get?_update_other _ _ (fun q:Z=b=>fZ (by rw[q];exact fb))).trans e
end
theorem knz{prog:Program}{w:World}{A:Around}{E:Value->Shared->Prop}{s:Shared}{l:Addr}{vs:Array Value}{Q:Value->Shared->Prop}(hd:A.handled=none)(hl:s.heap.IsList l vs)(pos:0<vs.size)(bt:Nat->Nat->Bool)
  (hc:∀i j x y (s':Shared) (Q:Value->Shared->Prop) (E:Value->Shared->Prop),Has s.heap s'.heap->vs[i]?>>x->vs[j]?>>y->Q (.bool (bt i j)) s'->wpAny (model prog w) A.in1 (richCompare .Lt x y) Q E s')
  (fin:∀v h' tk,vs[argBest bt (vs.size-1)]?>>v->Has s.heap h'->Q v {s with heap:=h',toks:=tk}):wpAny (model prog w) A (call (.builtin "min") [.ref l]) Q E s:=by
 have lt:l<s.heap.objs.size:=by obtain⟨_,e,_⟩:=hl;exact Heap.lt_size e
 refine call_function_tree F.kind_min F.plain_min F.entry_min (F.args_min1 _) ?_
 show wpAny _ A.in1 (Builtin.Builtins.bindParams "min" ["key","default"] 0 ⟨[],[]⟩ >>= _) _ _ s
 refine wpAny_bind (wpAny_of_eq (show Builtin.Builtins.bindParams "min" ["key","default"] 0 ⟨[],[]⟩=pure [none,none] from rfl) ?_)
 refine wpAny_bind (wpAny_pure ?_)
 refine wpAny_bind (wpAny_pyIter_list hl ?_)
 refine wpAny_bind (wpAny_newObj_type ?_)
 rw[nmin]
 have old:∀(b:Addr),s.heap.objs.size<=b->s.heap.get? b=none:=fun b hb=>by
  cases e:s.heap.get? b with
  |none=>rfl
  |some o=>exact absurd (Heap.lt_size e) (MP.mpr hb)
 generalize hp:s.heap.push {cls:=.type "list_iterator",data:=.fields #[.ref l, .int 0 0]}=h1
 have sz:h1.objs.size=s.heap.objs.size+1:=by rw[<-hp,Heap.size_push]
 have has1:Has s.heap h1:=fun b o e=>by rw[<-hp];exact Heap.get?_push_of_some _ e
 have st1:h1.IsListIter s.heap.objs.size l 0/\h1.IsList l vs:=by
  rw[<-hp]
  rwa[⟨_,Heap.get?_push_size _ rfl,rfl,rfl⟩,hl.push _]
 have Wk:=Walks.list (prog:=prog) (w:=w) (A:=A.in1) hd s.heap.objs.size l (J5 lt) vs
 refine wpAny_pure ⟨plainId_quiet F.plain_min_loop _,minK0 Wk s.heap (fun b hb=>?_) bt hc h1.objs.size (old _ (by rw[sz];exact NY _)) (fun hm=>?_) pos (Wk.frame 0 _ _ st1 fun b _ o e=>Heap.get?_push_of_some _ e) (fun b o e=>Heap.get?_push_of_some _ (has1 b o e)) (Heap.get?_push_size _ rfl) fun v h' tk p f=>fin v h' tk p f⟩
 ·rw[Nz.mp hb]
  exact old _ (Jx _)
 ·rcases JY.mp hm with e|hm
  ·rw[sz] at e
   exact absurd e (Nat.succ_ne_self _)
  ·have e:=Nz.mp hm
   rw[sz] at e
   exact absurd lt (by rw[<-e];exact MP.mpr (NY _))
end PySem
namespace Lake
namespace L2
open PySem PySem.Spec PyProof.Rows
section
variable{X:Cx}
inductive DB(H:Hp):V->V->Bool->Prop
 |flat {x y:V} (fx:flatV x=true) (fy:flatV y=true):DB H x y (eqV x y)
 |lst {a b:Addr} {xs ys:List V} (ha:H a>>(.lst xs)) (hb:H b>>(.lst ys)) (fx:xs.all flatV=true) (fy:ys.all flatV=true):DB H (.ref a) (.ref b) (eqVs xs ys)
theorem kdd{A:Around}{s:Shared}{a b:Addr}{xs ys:List V}{us ws:List Value}(q1:Vals xs us)(q2:Vals ys ws)(p1:s.heap.IsList a us.toArray)(p2:s.heap.IsList b ws.toArray)(hab:a=b->xs=ys)(fx:xs.all flatV=true)(fy:ys.all flatV=true)(hu:A.units<cLine):SeqAt.EqAt A s (.ref a) (.ref b) (eqVs xs ys):=by
 by_cases e:a=b
 ·rw[<-hab e,kfe fx,e]
  exact SeqAt.EqAt.same _
 have l1:=q1.length
 have l2:=q2.length
 by_cases hl:xs.length=ys.length
 ·have key:=SeqAt.RcAt.lists (A:=A) p1 p2 (by simp;lia) hu (kfg q1 q2 fx fy)
  have e2:us.toArray.size=xs.length:=by simp[l1]
  rw[e2,kc8 xs ys hl] at key
  exact SeqAt.EqAt.of_refs e key
 ·have key:=SeqAt.RcAt.lists_lengths (A:=A) p1 p2 (by simp;lia) hu
  rw[kgn hl]
  exact SeqAt.EqAt.of_refs e key
theorem kkK{pins:List (Addr×Obj)}{σ:St}{H:Hp}{s:Shared}(I:Inv X pins σ H s){x y:V}{k:Bool}(h:DB H x y k){A:Around}{u w:Value}(hu:A.units<cLine)(r1:RelV x u)(r2:RelV y w):SeqAt.EqAt A s u w k:=by
 cases h with
 |flat fx fy=>exact kfM r1 r2 fx fy
 | @lst a b xs ys ha hb fx fy=>
  cases r1
  cases r2
  obtain⟨us,q1,p1,z1⟩:=I.list (SqL.of ha)
  obtain⟨ws,q2,p2,z2⟩:=I.list (SqL.of hb)
  exact kdd q1 q2 p1.isList p2.isList (fun e=>by subst e;rw[ha] at hb;cases hb;rfl) fx fy hu
def rEqTD(K:Jw):R2:=fun x y H Q=>∃(a b:Addr)(xs ys:List V)(e:Nat->Bool),x=.ref a/\y=.ref b/\SqT K H a xs/\SqT K H b ys/\xs.length=ys.length/\(∀j x y,xs[j]?>>x->ys[j]?>>y->DB H x y (e j))/\Q (.bl ((Jy xs.length).all e)) H
theorem kj9(hu:X.A.units+64<cLine):OpR X (compareOp .Eq) (rEqTD X.K):=by
 intro pins s σ H x y v u Q I rx ry h
 obtain⟨a,b,xs,ys,e,rfl,rfl,hx,hy,hl,he,q⟩:=h
 cases rx
 cases ry
 obtain⟨us,r1,p1,z1⟩:=I.tuple hx
 obtain⟨ws,r2,p2,z2⟩:=I.tuple hy
 have l1:=r1.length
 have l2:=r2.length
 refine SeqAt.eq_tupleAt (e:=e) p1 p2 (by lia) (fun j h1 h2=>?_) ⟨.bl ((Jy xs.length).all e),H,I,?_,q⟩
 ·obtain⟨x,e1,g1⟩:=kg6 r1 h1
  obtain⟨y,e2,g2⟩:=kg6 r2 h2
  exact kkK I (he j x y e1 e2) (by show X.A.units+1<cLine;lia) g1 g2
 ·have e1:us.toArray.size=xs.length:=by simp[l1]
  have e2:ws.toArray.size=xs.length:=by simp;lia
  rw[e1,e2,Mc]
  simp[RelV]
abbrev PrI:=Addr×Int×Addr×List Int
noncomputable def ltP(p q:PrI):Bool:=if p.2.1=q.2.1 then SeqAt.lexL p.2.2.2 q.2.2.2 else decide (p.2.1<q.2.1)
noncomputable def ltQ(ps:List PrI)(i j:Nat):Bool:=match ps[i]?,ps[j]? with
 |some p,some q=>ltP p q
 |_,_=>false
theorem keA:∀(u:List Int),SeqAt.lexL u u=false
 |[]=>rfl
 |x::u=>by
  show(if x=x then SeqAt.lexL u u else _)=false
  rw[if_pos rfl]
  exact keA u
def rMinP(K:Jw):List V->Hp->VK->Prop:=fun xs H Q=>∃(a:Addr)(ps:List PrI),xs=[.ref a]/\SqL K H a (ps.map fun p=>V.ref p.1)/\(∀p∈ps,H p.1>>(.tup [.int p.2.1, .ref p.2.2.1])/\H p.2.2.1>>(.lst (p.2.2.2.map V.int)))/\0<ps.length/\∀p,ps[argBest (ltQ ps) (ps.length-1)]?>>p->Q (.ref p.1) H
theorem kkU(hc:X.calm=true)(hu:X.A.units+64<cLine):CallR X (.builtin "min") (rMinP X.K):=by
 intro pins s σ H xs us Q I r h
 obtain⟨a,ps,rfl,hx,hp,pos,q⟩:=h
 obtain⟨u,rfl,r1⟩:=vals1 r
 cases r1
 obtain⟨us,r2,p2,z2⟩:=I.list hx
 have l2:=r2.length
 rw[Jv] at l2
 have hat:∀(i:Nat)(x:Value),us.toArray[i]?>>x->∃p,ps[i]?>>p/\x=.ref p.1:=fun i x hx'=>by
  obtain⟨hi,ex⟩:=Array.getElem?_eq_some_iff.mp hx'
  obtain⟨y,e1,g1⟩:=kg6 r2 hi
  rw[JF] at e1
  cases ep:ps[i]? with
  |none=>rw[ep] at e1;cases e1
  |some p=>
   rw[ep] at e1
   cases e1
   rw[ex] at g1
   cases g1
   rwa[p,6,6]
 refine knz (I.ok.hd hc) p2.isList (by simp;lia) (ltQ ps) (fun i j x y s' Q' E' has hx' hy' q'=>?_) fun v h' tk hv has=>?_
 ·obtain⟨p,ep,rfl⟩:=hat i x hx'
  obtain⟨p',ep',rfl⟩:=hat j y hy'
  obtain⟨t1,l1⟩:=hp p (JB ep)
  obtain⟨t1',l1'⟩:=hp p' (JB ep')
  obtain⟨uT,rT,pT,_⟩:=I.tuple (SqT.of (K:=X.K) t1)
  obtain⟨uT',rT',pT',_⟩:=I.tuple (SqT.of (K:=X.K) t1')
  obtain⟨uL,rL,pL,_⟩:=I.list (SqL.of (K:=X.K) l1)
  obtain⟨uL',rL',pL',_⟩:=I.list (SqL.of (K:=X.K) l1')
  obtain⟨x0,x1,rfl,⟨t0,rfl⟩,g1⟩:=vals2 rT
  obtain⟨y0,y1,rfl,⟨t0',rfl⟩,g1'⟩:=vals2 rT'
  cases g1
  cases g1'
  have pL2:=pL.isList.at (h':=s'.heap) fun o e=>has _ o e
  have pL2':=pL'.isList.at (h':=s'.heap) fun o e=>has _ o e
  have pT2:s'.heap.IsTuple p.1 #[.int p.2.1 t0, .ref p.2.2.1]:=by
   obtain⟨o,e,r⟩:=pT
   rwa[o,has _ _ e,r]
  have pT2':s'.heap.IsTuple p'.1 #[.int p'.2.1 t0', .ref p'.2.2.1]:=by
   obtain⟨o,e,r⟩:=pT'
   rwa[o,has _ _ e,r]
  have u2:X.A.in1.in1.units<cLine:=by show X.A.units+1+1<cLine;lia
  have key:=SeqAt.lt_pairs (A:=X.A.in1) (s:=s') pT2 pT2' (by show X.A.units+1<cLine;lia)
   (kfM (show RelV (.int p.2.1) (.int p.2.1 t0) from⟨t0,rfl⟩) (show RelV (.int p'.2.1) (.int p'.2.1 t0') from⟨t0',rfl⟩) rfl rfl) (l0:=decide (p.2.1<p'.2.1)) (fun prog w E Q h=>wpAny_lt_int h)
   (kdd rL rL' pL2 pL2' (fun e=>by rw[e,l1'] at l1;injection l1 with l1;injection l1 with l1;exact l1.symm) (kbR _) (kbR _) u2) (l1:=SeqAt.lexL p.2.2.2 p'.2.2.2) (fun prog w E Q h=>SeqAt.lt_lists pL2 pL2' (kgi rL) (kgi rL') u2 (fun m h1 h2=>?_) prog w E Q h)
  ·have e:(if eqV (.int p.2.1) (.int p'.2.1) then(if eqVs (p.2.2.2.map V.int) (p'.2.2.2.map V.int) then false else SeqAt.lexL p.2.2.2 p'.2.2.2) else decide (p.2.1<p'.2.1))=ltQ ps i j:=by
    unfold ltQ
    rw[ep,ep',kff]
    show(if(p.2.1==p'.2.1)=true then _ else _)=ltP p p'
    unfold ltP
    by_cases c:p.2.1=p'.2.1
    ·rw[if_pos (beq_iff_eq.mpr c),if_pos c]
     by_cases c2:p.2.2.2=p'.2.2.2
     ·rw[decide_eq_true c2,if_pos rfl,c2,keA]
     ·rw[decide_eq_false c2,if_neg JD]
    ·rw[if_neg (fun z=>c (beq_iff_eq.mp z)),if_neg c]
   rw[e] at key
   exact key _ _ _ _ q'
  ·have key:=kfg (A:=X.A.in1.in1.in1) (s:=s') rL rL' (kbR _) (kbR _) m h1 h2
   have n1:=rL.length
   have n2:=rL'.length
   rw[Jv] at n1 n2
   have k1:m<p.2.2.2.length:=by simp at h1;lia
   have k2:m<p'.2.2.2.length:=by simp at h2;lia
   have e:eqV ((p.2.2.2.map V.int).getD m .non) ((p'.2.2.2.map V.int).getD m .non)=decide (p.2.2.2.getD m 0=p'.2.2.2.getD m 0):=by
    simp[k1,k2,eqV]
    exact Mh.mpr (by rw[beq_iff_eq,decide_eq_true_iff])
   rw[e] at key
   exact key
 ·obtain⟨p,ep,rfl⟩:=hat _ v hv
  have sz:us.toArray.size=ps.length:=by simp;lia
  rw[sz] at ep
  rwa[.ref p.1,H,I.kept has,6,q p ep]
end
section
variable{X:Cx}
theorem kkJ{pins:List (Addr×Obj)}{σ:St}{H:Hp}{s:Shared}(I:Inv X pins σ H s){A:Around}(hu:A.units+1<cLine){a b:Addr}{xs ys:List V}(hx:SqT X.K H a xs)(hy:SqT X.K H b ys)(he:∀(j:Nat)(x y:V),xs[j]?>>x->ys[j]?>>y->∃k,DB H x y k):∃k,SeqAt.EqAt A s (.ref a) (.ref b) k:=by
 by_cases e:a=b
 ·subst e
  rwa[true,SeqAt.EqAt.same _]
 obtain⟨us,r1,p1,z1⟩:=I.tuple hx
 obtain⟨ws,r2,p2,z2⟩:=I.tuple hy
 have hk:∀j,∃k:Bool,∀(h1:j<us.toArray.size)(h2:j<ws.toArray.size),SeqAt.EqAt A.in1 s us.toArray[j] ws.toArray[j] k:=fun j=>by
  by_cases h1:j<us.toArray.size
  ·by_cases h2:j<ws.toArray.size
   ·obtain⟨x,e1,g1⟩:=kg6 r1 h1
    obtain⟨y,e2,g2⟩:=kg6 r2 h2
    obtain⟨k,hk⟩:=he j x y e1 e2
    rwa[k,fun _ _=>kkK I hk (by show A.units+1<cLine;exact hu) g1 g2]
   ·rwa[true,fun _ h=>absurd h h2]
  ·rwa[true,fun h=>absurd h h1]
 rwa[_,SeqAt.EqAt.of_refs e (SeqAt.RcAt.tuples (e:=fun j=>(hk j).choose) p1 p2 (by lia) fun j h1 h2=>(hk j).choose_spec h1 h2)]
def rInTD(K:Jw):R2:=fun x y H Q=>∃(a p:Addr)(xs:List V)(bs:List Addr),x=.ref a/\y=.ref p/\SqL K H p (bs.map V.ref)/\SqT K H a xs/\(∀b∈bs,∃zs,SqT K H b zs/\∀(j:Nat)(x y:V),zs[j]?>>x->xs[j]?>>y->∃k,DB H x y k)/\∀r,Q (.bl r) H
theorem kmS(hu:X.A.units+64<cLine):OpR X (compareOp .In) (rInTD X.K):=by
 intro pins s σ H x y v u Q I rx ry h
 obtain⟨a,p,xs,bs,rfl,rfl,hp,hx,hb,q⟩:=h
 cases rx
 cases ry
 obtain⟨its,r,pl,hz⟩:=I.list hp
 have hit:∀(bs:List Addr)(its:List Value),Vals (bs.map V.ref) its->its=bs.map Value.ref:=by
  intro bs
  induction bs with
  |nil=>intro its r;cases r;rfl
  | cons b bs ih=>
   intro its r
   cases r with
   |cons r1 r2=>
    cases r1
    rw[ih _ r2]
    rfl
 have ei:=hit bs its r
 subst ei
 have hk:∀w:Value,∃k:Bool,w∈(bs.map Value.ref).toArray->SeqAt.EqAt X.A.in1 s w (.ref a) k:=fun w=>by
  by_cases hw:w∈(bs.map Value.ref).toArray
  ·have hw':w∈bs.map Value.ref:=by simpa using hw
   obtain⟨b,hb',rfl⟩:=JP.mp hw'
   obtain⟨zs,h1,h2⟩:=hb b hb'
   obtain⟨k,hk⟩:=kkJ I (A:=X.A.in1) (by show X.A.units+1+1<cLine;lia) h1 hx h2
   rwa[k,fun _=>hk]
  ·rwa[true,fun h=>absurd h hw]
 exact SeqAt.in_listAt (fun w=>(hk w).choose) pl.isList (fun w hw=>(hk w).choose_spec hw) ⟨.bl _,H,I,rfl,q _⟩
theorem kiR{α:Type}{f g: α->Bool}:∀{l:List α},(∀x∈l,f x=g x)->l.any f=l.any g
 |[],_=>rfl
 |x::l,h=>by rw[NF,NF,h x JS,kiR fun y hy=>h y (JQ _ hy)]
def klf(K:Jw):R2:=fun x y H Q=>∃(a p:Addr)(xs:List V)(bs:List (Addr×List V)),x=.ref a/\y=.ref p/\SqL K H p (bs.map fun b=>V.ref b.1)/\H a>>(.lst xs)/\xs.all flatV=true/\(∀b∈bs,H b.1>>(.lst b.2)/\b.2.all flatV=true)/\Q (.bl (!(bs.any fun b=>eqVs b.2 xs))) H
theorem ki1(hu:X.A.units+64<cLine):OpR X (compareOp .NotIn) (klf X.K):=by
 intro pins s σ H x y v u Q I rx ry h
 obtain⟨a,p,xs,bs,rfl,rfl,hp,hx,fx,hb,q⟩:=h
 cases rx
 cases ry
 obtain⟨its,r,pl,hz⟩:=I.list hp
 obtain⟨ws,q2,p2,z2⟩:=I.list (SqL.of (K:=X.K) hx)
 have hit:∀(bs:List (Addr×List V))(its:List Value),Vals (bs.map fun b=>V.ref b.1) its->its=bs.map fun b=>Value.ref b.1:=by
  intro bs
  induction bs with
  |nil=>intro its r;cases r;rfl
  | cons b bs ih=>
   intro its r
   cases r with
   |cons r1 r2=>
    cases r1
    rw[ih _ r2]
    rfl
 have ei:=hit bs its r
 subst ei
 have hf:∀b∈bs,rowU H xs (.ref b.1)=eqVs b.2 xs:=fun b hb'=>by
  show eqVs (rowV H (.ref b.1)) xs=_
  rw[klb (hb b hb').1]
 refine SeqAt.notIn_listAt (rowU H xs) pl.isList (fun w hw=>?_) ⟨.bl _,H,I,rfl,?_⟩
 ·have hw':w∈bs.map fun b=>Value.ref b.1:=by simpa using hw
  obtain⟨b,hb',rfl⟩:=JP.mp hw'
  rw[hf b hb']
  obtain⟨us,q1,p1,z1⟩:=I.list (SqL.of (K:=X.K) (hb b hb').1)
  exact kdd q1 q2 p1.isList p2.isList (fun e=>by
   have:=(hb b hb').1
   rw[e,hx] at this
   injection this with this
   injection this with this
   exact this.symm) (hb b hb').2 fx (by show X.A.units+1<cLine;lia)
 ·have e:(bs.map fun b=>Value.ref b.1).toArray.any (rowU H xs)=bs.any fun b=>eqVs b.2 xs:=by
   rw[show(bs.map fun b=>Value.ref b.1).toArray.any (rowU H xs)=(bs.map fun b=>Value.ref b.1).any (rowU H xs) by simp,List.any_map]
   exact kiR hf
  rw[e]
  exact q
end
end L2
namespace L2
open PySem PySem.Spec PySem.Calls PyProof.Rows PySem.W
noncomputable def km7:Bool->Keyed->Array Keyed->Nat->Nat->Nat->StateT SortSt Sem (Option Nat):=sortPriv% PySem.Builtin.gallop
noncomputable def klu:Array Keyed->Array Keyed->StateT SortSt Sem (Array Keyed):=sortPriv% PySem.Builtin.mergeLo
noncomputable def klv:Array Keyed->Array Keyed->StateT SortSt Sem (Array Keyed):=sortPriv% PySem.Builtin.mergeHi
section
variable{prog:Program}{w:World}{A:Around}{E:Value->Shared->Prop}{s:Shared}{a₀:Array Keyed}{κ:SortKind}
def CmpOk(prog:Program)(w:World)(A:Around)(s:Shared)(κ:SortKind)(a₀:Array Keyed):Prop:=∀x∈a₀,∀y∈a₀,∃c:Bool,∀C:Bool->Shared->Prop,C c s->wpAny (model prog w) A (keyLt' κ x.1 y.1) C (fun _ _=>False) s
def SubA(a₀ a:Array Keyed):Prop:=∀x∈a,x∈a₀
theorem SubA.at{a:Array Keyed}(h:SubA a₀ a){i:Nat}(hi:i<a.size):∃x,a[i]?>>x/\x∈a₀:=⟨a[i],MS hi,h _ (Eu _)⟩
theorem SubA.push{a:Array Keyed}(h:SubA a₀ a){x:Keyed}(hx:x∈a₀):SubA a₀ (a.push x):=fun y hy=>(Array.mem_push.mp hy).elim (h y) fun e=>e▸hx
theorem SubA.app{a b:Array Keyed}(h:SubA a₀ a)(h':SubA a₀ b):SubA a₀ (a++b):=fun y hy=>(Array.mem_append.mp hy).elim (h y) (h' y)
theorem SubA.ext{a:Array Keyed}(h:SubA a₀ a)(i j:Nat):SubA a₀ (a.extract i j):=fun y hy=>by
 obtain⟨k,hk,e⟩:=Et.mp hy
 rw[<-e,Array.getElem_extract]
 exact h _ (Eu _)
theorem SubA.rev{a:Array Keyed}(h:SubA a₀ a):SubA a₀ a.reverse:=fun y hy=>h y (Array.mem_reverse.mp hy)
theorem mg_lt{st:SortSt}(hc:CmpOk prog w A s κ a₀)(hk:kindOf st= κ){x y:Keyed}(hx:x∈a₀)(hy:y∈a₀){Q:Option Bool->SortSt->Prop}(h:∀c,Q (some c) st):wpS (model prog w) A E s (lt' x y) Q st:=by
 obtain⟨c,hc'⟩:=hc x hx y hy
 rw[lt'_eq]
 refine wpS_bind (wpS_get ?_)
 rw[hk]
 refine wpS_bind (wpS_lift (wpAny_attempt (wpAny_mono (hc' (fun b s'=>b=c/\s'=s) ⟨rfl,rfl⟩) (fun b s' hb=>?_) fun _ _ e=>e.elim)))
 obtain⟨rfl,rfl⟩:=hb
 rwa[6,wpS_pure (h _)]
theorem kaT{st:SortSt}{a:Array Keyed}(h:SubA a₀ a){i:Nat}(hi:i<a.size){Q:Keyed->SortSt->Prop}(k:∀x∈a₀,Q x st):wpS (model prog w) A E s (elem' a i) Q st:=by
 obtain⟨x,e,hx⟩:=h.at hi
 rw[elem'_eq,e]
 exact wpS_pure (k x hx)
theorem kcZ{st:SortSt}(hc:CmpOk prog w A s κ a₀)(hk:kindOf st= κ){left:Bool}{key:Keyed}(hx:key∈a₀){arr:Array Keyed}(ha:SubA a₀ arr){i:Nat}(hi:i<arr.size){Q:Option Bool->SortSt->Prop}(h:∀c,Q (some c) st):wpS (model prog w) A E s (do
  let x <-elem' arr i
  if left then lt' x key else return(<-lt' key x).map (!·)) Q st:=by
 refine wpS_bind (kaT ha hi fun x hx'=>?_)
 cases left with
 |true=>
  rw[if_pos rfl]
  exact mg_lt hc hk hx' hx h
 |false=>
  rw[if_neg JD]
  exact wpS_bind (mg_lt hc hk hx hx' fun c=>wpS_pure (h _))
theorem kcF{st:SortSt}(hc:CmpOk prog w A s κ a₀)(hk:kindOf st= κ){left:Bool}{key:Keyed}(hx:key∈a₀){arr:Array Keyed}(ha:SubA a₀ arr){base n hint:Nat}(hb:base+n<=arr.size)(hh:hint<n){Q:Option Nat->SortSt->Prop}(h:∀k,k<=n->Q (some k) st):wpS (model prog w) A E s (km7 left key arr base n hint) Q st:=by
 refine wpS_bind (kcZ hc hk hx ha (by lia) fun c=>?_)
 dsimp only
 cases c with
 | true=>
  rw[if_pos rfl]
  refine wpS_bind (wpS_mono (wpS_forRange (I:=fun _ c st'=>st'=st/\c.1=none) (Q:=fun c st'=>st'=st/\c.1=none) ?_ (fun _ _ h=>h) ⟨rfl,rfl⟩) ?_)
  ·rintro i ⟨c1,c2,c3⟩ st' _ _ ⟨rfl,e⟩
   dsimp only at e⊢
   split
   ·exact wpS_pure ⟨rfl,rfl⟩
   ·refine wpS_bind (kcZ hc hk hx ha (by lia) fun c=>?_)
    cases c with
    |true=>exact wpS_pure ⟨rfl,rfl⟩
    |false=>exact wpS_pure ⟨rfl,rfl⟩
  ·rintro⟨c1,c2,c3⟩ st' ⟨rfl,e⟩
   dsimp only at e⊢
   subst e
   dsimp only
   refine wpS_bind (wpS_mono (wpS_forRange (I:=fun _ c st''=>st''=st'/\c.1=none/\c.2.2<=n) (Q:=fun c st''=>st''=st'/\c.1=none/\c.2.2<=n) ?_ (fun _ _ h=>h) ⟨rfl,rfl,(by show hint+min c3 (n-hint)<=n;lia)⟩) ?_)
   ·rintro i ⟨c1,c2,c3⟩ st'' _ _ ⟨rfl,e,e2⟩
    dsimp only at e e2⊢
    split
    ·exact wpS_pure ⟨rfl,rfl,e2⟩
    ·refine wpS_bind (kcZ hc hk hx ha (by lia) fun c=>?_)
     cases c with
     |true=>exact wpS_pure ⟨rfl,rfl,e2⟩
     |false=>exact wpS_pure ⟨rfl,rfl,(by show c2+(c3-c2)/2<=n;lia)⟩
   ·rintro⟨c1,c2,c3⟩ st'' ⟨rfl,e,e2⟩
    dsimp only at e e2⊢
    subst e
    exact wpS_pure (h _ e2)
 | false=>
  rw[if_neg JD]
  refine wpS_bind (wpS_mono (wpS_forRange (I:=fun _ c st'=>st'=st/\c.1=none) (Q:=fun c st'=>st'=st/\c.1=none) ?_ (fun _ _ h=>h) ⟨rfl,rfl⟩) ?_)
  ·rintro i ⟨c1,c2,c3⟩ st' _ _ ⟨rfl,e⟩
   dsimp only at e⊢
   split
   ·exact wpS_pure ⟨rfl,rfl⟩
   ·refine wpS_bind (kcZ hc hk hx ha (by lia) fun c=>?_)
    cases c with
    |true=>exact wpS_pure ⟨rfl,rfl⟩
    |false=>exact wpS_pure ⟨rfl,rfl⟩
  ·rintro⟨c1,c2,c3⟩ st' ⟨rfl,e⟩
   dsimp only at e⊢
   subst e
   dsimp only
   refine wpS_bind (wpS_mono (wpS_forRange (I:=fun _ c st''=>st''=st'/\c.1=none/\c.2.2<=n) (Q:=fun c st''=>st''=st'/\c.1=none/\c.2.2<=n) ?_ (fun _ _ h=>h) ⟨rfl,rfl,(by show hint-c2<=n;lia)⟩) ?_)
   ·rintro i ⟨c1,c2,c3⟩ st'' _ _ ⟨rfl,e,e2⟩
    dsimp only at e e2⊢
    split
    ·exact wpS_pure ⟨rfl,rfl,e2⟩
    ·refine wpS_bind (kcZ hc hk hx ha (by lia) fun c=>?_)
     cases c with
     |true=>exact wpS_pure ⟨rfl,rfl,e2⟩
     |false=>exact wpS_pure ⟨rfl,rfl,(by show c2+(c3-c2)/2<=n;lia)⟩
   ·rintro⟨c1,c2,c3⟩ st'' ⟨rfl,e,e2⟩
    dsimp only at e e2⊢
    subst e
    exact wpS_pure (h _ e2)
def SI(κ:SortKind)(a₀:Array Keyed)(n:Nat)(st:SortSt):Prop:=kindOf st= κ/\failedOf st=none/\(arrOf st).size=n/\SubA a₀ (arrOf st)
theorem kaS{α:Type}{c:Prop} [Decidable c] {m1 m2:StateT SortSt Sem α} {Q: α->SortSt->Prop} {st:SortSt} {M:Model} (h1:c->wpS M A E s m1 Q st) (h2:¬c->wpS M A E s m2 Q st):wpS M A E s (if c then m1 else m2) Q st:=by
 by_cases h:c
 ·rw[if_pos h];exact h1 h
 ·rw[if_neg h];exact h2 h
theorem kaZ{α:Type}{x y:Nat}{m1 m2:StateT SortSt Sem α}{Q: α->SortSt->Prop}{st:SortSt}{M:Model}(h1:x=y->wpS M A E s m1 Q st)(h2:x≠y->wpS M A E s m2 Q st):wpS M A E s (if(x==y)=true then m1 else m2) Q st:=by
 by_cases h:x=y
 ·rw[if_pos (by rw[h];exact beq_self_eq_true y)];exact h1 h
 ·rw[if_neg (by rw[beq_iff_eq];exact h)];exact h2 h
def SJ(κ:SortKind)(a₀:Array Keyed)(n:Nat)(p:Array (Nat×Nat×Nat))(st:SortSt):Prop:=SI κ a₀ n st/\pendingOf st=p
theorem SubA.one{x:Keyed}(h:x∈a₀):SubA a₀ #[x]:=fun y hy=>by
 have:y=x:=by simpa using hy
 rw[this];exact h
def JL(a₀ a b:Array Keyed)(k:Nat):Option (Array Keyed)->Array Keyed->Nat->Nat->Prop
 |some m,_,_,_=>SubA a₀ m
 |none,out,ia,ib=>SubA a₀ out/\ia+1<a.size/\ib<b.size/\k<=ia+ib
def LoQ{α:Type}(κ:SortKind)(a₀:Array Keyed)(n:Nat)(p:Array (Nat×Nat×Nat))(a b:Array Keyed)(k:Nat):ForInStep (Option (Array Keyed)×Array Keyed×Nat×Nat×α)->SortSt->Prop
 | .done c,st=>SJ κ a₀ n p st/\JL a₀ a b k c.1 c.2.1 c.2.2.1 c.2.2.2.1
 | .yield c,st=>SJ κ a₀ n p st/\c.1=none/\JL a₀ a b k none c.2.1 c.2.2.1 c.2.2.2.1
theorem mg_lo{st:SortSt}{n:Nat}{p:Array (Nat×Nat×Nat)}(hc:CmpOk prog w A s κ a₀)(hs:SJ κ a₀ n p st){a b:Array Keyed}(ha:SubA a₀ a)(hb:SubA a₀ b)(h1:1<=a.size)(h2:1<=b.size){Q:Array Keyed->SortSt->Prop}(h:∀m st',SJ κ a₀ n p st'->SubA a₀ m->Q m st'):wpS (model prog w) A E s (klu a b) Q st:=by
 refine wpS_bind (wpS_lift (wpAny_rule ⟨rfl,?_⟩))
 refine wpS_bind (kaT hb (by lia) fun x0 hx0=>?_)
 have h0:=SubA.one hx0
 refine kaZ (fun _=>wpS_pure (h _ _ hs ((h0.app (ha.ext _ _)).app (hb.ext _ _)))) fun e1=>kaZ (fun _=>wpS_pure (h _ _ hs ((h0.app (hb.ext _ _)).app (ha.ext _ _)))) fun e2=>?_
 refine wpS_bind (wpS_get ?_)
 refine wpS_bind (wpS_mono (wpS_forRange (I:=fun i c st'=>SJ κ a₀ n p st'/\c.1=none/\JL a₀ a b (1+i) none c.2.1 c.2.2.1 c.2.2.2.1) (Q:=fun c st'=>SJ κ a₀ n p st'/\∃m,c.1>>m/\SubA a₀ m) ?_ ?_ ⟨hs,rfl,h0,by dsimp only;lia,by dsimp only;lia,by dsimp only;lia⟩) ?_)
 ·rintro i ⟨c1,out,ia,ib,mg⟩ st1 _ hi ⟨hs1,e,hJ⟩
  dsimp -zeta -zetaHave only at e hJ
  clear hs h st e h0 hx0 x0 h1 h2 e1 e2
  refine wpS_bind (wpS_mono (wpS_forRange (I:=fun j c st'=>st'=st1/\c.1=none/\JL a₀ a b (1+i+j) none c.2.1 c.2.2.1 c.2.2.2.1) (Q:=fun c st'=>st'=st1/\JL a₀ a b (2+i) c.1 c.2.1 c.2.2.1 c.2.2.2.1) ?_ ?_ ⟨rfl,rfl,hJ⟩) ?_)
  ·rintro j ⟨d1,out,ia,ib,ac,bc⟩ st' _ hj ⟨rfl,e,hO,hA,hB,hk⟩
   dsimp -zeta -zetaHave only at hO hA hB hk
   refine wpS_bind (kaT hb hB fun x hx=>wpS_bind (kaT ha (MX hA) fun y hy=>wpS_bind (mg_lt hc hs1.1.1 hx hy fun c=>?_)))
   cases c with
   |true=>exact wpS_bind (kaT hb hB fun x hx=>kaZ (fun _=>wpS_pure ⟨rfl,((hO.push hx).app (ha.ext _ _)).app (hb.ext _ _)⟩) fun e9=>kaS (fun _=>wpS_pure ⟨rfl,hO.push hx,hA,Mi hB e9,(show 2+i<=ia+(ib+1) by lia)⟩) fun _=>wpS_pure ⟨rfl,rfl,hO.push hx,hA,Mi hB e9,(show 1+i+(j+1)<=ia+(ib+1) by lia)⟩)
   |false=>exact wpS_bind (kaT ha (MX hA) fun x hx=>kaZ (fun _=>wpS_pure ⟨rfl,((hO.push hx).app (hb.ext _ _)).app (ha.ext _ _)⟩) fun e9=>kaS (fun _=>wpS_pure ⟨rfl,hO.push hx,Mi hA e9,hB,(show 2+i<=ia+1+ib by lia)⟩) fun _=>wpS_pure ⟨rfl,rfl,hO.push hx,Mi hA e9,hB,(show 1+i+(j+1)<=ia+1+ib by lia)⟩)
  ·rintro⟨d1,out,ia,ib,ac,bc⟩ st' ⟨rfl,e,hO,hA,hB,hk⟩
   dsimp -zeta -zetaHave only at e hO hA hB hk⊢
   subst e
   rwa[6,hO,hA,hB,by lia]
  ·rintro⟨d1,out,ia,ib,ac,bc⟩ st' ⟨rfl,hJ⟩
   dsimp -zeta -zetaHave only at hJ
   cases d1 with
   |some m=>exact wpS_pure ⟨hs1,m,rfl,hJ⟩
   | none=>
    refine wpS_bind (wpS_lift (wpAny_rule ⟨rfl,?_⟩))
    refine wpS_bind (wpS_mono (wpS_forRange (I:=fun j c st'=>SJ κ a₀ n p st'/\c.1=none/\JL a₀ a b (2+i) none c.2.1 c.2.2.1 c.2.2.2.1) (Q:=fun c st'=>SJ κ a₀ n p st'/\JL a₀ a b (2+i) c.1 c.2.1 c.2.2.1 c.2.2.2.1) ?_ ?_ ⟨hs1,rfl,hJ⟩) ?_)
    ·rintro j ⟨d1,out,ia,ib,mg,ac,bc⟩ st2 _ _ ⟨hs2,e,hO,hA,hB,hk⟩
     clear hs1 hJ
     dsimp -zeta -zetaHave only at hO hA hB hk⊢
     refine wpS_mono (Q:=LoQ κ a₀ n p a b (2+i)) ?_ fun r st h=>by cases r <;> exact h
     extract_lets t1 u1 t2 u2 t3 u3 t4 u4 t5 u5 u6 i1 jp1
     have hB:u3<b.size:=hB
     have j1:∀g:Nat,wpS (model prog w) A E s (jp1 () g) (LoQ κ a₀ n p a b (2+i)) st2:=fun g=>by
      refine wpS_bind (wpS_mono (wpS_modify (Q:=fun _ st'=>SJ κ a₀ n p st') hs2) fun _ st3 hs3=>?_)
      refine wpS_bind (kaT hb hB fun x hx=>wpS_bind (kcF hc hs3.1.1 hx ha (show ia+(a.size-ia)<=_ by lia) (show 0<a.size-ia by lia) fun k hk1=>?_))
      replace hk1:k<=a.size-ia:=hk1
      dsimp -zeta -zetaHave only
      extract_lets v1 jp2
      have j2:∀(out:Array Keyed)(ia:Nat),SubA a₀ out->ia+1<a.size->2+i<=ia+ib->wpS (model prog w) A E s (jp2 () out ia) (LoQ κ a₀ n p a b (2+i)) st3:=fun out ia hO hA hk=>by
       refine wpS_bind (kaT hb hB fun y hy=>kaZ (fun _=>wpS_pure ⟨hs3,((hO.push hy).app (ha.ext _ _)).app (hb.ext _ _)⟩) fun e9=>?_)
       replace e9:ib+1≠b.size:=e9
       replace hB:ib<b.size:=hB
       refine wpS_bind (kaT ha (MX hA) fun z hz=>wpS_bind (kcF hc hs3.1.1 hz hb (show ib+1+(b.size-(ib+1))<=_ by lia) (show 0<b.size-(ib+1) by lia) fun k' hk2=>?_))
       replace hk2:k'<=b.size-(ib+1):=hk2
       dsimp -zeta -zetaHave only
       extract_lets v2 i2 jp3
       have j3:∀(out:Array Keyed)(ib:Nat),SubA a₀ out->ib<b.size->2+i<=ia+ib->wpS (model prog w) A E s (jp3 () out ib) (LoQ κ a₀ n p a b (2+i)) st3:=fun out ib hO hB hk=>wpS_bind (kaT ha (MX hA) fun u hu=>kaZ (fun _=>wpS_pure ⟨hs3,((hO.push hu).app (hb.ext _ _)).app (ha.ext _ _)⟩) fun e9=>kaS (fun _=>wpS_pure ⟨hs3,hO.push hu,Mi hA e9,hB,(show 2+i<=ia+1+ib by lia)⟩) fun _=>wpS_pure ⟨hs3,rfl,hO.push hu,Mi hA e9,hB,(show 2+i<=ia+1+ib by lia)⟩)
       clear_value jp3
       exact kaS (fun _=>kaZ (fun _=>wpS_pure ⟨hs3,(((hO.push hy).app (hb.ext _ _)).app (ha.ext _ _)).app (hb.ext _ _)⟩) fun e8=>j3 _ _ ((hO.push hy).app (hb.ext _ _)) (Mi (show ib+1+k'<=b.size by lia) e8) (show 2+i<=ia+(ib+1+k') by lia)) fun _=>j3 _ _ (hO.push hy) (show ib+1<b.size by lia) (show 2+i<=ia+(ib+1) by lia)
      clear_value jp2
      exact kaS (fun _=>kaZ (fun _=>wpS_pure ⟨hs3,((hO.app (ha.ext _ _)).app (hb.ext _ _)).app (ha.ext _ _)⟩) fun e7=>kaZ (fun _=>wpS_pure ⟨hs3,((hO.app (ha.ext _ _)).app (ha.ext _ _)).app (hb.ext _ _)⟩) fun e8=>j2 _ _ (hO.app (ha.ext _ _)) (by replace e7:ia+k+1≠a.size:=e7;replace e8:ia+k≠a.size:=e8;show ia+k+1<a.size;lia) (show 2+i<=ia+k+ib by lia)) fun _=>j2 _ _ hO hA hk
     clear_value jp1
     exact kaS (fun _=>j1 _) fun _=>j1 _
    ·rintro⟨d1,out,ia,ib,mg,ac,bc⟩ st' ⟨h3,e,hJ⟩
     dsimp -zeta -zetaHave only at e hJ⊢
     subst e
     rwa[h3,hJ]
    ·rintro⟨d1,out,ia,ib,mg,ac,bc⟩ st' ⟨h3,hJ⟩
     dsimp -zeta -zetaHave only at hJ
     cases d1 with
     |some m=>exact wpS_pure ⟨h3,m,rfl,hJ⟩
     |none=>
      obtain⟨g1,g2,g3,g4⟩:=hJ
      exact wpS_bind (wpS_modify (wpS_pure ⟨h3,rfl,g1,g2,g3,by dsimp only;lia⟩))
 ·rintro⟨c1,out,ia,ib,mg⟩ st1 ⟨hs1,e,g1,g2,g3,g4⟩
  dsimp only at g2 g3 g4
  lia
 ·rintro⟨c1,out,ia,ib,mg⟩ st1 ⟨hs1,m,e,hm⟩
  dsimp only at e
  subst e
  exact wpS_pure (h _ _ hs1 hm)
def JH(a₀ a b:Array Keyed)(k:Nat):Option (Array Keyed)->Nat->Nat->Array Keyed->Prop
 |some m,_,_,_=>SubA a₀ m
 |none,na,nb,out=>SubA a₀ out/\(1<=na/\na<=a.size)/\(2<=nb/\nb<=b.size)/\na+nb+k<=a.size+b.size
def HiQ{α:Type}(κ:SortKind)(a₀:Array Keyed)(n:Nat)(p:Array (Nat×Nat×Nat))(a b:Array Keyed)(k:Nat):ForInStep (Option (Array Keyed)×Nat×Nat×Array Keyed×α)->SortSt->Prop
 | .done c,st=>SJ κ a₀ n p st/\JH a₀ a b k c.1 c.2.1 c.2.2.1 c.2.2.2.1
 | .yield c,st=>SJ κ a₀ n p st/\c.1=none/\JH a₀ a b k none c.2.1 c.2.2.1 c.2.2.2.1
theorem mg_hi{st:SortSt}{n:Nat}{p:Array (Nat×Nat×Nat)}(hc:CmpOk prog w A s κ a₀)(hs:SJ κ a₀ n p st){a b:Array Keyed}(ha:SubA a₀ a)(hb:SubA a₀ b)(h1:1<=a.size)(h2:1<=b.size){Q:Array Keyed->SortSt->Prop}(h:∀m st',SJ κ a₀ n p st'->SubA a₀ m->Q m st'):wpS (model prog w) A E s (klv a b) Q st:=by
 refine wpS_bind (wpS_lift (wpAny_rule ⟨rfl,?_⟩))
 refine wpS_bind (kaT ha (Nat.sub_lt h1 Nat.one_pos) fun x0 hx0=>?_)
 have h0:=SubA.one hx0
 refine kaZ (fun _=>wpS_pure (h _ _ hs (((ha.ext _ _).app (hb.ext _ _)).app h0.rev))) fun e1=>kaZ (fun _=>wpS_pure (h _ _ hs (((hb.ext _ _).app (ha.ext _ _)).app h0.rev))) fun e2=>?_
 refine wpS_bind (wpS_get ?_)
 refine wpS_bind (wpS_mono (wpS_forRange (I:=fun i c st'=>SJ κ a₀ n p st'/\c.1=none/\JH a₀ a b (1+i) none c.2.1 c.2.2.1 c.2.2.2.1) (Q:=fun c st'=>SJ κ a₀ n p st'/\∃m,c.1>>m/\SubA a₀ m) ?_ ?_ ⟨hs,rfl,h0,by dsimp only;lia,by dsimp only;lia,by dsimp only;lia⟩) ?_)
 ·rintro i ⟨c1,na,nb,out,mg⟩ st1 _ hi ⟨hs1,e,hJ⟩
  dsimp -zeta -zetaHave only at e hJ
  clear hs h st e h0 hx0 x0 h1 h2 e1 e2
  refine wpS_bind (wpS_mono (wpS_forRange (I:=fun j c st'=>st'=st1/\c.1=none/\JH a₀ a b (1+i+j) none c.2.1 c.2.2.1 c.2.2.2.1) (Q:=fun c st'=>st'=st1/\JH a₀ a b (2+i) c.1 c.2.1 c.2.2.1 c.2.2.2.1) ?_ ?_ ⟨rfl,rfl,hJ⟩) ?_)
  ·rintro j ⟨d1,na,nb,out,ac,bc⟩ st' _ hj ⟨rfl,e,hO,hA,hB,hk⟩
   dsimp -zeta -zetaHave only at hO hA hB hk
   refine wpS_bind (kaT hb (show nb-1<b.size by lia) fun x hx=>wpS_bind (kaT ha (show na-1<a.size by lia) fun y hy=>wpS_bind (mg_lt hc hs1.1.1 hx hy fun c=>?_)))
   cases c with
   |true=>exact wpS_bind (kaT ha (show na-1<a.size by lia) fun x hx=>kaZ (fun _=>wpS_pure ⟨rfl,((ha.ext _ _).app (hb.ext _ _)).app (hO.push hx).rev⟩) fun e9=>have e9:na-1≠0:=e9;kaS (fun _=>wpS_pure ⟨rfl,hO.push hx,(show 1<=na-1/\na-1<=a.size by lia),hB,(show na-1+nb+(2+i)<=_ by lia)⟩) fun _=>wpS_pure ⟨rfl,rfl,hO.push hx,(show 1<=na-1/\na-1<=a.size by lia),hB,(show na-1+nb+(1+i+(j+1))<=_ by lia)⟩)
   |false=>exact wpS_bind (kaT hb (show nb-1<b.size by lia) fun x hx=>kaZ (fun _=>wpS_pure ⟨rfl,((hb.ext _ _).app (ha.ext _ _)).app (hO.push hx).rev⟩) fun e9=>have e9:nb-1≠1:=e9;kaS (fun _=>wpS_pure ⟨rfl,hO.push hx,hA,(show 2<=nb-1/\nb-1<=b.size by lia),(show na+(nb-1)+(2+i)<=_ by lia)⟩) fun _=>wpS_pure ⟨rfl,rfl,hO.push hx,hA,(show 2<=nb-1/\nb-1<=b.size by lia),(show na+(nb-1)+(1+i+(j+1))<=_ by lia)⟩)
  ·rintro⟨d1,na,nb,out,ac,bc⟩ st' ⟨rfl,e,hO,hA,hB,hk⟩
   dsimp -zeta -zetaHave only at e hO hA hB hk⊢
   subst e
   rwa[6,hO,hA,hB,by lia]
  ·rintro⟨d1,na,nb,out,ac,bc⟩ st' ⟨rfl,hJ⟩
   dsimp -zeta -zetaHave only at hJ
   cases d1 with
   |some m=>exact wpS_pure ⟨hs1,m,rfl,hJ⟩
   | none=>
    refine wpS_bind (wpS_lift (wpAny_rule ⟨rfl,?_⟩))
    refine wpS_bind (wpS_mono (wpS_forRange (I:=fun j c st'=>SJ κ a₀ n p st'/\c.1=none/\JH a₀ a b (2+i) none c.2.1 c.2.2.1 c.2.2.2.1) (Q:=fun c st'=>SJ κ a₀ n p st'/\JH a₀ a b (2+i) c.1 c.2.1 c.2.2.1 c.2.2.2.1) ?_ ?_ ⟨hs1,rfl,hJ⟩) ?_)
    ·rintro j ⟨d1,na,nb,out,mg,ac,bc⟩ st2 _ _ ⟨hs2,e,hO,hA,hB,hk⟩
     clear hs1 hJ
     dsimp -zeta -zetaHave only at hO hA hB hk⊢
     refine wpS_mono (Q:=HiQ κ a₀ n p a b (2+i)) ?_ fun r st h=>by cases r <;> exact h
     extract_lets t1 u1 t2 u2 t3 u3 t4 u4 t5 u5 u6 i1 jp1
     have j1:∀g:Nat,wpS (model prog w) A E s (jp1 () g) (HiQ κ a₀ n p a b (2+i)) st2:=fun g=>by
      refine wpS_bind (wpS_mono (wpS_modify (Q:=fun _ st'=>SJ κ a₀ n p st') hs2) fun _ st3 hs3=>?_)
      refine wpS_bind (kaT hb (show nb-1<b.size by lia) fun x hx=>wpS_bind (kcF hc hs3.1.1 hx ha (show 0+na<=_ by lia) (show na-1<na by lia) fun k hk1=>?_))
      replace hk1:k<=na:=hk1
      dsimp -zeta -zetaHave only
      extract_lets v1 v2 jp2
      have j2:∀(na:Nat)(out:Array Keyed),SubA a₀ out->1<=na/\na<=a.size->na+nb+(2+i)<=a.size+b.size->wpS (model prog w) A E s (jp2 () na out) (HiQ κ a₀ n p a b (2+i)) st3:=fun na out hO hA hk=>by
       refine wpS_bind (kaT hb (show nb-1<b.size by lia) fun y hy=>kaZ (fun _=>wpS_pure ⟨hs3,((hb.ext _ _).app (ha.ext _ _)).app (hO.push hy).rev⟩) fun e9=>?_)
       replace e9:nb-1≠1:=e9
       refine wpS_bind (kaT ha (show na-1<a.size by lia) fun z hz=>wpS_bind (kcF hc hs3.1.1 hz hb (show 0+(nb-1)<=_ by lia) (show nb-1-1<nb-1 by lia) fun k' hk2=>?_))
       replace hk2:k'<=nb-1:=hk2
       dsimp -zeta -zetaHave only
       extract_lets v3 v4 i2 jp3
       have j3:∀(nb:Nat)(out:Array Keyed),SubA a₀ out->2<=nb/\nb<=b.size->na+nb+(2+i)<=a.size+b.size->wpS (model prog w) A E s (jp3 () nb out) (HiQ κ a₀ n p a b (2+i)) st3:=fun nb out hO hB hk=>wpS_bind (kaT ha (show na-1<a.size by lia) fun u hu=>kaZ (fun _=>wpS_pure ⟨hs3,((ha.ext _ _).app (hb.ext _ _)).app (hO.push hu).rev⟩) fun e9=>have e9:na-1≠0:=e9;kaS (fun _=>wpS_pure ⟨hs3,hO.push hu,(show 1<=na-1/\na-1<=a.size by lia),hB,(show na-1+nb+(2+i)<=_ by lia)⟩) fun _=>wpS_pure ⟨hs3,rfl,hO.push hu,(show 1<=na-1/\na-1<=a.size by lia),hB,(show na-1+nb+(2+i)<=_ by lia)⟩)
       clear_value jp3
       exact kaS (fun _=>kaZ (fun _=>wpS_pure ⟨hs3,((hb.ext _ _).app (ha.ext _ _)).app ((hO.push hy).app (hb.ext _ _).rev).rev⟩) fun e7=>kaZ (fun _=>wpS_pure ⟨hs3,((ha.ext _ _).app (hb.ext _ _)).app ((hO.push hy).app (hb.ext _ _).rev).rev⟩) fun e8=>have e7:k'≠1:=e7;have e8:k'≠0:=e8;j3 _ _ ((hO.push hy).app (hb.ext _ _).rev) (show 2<=k'/\k'<=b.size by lia) (show na+k'+(2+i)<=_ by lia)) fun _=>j3 _ _ (hO.push hy) (show 2<=nb-1/\nb-1<=b.size by lia) (show na+(nb-1)+(2+i)<=_ by lia)
      clear_value jp2
      exact kaS (fun _=>kaZ (fun _=>wpS_pure ⟨hs3,((ha.ext _ _).app (hb.ext _ _)).app (hO.app (ha.ext _ _).rev).rev⟩) fun e7=>have e7:k≠0:=e7;j2 _ _ (hO.app (ha.ext _ _).rev) (show 1<=k/\k<=a.size by lia) (show k+nb+(2+i)<=_ by lia)) fun _=>j2 _ _ hO hA hk
     clear_value jp1
     exact kaS (fun _=>j1 _) fun _=>j1 _
    ·rintro⟨d1,na,nb,out,mg,ac,bc⟩ st' ⟨h3,e,hJ⟩
     dsimp -zeta -zetaHave only at e hJ⊢
     subst e
     rwa[h3,hJ]
    ·rintro⟨d1,na,nb,out,mg,ac,bc⟩ st' ⟨h3,hJ⟩
     dsimp -zeta -zetaHave only at hJ
     cases d1 with
     |some m=>exact wpS_pure ⟨h3,m,rfl,hJ⟩
     |none=>
      obtain⟨g1,g2,g3,g4⟩:=hJ
      exact wpS_bind (wpS_modify (wpS_pure ⟨h3,rfl,g1,g2,g3,by dsimp only;lia⟩))
 ·rintro⟨c1,na,nb,out,mg⟩ st1 ⟨hs1,e,g1,g2,g3,g4⟩
  dsimp only at g2 g3 g4
  lia
 ·rintro⟨c1,na,nb,out,mg⟩ st1 ⟨hs1,m,e,hm⟩
  dsimp only at e
  subst e
  exact wpS_pure (h _ _ hs1 hm)
theorem sub_fold{sa:Nat}:∀(l:List (Keyed×Nat))(a:Array Keyed),SubA a₀ a->(∀x∈l,x.1∈a₀)->SubA a₀ (l.foldl (fun a x=>a.setIfInBounds (sa+x.2) x.1) a)/\(l.foldl (fun a x=>a.setIfInBounds (sa+x.2) x.1) a).size=a.size
 |[],a,ha,_=>⟨ha,rfl⟩
 | x::l,a,ha,h=>by
  have:=sub_fold (sa:=sa) l (a.setIfInBounds (sa+x.2) x.1) (fun y hy=>by
   rcases Array.mem_or_eq_of_mem_setIfInBounds hy with e|e
   ·exact ha y e
   ·rw[e];exact h x JS) fun y hy=>h y (JQ _ hy)
  rwa[this.1,this.2.trans (by simp)]
theorem kmF{m ar:Array Keyed}{sa:Nat}(h:SubA a₀ ar)(hm:SubA a₀ m):SubA a₀ (m.toList.zipIdx.foldl (fun a x=>a.setIfInBounds (sa+x.2) x.1) ar)/\(m.toList.zipIdx.foldl (fun a x=>a.setIfInBounds (sa+x.2) x.1) ar).size=ar.size:=
 sub_fold _ _ h fun x hx=>hm _ (by
  have:=List.mem_zipIdx' (x:=x.1) (i:=x.2) hx
  rw[this.2]
  exact Eu _)
theorem kmy{x:SortSt}{Q:PUnit->SortSt->Prop}{st:SortSt}{M:Model}(h:Q ⟨⟩ x):wpS M A E s (set x:StateT SortSt Sem PUnit) Q st:=by
 unfold wpS;rw[StateT.run_set];exact wpAny_pure ⟨rfl,h⟩
theorem mg_at{st:SortSt}{n:Nat}(hc:CmpOk prog w A s κ a₀)(hs:SI κ a₀ n st){n1 n2 pw q:Nat}(hp:pendingOf st= #[(0,n1,pw),(n1,n2,q)])(h1:1<=n1)(h2:1<=n2)(h3:n1+n2<=n){Q:Bool->SortSt->Prop}(h:∀st',SI κ a₀ n st'->(pendingOf st').size=1->Q true st'):wpS (model prog w) A E s (mergeAt' 0) Q st:=by
 refine wpS_bind (wpS_get ?_)
 cases st with|_ kd ar pd mg fl
 change pd=_ at hp
 subst hp
 have hz:((#[(0,n1,pw),(n1,n2,q)].setIfInBounds 0 (0,n1+n2,pw)).eraseIdxIfInBounds (0+1)).size=1:=by
  rw[Array.eraseIdxIfInBounds,dif_pos (by simp),Array.size_eraseIdx]
  simp
 have hs':SI κ a₀ n (SortSt.mk' kd ar ((#[(0,n1,pw),(n1,n2,q)].setIfInBounds 0 (0,n1+n2,pw)).eraseIdxIfInBounds (0+1)) mg fl):=hs
 obtain⟨hk,hf,hn,ha⟩:=hs
 change kd= κ at hk
 change ar.size=n at hn
 change SubA a₀ ar at ha
 have kp:∀(m:Array Keyed)(sa:Nat)(st':SortSt),SI κ a₀ n st'->SubA a₀ m->SI κ a₀ n (setArr st' (m.toList.zipIdx.foldl (fun a x=>a.setIfInBounds (sa+x.2) x.1) (arrOf st'))):=fun m sa st' g hm=>by
  obtain⟨u1,u2⟩:=kmF (sa:=sa) g.2.2.2 hm
  rwa[g.1,g.2.1,u2.trans g.2.2.1,u1]
 refine wpS_bind (kmy ?_)
 refine wpS_bind (kaT ha (by lia) fun x hx=>wpS_bind (kcF hc hk hx ha (by lia) (by lia) fun k hk1=>?_))
 dsimp only
 refine kaZ (fun e9=>wpS_pure (h _ hs' hz)) (fun e9=>?_)
 refine wpS_bind (kaT ha (by lia) fun y hy=>wpS_bind (kcF hc hk hy ha (by lia) (by lia) fun k' hk2=>?_))
 dsimp only
 refine kaZ (fun e9=>wpS_pure (h _ hs' hz)) (fun e8=>?_)
 have z1:1<=(ar.extract (0+k) n1).size:=by rw[Array.size_extract];lia
 have z2:1<=(ar.extract n1 (n1+k')).size:=by rw[Array.size_extract];lia
 refine kaS (fun e7=>?_) (fun e7=>?_)
 ·refine wpS_bind (mg_lo hc ⟨hs',rfl⟩ (ha.ext _ _) (ha.ext _ _) z1 z2 fun m st' ⟨g1,g2⟩ g3=>wpS_bind (wpS_modify (wpS_bind (wpS_get (wpS_pure ?_)))))
  have g4:=kp m (0+k) st' g1 g3
  rw[show(failedOf st').isNone=true from by rw[g1.2.1];rfl]
  exact h _ g4 (by show(pendingOf st').size=1;rw[g2];exact hz)
 ·refine wpS_bind (mg_hi hc ⟨hs',rfl⟩ (ha.ext _ _) (ha.ext _ _) z1 z2 fun m st' ⟨g1,g2⟩ g3=>wpS_bind (wpS_modify (wpS_bind (wpS_get (wpS_pure ?_)))))
  have g4:=kp m (0+k) st' g1 g3
  rw[show(failedOf st').isNone=true from by rw[g1.2.1];rfl]
  exact h _ g4 (by show(pendingOf st').size=1;rw[g2];exact hz)
theorem SJ.perm{n:Nat}{p:Array (Nat×Nat×Nat)}{st:SortSt}(h:SJ κ a₀ n p st){x:Array Keyed}(hx:x.Perm (arrOf st)):SJ κ a₀ n p (setArr st x):=
 ⟨⟨h.1.1,h.1.2.1,(MT.size_eq hx).trans h.1.2.2.1,fun y hy=>h.1.2.2.2 y ((MT.mem_iff hx).mp hy)⟩,h.2⟩
theorem kd5{st:SortSt}{n:Nat}{p:Array (Nat×Nat×Nat)}(hc:CmpOk prog w A s κ a₀)(hs:SJ κ a₀ n p st){i j:Nat}(hi:i<n)(hj:j<n){Q:Option Bool->SortSt->Prop}(h:∀c,Q (some c) st):wpS (model prog w) A E s (ltAt' i j) Q st:=by
 rw[ltAt'_eq]
 refine wpS_bind (wpS_get ?_)
 exact wpS_bind (kaT hs.1.2.2.2 (hs.1.2.2.1.symm▸hi) fun x hx=>wpS_bind (kaT hs.1.2.2.2 (hs.1.2.2.1.symm▸hj) fun y hy=>mg_lt hc hs.1.1 hx hy h))
theorem kiB{st:SortSt}{n:Nat}{p:Array (Nat×Nat×Nat)}(hs:SJ κ a₀ n p st){i j:Nat}{Q:Unit->SortSt->Prop}(h:∀st',SJ κ a₀ n p st'->Q () st'):wpS (model prog w) A E s (reverseSlice' i j) Q st:=by
 rw[reverseSlice'_eq]
 exact wpS_modify (h _ (hs.perm (mirror_perm _ _ _ _)))
theorem km0{st:SortSt}{n:Nat}{p:Array (Nat×Nat×Nat)}(hs:SJ κ a₀ n p st){i j:Nat}{Q:Unit->SortSt->Prop}(h:∀st',SJ κ a₀ n p st'->Q () st'):wpS (model prog w) A E s (moveDown' i j) Q st:=by
 rw[moveDown'_eq]
 exact wpS_modify (h _ (hs.perm (bubble_perm _ _ _)))
theorem kmg{st:SortSt}{nrem m:Nat}(h2:m<=nrem){f:Nat->Option (Option Nat)×Nat->StateT SortSt Sem (ForInStep (Option (Option Nat)×Nat))}(hf:∀(i:Nat)(R:ForInStep (Option (Option Nat)×Nat)->SortSt->Prop),m<=i->i<nrem->R (.done (none,i)) st->R (.yield (none,i+1)) st->wpS (model prog w) A E s (f i (none,i)) R st){Q:Option (Option Nat)×Nat->SortSt->Prop}(h:∀x,m<=x->x<=nrem->Q (none,x) st):wpS (model prog w) A E s (forIn [m:nrem] (none,m) f) Q st:=by
 refine wpS_forRange (I:=fun i c st'=>st'=st/\c=(none,i)) ?_ ?_ ⟨rfl,rfl⟩
 ·rintro i c st' b1 b2 ⟨rfl,rfl⟩
  exact hf i _ b1 b2 (h i b1 (JJ b2)) ⟨rfl,rfl⟩
 ·rintro c st' ⟨rfl,rfl⟩
  exact h _ (by lia) (by lia)
theorem kiC{st:SortSt}{n:Nat}{p:Array (Nat×Nat×Nat)}(hc:CmpOk prog w A s κ a₀)(hs:SJ κ a₀ n p st){lo nrem:Nat}(hl:lo+nrem<=n)(h1:1<=nrem){Q:Option Nat->SortSt->Prop}(h:∀m st',1<=m->m<=nrem->SJ κ a₀ n p st'->Q (some m) st'):wpS (model prog w) A E s (countRun' lo nrem) Q st:=by
 refine wpS_bind (kmg h1 (fun i R b1 b2 r1 r2=>wpS_bind (kd5 hc hs (show lo+i<n by lia) (show lo+i-1<n by lia) fun c=>by cases c with|true=>exact wpS_pure r1|false=>exact wpS_pure r2)) fun m e2 e3=>?_)
 dsimp -zeta -zetaHave only
 refine kaZ (fun _=>wpS_pure (h _ _ e2 e3 hs)) fun e9=>?_
 replace e9:m≠nrem:=e9
 extract_lets w1 w2 jp
 have j1:∀(u:Unit)(st':SortSt),SJ κ a₀ n p st'->wpS (model prog w) A E s (jp u) Q st':=fun u st' hs=>by
  refine wpS_bind (wpS_lift (wpAny_rule ⟨rfl,?_⟩))
  refine wpS_bind (wpS_mono (wpS_forRange (I:=fun i c st'=>SJ κ a₀ n p st'/\c.1=none/\c.2.1=i) (Q:=fun c st'=>c.1=none/\m+1<=c.2.1/\c.2.1<=nrem/\SJ κ a₀ n p st') ?_ ?_ ⟨hs,rfl,rfl⟩) ?_)
  ·rintro i ⟨c1,c2,c3⟩ st2 b1 b2 ⟨hs2,e,rfl⟩
   replace b1:m+1<=c2:=b1
   replace b2:c2<nrem:=b2
   refine wpS_bind (kd5 hc hs2 (show lo+c2<n by lia) (show lo+c2-1<n by lia) fun c=>?_)
   cases c with
   |true=>
    refine kaS (fun _=>kaS (fun _=>?_) fun _=>?_) fun e=>absurd rfl e
    ·exact wpS_bind (kiB hs2 fun st3 hs3=>wpS_pure ⟨hs3,rfl,rfl⟩)
    ·exact wpS_pure ⟨hs2,rfl,rfl⟩
   |false=>
    refine wpS_bind (kd5 hc hs2 (show lo+c2-1<n by lia) (show lo+c2<n by lia) fun c=>?_)
    cases c with
    |true=>exact wpS_pure ⟨rfl,b1,JJ b2,hs2⟩
    |false=>exact wpS_pure ⟨hs2,rfl,rfl⟩
  ·rintro⟨c1,c2,c3⟩ st2 ⟨hs2,e,e2⟩
   dsimp only at e e2
   rwa[e,by dsimp only;lia,by dsimp only;lia,hs2]
  rintro⟨c1,m2,c3⟩ st2 ⟨e,g1,g2,hs2⟩
  dsimp only at e g1 g2
  subst e
  dsimp -zeta -zetaHave only
  extract_lets v1 v2 v3 v4 jp2
  have j2:∀(u:Unit)(st':SortSt),SJ κ a₀ n p st'->wpS (model prog w) A E s (jp2 u) Q st':=fun u st' hs=>wpS_bind (kiB hs fun st4 hs4=>wpS_bind (kmg g2 (fun i R b1 b2 r1 r2=>wpS_bind (kd5 hc hs4 (show lo+i<n by lia) (show lo+i-1<n by lia) fun c=>by cases c with|true=>exact wpS_pure r1|false=>exact wpS_pure r2)) fun x x1 x2=>wpS_pure (h _ _ (by lia) x2 hs4)))
  clear_value jp2
  exact kaS (fun _=>wpS_bind (kiB hs2 fun st5 hs5=>j2 _ _ hs5)) fun _=>j2 _ _ hs2
 clear_value jp
 refine kaS (fun e8=>wpS_bind (kd5 hc hs (show lo<n by lia) (show lo+m-1<n by lia) fun c=>?_)) fun e8=>j1 _ _ hs
 cases c with
 |true=>exact wpS_pure (h _ _ e2 e3 hs)
 |false=>exact wpS_bind (kiB hs fun st3 hs3=>j1 _ _ hs3)
theorem kmf{st:SortSt}{n:Nat}{p:Array (Nat×Nat×Nat)}(hc:CmpOk prog w A s κ a₀)(hs:SJ κ a₀ n p st){lo m ok:Nat}(hl:lo+m<=n){Q:Bool->SortSt->Prop}(h:∀st',SJ κ a₀ n p st'->Q true st'):wpS (model prog w) A E s (binarySort' lo m ok) Q st:=by
 refine wpS_bind (wpS_mono (wpS_forRange (I:=fun i c st'=>SJ κ a₀ n p st'/\c.1=none) (Q:=fun c st'=>SJ κ a₀ n p st'/\c.1=none) ?_ (fun _ _ h=>h) ⟨hs,rfl⟩) ?_)
 ·rintro i ⟨c1,c2⟩ st1 b1 b2 ⟨hs1,e⟩
  dsimp only at e⊢
  refine wpS_bind (wpS_mono (wpS_forRange (I:=fun _ c st'=>st'=st1/\c.1=none/\c.2.2<=i) (Q:=fun c st'=>st'=st1/\c.1=none/\c.2.2<=i) ?_ (fun _ _ h=>h) ⟨rfl,rfl,Jx _⟩) ?_)
  ·rintro j ⟨d1,l,r⟩ st' _ b4 ⟨rfl,e,e2⟩
   dsimp only at e e2⊢
   refine kaS (fun e8=>wpS_pure ⟨rfl,rfl,e2⟩) (fun e8=>?_)
   refine wpS_bind (kd5 hc hs1 (by lia) (by lia) fun c=>?_)
   cases c with
   |true=>exact wpS_pure ⟨rfl,rfl,by dsimp only;lia⟩
   |false=>exact wpS_pure ⟨rfl,rfl,e2⟩
  ·rintro⟨d1,l,r⟩ st' ⟨rfl,e,e2⟩
   dsimp only at e e2⊢
   subst e
   dsimp only
   exact wpS_bind (km0 hs1 fun st3 hs3=>wpS_pure ⟨hs3,rfl⟩)
 ·rintro⟨c1,c2⟩ st1 ⟨hs1,e⟩
  dsimp only at e⊢
  subst e
  exact wpS_pure (h _ hs1)
def RunQ(κ:SortKind)(a₀:Array Keyed)(n:Nat)(st:SortSt):Prop:=(∃n1,SJ κ a₀ n #[(0,n1,0)] st)∨∃n1 n2 pw,SJ κ a₀ n #[(0,n1,pw),(n1,n2,0)] st/\1<=n1/\1<=n2/\n1+n2=n
theorem kmZ{st:SortSt}{n:Nat}(hc:CmpOk prog w A s κ a₀)(hs:SJ κ a₀ n #[] st)(h2:2<=n)(hm:n<=2*minRun' n n 0)(h1:1<=minRun' n n 0){Q:Unit->SortSt->Prop}(h:∀st',SI κ a₀ n st'->Q () st'):wpS (model prog w) A E s sortRuns' Q st:=by
 rw[sortRuns'_eq]
 refine wpS_bind (wpS_get ?_)
 have hz:(arrOf st).size=n:=hs.1.2.2.1
 dsimp only
 simp only[hz]
 generalize minRun' n n 0=mr at *
 have push:∀{st':SortSt}{p:Array (Nat×Nat×Nat)}(x:Nat×Nat×Nat),SJ κ a₀ n p st'->SJ κ a₀ n (p.push x) (setPending st' ((pendingOf st').push x)):=fun x g=>⟨g.1,by show(pendingOf _).push x=_;rw[g.2]⟩
 refine wpS_bind (wpS_mono (wpS_forRange (I:=fun i c st'=>(i=0/\c=(none,0)/\SJ κ a₀ n #[] st')∨(∃n1,1<=i/\c=(none,n1)/\1<=n1/\(n1<n->mr<=n1)/\n1<=n/\SJ κ a₀ n #[(0,n1,0)] st')∨∃n1 n2 pw,1<=i/\c=(none,n)/\SJ κ a₀ n #[(0,n1,pw),(n1,n2,0)] st'/\1<=n1/\1<=n2/\n1+n2=n) (Q:=fun c st'=>c.1=none/\RunQ κ a₀ n st') ?_ ?_ (.inl ⟨rfl,rfl,hs⟩)) ?_)
 ·rintro i c st1 _ hi (⟨rfl,rfl,hs1⟩|⟨n1,hi1,rfl,b1,b2,b3,hs1⟩|⟨n1,n2,pw,hi1,rfl,hs1,b1,b2,b3⟩)
  ·dsimp only
   refine kaS (fun e=>absurd e (by lia)) (fun e=>?_)
   refine wpS_bind (kiC hc hs1 (by lia) (by lia) fun m st2 g1 g2 hs2=>?_)
   dsimp only
   refine kaS (fun e7=>?_) (fun e7=>?_)
   ·refine wpS_bind (wpS_lift (wpAny_rule ⟨rfl,?_⟩))
    refine wpS_bind (kmf hc hs2 (by lia) fun st3 hs3=>?_)
    simp only[Er,Ng,if_false]
    refine wpS_bind (wpS_get ?_)
    rw[show(pendingOf st3).back?=none by rw[hs3.2];rfl]
    dsimp only
    exact wpS_bind (wpS_modify (wpS_pure (.inr (.inl ⟨_,by lia,rfl,by lia,by lia,by lia,by rw[My];exact push _ hs3⟩))))
   ·refine wpS_bind (wpS_get ?_)
    rw[show(pendingOf st2).back?=none by rw[hs2.2];rfl]
    dsimp only
    exact wpS_bind (wpS_modify (wpS_pure (.inr (.inl ⟨_,by lia,rfl,by lia,by lia,by lia,by rw[My];exact push _ hs2⟩))))
  ·dsimp only
   refine kaS (fun e=>wpS_pure ⟨rfl, .inl ⟨n1,hs1⟩⟩) (fun e=>?_)
   refine wpS_bind (kiC hc hs1 (by lia) (by lia) fun m st2 g1 g2 hs2=>?_)
   have hmr:=b2 (by lia)
   dsimp only
   have fin:∀(st3:SortSt)(pw:Nat),SJ κ a₀ n #[(0,n1,0)] st3->SJ κ a₀ n #[(0,n1,pw),(n1,n-n1,0)] (setPending (setPending st3 ((pendingOf st3).modify ((pendingOf st3).size-1) fun x=>(x.1,x.2.1,pw))) (((pendingOf st3).modify ((pendingOf st3).size-1) fun x=>(x.1,x.2.1,pw)).push (n1,n-n1,0))):=fun st3 pw hs3=>⟨hs3.1,by
    show((pendingOf st3).modify ((pendingOf st3).size-1) fun x=>(x.1,x.2.1,pw)).push (n1,n-n1,0)=_
    rw[hs3.2]
    rfl⟩
   refine kaS (fun e7=>?_) (fun e7=>?_)
   ·refine wpS_bind (wpS_lift (wpAny_rule ⟨rfl,?_⟩))
    refine wpS_bind (kmf hc hs2 (by lia) fun st3 hs3=>?_)
    simp only[Er,Ng,if_false]
    refine wpS_bind (wpS_get ?_)
    rw[show(pendingOf st3).back?>>(0,n1,0) by rw[hs3.2];rfl]
    dsimp only
    refine wpS_bind (wpS_mono (wpS_forRange (I:=fun _ c st'=>st'=st3/\c.1=none) (Q:=fun c st'=>st'=st3/\c.1=none) ?_ (fun _ _ h=>h) ⟨rfl,rfl⟩) ?_)
    ·rintro j c st' _ _ ⟨rfl,e4⟩
     refine wpS_bind (wpS_get ?_)
     rw[if_neg (by rw[hs3.2];exact(by decide:¬1 > 1))]
     exact wpS_pure ⟨rfl,rfl⟩
    ·rintro⟨c1,c2⟩ st' ⟨rfl,e4⟩
     dsimp only at e4⊢
     subst e4
     dsimp only
     rw[show min (n-n1) mr=n-n1 by lia]
     exact wpS_bind (wpS_modify (wpS_bind (wpS_modify (wpS_pure (.inr (.inr ⟨n1,n-n1,_,by lia,by rw[show n1+(n-n1)=n by lia],fin _ _ hs3,b1,by lia,by lia⟩))))))
   ·have hme:m=n-n1:=by lia
    subst hme
    refine wpS_bind (wpS_get ?_)
    rw[show(pendingOf st2).back?>>(0,n1,0) by rw[hs2.2];rfl]
    dsimp only
    refine wpS_bind (wpS_mono (wpS_forRange (I:=fun _ c st'=>st'=st2/\c.1=none) (Q:=fun c st'=>st'=st2/\c.1=none) ?_ (fun _ _ h=>h) ⟨rfl,rfl⟩) ?_)
    ·rintro j c st' _ _ ⟨rfl,e4⟩
     refine wpS_bind (wpS_get ?_)
     rw[if_neg (by rw[hs2.2];exact(by decide:¬1 > 1))]
     exact wpS_pure ⟨rfl,rfl⟩
    ·rintro⟨c1,c2⟩ st' ⟨rfl,e4⟩
     dsimp only at e4⊢
     subst e4
     dsimp only
     exact wpS_bind (wpS_modify (wpS_bind (wpS_modify (wpS_pure (.inr (.inr ⟨n1,n-n1,_,by lia,by rw[show n1+(n-n1)=n by lia],fin _ _ hs2,b1,by lia,by lia⟩))))))
  ·dsimp only
   exact kaS (fun e=>wpS_pure ⟨rfl, .inr ⟨n1,n2,pw,hs1,b1,b2,b3⟩⟩) (fun e=>absurd (Jx n) e)
 ·rintro c st1 (⟨e,rfl,hs1⟩|⟨n1,hi1,rfl,b1,b2,b3,hs1⟩|⟨n1,n2,pw,hi1,rfl,hs1,b1,b2,b3⟩)
  ·lia
  ·rwa[6, .inl ⟨n1,hs1⟩]
  ·rwa[6, .inr ⟨n1,n2,pw,hs1,b1,b2,b3⟩]
 ·rintro⟨c1,c2⟩ st1 ⟨e,hq⟩
  dsimp only at e⊢
  subst e
  dsimp only
  refine wpS_bind (wpS_mono (wpS_forRange (I:=fun _ c st'=>c.1=none/\SI κ a₀ n st'/\((pendingOf st').size=1∨RunQ κ a₀ n st')) (Q:=fun c st'=>c.1=none/\SI κ a₀ n st') ?_ ?_ ⟨rfl,?_, .inr hq⟩) ?_)
  ·rintro j ⟨c1,c2⟩ st' _ _ ⟨e,g1,g2⟩
   refine wpS_bind (wpS_get ?_)
   have one:(pendingOf st').size<=1->wpS (model prog w) A E s (pure (ForInStep.done ((none:Option Unit),PUnit.unit))) (fun r st''=>match r with| .done c=>c.1=none/\SI κ a₀ n st''| .yield c=>c.1=none/\SI κ a₀ n st''/\((pendingOf st'').size=1∨RunQ κ a₀ n st'')) st':=fun _=>wpS_pure ⟨rfl,g1⟩
   rcases g2 with g2|⟨n1,g2⟩|⟨n1,n2,pw,g2,b1,b2,b3⟩
   ·rw[if_pos (by lia)]
    exact wpS_pure ⟨rfl,g1⟩
   ·rw[if_pos (by rw[g2.2];exact Jx 1)]
    exact wpS_pure ⟨rfl,g1⟩
   ·rw[if_neg (by rw[g2.2];exact(by decide:¬2<=1))]
    rw[show(pendingOf st').size-2=0 by rw[g2.2];rfl]
    refine wpS_bind (mg_at hc g2.1 g2.2 b1 b2 (by lia) fun st3 g3 g4=>?_)
    exact wpS_pure ⟨rfl,g3, .inl g4⟩
  ·rintro c st' ⟨e,g1,_⟩
   rwa[e,g1]
  ·rcases hq with⟨n1,g⟩|⟨n1,n2,pw,g,_⟩
   ·exact g.1
   ·exact g.1
  ·rintro⟨c1,c2⟩ st' ⟨e,g1⟩
   dsimp only at e⊢
   subst e
   exact wpS_pure (h _ g1)
end
section
variable{prog:Program}{w:World}{A:Around}{E:Value->Shared->Prop}{s:Shared}
noncomputable def midH(h:Heap)(a:Addr)(vs:List Value):Heap:=((h.update a (Obj.mapSeq fun _=>(#[]:Array Value))).push (seqObj "tuple" vs.toArray 0)).push (seqObj "list" #[] 0)
theorem kkh{a:Addr}{vs:List Value}{n:Nat}{P:PySem.Fin->Shared->Prop}(ho:s.heap.get? a>>(seqObj "list" vs.toArray n))(h64:vs.length<66)
  (hk:2<=vs.length->∃κ,(∀Q:SortKind->Shared->Prop,Q κ {s with heap:=midH s.heap a vs}->wpAny (model prog w) A (keyKind' vs.toArray) Q (fun _ _=>False) {s with heap:=midH s.heap a vs})/\∀i j,i<vs.length->j<vs.length->∃c,∀C:Bool->Shared->Prop,C c {s with heap:=midH s.heap a vs}->wpAny (model prog w) A (keyLt' κ (vs.getD i Value.none) (vs.getD j Value.none)) C (fun _ _=>False) {s with heap:=midH s.heap a vs})
  (h:∀(out:List Value),out.length=vs.length->(∀v∈out,v∈vs)->P (.done (.ret .none)) {s with heap:=sortedHeap s.heap a vs out.toArray}):
  wpAny (model prog w) A (Builtin.«list.sort» ⟨[.ref a],[]⟩) P E s:=by
 rw[list_sort_plain]
 have ha:a<s.heap.objs.size:=Heap.lt_size ho
 refine wpAny_bind (listItems_at ho rfl ?_)
 refine wpAny_bind (listUpdate_at ho rfl ?_ (by rw[JW,sizeLine_eq];lia) (J7 _))
 obtain⟨e1,ho1⟩:∃e1,(s.heap.update a (Obj.mapSeq fun _=>(#[]:Array Value))).get? a>>(seqObj "list" #[] e1):=⟨_,get?_update_seq ho fun _=>#[]⟩
 refine wpAny_bind (seqEpoch_at ho1 rfl ?_)
 refine wpAny_bind (wpAny_newTuple ?_ (by show vs.length<=_;rw[sizeLine_eq];lia))
 refine wpAny_bind (wpAny_newList ?_ (J7 _))
 refine wpAny_holding ?_
 show wpAny (model prog w) A _ P E {s with heap:=midH s.heap a vs}
 have hm:(midH s.heap a vs).get? a>>(seqObj "list" #[] e1):=Heap.get?_push_of_some _ (Heap.get?_push_of_some _ ho1)
 dsimp only
 by_cases c:vs.length<2
 ·have hn2:vs.toArray.size<2:=by rw[JW];exact c
  rw[if_pos hn2,if_pos hn2]
  refine wpAny_bind (wpAny_pure ?_)
  refine wpAny_bind (show wpAny (model prog w) A (pure ((),SortSt.mk' general' (vs.toArray.zip vs.toArray) #[] 7 none)) _ _ _ from wpAny_pure ?_)
  dsimp only
  have e:(arrOf (SortSt.mk' general' (vs.toArray.zip vs.toArray) #[] 7 none)).map (·.2)=vs.toArray:=by
   show(vs.toArray.zip vs.toArray).map (·.2)=vs.toArray
   exact Array.ext (by simp) fun i h1 h2=>by simp
  rw[e]
  refine wpAny_bind (seqEpoch_at hm rfl ?_)
  refine wpAny_bind (listUpdate_at hm rfl ?_ (J7 _) (by rw[JW,sizeLine_eq];lia))
  simp only[bne_self_eq_false,Ng,if_false]
  exact wpAny_pure (h vs rfl fun v h=>h)
 ·have hn2:¬vs.toArray.size<2:=by rw[JW];exact c
  rw[if_neg hn2,if_neg hn2]
  obtain⟨κ,k1,k2⟩:=hk (by lia)
  refine wpAny_bind (wpAny_mono (k1 (fun κ' s'=>κ'= κ/\s'= {s with heap:=midH s.heap a vs}) ⟨rfl,rfl⟩) ?_ fun _ _ x=>x.elim)
  rintro κ' s' ⟨rfl,rfl⟩
  have hmem:∀x∈vs.toArray.zip vs.toArray,∃i,i<vs.length/\x.1=vs.getD i Value.none/\x.2∈vs:=fun x hx=>by
   obtain⟨i,hi,e⟩:=Et.mp hx
   have hi':i<vs.length:=by simpa using hi
   rwa[i,hi',?_,?_]
   ·rw[<-e,JM,Nw hi']
    simp
   ·rw[<-e]
    simp
  have hmr:vs.length<=2*minRun' vs.length vs.length 0/\1<=minRun' vs.length vs.length 0:=by
   by_cases c64:vs.length<64
   ·obtain⟨f,hf⟩:∃f,vs.length=f+1:=⟨vs.length-1,by lia⟩
    have:minRun' (f+1) vs.length 0=vs.length:=by rw[minRun'_succ,if_pos c64];rfl
    rw[<-hf] at this
    lia
   ·rcases(by lia:vs.length=64∨vs.length=65) with e|e <;> rw[e] <;> exact⟨by decide,by decide⟩
  refine wpAny_bind (wpAny_mono (kmZ (prog:=prog) (w:=w) (A:=A) (E:=E) (s:={s with heap:=midH s.heap a vs}) (κ:=κ') (a₀:=vs.toArray.zip vs.toArray) (n:=vs.length) (st:=SortSt.mk' κ' (vs.toArray.zip vs.toArray) #[] 7 none) (Q:=fun _ st'=>SI κ' (vs.toArray.zip vs.toArray) vs.length st') (fun x hx y hy=>?_) ⟨⟨rfl,rfl,by show(vs.toArray.zip vs.toArray).size=_;simp,fun x h=>h⟩,rfl⟩ (by lia) hmr.1 hmr.2 fun st' g=>g) ?_ fun _ _ e=>e)
  ·obtain⟨i,hi,e1,_⟩:=hmem x hx
   obtain⟨j,hj,e2,_⟩:=hmem y hy
   rw[e1,e2]
   exact k2 i j hi hj
  rintro⟨⟨⟩,st'⟩ s' ⟨rfl,g1,hf,g3,g4⟩
  dsimp only at hf g3 g4⊢
  rw[hf]
  have hsz:((arrOf st').map (·.2)).size=vs.length:=by rw[Array.size_map];exact g3
  refine wpAny_bind (seqEpoch_at hm rfl ?_)
  refine wpAny_bind (listUpdate_at hm rfl ?_ (J7 _) (JA (Mt hsz) (by rw[sizeLine_eq];lia)))
  simp only[bne_self_eq_false,Ng,if_false]
  have hp:=h ((arrOf st').map (·.2)).toList (by rw[Mg];exact hsz) fun v hv=>by
   obtain⟨x,hx,rfl⟩:=Array.mem_map.mp (EH.mp hv)
   obtain⟨i,_,_,h4⟩:=hmem x (g4 x hx)
   exact h4
  exact wpAny_pure hp
end
section
variable{X:Cx}
set_option genInjectivity false in
structure TpI where
 b:Addr
 z:Int
 l:Addr
 ns:List Int
 y:Int
def TpAt(H:Hp)(p:TpI):Prop:=H p.b>>(.tup [.int p.z, .ref p.l, .int p.y])/\H p.l>>(.lst (p.ns.map V.int))
theorem val3{x y z:V}{us:List Value}(h:Vals [x,y,z] us):∃u v w,us=[u,v,w]/\RelV x u/\RelV y v/\RelV z w:=by
 cases h with
 |cons r h=>
  obtain⟨v,w,rfl,r1,r2⟩:=vals2 h
  rwa[_,v,w,6,r,r1,r2]
theorem tp_lt{pins:List (Addr×Obj)}{σ:St}{H:Hp}{s s':Shared}(I:Inv X pins σ H s)(has:∀b o,s.heap.get? b>>o->s'.heap.get? b>>o){A:Around}(hu:A.units+4<cLine){p q:TpI}(hp:TpAt H p)(hq:TpAt H q):∃c:Bool,∀(C:Bool->Shared->Prop),C c s'->wpAny (model X.prog X.w) A (keyLt' (tuples' true) (.ref p.b) (.ref q.b)) C (fun _ _=>False) s':=by
 obtain⟨t1,l1⟩:=hp
 obtain⟨t1',l1'⟩:=hq
 obtain⟨uT,rT,pT,_⟩:=I.tuple (SqT.of (K:=X.K) t1)
 obtain⟨uT',rT',pT',_⟩:=I.tuple (SqT.of (K:=X.K) t1')
 obtain⟨uL,rL,pL,_⟩:=I.list (SqL.of (K:=X.K) l1)
 obtain⟨uL',rL',pL',_⟩:=I.list (SqL.of (K:=X.K) l1')
 have pL2:=pL.isList.at (h':=s'.heap) fun o e=>has _ o e
 have pL2':=pL'.isList.at (h':=s'.heap) fun o e=>has _ o e
 obtain⟨ox,ex,cx,nx,dx⟩:=pT
 obtain⟨oy,ey,cy,ny,dy⟩:=pT'
 obtain⟨x0,x1,x2,rfl,⟨t0,rfl⟩,g1,⟨t2,rfl⟩⟩:=val3 rT
 obtain⟨y0,y1,y2,rfl,⟨t0',rfl⟩,g1',⟨t2',rfl⟩⟩:=val3 rT'
 cases g1
 cases g1'
 have u2:A.units<cLine:=by lia
 have e0:=kfM (A:=A) (s:=s') (show RelV (.int p.z) (.int p.z t0) from⟨t0,rfl⟩) (show RelV (.int q.z) (.int q.z t0') from⟨t0',rfl⟩) rfl rfl
 have e1:=kdd (A:=A) rL rL' pL2 pL2' (fun e=>by rw[e,l1'] at l1;injection l1 with l1;injection l1 with l1;exact l1.symm) (kbR _) (kbR _) u2
 have e2:=kfM (A:=A) (s:=s') (show RelV (.int p.y) (.int p.y t2) from⟨t2,rfl⟩) (show RelV (.int q.y) (.int q.y t2') from⟨t2',rfl⟩) rfl rfl
 have lL:SeqAt.LtAt A s' (.ref p.l) (.ref q.l) (SeqAt.lexL p.ns q.ns):=fun prog w E Q h=>SeqAt.lt_lists pL2 pL2' (kgi rL) (kgi rL') u2 (fun m h1 h2=>by
  have key:=kfg (A:=A.in1) (s:=s') rL rL' (kbR _) (kbR _) m h1 h2
  have n1:=rL.length
  have n2:=rL'.length
  rw[Jv] at n1 n2
  have k1:m<p.ns.length:=by simp at h1;lia
  have k2:m<q.ns.length:=by simp at h2;lia
  have e:eqV ((p.ns.map V.int).getD m .non) ((q.ns.map V.int).getD m .non)=decide (p.ns.getD m 0=q.ns.getD m 0):=by
   simp[k1,k2,eqV]
   exact Mh.mpr (by rw[beq_iff_eq,decide_eq_true_iff])
  rw[e] at key
  exact key) prog w E Q h
 rwa[if eqV (.int p.z) (.int q.z) then(if eqVs (p.ns.map V.int) (q.ns.map V.int) then(if eqV (.int p.y) (.int q.y) then false else decide (p.y<q.y)) else SeqAt.lexL p.ns q.ns) else decide (p.z<q.z),fun C hC=>?_]
 refine kat_lt (has _ _ ex) dx (has _ _ ey) dy ?_
 refine kat_cons (e0 _ _ _ _ (kat_go (fun h=>?_) fun h=>?_))
 ·rw[h,if_pos rfl] at hC
  refine kat_yes (kat_cons (e1 _ _ _ _ (kat_go (fun h=>?_) fun h=>?_)))
  ·rw[h,if_pos rfl] at hC
   refine kat_yes (kat_cons (e2 _ _ _ _ (kat_go (fun h=>?_) fun h=>?_)))
   ·rw[h,if_pos rfl] at hC
    exact kat_yes (kat_nil hC)
   ·rw[h,if_neg JD] at hC
    exact kat_no (kat_one _ _ (wpAny_lt_int hC))
  ·rw[h,if_neg JD] at hC
   exact kat_no (kat_one _ _ (lL _ _ _ _ hC))
 ·rw[h,if_neg JD] at hC
  exact kat_no (oneLt_int hC)
theorem kjh{pins:List (Addr×Obj)}{σ:St}{H:Hp}{s s':Shared}(I:Inv X pins σ H s)(has:∀b o,s.heap.get? b>>o->s'.heap.get? b>>o):∀{ps:List TpI},(∀p∈ps,TpAt H p)->∃fs:List Value,KatTups s'.heap (ps.map fun p=>Value.ref p.b) fs/\fs.length=ps.length/\∀v∈fs,∃z t,v=.int z t
 |[],_=>⟨[],KatTups.nil,rfl,fun v h=>by simp at h⟩
 |p::ps,h=>by
  obtain⟨fs,h1,h2,h3⟩:=kjh I has fun q hq=>h q (JQ _ hq)
  obtain⟨uT,rT,pT,_⟩:=I.tuple (SqT.of (K:=X.K) (h p JS).1)
  obtain⟨ox,ex,cx,nx,dx⟩:=pT
  obtain⟨x0,x1,x2,rfl,⟨t0,rfl⟩,_,_⟩:=val3 rT
  rwa[.int p.z t0::fs,KatTups.cons (has _ _ ex) cx dx rfl h1,by rw[Nb,Nb,h2],fun v hv=>?_]
  rcases JY.mp hv with e|e
  ·rwa[p.z,t0,e]
  ·exact h3 v e
def kjW(K:Jw):List V->Hp->VK->Prop:=fun xs H Q=>∃(a:Addr)(ps:List TpI),xs=[.ref a]/\SqL K H a (ps.map fun p=>V.ref p.b)/\(∀p∈ps,TpAt H p)/\ps.length<66/\∀(D:Addr)(qs:List TpI),H D=none->(∀q∈qs,q∈ps)->qs.length=ps.length->Q (.ref D) (upd H D (.lst (qs.map fun q=>V.ref q.b)))
theorem kjU:∀{bs:List Addr}{its:List Value},Vals (bs.map V.ref) its->its=bs.map Value.ref
 |[],its,r=>by cases r;rfl
 | b::bs,its,r=>by
  rw[JG] at r
  cases r with
  |cons r1 r2=>
   cases r1
   rw[kjU r2]
   rfl
theorem kgw:∀(bs:List Addr),Vals (bs.map V.ref) (bs.map Value.ref)
 |[]=>.nil
 |b::bs=>.cons rfl (kgw bs)
theorem khj{ps:List TpI}:∀(out:List Value),(∀v∈out,v∈ps.map fun p=>Value.ref p.b)->∃qs:List TpI,out=qs.map (fun q=>Value.ref q.b)/\∀q∈qs,q∈ps
 |[],_=>⟨[],rfl,fun q h=>by simp at h⟩
 |v::out,h=>by
  obtain⟨qs,e,hq⟩:=khj out fun w hw=>h w (JQ _ hw)
  obtain⟨p,hp,ep⟩:=JP.mp (h v JS)
  rwa[p::qs,by rw[JG,ep,e],fun q hq'=>?_]
  rcases JY.mp hq' with e'|e'
  ·rw[e'];exact hp
  ·exact hq q e'
theorem kgs(hu:X.A.units+64<cLine):CallR X (.builtin "sorted") (kjW X.K):=by
 intro pins s σ H xs us Q I r h
 obtain⟨a,ps,rfl,hS,hp,h64,q⟩:=h
 obtain⟨u,rfl,rx⟩:=vals1 r
 cases rx
 obtain⟨its,rv,pl,hz⟩:=I.list hS
 have ei:its=ps.map fun p=>Value.ref p.b:=by
  have:=kjU (bs:=ps.map TpI.b) (its:=its) (by rw[JO];exact rv)
  rw[this,JO]
  rfl
 subst ei
 have lu:(ps.map fun p=>Value.ref p.b).length<66:=by rw[Jv];exact h64
 refine Calls.call_function_entry kind_sorted plain_sorted entry_sorted (args_sorted1 _) (?_:wpAny _ _ _ _ _ _)
 unfold Builtin.«sorted»
 refine wpAny_bind (m:=checkCount "sorted" 1 1 _) (wpAny_pure (?_:wpAny _ _ _ _ _ _))
 generalize hvs:(ps.map fun p=>Value.ref p.b)=vs at *
 refine wpAny_bind (collect_list pl.isList (?_:wpAny _ _ _ _ _ _))
 refine wpAny_bind (wpAny_newList (?_:wpAny _ _ _ _ _ _))
 have hsz:((s.heap.push (seqObj "list" #[] 0)).update s.heap.objs.size (Obj.mapSeq (· ++vs.toArray))).objs.size=s.heap.objs.size+1:=by
  rw[Heap.size_update,size_push']
 have hoL:(((s.heap.push (seqObj "list" #[] 0)).update s.heap.objs.size (Obj.mapSeq (· ++vs.toArray))).push (seqObj "list" vs.toArray 0)).get? (s.heap.objs.size+1)>>(seqObj "list" vs.toArray 0):=by
  rw[<-hsz];exact Heap.get?_push_size _ rfl
 show wpAny _ _ _ _ _ {s with heap:=((s.heap.push (seqObj "list" #[] 0)).update s.heap.objs.size (Obj.mapSeq (· ++vs.toArray))).push (seqObj "list" vs.toArray 0),toks:=_}
 rw[hsz]
 refine wpAny_bind (wpAny_holding (wpAny_call_entry slot_list_sort ⟨_,hoL,rfl⟩ entry_list_sort (kkh hoL lu (fun h2=>?_) fun out h1 h2=>⟨_,rfl,?_⟩) (args_list_sort _)))
 ·have has:∀b o,s.heap.get? b>>o->(midH (((s.heap.push (seqObj "list" #[] 0)).update s.heap.objs.size (Obj.mapSeq (· ++vs.toArray))).push (seqObj "list" vs.toArray 0)) (s.heap.objs.size+1) vs).get? b>>o:=fun b o e=>by
   have hlt:b<s.heap.objs.size:=Heap.lt_size e
   refine Heap.get?_push_of_some _ (Heap.get?_push_of_some _ ?_)
   rw[Heap.get?_update_ne _ _ _ _ (J5 (Nat.lt_succ_of_lt hlt))]
   refine Heap.get?_push_of_some _ ?_
   rw[Heap.get?_update_ne _ _ _ _ (J5 hlt)]
   exact Heap.get?_push_of_some _ e
  have hvl:vs.length=ps.length:=by rw[<-hvs,Jv]
  obtain⟨fs,f1,f2,f3⟩:=kjh I (s':={s with heap:=midH (((s.heap.push (seqObj "list" #[] 0)).update s.heap.objs.size (Obj.mapSeq (· ++vs.toArray))).push (seqObj "list" vs.toArray 0)) (s.heap.objs.size+1) vs}) has hp
  rw[hvs] at f1
  rwa[tuples' true,fun Q' hQ=>kat_kind (T:=.type "int") f1 (by lia) (fun v hv=>?_) rfl hQ,fun i j hi hj=>?_]
  ·obtain⟨z,t,rfl⟩:=f3 v hv
   exact Looks.of_pure rfl
  ·have at_:∀i,i<vs.length->∃p∈ps,vs.getD i Value.none=.ref p.b:=fun i hi=>by
    have h':i<ps.length:=by lia
    rwa[ps[i],Mw _,?_]
    rw[<-hvs,JM,JF,Nw h']
    rfl
   obtain⟨p,hpm,e1⟩:=at_ i hi
   obtain⟨p',hpm',e2⟩:=at_ j hj
   rw[e1,e2]
   exact tp_lt I has (by show X.A.units+1+1+4<cLine;lia) (hp p hpm) (hp p' hpm')
 ·obtain⟨qs,eq,hq⟩:=khj (ps:=ps) out (by rw[hvs];exact h2)
  refine wpAny_pure ⟨_,rfl,?_⟩
  obtain⟨e,he⟩:=sortedAll_at s.heap vs out.toArray
  have hn:H (s.heap.objs.size+1)=none:=I.hok.fresh (NY _)
  have hl:qs.length=ps.length:=by
   have:out.length=ps.length:=by rw[h1,<-hvs,Jv]
   rw[<-this,eq,Jv]
  have lz:(qs.map fun q=>V.ref q.b).length<=sizeLine:=by
   rw[Jv,sizeLine_eq]
   lia
  have hv:Vals (qs.map fun q=>V.ref q.b) out:=by
   rw[eq]
   have:=kgw (qs.map TpI.b)
   rw[JO,JO] at this
   exact this
  rwa[.ref (s.heap.objs.size+1),_,I.laid (t':=s.toks) (fun b o z=>sortedAll_old z) (NY _) (show ObjOk X.prog X.w (upd H (s.heap.objs.size+1) (.lst (qs.map fun q=>V.ref q.b))) (sortedAll s.heap vs out.toArray) (s.heap.objs.size+1) (.lst (qs.map fun q=>V.ref q.b)) from⟨lz,out,e,hv,by simpa using he⟩),6,q _ qs hn hq hl]
end
end L2
namespace L2
open PySem PySem.Spec PyProof.Rows
noncomputable def nxo:HO->Bool
 | .ext _=>false
 |_=>true
def NX(H:Hp)(p:Addr):Prop:=∀φ,H p≠some (.ext φ)
def nx{H:Hp}{p:Addr}{o:HO}(h:H p>>o)(n:autoParam (nxo o=true) jz):NX H p:=fun φ z=>by
 rw[h] at z
 cases z
 cases n
def nx0{H:Hp}{p:Addr}(h:H p=none):NX H p:=fun φ z=>by
 rw[h] at z
 cases z
def kdj{H:Hp}{p q:Addr}{o:HO}(h:NX H p)(n:autoParam (nxo o=true) jz):NX (upd H q o) p:=fun φ z=>by
 by_cases e:p=q
 ·subst e
  rw[kae] at z
  cases z
  cases n
 ·rw[kak e] at z
  exact h φ z
abbrev Ev(H H':Hp)(b:Addr)(o:HO):Prop:=match o with
 | .tbl _=>(∃ps,H' b>>(.tbl ps))/\(TbAt b H->TbAt b H')
 |o=>H' b>>o
def ev_eq{H H':Hp}{b:Addr}{o:HO}(e:H' b>>o)(t:TbAt b H->TbAt b H'):Ev H H' b o:=by
 cases o <;> first|exact e|exact⟨⟨_,e⟩,t⟩
def kgm{H H':Hp}{b:Addr}{o:HO}(e:Ev H H' b o):∃o',H' b>>o':=by
 cases o <;> first|exact⟨_,e⟩|exact⟨_,e.1.choose_spec⟩
theorem kbM{H H1 H2:Hp}{b:Addr}{o:HO}(e:Ev H H1 b o)(k:∀o,H1 b>>o->Ev H1 H2 b o):Ev H H2 b o:=by
 cases o with
 |tbl ps=>
  obtain⟨⟨ps1,e1⟩,t1⟩:=e
  obtain⟨e2,t2⟩:=(show Ev H1 H2 b (.tbl ps1) from k _ e1)
  rwa[e2,fun h=>t2 (t1 h)]
 |_=>exact k _ e
def kea{b p:Addr}{H:Hp}{o:HO}(h:TbAt b H)(n:b≠p)(hx:NX H p):TbAt b (upd H p o):=by
 obtain⟨ps,e,t,hor⟩:=h
 rwa[ps,by rw[kak n];exact e,t,fun pos d ed=>?_]
 obtain⟨c,rfl,z2⟩:=hor pos d ed
 have hc:c≠p:=fun e=>by
  subst e
  exact hx _ z2
 rwa[c,6,by rw[kak hc];exact z2]
def Same(H H':Hp):Prop:=∀b o,H b>>o->Ev H H' b o
def Same.refl(H:Hp):Same H H:=fun _ _ h=>ev_eq h fun t=>t
def Same.trans{H H1 H2:Hp}(a:Same H H1)(b:Same H1 H2):Same H H2:=fun c o h=>kbM (a c o h) fun o' e=>b c o' e
theorem Same.free{H H':Hp}(e:Same H H'){l:Addr}(h:H' l=Option.none):H l=Option.none:=by
 cases q:H l with
 |none=>rfl
 |some o=>
  obtain⟨o',e'⟩:=kgm (e l o q)
  rw[e'] at h
  cases h
def Same.seq{K:Jw}{H H':Hp}{a:Addr}{xs:List V}(e:Same H H')(h:SqL K H a xs):SqL K H' a xs:=by
 rcases h with(h|⟨o,h⟩)|h
 ·exact .inl (.inl (e _ _ h))
 ·exact .inl (.inr ⟨o,e _ _ h⟩)
 ·exact .inr h
def Same.tb{H H':Hp}(s:Same H H'){b:Addr}(h:TbAt b H):TbAt b H':=by
 obtain⟨ps,e,r⟩:=id h
 exact(show Ev H H' b (.tbl ps) from s b _ e).2 h
def Grew.same{P:Addr}{H H':Hp}(g:Grew P H H')(TB:TbAt P H):Same H H':=fun b o e=>by
 obtain⟨ps,eP,ht,hor⟩:=TB
 by_cases h:b=P
 ·subst h
  rw[eP] at e
  cases e
  obtain⟨qs,e1,_⟩:=id g.tb
  rwa[⟨qs,e1⟩,fun _=>g.tb]
 ·refine ev_eq (g.kp b o h e) fun t=>?_
  obtain⟨qs,e1,t1,h1⟩:=t
  rwa[qs,g.kp b _ h e1,t1,fun pos d ed=>?_]
  obtain⟨c,rfl,z⟩:=h1 pos d ed
  rwa[c,6,g.kp c _ (ne_of z eP (by intro z;cases z)) z]
def kgF(K:Jw)(tP:Addr):Sp:=fun vs H Q _=>∃(a:Addr)(ns:List Int),vs=[.ref a]/\SqL K H a (ns.map V.int)/\ns.length<=63/\TbAt tP H/\∀H',Q (.bl true) H'
theorem kkn{P:Program}{w:World}{K:Jw}{mg mb:Str->Option Value}{k:Nat}{fa a tP c0:Addr}{fd:FuncData}{x:Str}{s₁:Shared}{vs:List Value}{ns:List Int}
  (KX:K.In s₁.heap)(hns:s₁.heap.Ns mainGlobals mg)(hb:s₁.heap.Ns builtinsNs mb)(hbb:∀x:Str,x≠"__name__"->mb x=bootBuiltins x)(hlim:s₁.heap.NoLimit)(hg:s₁.gens= #[])
  (ha:s₁.heap.get? a>>{cls:=.type "list",data:=.seq vs.toArray})(hi:IntsAre vs ns)(hl:ns.length<=63)(hr:Room k callerA)(hT:s₁.heap.get? tP>>(MV #[]))(CK:CodeK K c0 tP)(kT:K.lookup tP=none)(hBM:BltM mg s₁.heap)
  (F:∀base:Heap,K.In base->base.Ns mainGlobals mg->BltM mg base->FnOk P w K mg base CX0 k fa fd [x] (kgF K tP))(hbind:∀(s:Shared)(u:Value),BindsTo s fd ⟨[u],[]⟩ [(x,u)]):
  codeAny (model P w) callerA (.call (.ref fa) ⟨[.ref a],[]⟩) (fun r s'=>r=.ok (.ret (.bool true))/\OldK s₁.heap s'.heap/\s'.os=s₁.os/\AllBare s'.gens) s₁:=by
 have rv:=kgx hi
 have lenV:=hi.length
 have hlz:ns.length<=sizeLine:=JA hl (by decide)
 have nTa:tP≠a:=fun e=>by
  rw[e,ha] at hT
  have:=Option.some.inj hT
  injection this with z
  cases z
 have core:∀H:Hp,SqL K H a (ns.map V.int)->HOk P w H s₁.heap->H tP>>(.tbl #[])->(∀b,b≠tP->H b=none∨(b=a/\∃o xs,H b>>(.frz o (.lst xs))))->(H a≠none->K.lookup a=none)->
   codeAny (model P w) callerA (.call (.ref fa) ⟨[.ref a],[]⟩) (fun r s'=>r=.ok (.ret (.bool true))/\OldK s₁.heap s'.heap/\s'.os=s₁.os/\AllBare s'.gens) s₁:=by
  intro H hS hok eT hO hK
  have base_of:∀{b:Addr}{o:Obj},s₁.heap.get? b>>o->H b=none->(hidT s₁.heap H).get? b>>o:=fun e n=>klE e n
  have noT:∀{b:Addr}{o:Obj},s₁.heap.get? b>>o->o.cls≠.none->(∀us n,o.data≠.seq us n)->H b=none:=fun {b o} e hc hd=>by
   by_cases hbT:b=tP
   ·rw[hbT,hT] at e
    cases e
    exact absurd rfl hc
   ·rcases hO b hbT with z|⟨z,_⟩
    ·exact z
    ·rw[z,ha] at e
     cases e
     exact absurd rfl (hd _ _)
  have noA:∀{b:Addr}{o:Obj}{es:Array DictEntry}{ep:Nat},s₁.heap.get? b>>o->o.data=.dict es ep->H b=none:=fun {b o es ep} e d=>by
   by_cases hbT:b=tP
   ·rw[hbT,hT] at e
    cases e
    cases d
   ·rcases hO b hbT with z|⟨z,_⟩
    ·exact z
    ·rw[z,ha] at e
     cases e
     cases d
  have nsK:∀{b:Addr}{m:Str->Option Value},s₁.heap.Ns b m->(hidT s₁.heap H).Ns b m:=fun {b m} ⟨o,es,ep,e,d,r⟩=>⟨o,es,ep,base_of e (noA e d),d,r⟩
  have hKb:K.In (hidT s₁.heap H):=fun b o e=>base_of (KX b o e) (by
   by_cases hbT:b=tP
   ·rw[hbT,kT] at e
    cases e
   ·rcases hO b hbT with z|⟨z,o',xs,z2⟩
    ·exact z
    ·subst z
     rw[hK (by rw[z2];simp)] at e
     cases e)
  have hM:Mod K mg (hidT s₁.heap H):=⟨hKb,nsK hns,⟨mb,nsK hb,hbb⟩,let⟨mc,h1,h2⟩:=hlim;⟨mc,nsK h1,h2⟩⟩
  have hBb:BltM mg (hidT s₁.heap H):=by
   obtain⟨bm,ob,b1,b2,b3,b4,b5,b6⟩:=hBM
   rwa[bm,ob,b1,b2,base_of b3 (noT b3 (by rw[b4];intro z;cases z) (fun us n z=>by rw[b6] at z;cases z)),b4,b5,b6]
  have e0:Env0 P w K mg (hidT s₁.heap H) callerA [] s₁ H:=⟨rfl,hM,fun b o e=>kmV e,Mt (kkC _ _),trivial,fun b hb=>absurd (show b∈([]:List Addr) from hb) (by simp),hok, .of_eq hg⟩
  have hsp:kgF K tP [.ref a] H (fun v _=>v=.bl true) fun _ _ _=>False:=⟨a,ns,rfl,hS,hl,⟨#[],eT,by trivial,fun pos c e=>by cases e⟩,fun _=>rfl⟩
  refine codeAny_mono ((F _ hKb (nsK hns) hBb).run callerA [] s₁ H ⟨[.ref a],[]⟩ [.ref a] [.ref a] _ _ hr e0 (hbind s₁ (.ref a)) (.cons rfl .nil) hsp) fun r s' h=>?_
  cases r with
  |error e=>exact(show False from h).elim
  | ok fl=>
   cases fl with
   |next=>exact False.elim h
   |brk=>exact False.elim h
   |cont=>exact False.elim h
   | ret u=>
    obtain⟨v,H',os,bare,un,hok',r',q⟩:=h
    have q':v=.bl true:=q
    subst q'
    obtain rfl:u=Value.bool true:=r'
    have kp:∀b o,b≠tP->s₁.heap.get? b>>o->s'.heap.get? b>>o:=fun b o hbT e=>by
     rcases hO b hbT with z|⟨z,o',xs,z2⟩
     ·exact un.keep b o e z (fun z=>absurd (show b∈([]:List Addr) from z) (by simp)) (by simp)
     ·have z3:=un.frzs b o' _ z2
      obtain⟨e1,_⟩:=hok b _ z2
      obtain⟨e2,_⟩:=hok' b _ z3
      rw[e] at e1
      cases e1
      exact e2
    obtain⟨more,eM⟩:=un.tbls tP #[] eT
    have tM:s'.heap.get? tP>>(MV (#[]++more)):=(show ObjOk P w H' s'.heap tP (.tbl (#[]++more)) from hok' tP _ eM)
    rwa[6,⟨fun b o e=>?_,fun b o e=>?_⟩,os,bare]
    ·by_cases hbT:b=tP
     ·subst hbT
      rw[hT] at e
      cases e
      obtain⟨oc,us,_,_,_,_,_,_,_,c1,c2,c3,c4,_⟩:=CK
      exact .inr (.inl ⟨⟨c0,oc,us,KX _ _ c1,c2,c3,c4⟩,rfl,#[],more,rfl,tM⟩)
     ·exact .inl (kp b o hbT e)
    ·by_cases hbT:b=tP
     ·subst hbT
      rwa[_,tM]
     ·rwa[o,kp b o hbT e]
 cases hk:K.lookup a with
 | some o=>
  have e:=KX a o hk
  rw[ha] at e
  cases e
  refine core (fun b=>if b=tP then some (.tbl #[]) else none) (.inr ⟨_,vs.toArray,_,hk,rfl,rfl,rfl,by rw[JW,lenV];exact hlz,by simpa using rv⟩) (fun b u z=>?_) (if_pos rfl) (fun b hbT=>.inl (if_neg hbT)) fun z=>absurd (if_neg nTa.symm) z
  by_cases hbT:b=tP
  ·have z':=(if_pos hbT).symm.trans z
   cases z'
   subst hbT
   exact(show s₁.heap.get? b>>_ from hT)
  ·have z':=(if_neg hbT).symm.trans z
   cases z'
 | none=>
  refine core (fun b=>if b=tP then some (.tbl #[]) else if b=a then some (.frz {cls:=.type "list",data:=.seq vs.toArray} (.lst (ns.map V.int))) else none) (.inl (.inr ⟨{cls:=.type "list",data:=.seq vs.toArray},by show(if a=tP then _ else _)=_;rw[if_neg nTa.symm,if_pos rfl]⟩)) (fun b u z=>?_) (if_pos rfl) (fun b hbT=>?_) fun _=>hk
  ·by_cases hbT:b=tP
   ·have z':=(if_pos hbT).symm.trans z
    cases z'
    subst hbT
    exact(show s₁.heap.get? b>>_ from hT)
   ·have z1:=(if_neg hbT).symm.trans z
    by_cases hb2:b=a
    ·have z':=(if_pos hb2).symm.trans z1
     cases z'
     subst hb2
     rwa[ha,by rw[Jv];exact hlz,vs,_,rv,ha]
    ·have z':=(if_neg hb2).symm.trans z1
     cases z'
  ·by_cases hb2:b=a
   ·exact .inr ⟨hb2,_,_,by show(if b=tP then _ else _)=_;rw[if_neg hbT,if_pos hb2]⟩
   ·exact .inl (by show(if b=tP then _ else _)=_;rw[if_neg hbT,if_neg hb2])
theorem walkT_of{l:PySem.W.OpenLaw}{k:Nat}{q:Program}{loose:List Str}{XP:(Str->Option Value)->Heap->Prop}{YP:World->Heap->Prop}{d:DefRec}{K:Params->Jw}{ts:List Addr}{x:Str}
  (hn:l.most>>63)(hdf:d.params.defaults=[])(hr:Room k callerA)(hY:∀(w:World)(h:Heap),YP w h->(K w.params).In h)(hTs:∀(w:World)(h:Heap),YP w h->∀P∈ts,h.get? P>>(MV #[]))
  (F:∀(w:World)(mg:Str->Option Value)(fa:Addr)(h:Heap),(K w.params).In h->h.Ns mainGlobals mg->mg d.name>>(.ref fa)->
   ∃(fd:FuncData)(tP c0:Addr),tP∈ts/\CodeK (K w.params) c0 tP/\(K w.params).lookup tP=none/\(∀(s:Shared)(u:Value),BindsTo s fd ⟨[u],[]⟩ [(x,u)])/\
    ∀base:Heap,(K w.params).In base->base.Ns mainGlobals mg->BltM mg base->FnOk l.prog w (K w.params) mg base CX0 k fa fd [x] (kgF (K w.params) tP)):
  PySem.W.WalkO q loose XP YP l.row.toRowW d [] (fun f vs=>PySem.call f vs):=by
 refine Att.attach_call hn hdf fun w s₀ s₁ mg mb fa o pm cd doc a vs ns G Y ho hd hcd hmg hobj hints hlen hg=>?_
 have KX:=hY w _ Y
 obtain⟨fd,tP,c0,hm,CK,kT,hb,hF⟩:=F w mg fa _ KX G.T.g hmg
 obtain⟨bm,ob,b1,b2,b3,b4,b5,b6⟩:=G.T.bmain
 exact kkn KX G.T.g G.T.b G.T.builtins G.T.nolimit hg hobj hints hlen hr (hTs w _ Y tP hm) CK kT ⟨bm,ob,b1,b2,b3,b4,b5,b6⟩ hF hb
def nd1(x:Str):([x]:List Str).Nodup:=by simp
def But(x:Addr)(H H':Hp):Prop:=∀b o,b≠x->H b>>o->Ev H H' b o
def But.trans{x:Addr}{H H1 H2:Hp}(a:But x H H1)(b:But x H1 H2):But x H H2:=fun c o n h=>kbM (a c o n h) fun o' e=>b c o' n e
def But.same{x:Addr}{H H1 H2:Hp}(a:But x H H1)(b:Same H1 H2):But x H H2:=fun c o n h=>kbM (a c o n h) fun o' e=>b c o' e
def But.of_same{x:Addr}{H H1:Hp}(b:Same H H1):But x H H1:=fun c o _ h=>b c o h
def But.refl{x:Addr}{H:Hp}:But x H H:=fun b o _ h=>Same.refl H b o h
def kax{x:Addr}{H:Hp}{o:HO}(hx:autoParam (NX H x) jN):But x H (upd H x o):=fun b u n e=>ev_eq (by rw[kak n];exact e) fun t=>kea t n hx
def kam{H:Hp}{p:Addr}{o:HO}(hp:H p=none):Same H (upd H p o):=fun b u e=>ev_eq (by rw[kak (kai e hp)];exact e) fun t=>kea t (kai e hp) (nx0 hp)
def kav{H H':Hp}{p:Addr}{o:HO}(hp:H p=none)(s:Same H H')(hx:autoParam (NX H' p) jN):Same H (upd H' p o):=fun b u e=>
 kbM (s b u e) fun u' e'=>ev_eq (by rw[kak (kai e hp)];exact e') fun t=>kea t (kai e hp) hx
def kbt{H:Hp}{x dx C:Addr}(hx:H x=none)(nd:H dx=none):Same H (upd (upd H dx (.own x)) x (.ins C dx [])):=fun b u e=>by
 have n1:=kai e hx
 have n2:=kai e nd
 exact ev_eq (by rw[kak n1,kak n2];exact e) fun t=>kea (kea t n2 (nx0 nd)) n1 (kdj (nx0 hx) rfl)
def kbP{H H':Hp}{x dx C:Addr}(hx:H x=none)(nd:H dx=none)(k:But x (upd (upd H dx (.own x)) x (.ins C dx [])) H'):Same H H':=fun b o e=>kbM (kbt (C:=C) hx nd b o e) fun o' e'=>k b o' (kai e hx) e'
def kdF{H:Hp}{x dx C y:Addr}(h:(upd (upd H dx (.own x)) x (.ins C dx [])) y=none):H y=none:=by
 by_cases e1:y=x
 ·subst e1
  rw[kae] at h
  cases h
 ·rw[kak e1] at h
  by_cases e2:y=dx
  ·subst e2
   rw[kae] at h
   cases h
  ·rw[kak e2] at h
   exact h
def kg1{H:Hp}{x dx C y:Addr}{o:HO}(nx:H x=none)(nd:H dx=none)(h:H y>>o):(upd (upd H dx (.own x)) x (.ins C dx [])) y>>o:=by
 rw[kak (kai h nx),kak (kai h nd)]
 exact h
theorem kal{f:Str}{v:V}:∀{fs:List (Str×V)}{n:Nat},fs.length<=n->(putF f v fs).length<=n+1
 |[],n,_=>by
  show 1<=n+1
  lia
 | (g,x)::r,n,h=>by
  show(if g=f then(g,v)::r else(g,x)::putF f v r).length<=n+1
  have h':r.length+1<=n:=h
  split
  ·show r.length+1<=n+1
   lia
  ·show(putF f v r).length+1<=n+1
   have:=kal (f:=f) (v:=v) (fs:=r) (n:=n-1) (by lia)
   lia
def few{fs:List (Str×V)}(h:fs.length<=20):fs.length<1000:=by lia
theorem kba{ns:List Addr}{i:Nat}{x:V}(h:(ns.map V.ref)[i]?>>x):∃z,ns[i]?>>z/\x=V.ref z:=by
 rw[JF] at h
 cases e:ns[i]? with
 |none=>rw[e] at h;cases h
 |some z=>rw[e] at h;exact⟨z,rfl,(Option.some.inj h).symm⟩
theorem kbO{α:Type}{g: α->V}{ns:List α}{i:Nat}{x:V}(h:(ns.map g)[i]?>>x):∃z,ns[i]?>>z/\x=g z:=by
 rw[JF] at h
 cases e:ns[i]? with
 |none=>rw[e] at h;cases h
 |some z=>rw[e] at h;exact⟨z,rfl,(Option.some.inj h).symm⟩
def at_lt{α:Type}{xs:List α}{i:Nat}{x: α}(h:xs[i]?>>x):i<xs.length:=(JK.mp h).1
def at_of{α:Type}{xs:List α}{i:Nat}(h:i<xs.length):∃x,xs[i]?>>x:=⟨xs[i],by simp[h]⟩
def kcq{α:Type}{rs:List α}{i:Nat}{r: α}(h:rs[i]?>>r):rs.take (i+1)=rs.take i++[r]:=by
 rw[NQ,h]
 rfl
inductive P2{α β:Type}(R: α->β->Prop):List α->List β->Prop
 |nil:P2 R [] []
 |cons {a: α} {b: β} {as:List α} {bs:List β} (h:R a b) (t:P2 R as bs):P2 R (a::as) (b::bs)
section
variable{α β:Type}{R R': α->β->Prop}{as as':List α}{bs bs':List β}
theorem P2.of(hl:as.length=bs.length)(h:∀(i:Nat)(a: α)(b: β),as[i]?>>a->bs[i]?>>b->R a b):P2 R as bs:=by
 induction as generalizing bs with
 |nil=>
  cases bs with
  |nil=>exact .nil
  |cons b bs=>cases hl
 |cons a as ih=>
  cases bs with
  |nil=>cases hl
  |cons b bs=>exact .cons (h 0 a b rfl rfl) (ih (by simpa using hl) fun i x y e1 e2=>h (i+1) x y (by simpa using e1) (by simpa using e2))
theorem P2.len(h:P2 R as bs):as.length=bs.length:=by
 induction h with
 |nil=>rfl
 |cons r t ih=>simp[ih]
theorem P2.get(h:P2 R as bs){i:Nat}{a: α}{b: β}(e1:as[i]?>>a)(e2:bs[i]?>>b):R a b:=by
 induction h generalizing i with
 |nil=>simp at e1
 | cons r t ih=>
  cases i with
  |zero=>
   simp at e1 e2
   subst e1 e2
   exact r
  |succ i=>exact ih (by simpa using e1) (by simpa using e2)
theorem P2.at(h:P2 R as bs){i:Nat}{a: α}(e1:as[i]?>>a):∃b,bs[i]?>>b/\R a b:=by
 obtain⟨b,e2⟩:=at_of (xs:=bs) (i:=i) (by rw[<-h.len];exact at_lt e1)
 rwa[b,e2,h.get e1 e2]
theorem P2.mono(h:P2 R as bs)(k:∀a b,R a b->R' a b):P2 R' as bs:=by
 induction h with
 |nil=>exact .nil
 |cons r t ih=>exact .cons (k _ _ r) ih
theorem P2.append(h:P2 R as bs)(h':P2 R as' bs'):P2 R (as++as') (bs++bs'):=by
 induction h with
 |nil=>exact h'
 |cons r t ih=>exact .cons r ih
theorem P2.snoc(h:P2 R as bs){a: α}{b: β}(r:R a b):P2 R (as++[a]) (bs++[b]):=h.append (.cons r .nil)
end
theorem rep1(n:Nat)(v:V):(JE n [v]).flatten=JE n v:=by
 induction n with
 |zero=>rfl
 |succ n ih=>rw[N2,J9,ih,N2];rfl
def kjR(n:Nat)(z:Int):JE n (V.int z)=(JE n z).map V.int:=by simp
def kmd(k:Int):(!decide (V.int k=V.non))=true:=by simp
def kmc:(!decide (V.non=V.non))=false:=by simp
noncomputable def oV:Option Int->V
 |none=>.non
 |some z=>.int z
structure TxtB(mg:Str->Option Value):Prop where
 range:mg "range"=none
 len:mg "len"=none
 min:mg "min"=none
 max:mg "max"=none
 isi:mg "isinstance"=none
 bool:mg "bool"=none
 int:mg "int"=none
 list:mg "list"=none
 sum:mg "sum"=none
 enum:mg "enumerate"=none
 any:mg "any"=none
 all:mg "all"=none
 rev:mg "reversed"=none
 zip:mg "zip"=none
 abs:mg "abs"=none
 sorted:mg "sorted"=none
 tuple:mg "tuple"=none
 str:mg "str"=none
structure FunD(K:Jw)(x qual:Str)(st:Stmt)(f:Addr)(fd:FuncData):Prop where
 ex:∃(oc:Value)(od:Option Addr)(dV kV doc pm:Value)(an:Option Addr)(cdv ct:Value)(osl:Array (Option Value)),
  fd=JR x qual (kaE st) (kaD st) (kah st) dV kV doc pm an cdv ct/\K.lookup f>>⟨oc,od, .func fd,osl⟩/\Nf K cdv qual=true
 kp:JU K (.ref f)=true
theorem FunD.ok{P:Program}{w:World}{K:Jw}{mg:Str->Option Value}{base:Heap}{x qual:Str}{st:Stmt}{f:Addr}{fd:FuncData}{N ps:List Str}{k:Nat}{sp:Sp}(F:FunD K x qual st f fd)(S:kat N ps (kah st))(len:∀vs H Q E,sp vs H Q E->vs.length=ps.length)
  (hbody:∀(cdv:Value)(A:Around)(outer:List Env)(s:Shared)(H:Hp)(vs:List V)(Q:VK)(E:XK),Room k (A.deeper (PyProof.Rows.envOfC qual (kah st) s.heap.objs.size f cdv))->sp vs H Q E->
   ∃t,PSs (cxOf CX0 P w K mg base N qual (kah st) f cdv A outer s H E).nox (kaD st) t/\t {nx:=fun _ H'=>Q .non H',rt:=Q} (start N vs) H):FnOk P w K mg base CX0 (k+1) f fd ps sp:=by
 obtain⟨oc,od,dV,kV,doc,pm,an,cdv,ct,osl,rfl,lk,hcd⟩:=F.ex
 refine fn_of lk hcd S len fun A outer s H vs Q E hr hsp=>?_
 obtain⟨t,h,q⟩:=hbody cdv A outer s H vs Q E hr hsp
 rwa[t,h.nox,q]
theorem FunD.okC{P:Program}{w:World}{K:Jw}{mg:Str->Option Value}{base:Heap}{x qual:Str}{st:Stmt}{f:Addr}{fd:FuncData}{N ps:List Str}{k:Nat}{sp:Sp}(F:FunD K x qual st f fd)(S:kat N ps (kah st))(len:∀vs H Q E,sp vs H Q E->vs.length=ps.length)
  (hbody:∀(A:Around)(outer:List Env)(s:Shared)(H:Hp)(vs:List V)(Q:VK)(E:XK),Room k (A.deeper (PyProof.Rows.envOfC qual (kah st) s.heap.objs.size f fd.code))->sp vs H Q E->
   ∃t,PSs (cxOf CX0 P w K mg base N qual (kah st) f fd.code A outer s H E).nox (kaD st) t/\t {nx:=fun _ H'=>Q .non H',rt:=Q} (start N vs) H):FnOk P w K mg base CX0 (k+1) f fd ps sp:=by
 obtain⟨oc,od,dV,kV,doc,pm,an,cdv,ct,osl,rfl,lk,hcd⟩:=F.ex
 refine fn_of lk hcd S len fun A outer s H vs Q E hr hsp=>?_
 obtain⟨t,h,q⟩:=hbody A outer s H vs Q E hr hsp
 rwa[t,h.nox,q]
theorem kbD{K:Jw}{x qual:Str}{st:Stmt}{f:Addr}{oc:Value}{od an:Option Addr}{osl:Array (Option Value)}{dV kV doc pm cdv ct:Value}(l:K.lookup f>>⟨oc,od, .func (JR x qual (kaE st) (kaD st) (kah st) dV kV doc pm an cdv ct),osl⟩)
  (c:Nf K cdv qual=true)(k:JU K (.ref f)=true):FunD K x qual st f (JR x qual (kaE st) (kaD st) (kah st) dV kV doc pm an cdv ct):=⟨⟨oc,od,dV,kV,doc,pm,an,cdv,ct,osl,rfl,l,c⟩,k⟩
structure Dn(K:Jw)(mg:Str->Option Value)(x:Str)(st:Stmt)(ps:List Str)(f:Addr)(fd:FuncData):Prop where
 F:FunD K x x st f fd
 b:Binds K fd ps []
 m:mg x>>(.ref f)
structure Isi(K:Jw)(C:Addr):Prop where
 ha:Jz K (.ref C) "__class__">>(some (.builtin "object.__class__"))
 hn:Mu K (.builtin "object.__class__") "__get__">>(some (.builtin "getset_descriptor.__get__"))
 ht:Ej K (.builtin "object.__class__")>>true
 hm:JI K C (.type "object")>>true
def kaN{K:Jw}{A B:Addr}{b:Bool}(mA:JI K A (.ref B)>>b)(ob:JI K B (.type "object")>>true)(ty:Nq K (.ref B)>>(.type "type"))(ne:A≠B):JZ K (.ref A) (.ref B)>>b:=by
 have e:(Value.ref A==Value.ref B)=false:=beq_eq_false_iff_ne.mpr fun z=>ne (by injection z)
 obtain⟨cd,a,_⟩:=Option.bind_eq_some_iff.mp ob
 unfold JZ PySem.W.kitCls PySem.W.subIn
 rw[e,if_neg JD]
 show(if((PySem.W.clsIn K B).isSome&&Nq K (.ref B)==some (.type "type"))=true then JI K A (.ref B) else none)>>b
 rw[a,ty,mA,if_pos (by simp)]
def kbv{K:Jw}{A B:Addr}(h:JI K A (.ref B)>>false)(hA:JI K A (.ref A)>>true):A≠B:=fun e=>by
 rw[<-e,hA] at h
 cases h
structure ClsT(K:Jw)(mg:Str->Option Value)(nm:Str)(C:Addr):Prop where
 cl:Cls K C
 m:mg nm>>(.ref C)
 isi:Isi K C
 self:JI K C (.ref C)>>true
 ty:Nq K (.ref C)>>(.type "type")
 makes:Nu K C=true
 kp:JU K (.ref C)=true
structure MthT(K:Jw)(C:Addr)(m qual:Str)(st:Stmt)(ps:List Str)(f:Addr)(fd:FuncData):Prop where
 at_:Jz K (.ref C) m>>(some (.ref f))
 fn:Nt K (.ref f)=true
 F:FunD K m qual st f fd
 b:Binds K fd ps []
def MthT.me{K:Jw}{C:Addr}{m qual:Str}{st:Stmt}{ps:List Str}{f:Addr}{fd:FuncData}(h:MthT K C m qual st ps f fd):Meth K C m f:=⟨h.at_,h.fn,h.F.kp⟩
def MthT.mk'{K:Jw}{mg:Str->Option Value}{C:Addr}{nm qual:Str}{st:Stmt}{ps:List Str}{f:Addr}{fd:FuncData}(h:MthT K C "__init__" qual st ps f fd)(c:ClsT K mg nm C):Mk K C f:=⟨c.makes,h.at_,h.fn,c.kp⟩
section
variable{X:Cx}
theorem pcl{k:Nat}{f:Addr}{fd:FuncData}{ps:List Str}{sp:Sp}{x:Str}{st:Stmt}{e:Expr}{es:List Expr}{t:TA}{p pos:Pos}(F:FnOk X.prog X.w X.K X.mg X.base CX0 k f fd ps sp)(hr:Room k X.A)(D:Dn X.K X.mg x st ps f fd)(ha:PA X (e::es) t)
  (hg:autoParam (Gl X x) jz)(hdb:autoParam ((x==("__debug__" :Str))=false) jQ)(he:autoParam (starEach (e::es) X.env=(false,eval e X.env)::starEach es X.env) jz)(hpl:autoParam ((backTo pos (starEach es X.env)).any (·.1)=false) jz):
  PE X (.Call (.Name x p) (e::es) [] pos) (tCall sp [] E0 t):=kj5 F hr hg D.m D.F.kp D.b .nil pass0 ha hdb he hpl
theorem psl{i:Nat}{x:Str}{e:Expr}{te:TE}{pos pos':Pos}(hN:X.N.Nodup)(he:PE X e te)(hi:autoParam (X.N[i]?>>x) jz)(hx:autoParam (Loc X.env.scope x) jX)(hs:autoParam (swapsWith e (some (.Name x pos')) pos.line X.env=pure false) jz)(hf:autoParam (X.fn x=true∨X.env.scope.names.lookup x>>.local) jX):
  PS X (.Assign [.Name x pos'] e pos) (tAsg te (gName i)):=knr hN hi hx he hs hf
theorem pgn{i:Nat}{x:Str}{pos:Pos}(hN:X.N.Nodup)(hi:autoParam (X.N[i]?>>x) jz)(hx:autoParam (Loc X.env.scope x) jX)(hf:autoParam (X.fn x=true∨X.env.scope.names.lookup x>>.local) jX):PG X (.Name x pos) (gName i):=kmP hN hi hx hf
end
section
variable{X:Cx}
end
section
variable{X:Cx}
def rMinL(K:Jw):List V->Hp->VK->Prop:=fun xs H Q=>∃(p:Addr)(ns:List Int),xs=[.ref p]/\SqL K H p (ns.map V.int)/\ns≠[]/\∀m,m∈ns->(∀z∈ns,m<=z)->Q (.int m) H
theorem kix{zs:Array (Int×Tok)}{ns:List Int}(e:zs.toList.map (·.1)=ns)(i:Nat):numAt zs i=ns.getD i 0:=by
 subst e
 unfold numAt
 rw[JM,JF]
 simp
theorem kkV(hc:X.calm=true):CallR X (.builtin "min") (rMinL X.K):=by
 intro pins s σ H xs us Q I r h
 obtain⟨p,ns,rfl,hq,hne,q⟩:=h
 obtain⟨u,rfl,rx⟩:=vals1 r
 cases rx
 obtain⟨its,r',pl,hz⟩:=I.list hq
 have hi:IntsAre its ns:=intsAre_of r'
 have ha:=hi.allInts
 obtain⟨zs,hx⟩:=ha.items
 have hl:=pl.isList
 rw[hx] at hl
 have e3:numsOf its.toArray.toList=ns:=hi.numsOf
 rw[hx,nums_intItems] at e3
 have hsz:zs.size=ns.length:=by rw[<-e3];simp
 have hpos:0<ns.length:=List.length_pos_iff.mpr hne
 obtain⟨b1,b2⟩:=argBest_lt (numAt zs) (zs.size-1)
 refine min_intList (I.ok.hd hc) hl (by lia) fun v h' tk hv hk=>?_
 obtain⟨t,rfl⟩:=intItems_at hv
 rwa[.int _,H,I.kept hk,⟨t,rfl⟩,q _ ?_ fun z hzm=>?_]
 ·rw[kix e3,JM]
  obtain⟨y,ey⟩:∃y,ns[argBest (fun i j=>decide (numAt zs i<numAt zs j)) (zs.size-1)]?>>y:=⟨_,Nw (by lia)⟩
  rw[ey]
  exact JB ey
 ·obtain⟨j,hj,rfl⟩:=Ew hzm
  have:=b2 j (by lia)
  rw[kix e3 j,JM,Nw hj] at this
  exact this
end
end L2
namespace War
structure Row where
 kd:Int
 pr:Int
 mn:Int
 ex:Option Int
structure Row.Ok(r:Row):Prop where
 pr0:0<=r.pr
 pr1:r.pr<=1000000000000
 mn0:0<=r.mn
 mn1:r.mn<=60
 ex0:∀z,r.ex>>z->0<=z/\z<=1000000000000
noncomputable def prc(m:Bool)(r:Row):Int:=if m=true then r.ex.getD r.pr else r.pr
noncomputable def own(rs:List Row):List Int:=(rs.zipIdx.map fun p=>JE p.1.mn.toNat (p.2:Int)).flatten
noncomputable def prs(m:Bool)(rs:List Row):List Int:=(rs.map fun r=>JE r.mn.toNat (prc m r)).flatten
def kll(rs:List Row)(r:Row):own (rs++[r])=own rs++JE r.mn.toNat (rs.length:Int):=by
 unfold own
 rw[List.zipIdx_append,JC,MY]
 simp
def klh(m:Bool)(rs:List Row)(r:Row):prs m (rs++[r])=prs m rs++JE r.mn.toNat (prc m r):=by
 unfold prs
 rw[JC,MY]
 simp
theorem kir:∀(rs:List Row)(k:Nat),(∀r∈rs,r.Ok)->((rs.zipIdx k).map fun p=>JE p.1.mn.toNat (p.2:Int)).flatten.length<=60*rs.length
 |[],_,_=>by simp
 |r::rs,k,h=>by
  have h1:=kir rs (k+1) fun x hx=>h x (JQ _ hx)
  have h2:=(h r JS).mn1
  rw[Ex,JG,J9,JN,N7,Nb]
  show r.mn.toNat+_<=_
  lia
def kj8(rs:List Row)(h:∀r∈rs,r.Ok):(own rs).length<=60*rs.length:=kir rs 0 h
theorem kj0(m:Bool):∀(rs:List Row),(∀r∈rs,r.Ok)->(prs m rs).length<=60*rs.length
 |[],_=>by simp[prs]
 |r::rs,h=>by
  have h1:=kj0 m rs fun x hx=>h x (JQ _ hx)
  have h2:=(h r JS).mn1
  unfold prs at h1⊢
  rw[JG,J9,JN,N7,Nb]
  lia
def kl8{m:Bool}{r:Row}(h:r.Ok):0<=prc m r/\prc m r<=1000000000000:=by
 unfold prc
 split
 ·cases e:r.ex with
  |none=>exact⟨h.pr0,h.pr1⟩
  |some z=>exact h.ex0 z e
 ·rwa[h.pr0,h.pr1]
def take_snoc{α:Type}{rs:List α}{i:Nat}{r: α}(h:rs[i]?>>r):rs.take (i+1)=rs.take i++[r]:=by
 rw[NQ,h]
 rfl
end War
namespace Kin
def Good(ps:List (Option Nat)):Prop:=∀(i k:Nat),ps[i]?>>(some k)->k<i
noncomputable def anc(ps:List (Option Nat)):Nat->Nat->List Nat
 |0,_=>[]
 |f+1,i=>i::(match ps[i]? with|some (some k)=>anc ps f k|_=>[])
noncomputable def up(ps:List (Option Nat))(i:Nat):List Nat:=anc ps (i+1) i
theorem klV{ps:List (Option Nat)}(g:Good ps):∀(f f' i:Nat),i<f->i<f'->anc ps f i=anc ps f' i:=by
 intro f
 induction f with
 |zero=>intro f' i h;lia
 | succ f ih=>
  intro f' i h h'
  cases f' with
  |zero=>lia
  | succ f'=>
   show i::_=i::_
   congr 1
   cases e:ps[i]? with
   |none=>rfl
   | some o=>
    cases o with
    |none=>rfl
    |some k=>
     have hk:=g i k e
     exact ih f' k (by lia) (by lia)
def kmA{ps:List (Option Nat)}(g:Good ps){i k:Nat}(e:ps[i]?>>(some k)):up ps i=i::up ps k:=by
 have hk:=g i k e
 show i::_=_
 rw[e]
 show i::anc ps i k=i::up ps k
 rw[klV g i (k+1) k hk (by lia)]
 rfl
def kmB{ps:List (Option Nat)}{i:Nat}(e:ps[i]?>>none):up ps i=[i]:=by
 show i::_=_
 rw[e]
noncomputable def rest(ps:List (Option Nat)):Option Nat->List Nat
 |none=>[]
 |some k=>up ps k
noncomputable def left:Option Nat->Nat
 |none=>0
 |some k=>k+1
theorem up_eq{ps:List (Option Nat)}(g:Good ps){i:Nat}{o:Option Nat}(e:ps[i]?>>o):up ps i=i::rest ps o:=by
 cases o with
 |none=>exact kmB e
 |some k=>exact kmA g e
def klG:Good []:=fun i k e=>by simp at e
def kkG{ps:List (Option Nat)}(g:Good ps){o:Option Nat}(h:∀k,o>>k->k<ps.length):Good (ps++[o]):=by
 intro i k e
 rcases Nat.lt_trichotomy i ps.length with hi|hi|hi
 ·rw[Mv hi] at e
  exact g i k e
 ·subst hi
  rw[Ml (Jx _)] at e
  simp at e
  exact h k e
 ·rw[Ml (by lia)] at e
  have:(i-ps.length)≠0:=by lia
  cases q:i-ps.length with
  |zero=>lia
  |succ n=>rw[q] at e;simp at e
end Kin
namespace Deal
noncomputable def pre(ws:List Int)(k:Nat):Int:=(ws.take k).sum
noncomputable def part(c:Int)(ws:List Int)(j:Nat):Int:=c*pre ws (j+1)/ws.sum-c*pre ws j/ws.sum
noncomputable def dl(c:Int)(ws:List Int):List Int:=if ws.sum=0 then ws.map (fun _=>0) else(Jy ws.length).map (part c ws)
def kip(ws:List Int):pre ws 0=0:=by simp[pre]
def khC(ws:List Int):pre ws ws.length=ws.sum:=by simp[pre]
def kew{ws:List Int}{i:Nat}{w:Int}(h:ws[i]?>>w):pre ws (i+1)=pre ws i+w:=by
 unfold pre
 rw[NQ,h]
 simp
def kfh(c:Int)(ws:List Int):(dl c ws).length=ws.length:=by
 unfold dl
 split <;> simp
theorem kgA(c:Int)(ws:List Int):∀k,((Jy k).map (part c ws)).sum=c*pre ws k/ws.sum
 |0=>by simp[kip]
 |k+1=>by
  rw[Nk,JC,NC,kgA c ws k]
  simp[part]
  lia
def kno{c:Int}{ws:List Int}(h:0<ws.sum):(dl c ws).sum=c:=by
 unfold dl
 rw[if_neg (by lia),kgA,khC,Int.mul_ediv_cancel _ (by lia)]
theorem kmE{c:Int}{ws:List Int}(h:ws.sum=0):(dl c ws).sum=0:=by
 unfold dl
 rw[if_pos h]
 clear h
 induction ws with
 |nil=>rfl
 |cons w ws ih=>simpa using ih
def dl_at{c:Int}{ws:List Int}(h:¬ws.sum=0){j:Nat}(hj:j<ws.length):(dl c ws)[j]?>>(part c ws j):=by
 unfold dl
 rw[if_neg h]
 simp[hj]
def kkL{c:Int}{ws:List Int}(h:ws.sum=0){j:Nat}(hj:j<ws.length):(dl c ws)[j]?>>0:=by
 unfold dl
 rw[if_pos h]
 simp[hj]
def Nn(ws:List Int):Prop:=∀w∈ws,0<=w
theorem kbl:∀{ws:List Int},Nn ws->0<=ws.sum
 |[],_=>by simp
 |w::ws,h=>by
  have:=kbl (ws:=ws) fun x hx=>h x (JQ _ hx)
  have h1:=h w JS
  simp
  lia
theorem kj6{c s A w:Int}(hs:0<s)(hc:0<=c)(hcs:c<=s)(hw:0<=w):0<=c*(A+w)/s-c*A/s/\c*(A+w)/s-c*A/s<=w/\
  (c*(A+w)/s-c*A/s)*s-c*w<s/\-s<(c*(A+w)/s-c*A/s)*s-c*w:=by
 have e:c*(A+w)=c*A+c*w:=Int.mul_add ..
 rw[e]
 generalize hx:c*A=x
 have h1:0<=c*w:=Int.mul_nonneg hc hw
 have h2:c*w<=w*s:=by
  rw[Int.mul_comm w s]
  exact Int.mul_le_mul_of_nonneg_right hcs hw
 generalize hy:c*w=y at h1 h2
 have m1:x/s<=(x+y)/s:=Int.ediv_le_ediv hs (by lia)
 have m2:(x+y)/s<=(x+w*s)/s:=Int.ediv_le_ediv hs (by lia)
 rw[Int.add_mul_ediv_right _ _ (by lia)] at m2
 have d1:=Int.emod_add_mul_ediv x s
 have d2:=Int.emod_add_mul_ediv (x+y) s
 have r1:=Int.emod_nonneg x (show s≠0 by lia)
 have r2:=Int.emod_lt_of_pos x hs
 have r3:=Int.emod_nonneg (x+y) (show s≠0 by lia)
 have r4:=Int.emod_lt_of_pos (x+y) hs
 have e3:((x+y)/s-x/s)*s=s*((x+y)/s)-s*(x/s):=by
  rw[Int.sub_mul,Int.mul_comm,Int.mul_comm (x/s)]
 rw[e3]
 rwa[by lia,by lia,by lia,by lia]
end Deal
namespace Vs
open Kin Deal
structure Mks where
 kind:Option Nat
 needs:Int
 most:Option Int
 member:Bool
 once:Bool
 lone:Bool
inductive Srt
 |off (a:Int)
 |share (s:Int) (b:Bool)
 |cheap (n:Int)
 |bund (n p:Int)
 |carr
structure Vch where
 so:Srt
 ms:Mks
structure Stnd where
 ow:List Nat
 pr:List Int
 cg:Int
 mkd:List Bool
noncomputable def kHit(ps:List (Option Nat))(kind:Option Nat)(kd:Nat):Bool:=match kind with
 |none=>true
 |some k=>decide (k∈up ps kd)
noncomputable def hits(ps:List (Option Nat))(kds:List Nat)(kind:Option Nat)(lone:Bool)(mkd:List Bool)(l:Nat):Bool:=
 kHit ps kind (kds.getD l 0)&&(!lone|| !(mkd.getD l false))
noncomputable def abt(ps:List (Option Nat))(kds:List Nat)(kind:Option Nat)(lone:Bool)(S:Stnd):List Nat:=
 (Jy S.ow.length).filter fun i=>hits ps kds kind lone S.mkd (S.ow.getD i 0)
def kfQ{ps:List (Option Nat)}{kds:List Nat}{kind:Option Nat}{lone:Bool}{S:Stnd}{i:Nat}(h:i∈abt ps kds kind lone S):i<S.ow.length:=by
 have:=(JT.mp h).1
 simpa using this
def kfm(ps:List (Option Nat))(kds:List Nat)(kind:Option Nat)(lone:Bool)(S:Stnd):(abt ps kds kind lone S).Nodup:=NH.filter _ Mn
def kd8(ps:List (Option Nat))(kds:List Nat)(kind:Option Nat)(lone:Bool)(S:Stnd):(abt ps kds kind lone S).length<=S.ow.length:=by
 have:=NR (fun i=>hits ps kds kind lone S.mkd (S.ow.getD i 0)) (Jy S.ow.length)
 simpa[abt] using this
noncomputable def qs(pr:List Int)(is:List Nat):List Int:=is.map fun i=>pr.getD i 0
def kbs(pr:List Int)(is:List Nat):(qs pr is).length=is.length:=by simp[qs]
noncomputable def spr(n:Nat)(is:List Nat)(vs:List Int):List Int:=(Jy n).map fun i=>((is.zip vs).lookup i).getD 0
def kdm(n:Nat)(is:List Nat)(vs:List Int):(spr n is vs).length=n:=by simp[spr]
def kjq(n:Nat)(vs:List Int):spr n [] vs=JE n 0:=by
 unfold spr
 apply Me
 ·simp
 ·intro i h1 h2
  simp
theorem khJ{l:List (Nat×Int)}{i j:Nat}{v:Int}(h:∀p∈l,p.1≠i):(l++[(i,v)]).lookup j=if j=i then some v else l.lookup j:=by
 induction l with
 | nil=>
  simp only[NG,Nj,List.lookup_nil]
  by_cases e:j=i
  ·subst e;simp
  ·have:(j==i)=false:=beq_eq_false_iff_ne.mpr e
   simp[this,e]
 | cons p l ih=>
  obtain⟨k,w⟩:=p
  have ih':=ih fun q hq=>h q (JQ _ hq)
  have hk:k≠i:=h (k,w) JS
  simp only[Mz,Nj]
  by_cases e:j=k
  ·subst e
   simp[hk]
  ·have:(j==k)=false:=beq_eq_false_iff_ne.mpr e
   simp only[this]
   exact ih'
theorem kjp{n:Nat}{is:List Nat}{vs:List Int}(hn:is.Nodup){k i:Nat}{v:Int}(h1:is[k]?>>i)(h2:vs[k]?>>v)(hi:i<n):
  (spr n (is.take k) (vs.take k)).set i v=spr n (is.take (k+1)) (vs.take (k+1)):=by
 have e1:is.take (k+1)=is.take k++[i]:=by rw[NQ,h1];rfl
 have e2:vs.take (k+1)=vs.take k++[v]:=by rw[NQ,h2];rfl
 have hk1:k<is.length:=(JK.mp h1).1
 have hk2:k<vs.length:=(JK.mp h2).1
 have ez:(is.take (k+1)).zip (vs.take (k+1))=(is.take k).zip (vs.take k)++[(i,v)]:=by
  rw[e1,e2,List.zip_append (by simp;lia)]
  rfl
 have hne:∀p∈(is.take k).zip (vs.take k),p.1≠i:=fun p hp e=>by
  have hm:p.1∈is.take k:=(N6 hp).1
  rw[e] at hm
  obtain⟨j,hj,ej⟩:=Ew hm
  rw[JV] at hj
  rw[List.getElem_take] at ej
  have e3:is[k]=i:=by
   obtain⟨_,q⟩:=JK.mp h1
   exact q
  exact Md.mp hn j k (by lia) hk1 (by lia) (by rw[ej,e3])
 apply Me
 ·simp[spr]
 ·intro j h3 h4
  have hj:j<n:=by simpa[spr] using h4
  rw[List.getElem_set]
  simp only[spr,MA,MZ]
  rw[ez,khJ hne]
  by_cases e:i=j
  ·subst e;simp
  ·have:¬j=i:=fun z=>e z.symm
   simp[e,this]
def bef(q:List Int)(a b:Nat):Prop:=q.getD b 0<q.getD a 0∨(q.getD a 0=q.getD b 0/\a<b)
def Fall(q:List Int)(r:List Nat):Prop:=r.Perm (Jy q.length)/\r.Pairwise (bef q)
def klT{q:List Int}{a b:Nat}(h:bef q a b)(h':bef q b a):False:=by
 unfold bef at h h'
 lia
theorem keO{R:Nat->Nat->Prop}(asym:∀a b,R a b->R b a->False):∀{l l':List Nat},l.Perm l'->l.Pairwise R->l'.Pairwise R->l=l'
 |[],l',p,_,_=>(List.nil_perm.mp p).symm
 | a ::l,l',p,h,h'=>by
  cases l' with
  |nil=>exact absurd p.length_eq (by simp)
  | cons b l'=>
   have hab:a=b:=by
    rcases Classical.em (a=b) with e|e
    ·exact e
    ·have ha:a∈b::l':=p.mem_iff.mp JS
     have hb:b∈a::l:=p.mem_iff.mpr JS
     rcases JY.mp ha with e1|ha
     ·exact absurd e1 e
     ·rcases JY.mp hb with e2|hb
      ·exact absurd e2.symm e
      ·exact(asym a b ((Mo.mp h).1 b hb) ((Mo.mp h').1 a ha)).elim
   subst hab
   congr 1
   exact keO asym (M0.cons_inv p) (Mo.mp h).2 (Mo.mp h').2
def khS{q:List Int}{r r':List Nat}(h:Fall q r)(h':Fall q r'):r=r':=
 keO (fun _ _ a b=>klT a b) (h.1.trans h'.1.symm) h.2 h'.2
noncomputable def grp(n:Nat)(r:List Nat):List (List Nat):=(Jy (r.length/n)).map fun g=>(r.drop (g*n)).take n
def Le2(xs ys:List Int):Prop:=xs.length=ys.length/\∀(j:Nat)(v w:Int),xs[j]?>>v->ys[j]?>>w->0<=v/\v<=w
def Le2.nil:Le2 [] []:=⟨rfl,fun j v w e=>by simp at e⟩
def Le2.self{xs:List Int}(h:Nn xs):Le2 xs xs:=⟨rfl,fun j v w e1 e2=>by
 rw[e1] at e2
 cases e2
 exact⟨h v (JB e1),Int.le_refl _⟩⟩
def Le2.nn{xs ys:List Int}(h:Le2 xs ys):Nn xs:=fun v hv=>by
 obtain⟨j,hj,e⟩:=Ew hv
 exact(h.2 j v (ys[j]'(by rw[<-h.1];exact hj)) (by simp[hj,e]) (by simp[show j<ys.length by rw[<-h.1];exact hj])).1
def Le2.trans{xs ys zs:List Int}(h:Le2 xs ys)(h':Le2 ys zs):Le2 xs zs:=⟨h.1.trans h'.1,fun j v w e1 e2=>by
 have hj:j<xs.length:=(JK.mp e1).1
 have e3:ys[j]?>>(ys[j]'(by rw[<-h.1];exact hj)):=by simp[show j<ys.length by rw[<-h.1];exact hj]
 have a:=h.2 j v _ e1 e3
 have b:=h'.2 j _ w e3 e2
 lia⟩
def Le2.append{xs ys xs' ys':List Int}(h:Le2 xs ys)(h':Le2 xs' ys'):Le2 (xs++xs') (ys++ys'):=by
 rwa[by simp[h.1,h'.1],fun j v w e1 e2=>?_]
 have hl:=h.1
 rcases Nat.lt_or_ge j xs.length with hj|hj
 ·rw[Mv hj] at e1
  rw[Mv (by lia)] at e2
  exact h.2 j v w e1 e2
 ·rw[Ml hj] at e1
  rw[Ml (by lia),<-hl] at e2
  exact h'.2 _ v w e1 e2
theorem Le2.sum:∀{xs ys:List Int},Le2 xs ys->0<=xs.sum/\xs.sum<=ys.sum
 |[],[],_=>by simp
 |[],_::_,h=>by have:=h.1;simp at this
 |_::_,[],h=>by have:=h.1;simp at this
 |x::xs,y::ys,h=>by
  have h0:=h.2 0 x y rfl rfl
  have h1:Le2 xs ys:=⟨by simpa using h.1,fun j v w e1 e2=>h.2 (j+1) v w (by simpa using e1) (by simpa using e2)⟩
  have h2:=Le2.sum h1
  simp
  lia
def dl_le{c:Int}{ws:List Int}(hn:Nn ws)(h0:0<=c)(h1:c<=ws.sum):Le2 (dl c ws) ws:=by
 rwa[kfh c ws,fun j v w e1 e2=>?_]
 have hj:j<ws.length:=(JK.mp e2).1
 have hw:=hn w (JB e2)
 by_cases hs:ws.sum=0
 ·rw[kkL hs hj] at e1
  cases e1
  rwa[Int.le_refl _,hw]
 ·rw[dl_at hs hj] at e1
  cases e1
  have hp:0<ws.sum:=by
   have:=kbl hn
   lia
  have q:=kj6 (A:=pre ws j) hp h0 h1 hw
  unfold part
  rw[kew e2]
  rwa[q.1,q.2.1]
theorem kdb{is:List Nat}{vs:List Int}{i:Nat}{v:Int}(h:(is.zip vs).lookup i>>v):∃k:Nat,is[k]?>>i/\vs[k]?>>v:=by
 induction is generalizing vs with
 |nil=>simp at h
 | cons a is ih=>
  cases vs with
  |nil=>simp at h
  | cons b vs=>
   simp only[List.zip_cons_cons,Nj] at h
   by_cases e:i=a
   ·subst e
    simp at h
    rwa[0,6,by simp[h]]
   ·have:(i==a)=false:=beq_eq_false_iff_ne.mpr e
    rw[this] at h
    obtain⟨k,h1,h2⟩:=ih h
    rwa[k+1,by simpa using h1,by simpa using h2]
theorem kfx{pr:List Int}{is:List Nat}{vs:List Int}(hn:Nn pr)(hv:Le2 vs (qs pr is)):Le2 (spr pr.length is vs) pr:=by
 rwa[kdm _ _ _,fun j v w e1 e2=>?_]
 have hj:j<pr.length:=(JK.mp e2).1
 have hw:=hn w (JB e2)
 have e3:v=((is.zip vs).lookup j).getD 0:=by
  simp[spr,hj] at e1
  exact e1.symm
 cases e4:(is.zip vs).lookup j with
 |none=>
  rw[e4] at e3
  subst e3
  rwa[Int.le_refl _,hw]
 |some u=>
  rw[e4] at e3
  have e3':v=u:=e3
  subst e3'
  obtain⟨k,h1,h2⟩:=kdb e4
  refine hv.2 k v w h2 ?_
  simp only[qs,JF,h1,N3]
  rw[JM,e2]
  rfl
theorem qs_nn{pr:List Int}(hn:Nn pr)(is:List Nat):Nn (qs pr is):=fun v hv=>by
 obtain⟨i,_,rfl⟩:=JP.mp hv
 rw[JM]
 cases e:pr[i]? with
 |none=>exact Int.le_refl _
 |some w=>exact hn w (JB e)
noncomputable def leQ(q:List Int)(a b:Nat):Bool:=decide (q.getD b 0<q.getD a 0∨(q.getD a 0=q.getD b 0/\a<=b))
noncomputable def ordQ(q:List Int):List Nat:=(Jy q.length).mergeSort (leQ q)
def kcW(q:List Int):(ordQ q).Perm (Jy q.length):=List.mergeSort_perm _ _
def kdw(q:List Int):Fall q (ordQ q):=by
 rwa[kcW q,?_]
 have h1:(ordQ q).Pairwise (fun a b=>leQ q a b=true):=List.pairwise_mergeSort (le:=leQ q) (fun a b c h h'=>by simp only[leQ,decide_eq_true_eq] at *;lia) (fun a b=>by simp only[leQ,En,decide_eq_true_eq];lia) _
 have h2:(ordQ q).Nodup:=(kcW q).nodup_iff.mpr Mn
 refine(h1.and h2).imp fun {a b} h=>?_
 have h3:=h.1
 have h4:a≠b:=h.2
 simp only[leQ,decide_eq_true_eq] at h3
 unfold bef
 lia
noncomputable def gdl(cut:Int->Int)(gs:List (List Nat))(q:List Int):List Int:=spr q.length gs.flatten ((gs.map fun g=>dl (cut (qs q g).sum) (qs q g)).flatten)
def kgP(q:List Int)(a b:List Nat):qs q (a++b)=qs q a++qs q b:=by simp[qs]
theorem kmn{cut:Int->Int}{gs:List (List Nat)}{q:List Int}(hn:Nn q)(hc:∀s,0<=s->0<=cut s/\cut s<=s):Le2 (gdl cut gs q) q:=by
 refine kfx hn ?_
 induction gs with
 |nil=>exact Le2.nil
 |cons g gs ih=>
  rw[JG,J9,J9,kgP]
  have h:=hc _ (kbl (qs_nn hn g))
  exact(dl_le (qs_nn hn g) h.1 h.2).append ih
noncomputable def kbm(n:Nat)(lines:List Nat):List (List Nat):=(Jy n).map fun l=>(Jy lines.length).filter fun k=>lines.getD k 0==l
noncomputable def lasts(gs:List (List Nat)):List Nat:=gs.map fun g=>g.getLastD 0
noncomputable def want(so:Srt)(n:Nat)(lines:List Nat)(q:List Int):List Int:=match so with
 | .off a=>dl (min a q.sum) q
 | .share s false=>dl (q.sum*s/1000) q
 | .share s true=>gdl (fun z=>z*s/1000) (kbm n lines) q
 | .cheap m=>spr q.length (lasts (grp m.toNat (ordQ q))) (qs q (lasts (grp m.toNat (ordQ q))))
 | .bund m p=>gdl (fun z=>max 0 (z-p)) (grp m.toNat (ordQ q)) q
 | .carr=>JE q.length 0
noncomputable def fee(so:Srt)(cg:Int):Int:=match so with
 | .carr=>cg
 |_=>0
def SrtOk:Srt->Prop
 | .off a=>0<=a/\a<=1000000000000
 | .share s _=>1<=s/\s<=1000
 | .cheap n=>2<=n/\n<=20
 | .bund n p=>2<=n/\n<=20/\0<=p/\p<=1000000000000
 | .carr=>True
def kdt{z s:Int}(hz:0<=z)(h1:1<=s)(h2:s<=1000):0<=z*s/1000/\z*s/1000<=z:=by
 have a:0<=z*s:=Int.mul_nonneg hz (by lia)
 have b:z*s<=z*1000:=Int.mul_le_mul_of_nonneg_left h2 hz
 lia
def knp{q:List Int}(hn:Nn q):Le2 (JE q.length 0) q:=by
 rwa[by simp,fun j v w e1 e2=>?_]
 have:v=0:=by
  rw[El] at e1
  split at e1
  ·exact(Option.some.inj e1).symm
  ·cases e1
 subst this
 rwa[Int.le_refl _,hn w (JB e2)]
def khl{a:Int}{n:Nat}{lines:List Nat}{q:List Int}(hn:Nn q)(h0:0<=a):Le2 (want (.off a) n lines q) q:=by
 have hs:=kbl hn
 show Le2 (dl (min a q.sum) q) q
 exact dl_le hn (by lia) (by lia)
theorem kfR{s:Int}{e:Bool}{n:Nat}{lines:List Nat}{q:List Int}(hn:Nn q)(h1:1<=s)(h2:s<=1000):Le2 (want (.share s e) n lines q) q:=by
 have hs:=kbl hn
 cases e with
 |false=>
  show Le2 (dl (q.sum*s/1000) q) q
  have h:=kdt hs h1 h2
  exact dl_le hn h.1 h.2
 |true=>
  show Le2 (gdl (fun z=>z*s/1000) (kbm n lines) q) q
  exact kmn hn fun z hz=>kdt hz h1 h2
def kd9{m p:Int}{n:Nat}{lines:List Nat}{q:List Int}(hn:Nn q)(h0:0<=p):Le2 (want (.bund m p) n lines q) q:=by
 show Le2 (gdl (fun z=>max 0 (z-p)) (grp m.toNat (ordQ q)) q) q
 exact kmn hn fun z hz=>⟨by show 0<=max 0 (z-p);lia,by show max 0 (z-p)<=z;lia⟩
def kfS{m:Int}{n:Nat}{lines:List Nat}{q:List Int}(hn:Nn q):Le2 (want (.cheap m) n lines q) q:=by
 show Le2 (spr q.length _ (qs q _)) q
 exact kfx hn (Le2.self (qs_nn hn _))
def kgu{n:Nat}{lines:List Nat}{q:List Int}(hn:Nn q):Le2 (want .carr n lines q) q:=knp hn
theorem khm{so:Srt}{n:Nat}{lines:List Nat}{q:List Int}(hn:Nn q)(ho:SrtOk so):Le2 (want so n lines q) q:=by
 cases so with
 |off a=>exact khl hn ho.1
 |share s e=>exact kfR hn ho.1 ho.2
 |cheap m=>exact kfS hn
 |bund m p=>exact kd9 hn ho.2.2.1
 |carr=>exact kgu hn
noncomputable def cap(most:Option Int)(w:List Int)(f:Int):List Int×Int:=match most with
 |none=>(w,f)
 |some m=>if m<w.sum+f then(dl (min m w.sum) w,min f m) else(w,f)
theorem kmt{most:Option Int}{w q:List Int}{f cg:Int}(h:Le2 w q)(hf:0<=f/\f<=cg)(hm:∀m,most>>m->0<=m):Le2 (cap most w f).1 q/\0<=(cap most w f).2/\(cap most w f).2<=cg:=by
 unfold cap
 cases most with
 |none=>exact⟨h,hf⟩
 |some m=>
  have h0:=hm m rfl
  have hs:=kbl h.nn
  simp only
  split
  ·rwa[(dl_le h.nn (by lia) (by lia)).trans h,by simp only;lia,by simp only;lia]
  ·rwa[h,hf]
noncomputable def cutM(V:Vch)(ps:List (Option Nat))(kk:List Nat)(S:Stnd):List Int×Int:=
 let is:=abt ps kk V.ms.kind V.ms.lone S
 let c:=cap V.ms.most (want V.so S.mkd.length (is.map fun i=>S.ow.getD i 0) (qs S.pr is)) (fee V.so S.cg)
 (spr S.pr.length is c.1,c.2)
def kiM{V:Vch}{ps:List (Option Nat)}{kk:List Nat}{S:Stnd}(hn:Nn S.pr)(hc:0<=S.cg)(ho:SrtOk V.so)(hm:∀m,V.ms.most>>m->0<=m):Le2 (cutM V ps kk S).1 S.pr/\0<=(cutM V ps kk S).2/\(cutM V ps kk S).2<=S.cg:=by
 have hf:0<=fee V.so S.cg/\fee V.so S.cg<=S.cg:=by
  unfold fee
  split <;> lia
 have h:=kmt (most:=V.ms.most) (khm (n:=S.mkd.length) (lines:=(abt ps kk V.ms.kind V.ms.lone S).map fun i=>S.ow.getD i 0) (qs_nn hn (abt ps kk V.ms.kind V.ms.lone S)) ho) hf hm
 rwa[kfx hn h.1,h.2]
noncomputable def kdL(ow:List Nat)(c:List Int)(l:Nat):Bool:=(Jy ow.length).any fun i=>ow.getD i 0==l&&decide (0<c.getD i 0)
noncomputable def aftM(V:Vch)(ps:List (Option Nat))(kk:List Nat)(S:Stnd):Stnd:=
 ⟨S.ow,Nl (· - ·) S.pr (cutM V ps kk S).1,S.cg-(cutM V ps kk S).2,(Jy S.mkd.length).map fun l=>S.mkd.getD l false||(V.ms.lone&&kdL S.ow (cutM V ps kk S).1 l)⟩
def kmw{V:Vch}{ps:List (Option Nat)}{kk:List Nat}{S:Stnd}(hn:Nn S.pr)(hc:0<=S.cg)(ho:SrtOk V.so)(hm:∀m,V.ms.most>>m->0<=m):Le2 (aftM V ps kk S).pr S.pr/\0<=(aftM V ps kk S).cg/\(aftM V ps kk S).cg<=S.cg:=by
 have h:=kiM (ps:=ps) (kk:=kk) hn hc ho hm
 rwa[⟨?_,fun j v w e1 e2=>?_⟩,?_,?_]
 ·show(Nl _ _ _).length=_
  rw[M1,h.1.1]
  lia
 ·have hj:j<S.pr.length:=(JK.mp e2).1
  have hj2:j<(cutM V ps kk S).1.length:=by rw[h.1.1];exact hj
  have e3:(cutM V ps kk S).1[j]?>>((cutM V ps kk S).1[j]):=by simp[hj2]
  have b:=h.1.2 j _ w e3 e2
  have e4:(Nl (· - ·) S.pr (cutM V ps kk S).1)[j]?>>(w-(cutM V ps kk S).1[j]):=by
   rw[M3,e2,e3]
  have e1':(Nl (· - ·) S.pr (cutM V ps kk S).1)[j]?>>v:=e1
  rw[e4] at e1'
  cases e1'
  lia
 ·show 0<=S.cg-_
  have:=h.2
  lia
 ·show S.cg-_<=S.cg
  have:=h.2
  lia
def kg9{m:Nat}{r:List Nat}{i:Nat}{g:List Nat}(h:(grp m r)[i]?>>g):i*m+m<=r.length/\g.length=m/\∀j,j<m->g[j]?=r[i*m+j]?:=by
 unfold grp at h
 rw[JF] at h
 have hi:i<r.length/m:=by
  rcases Nat.lt_or_ge i (r.length/m) with q|q
  ·exact q
  ·rw[Mp (by simpa using q)] at h
   cases h
 rw[Mq hi] at h
 cases h
 have hle:i*m+m<=r.length:=by
  have h1:(i+1)*m<=r.length/m*m:=Nat.mul_le_mul_right m hi
  have h2:=Nat.div_mul_le_self r.length m
  rw[Nat.add_mul,Nat.one_mul] at h1
  lia
 rwa[hle,by rw[JV,Mm];lia,fun j hj=>?_]
 rw[EL hj,List.getElem?_drop]
theorem ke9{m:Nat}{r:List Nat}{i:Nat}{g:List Nat}(hm:0<m)(h:(grp m r)[i]?>>g):r[i*m+(m-1)]?>>(g.getLastD 0):=by
 obtain⟨hle,hl,hg⟩:=kg9 h
 rw[<-hg (m-1) (by lia)]
 cases g with
 |nil=>simp at hl;lia
 |cons x xs=>
  have e:(x::xs).getLastD 0=(x::xs).getLast (by simp):=by simp[List.getLastD]
  rw[e,List.getLast_eq_getElem,JK]
  rwa[by lia,?_]
  congr 1
  lia
def kiE{gs:List (List Nat)}{i:Nat}{g:List Nat}(h:gs[i]?>>g):(lasts gs)[i]?>>(g.getLastD 0):=by
 unfold lasts
 rw[JF,h]
 rfl
def kdI(gs:List (List Nat)):(lasts gs).length=gs.length:=by simp[lasts]
def ke8{m:Nat}{r:List Nat}(hm:0<m)(hr:r.Nodup):(lasts (grp m r)).Nodup:=by
 refine Md.mpr fun i j hi hj hij e=>?_
 rw[kdI] at hi hj
 have e1:(grp m r)[i]?>>(grp m r)[i]:=by simp[hi]
 have e2:(grp m r)[j]?>>(grp m r)[j]:=by simp[hj]
 have a1:=ke9 hm e1
 have a2:=ke9 hm e2
 have b1:=kiE e1
 have b2:=kiE e2
 obtain⟨_,c1⟩:=JK.mp b1
 obtain⟨_,c2⟩:=JK.mp b2
 rw[c1,c2] at e
 rw[e] at a1
 obtain⟨l1,d1⟩:=JK.mp a1
 obtain⟨l2,d2⟩:=JK.mp a2
 have hlt:i*m+(m-1)<j*m+(m-1):=by
  have:=Nat.mul_lt_mul_of_pos_right hij hm
  lia
 exact Md.mp hr _ _ l1 l2 hlt (by rw[d1,d2])
def kfG(q:List Int):(ordQ q).Nodup:=(kcW q).nodup_iff.mpr Mn
def khF{q:List Int}{i:Nat}(h:i∈ordQ q):i<q.length:=by
 have:=(kcW q).mem_iff.mp h
 simpa using this
def kk9{n:Nat}{is:List Nat}{vs:List Int}{i:Nat}{v:Int}(hl:is.length=vs.length)(hn:(is++[i]).Nodup)(hi:i<n):(spr n is vs).set i v=spr n (is++[i]) (vs++[v]):=by
 have h:=kjp (n:=n) (is:=is++[i]) (vs:=vs++[v]) hn (k:=is.length) (i:=i) (v:=v) (by simp) (by rw[hl];simp) hi
 rw[List.take_left' rfl,List.take_left' hl.symm,N9 (by simp),N9 (by simp[hl])] at h
 exact h
def keF{gs:List (List Nat)}(h:gs.flatten.Nodup){i k a:Nat}{g:List Nat}(hg:gs[i]?>>g)(hk:g[k]?>>a):((gs.take i).flatten++g.take k++[a]).Nodup:=by
 have e:gs=gs.take i++g::gs.drop (i+1):=by
  obtain⟨hi,eg⟩:=JK.mp hg
  rw[<-eg,ES hi,ET]
 have e2:g=(g.take k++[a])++g.drop (k+1):=by
  obtain⟨hk',ek⟩:=JK.mp hk
  rw[Nc,List.singleton_append,<-ek,ES hk',ET]
 rw[e,MY,J9] at h
 rw[Nc]
 refine h.sublist (M4.append_left ?_ _)
 refine M4.trans ?_ (Ey g _)
 conv=>rhs;rw[e2]
 exact Ey _ _
theorem klF{m:Nat}(r:List Nat):(grp m r).flatten=r.take (r.length/m*m):=by
 unfold grp
 have hle:r.length/m*m<=r.length:=Nat.div_mul_le_self _ _
 generalize r.length/m=c at *
 induction c with
 |zero=>simp
 |succ c ih=>
  have h1:c*m+m<=r.length:=by rw[<-Nat.succ_mul];exact hle
  rw[Nk,JC,MY,ih (by lia)]
  simp only[JG,NZ,J9,List.flatten_nil,J8]
  rw[show(c+1)*m=c*m+m by rw[Nat.add_mul,Nat.one_mul],List.take_add]
def kg8{m:Nat}{r:List Nat}(h:r.Nodup):(grp m r).flatten.Nodup:=by
 rw[klF]
 exact h.sublist (List.take_sublist _ _)
theorem kdk{is:List Nat}(hn:is.Nodup){k i:Nat}(hk:is[k]?>>i):∀(l:List (Nat×Int)),(∀p∈l,p.1<is.length)->(l.map fun p=>(is.getD p.1 0,p.2)).lookup i=l.lookup k
 |[],_=>rfl
 | (j,v)::l,h=>by
  have ih:=kdk hn hk l fun p hp=>h p (JQ _ hp)
  have hj:j<is.length:=h (j,v) JS
  obtain⟨hk',ek⟩:=JK.mp hk
  have e:is.getD j 0=is[j]:=by rw[JM];simp[hj]
  simp only[JG,Nj,e]
  by_cases q:k=j
  ·subst q
   simp[ek]
  ·have h1:(k==j)=false:=by simp[q]
   have h2:(i==is[j])=false:=by
    refine beq_eq_false_iff_ne.mpr fun z=>q ?_
    exact(Ef hn).mp (by rw[ek,z])
   rw[h1,h2]
   exact ih
theorem lookup_none{is:List Nat}{i:Nat}(hi:∀k:Nat,is[k]?≠some i):∀(l:List (Nat×Int)),(∀p∈l,p.1<is.length)->(l.map fun p=>(is.getD p.1 0,p.2)).lookup i=none
 |[],_=>rfl
 |(j,v)::l,h=>by
  have ih:=lookup_none hi l fun p hp=>h p (JQ _ hp)
  have hj:j<is.length:=h (j,v) JS
  have e:is.getD j 0=is[j]:=by rw[JM];simp[hj]
  have h2:(i==is[j])=false:=beq_eq_false_iff_ne.mpr fun z=>hi j (by rw[z];simp[hj])
  simp only[JG,Nj,e,h2]
  exact ih
theorem ke4{is:List Nat}(hn:is.Nodup){k i:Nat}(hk:is[k]?>>i):∀{vs:List Int},is.length=vs.length->(is.zip vs).lookup i=vs[k]?:=by
 induction is generalizing k with
 |nil=>simp at hk
 | cons a is ih=>
  intro vs hl
  cases vs with
  |nil=>simp at hl
  | cons v vs=>
   rw[List.zip_cons_cons,Nj]
   cases k with
   |zero=>
    have:a=i:=by simpa using hk
    subst this
    simp
   |succ k=>
    have hk':is[k]?>>i:=by simpa using hk
    have hh:=NO.mp hn
    have hne:(i==a)=false:=beq_eq_false_iff_ne.mpr fun z=>hh.1 (z▸JB hk')
    rw[hne]
    simpa using ih hh.2 hk' (by simpa using hl)
def khn{n:Nat}{is js:List Nat}{vs:List Int}(hn:is.Nodup)(hj:∀j∈js,j<is.length):spr n is (spr is.length js vs)=spr n (js.map fun j=>is.getD j 0) vs:=by
 apply Me
 ·simp[spr]
 intro i h1 h2
 have ez:(js.map fun j=>is.getD j 0).zip vs=(js.zip vs).map fun p=>(is.getD p.1 0,p.2):=by rw[List.zip_map_left];rfl
 have hp:∀p∈js.zip vs,p.1<is.length:=fun p hp=>hj _ (N6 hp).1
 simp only[spr,MA,MZ]
 rw[ez]
 by_cases hk:∃k:Nat,is[k]?>>i
 ·obtain⟨k,hk⟩:=hk
  have hkl:=(JK.mp hk).1
  rw[kdk hn hk _ hp,ke4 hn hk (by simp)]
  simp[hkl]
 ·rw[lookup_none (fun k e=>hk ⟨k,e⟩) _ hp]
  have:((is.zip ((Jy is.length).map fun i=>((js.zip vs).lookup i).getD 0)).lookup i)=none:=by
   rw[List.lookup_eq_none_iff]
   intro p hp'
   have:=(N6 hp').1
   obtain⟨k,ek⟩:=NV.mp this
   have hne:i≠p.1:=fun z=>hk ⟨k,by rw[ek,<-z]⟩
   simpa using hne
  rw[this]
noncomputable def owns(n:Nat)(ow:List Nat)(is:List Nat):List (List Nat):=(Jy n).map fun l=>is.filter fun i=>ow.getD i 0==l
def kfj(n:Nat)(ow is:List Nat):(kbm n (is.map fun i=>ow.getD i 0)).map (fun g=>g.map fun j=>is.getD j 0)=owns n ow is:=by
 unfold kbm owns
 rw[JO]
 refine NA fun l _=>?_
 show(((Jy _).filter _).map fun j=>is.getD j 0)=_
 have e:is=(Jy is.length).map fun j=>is.getD j 0:=by
  apply Me
  ·simp
  ·intro j h1 h2
   simp[JM,h1]
 conv=>rhs;rw[e]
 rw[List.filter_map,Jv]
 congr 1
 refine List.filter_congr fun k hk=>?_
 have hk':k<is.length:=by simpa using hk
 simp[JM,hk']
def qs_qs{pr:List Int}{ab g:List Nat}(h:∀j∈g,j<ab.length):qs (qs pr ab) g=qs pr (g.map fun j=>ab.getD j 0):=by
 unfold qs
 rw[JO]
 refine NA fun j hj=>?_
 have:=h j hj
 simp[JM,this]
def kfk{n:Nat}{lines:List Nat}{g:List Nat}(hg:g∈kbm n lines){j:Nat}(hj:j∈g):j<lines.length:=by
 obtain⟨l,_,rfl⟩:=JP.mp hg
 have:=(JT.mp hj).1
 simpa using this
def khW{n N:Nat}{ow ab:List Nat}{pr:List Int}(cut:Int->Int)(hn:ab.Nodup):spr n ab (gdl cut (kbm N (ab.map fun i=>ow.getD i 0)) (qs pr ab))=spr n (owns N ow ab).flatten ((owns N ow ab).map fun o=>dl (cut (qs pr o).sum) (qs pr o)).flatten:=by
 unfold gdl
 rw[kbs,khn hn fun j hj=>?_,List.map_flatten,kfj]
 ·congr 2
  rw[<-kfj,JO]
  refine NA fun g hg=>?_
  have e:=qs_qs (pr:=pr) (ab:=ab) (g:=g) fun j hj=>by simpa using kfk hg hj
  show dl (cut (qs (qs pr ab) g).sum) (qs (qs pr ab) g)=dl (cut (qs pr (g.map fun j=>ab.getD j 0)).sum) (qs pr (g.map fun j=>ab.getD j 0))
  rw[e]
 ·obtain⟨g,hg,hj'⟩:=NS.mp hj
  simpa using kfk hg hj'
section
variable{p:Nat->Bool}{n:Nat}{w:List Int}
noncomputable def cnt(p:Nat->Bool)(j:Nat):Nat:=((Jy j).filter p).length
theorem kkS{j:Nat}(h:p j=true):cnt p (j+1)=cnt p j+1:=by
 unfold cnt
 rw[Nk,NI,JN]
 simp[h]
theorem kmr{j:Nat}(h:p j=false):cnt p (j+1)=cnt p j:=by
 unfold cnt
 rw[Nk,NI,JN]
 simp[h]
theorem kc2:∀{n j:Nat},j<n->p j=true->((Jy n).filter p)[cnt p j]?>>j
 |0,j,h,_=>by lia
 | n+1,j,h,hp=>by
  rw[Nk,NI]
  by_cases hj:j<n
  ·have ih:=kc2 hj hp
   rw[Mv (JK.mp ih).1]
   exact ih
  ·have e:j=n:=by lia
   subst e
   unfold cnt
   rw[Ml (Jx _)]
   simp[hp]
theorem kl0(hl:w.length=cnt p n){j:Nat}(hj:j<n):(spr n ((Jy n).filter p) w)[j]?>>(if p j=true then w.getD (cnt p j) 0 else 0):=by
 unfold spr
 rw[JF,Mq hj]
 show some _>>_
 congr 1
 show(NM j (((Jy n).filter p).zip w)).getD 0=_
 cases hp:p j with
 |true=>
  rw[ke4 (NH.filter _ Mn) (kc2 hj hp) hl.symm,if_pos rfl,JM]
 | false=>
  rw[if_neg JD]
  cases e:(((Jy n).filter p).zip w).lookup j with
  |none=>rw[Em]
  |some v=>
   obtain⟨k,hk,_⟩:=kdb e
   have:=(JT.mp (JB hk)).2
   rw[hp] at this
   cases this
theorem kf5(hl:w.length=cnt p n):∀j,j<=n->pre (spr n ((Jy n).filter p) w) j=pre w (cnt p j)
 |0,_=>by simp[pre,cnt]
 | j+1,h=>by
  have ih:=kf5 hl j (by lia)
  rw[kew (kl0 hl (show j<n by lia)),ih]
  cases hp:p j with
  |true=>
   have hk:=(JK.mp (kc2 (show j<n by lia) hp)).1
   have hk':cnt p j<w.length:=by rw[hl];exact hk
   rw[if_pos rfl,kkS hp,kew (w:=w.getD (cnt p j) 0) (by rw[JM,Nw hk'];rfl)]
  |false=>rw[if_neg JD,kmr hp,Int.add_zero]
theorem kjj(hl:w.length=cnt p n):(spr n ((Jy n).filter p) w).sum=w.sum:=by
 have h:=kf5 hl n (Jx _)
 rw[<-hl,khC] at h
 have e:pre (spr n ((Jy n).filter p) w) n=(spr n ((Jy n).filter p) w).sum:=by
  have:=khC (spr n ((Jy n).filter p) w)
  rw[kdm] at this
  exact this
 rw[<-e,h]
theorem knK(m:Int)(hl:w.length=cnt p n):dl m (spr n ((Jy n).filter p) w)=spr n ((Jy n).filter p) (dl m w):=by
 have hl2:(dl m w).length=cnt p n:=by rw[kfh,hl]
 have hs:=kjj hl
 apply List.ext_getElem?
 intro j
 by_cases hj:j<n
 ·rw[kl0 hl2 hj]
  have hjF:j<(spr n ((Jy n).filter p) w).length:=by rw[kdm];exact hj
  by_cases h0:w.sum=0
  ·rw[kkL (hs.trans h0) hjF]
   cases hp:p j with
   |false=>rw[if_neg JD]
   |true=>
    have hk:=(JK.mp (kc2 hj hp)).1
    rw[if_pos rfl,JM,kkL h0 (by rw[hl];exact hk)]
    rfl
  ·rw[dl_at (by rw[hs];exact h0) hjF]
   unfold part
   rw[hs,kf5 hl j (by lia),kf5 hl (j+1) (by lia)]
   cases hp:p j with
   |false=>rw[if_neg JD,kmr hp,Int.sub_self]
   |true=>
    have hk:=(JK.mp (kc2 hj hp)).1
    rw[if_pos rfl,JM,dl_at h0 (by rw[hl];exact hk),kkS hp]
    rfl
 ·rw[Mp (by rw[kfh,kdm];lia),Mp (by rw[kdm];lia)]
end
def knc{c:Int}{n:Nat}:dl c (JE n 0)=JE n 0:=by
 have e:(JE n (0:Int)).sum=0:=by simp
 unfold dl
 rw[if_pos e]
 simp
theorem klP{V:Vch}{ps:List (Option Nat)}{kk:List Nat}{S:Stnd}(e:V.ms.most=none):
  (cutM V ps kk S).1=spr S.pr.length (abt ps kk V.ms.kind V.ms.lone S) (want V.so S.mkd.length ((abt ps kk V.ms.kind V.ms.lone S).map fun i=>S.ow.getD i 0) (qs S.pr (abt ps kk V.ms.kind V.ms.lone S))):=by
 unfold cutM cap
 rw[e]
theorem klO{V:Vch}{ps:List (Option Nat)}{kk:List Nat}{S:Stnd}(hl:S.pr.length=S.ow.length)
  (hw:Le2 (want V.so S.mkd.length ((abt ps kk V.ms.kind V.ms.lone S).map fun i=>S.ow.getD i 0) (qs S.pr (abt ps kk V.ms.kind V.ms.lone S))) (qs S.pr (abt ps kk V.ms.kind V.ms.lone S))){m:Int}(e:V.ms.most>>m)(h0:0<=m):
  (cutM V ps kk S).1=if(spr S.pr.length (abt ps kk V.ms.kind V.ms.lone S) (want V.so S.mkd.length ((abt ps kk V.ms.kind V.ms.lone S).map fun i=>S.ow.getD i 0) (qs S.pr (abt ps kk V.ms.kind V.ms.lone S)))).sum > m
   then dl m (spr S.pr.length (abt ps kk V.ms.kind V.ms.lone S) (want V.so S.mkd.length ((abt ps kk V.ms.kind V.ms.lone S).map fun i=>S.ow.getD i 0) (qs S.pr (abt ps kk V.ms.kind V.ms.lone S))))
   else spr S.pr.length (abt ps kk V.ms.kind V.ms.lone S) (want V.so S.mkd.length ((abt ps kk V.ms.kind V.ms.lone S).map fun i=>S.ow.getD i 0) (qs S.pr (abt ps kk V.ms.kind V.ms.lone S))):=by
 have hwl:=hw.1
 rw[kbs] at hwl
 have ea:abt ps kk V.ms.kind V.ms.lone S=(Jy S.pr.length).filter fun i=>hits ps kk V.ms.kind V.ms.lone S.mkd (S.ow.getD i 0):=by rw[hl];rfl
 have ez:V.so=.carr->(want V.so S.mkd.length ((abt ps kk V.ms.kind V.ms.lone S).map fun i=>S.ow.getD i 0) (qs S.pr (abt ps kk V.ms.kind V.ms.lone S)))=JE (qs S.pr (abt ps kk V.ms.kind V.ms.lone S)).length 0:=fun z=>by rw[z];rfl
 unfold cutM cap
 rw[e]
 simp only
 generalize want V.so S.mkd.length ((abt ps kk V.ms.kind V.ms.lone S).map fun i=>S.ow.getD i 0) (qs S.pr (abt ps kk V.ms.kind V.ms.lone S))=w at *
 rw[ea] at hwl⊢
 rw[kjj hwl,knK m hwl]
 by_cases hc:V.so=.carr
 ·have hz:=ez hc
  have hs:w.sum=0:=by rw[hz];simp
  rw[if_neg (by lia:¬w.sum > m)]
  split
  ·simp only
   rw[hz,knc]
  ·rfl
 ·have hf:fee V.so S.cg=0:=by
   unfold fee
   split
   ·rename_i z
    exact absurd z hc
   ·rfl
  rw[hf,Int.add_zero]
  by_cases hm:m<w.sum
  ·rw[if_pos hm,if_pos hm]
   simp only
   rw[Int.min_eq_left (by lia)]
  ·rw[if_neg hm,if_neg hm]
noncomputable def ins:List (Nat×List Nat)->Nat->Nat->List (Nat×List Nat)
 |[],o,a=>[(o,[a])]
 |(l,g)::G,o,a=>if l=o then(l,g++[a])::G else(l,g)::ins G o a
noncomputable def parted(f:Nat->Nat)(is:List Nat):List (Nat×List Nat):=is.foldl (fun G a=>ins G (f a) a) []
def keR(f:Nat->Nat)(is:List Nat)(a:Nat):parted f (is++[a])=ins (parted f is) (f a) a:=by
 unfold parted
 rw[List.foldl_append]
 rfl
theorem keB:∀(G:List (Nat×List Nat))(o a:Nat),(ins G o a).map Prod.fst=if o∈G.map Prod.fst then G.map Prod.fst else G.map Prod.fst++[o]
 |[],o,a=>by simp[ins]
 | (l,g)::G,o,a=>by
  unfold ins
  by_cases h:l=o
  ·subst h
   simp
  ·rw[if_neg h,JG,keB G o a]
   show _=if o∈l::G.map Prod.fst then l::G.map Prod.fst else(l::G.map Prod.fst)++[o]
   have h':¬o=l:=fun z=>h z.symm
   by_cases hm:o∈G.map Prod.fst
   ·rw[if_pos hm,if_pos (JQ _ hm)]
   ·rw[if_neg hm,if_neg (by rw[JY,not_or];exact⟨h',hm⟩)]
    rfl
theorem kkA:∀{G:List (Nat×List Nat)}{o a l:Nat}{g:List Nat},(G.map Prod.fst).Nodup->(l,g)∈ins G o a->(l≠o/\(l,g)∈G)∨(l=o/\((∃g',(o,g')∈G/\g=g'++[a])∨(o∉G.map Prod.fst/\g=[a])))
 |[],o,a,l,g,_,h=>by
  unfold ins at h
  rw[Nz] at h
  cases h
  exact .inr ⟨rfl, .inr ⟨by simp,rfl⟩⟩
 | (k,g0)::G,o,a,l,g,hn,h=>by
  unfold ins at h
  rw[JG,NO] at hn
  by_cases e:k=o
  ·rw[if_pos e] at h
   subst e
   rcases JY.mp h with z|z
   ·cases z
    exact .inr ⟨rfl, .inl ⟨g0,JS,rfl⟩⟩
   ·refine .inl ⟨fun w=>?_,JQ _ z⟩
    subst w
    exact hn.1 (JP.mpr ⟨(l,g),z,rfl⟩)
  ·rw[if_neg e] at h
   rcases JY.mp h with z|z
   ·cases z
    exact .inl ⟨e,JS⟩
   ·rcases kkA hn.2 z with⟨w1,w2⟩|⟨w1,⟨g',w2,w3⟩|⟨w2,w3⟩⟩
    ·exact .inl ⟨w1,JQ _ w2⟩
    ·exact .inr ⟨w1, .inl ⟨g',JQ _ w2,w3⟩⟩
    ·refine .inr ⟨w1, .inr ⟨?_,w3⟩⟩
     rw[JG,JY,not_or]
     rwa[fun z=>e z.symm,w2]
structure PtOk(f:Nat->Nat)(is:List Nat)(G:List (Nat×List Nat)):Prop where
 nd:(G.map Prod.fst).Nodup
 gs:∀l g,(l,g)∈G->g=is.filter fun i=>f i==l
 all:∀i∈is,f i∈G.map Prod.fst
theorem kfE(f:Nat->Nat):∀(n:Nat)(is:List Nat),is.length=n->PtOk f is (parted f is)
 |0,is,h=>by
  have e:is=[]:=List.eq_nil_of_length_eq_zero h
  subst e
  rwa[by simp[parted],fun l g hg=>by simp[parted] at hg,fun i hi=>by simp at hi]
 | n +1,is,h=>by
  have hne:is≠[]:=by
   intro z
   subst z
   cases h
  obtain⟨is',a,rfl⟩:∃is' a,is=is'++[a]:=⟨is.dropLast,is.getLast hne,(List.dropLast_concat_getLast hne).symm⟩
  have ih:=kfE f n is' (by simpa using h)
  rw[keR]
  rwa[?_,fun l g hg=>?_,fun i hi=>?_]
  ·rw[keB]
   split
   ·exact ih.nd
   ·rename_i hm
    exact Ez.mpr ⟨ih.nd,by simp,fun x hx y hy=>by
     rw[Nz] at hy
     subst hy
     exact fun z=>hm (by rw[<-z];exact hx)⟩
  ·rw[NI]
   rcases kkA ih.nd hg with⟨w1,w2⟩|⟨w1,⟨g',w2,w3⟩|⟨w2,w3⟩⟩
   ·rw[ih.gs l g w2]
    have:(f a==l)=false:=by simpa using fun z=>w1 z.symm
    simp[this]
   ·subst w1 w3
    rw[ih.gs _ g' w2]
    simp
   ·subst w1 w3
    have e:is'.filter (fun i=>f i==f a)=[]:=by
     rw[List.filter_eq_nil_iff]
     intro i hi z
     have z':f i=f a:=by simpa using z
     exact w2 (by rw[<-z'];exact ih.all i hi)
    rw[e]
    simp
  ·rw[keB]
   rcases Na.mp hi with hi|hi
   ·have:=ih.all i hi
    split
    ·exact this
    ·exact MF _ this
   ·rw[Nz] at hi
    subst hi
    split
    ·assumption
    ·exact Nm _ (by simp)
def kcV(f:Nat->Nat)(is:List Nat):PtOk f is (parted f is):=kfE f is.length is rfl
def PtOk.snds{f:Nat->Nat}{is:List Nat}{G:List (Nat×List Nat)}(h:PtOk f is G):G.map Prod.snd=(G.map Prod.fst).map fun l=>is.filter fun i=>f i==l:=by
 rw[JO]
 refine NA fun p hp=>?_
 exact h.gs p.1 p.2 hp
theorem ki5{l l':List (Nat×Int)}{i:Nat}:(l++l').lookup i=(l.lookup i).or (l'.lookup i):=by
 induction l with
 |nil=>simp
 |cons p l ih=>
  obtain⟨a,b⟩:=p
  rw[Mz,Nj,Nj,ih]
  split <;> rfl
theorem kfJ{l:List (Nat×Int)}{i:Nat}(h:∀p∈l,p.1≠i):l.lookup i=none:=by
 induction l with
 |nil=>rfl
 | cons p l ih=>
  obtain⟨a,b⟩:=p
  have h1:(i==a)=false:=by
   have:=h (a,b) JS
   simpa using fun z=>this z.symm
  rw[Nj,h1]
  exact ih fun q hq=>h q (JQ _ hq)
section
variable{f:Nat->Nat}{is:List Nat}{D:List Nat->List Int}
theorem kmx{l i:Nat}{vs:List Int}(h:f i≠l):((is.filter fun i=>f i==l).zip vs).lookup i=none:=
 kfJ fun p hp=>by
  have h1:=(N6 (show(p.1,p.2)∈_ from hp)).1
  have h2:f p.1=l:=by simpa using(JT.mp h1).2
  intro z
  rw[z] at h2
  exact h h2
theorem kee(hD:∀g,(D g).length=g.length)(i:Nat):∀(ks:List Nat),ks.Nodup->
  (((ks.map fun l=>is.filter fun i=>f i==l).flatten).zip ((ks.map fun l=>D (is.filter fun i=>f i==l)).flatten)).lookup i=if f i∈ks then((is.filter fun j=>f j==f i).zip (D (is.filter fun j=>f j==f i))).lookup i else none
 |[],_=>by simp
 | l::ks,hn=>by
  rw[NO] at hn
  have ih:=kee hD i ks hn.2
  rw[JG,JG,J9,J9,List.zip_append (hD _).symm,ki5,ih]
  by_cases h:f i=l
  ·subst h
   rw[if_neg hn.1,if_pos JS,Option.or_none]
  ·rw[kmx h,Option.none_or]
   by_cases hm:f i∈ks
   ·rw[if_pos hm,if_pos (JQ _ hm)]
   ·rw[if_neg hm,if_neg (by rw[JY,not_or];exact⟨h,hm⟩)]
theorem kiZ(hD:∀g,(D g).length=g.length){n:Nat}{ks ks':List Nat}(hn:ks.Nodup)(hn':ks'.Nodup)(h:∀i∈is,f i∈ks)(h':∀i∈is,f i∈ks'):
  spr n (ks.map fun l=>is.filter fun i=>f i==l).flatten (ks.map fun l=>D (is.filter fun i=>f i==l)).flatten=spr n (ks'.map fun l=>is.filter fun i=>f i==l).flatten (ks'.map fun l=>D (is.filter fun i=>f i==l)).flatten:=by
 unfold spr
 refine NA fun i _=>?_
 have key:∀ks:List Nat,ks.Nodup->(∀i∈is,f i∈ks)->(((ks.map fun l=>is.filter fun i=>f i==l).flatten).zip ((ks.map fun l=>D (is.filter fun i=>f i==l)).flatten)).lookup i=((is.filter fun j=>f j==f i).zip (D (is.filter fun j=>f j==f i))).lookup i:=fun ks hn hk=>by
  rw[kee hD i ks hn]
  by_cases hm:f i∈ks
  ·rw[if_pos hm]
  ·rw[if_neg hm,kfJ fun p hp=>?_]
   have h1:=(N6 (show(p.1,p.2)∈_ from hp)).1
   obtain⟨h2,h3⟩:=JT.mp h1
   exact fun _=>hm (by rw[<-(show f p.1=f i by simpa using h3)];exact hk _ h2)
 rw[key ks hn h,key ks' hn' h']
theorem keQ(hi:is.Nodup):∀{ks:List Nat},ks.Nodup->(ks.map fun l=>is.filter fun i=>f i==l).flatten.Nodup
 |[],_=>by simp
 |l::ks,hn=>by
  rw[NO] at hn
  rw[JG,J9]
  refine Ez.mpr ⟨hi.filter _,keQ hi hn.2,fun x hx y hy z=>?_⟩
  subst z
  have h1:f x=l:=by simpa using(JT.mp hx).2
  obtain⟨g,hg,hy⟩:=NS.mp hy
  obtain⟨l',hl',rfl⟩:=JP.mp hg
  have h2:f x=l':=by simpa using(JT.mp hy).2
  exact hn.1 (by rw[<-h1,h2];exact hl')
end
theorem ki0{n N:Nat}{ow ab:List Nat}{pr:List Int}(cut:Int->Int)(hn:ab.Nodup)(hN:∀i∈ab,ow.getD i 0<N):
  spr n ((parted (fun i=>ow.getD i 0) ab).map Prod.snd).flatten (((parted (fun i=>ow.getD i 0) ab).map Prod.snd).map fun g=>dl (cut (qs pr g).sum) (qs pr g)).flatten=spr n ab (gdl cut (kbm N (ab.map fun i=>ow.getD i 0)) (qs pr ab)):=by
 have ok:=kcV (fun i=>ow.getD i 0) ab
 rw[khW cut hn,ok.snds]
 generalize hks:(parted (fun i=>ow.getD i 0) ab).map Prod.fst=ks at *
 have nd:ks.Nodup:=by rw[<-hks];exact ok.nd
 have al:∀i∈ab,ow.getD i 0∈ks:=by rw[<-hks];exact ok.all
 unfold owns
 rw[JO,JO]
 exact kiZ (f:=fun i=>ow.getD i 0) (is:=ab) (D:=fun g=>dl (cut (qs pr g).sum) (qs pr g)) (fun g=>by rw[kfh,kbs]) nd Mn al fun i hi=>by simpa using hN i hi
def kfF(f:Nat->Nat):∀(is:List Nat),(parted f is).length<=is.length:=by
 intro is
 have key:∀(is:List Nat)(G:List (Nat×List Nat)),(is.foldl (fun G a=>ins G (f a) a) G).length<=G.length+is.length:=by
  intro is
  induction is with
  |nil=>intro G;simp
  | cons a is ih=>
   intro G
   have h1:=ih (ins G (f a) a)
   have h2:(ins G (f a) a).length<=G.length+1:=by
    have:=congrArg Ny (keB G (f a) a)
    rw[Jv] at this
    rw[this]
    split <;> simp
   rw[List.foldl_cons,Nb]
   lia
 simpa[parted] using key is []
noncomputable def fallP(pr:List Int)(is:List Nat):List Nat:=(ordQ (qs pr is)).map fun j=>is.getD j 0
def range_getD(is:List Nat):(Jy is.length).map (fun j=>is.getD j 0)=is:=by
 apply Me
 ·simp
 ·intro j h1 h2
  simp[JM,h2]
def kbL(pr:List Int)(is:List Nat):(fallP pr is).Perm is:=by
 have h:=(kcW (qs pr is)).map fun j=>is.getD j 0
 rw[kbs,range_getD] at h
 exact h
def befP(pr:List Int)(a b:Nat):Prop:=pr.getD b 0<pr.getD a 0∨(pr.getD a 0=pr.getD b 0/\a<b)
def klL{pr:List Int}{is:List Nat}(hs:is.Pairwise (· < ·)):(fallP pr is).Pairwise (befP pr):=by
 have h:=(kdw (qs pr is)).2
 have hm:=(kdw (qs pr is)).1
 unfold fallP
 rw[MD]
 refine h.imp_of_mem fun {a b} ha hb hab=>?_
 have la:a<is.length:=by simpa[kbs] using hm.mem_iff.mp ha
 have lb:b<is.length:=by simpa[kbs] using hm.mem_iff.mp hb
 have ea:(qs pr is).getD a 0=pr.getD (is.getD a 0) 0:=by simp[qs,JM,la]
 have eb:(qs pr is).getD b 0=pr.getD (is.getD b 0) 0:=by simp[qs,JM,lb]
 unfold bef at hab
 unfold befP
 rw[ea,eb] at hab
 rcases hab with z|⟨z1,z2⟩
 ·exact .inl z
 ·refine .inr ⟨z1,?_⟩
  have:=Md.mp hs a b la lb z2
  simpa[JM,la,lb] using this
def ki9{pr:List Int}{is ks:List Nat}(hs:is.Pairwise (· < ·))(hp:ks.Perm is)(hk:ks.Pairwise (befP pr)):ks=fallP pr is:=
 keO (R:=befP pr) (fun a b h h'=>by unfold befP at h h';lia) (hp.trans (kbL pr is).symm) hk (klL hs)
def kkE(m:Nat)(f:Nat->Nat)(r:List Nat):grp m (r.map f)=(grp m r).map fun g=>g.map f:=by
 unfold grp
 rw[Jv,JO]
 refine NA fun g _=>?_
 show((r.map f).drop _).take _=((r.drop _).take _).map f
 rw[Mx,Eo]
def khP{m:Nat}{r g:List Nat}(h:g∈grp m r):∀j∈g,j∈r:=fun j hj=>by
 obtain⟨i,_,rfl⟩:=JP.mp h
 exact List.mem_of_mem_drop (M5 hj)
theorem kkF{n:Nat}{ab:List Nat}{pr:List Int}(cut:Int->Int)(hn:ab.Nodup)(gs:List (List Nat))(hg:∀g∈gs,∀j∈g,j<ab.length):
  spr n ab (gdl cut gs (qs pr ab))=spr n (gs.map fun g=>g.map fun j=>ab.getD j 0).flatten ((gs.map fun g=>g.map fun j=>ab.getD j 0).map fun o=>dl (cut (qs pr o).sum) (qs pr o)).flatten:=by
 unfold gdl
 rw[kbs,khn hn fun j hj=>?_,List.map_flatten,JO]
 ·congr 2
  refine NA fun g hg'=>?_
  have e:=qs_qs (pr:=pr) (ab:=ab) (g:=g) (hg g hg')
  show dl (cut (qs (qs pr ab) g).sum) (qs (qs pr ab) g)=dl (cut (qs pr (g.map fun j=>ab.getD j 0)).sum) (qs pr (g.map fun j=>ab.getD j 0))
  rw[e]
 ·obtain⟨g,hg',hj'⟩:=NS.mp hj
  exact hg g hg' j hj'
def kma{pr:List Int}{is:List Nat}{m:Nat}{g:List Nat}(h:g∈grp m (ordQ (qs pr is))):∀j∈g,j<is.length:=fun j hj=>by
 have:=khF (khP h j hj)
 rwa [kbs] at this
theorem klS{n m:Nat}{is:List Nat}{pr:List Int}(cut:Int->Int)(hn:is.Nodup):
  spr n is (gdl cut (grp m (ordQ (qs pr is))) (qs pr is))=spr n (grp m (fallP pr is)).flatten ((grp m (fallP pr is)).map fun o=>dl (cut (qs pr o).sum) (qs pr o)).flatten:=by
 rw[kkF cut hn _ fun g hg=>kma hg]
 unfold fallP
 rw[kkE]
def kkp{f:Nat->Nat}{gs:List (List Nat)}(h:∀g∈gs,g≠[]):lasts (gs.map fun g=>g.map f)=(lasts gs).map f:=by
 unfold lasts
 rw[JO,JO]
 refine NA fun g hg=>?_
 show(g.map f).getLastD 0=f (g.getLastD 0)
 have hne:=h g hg
 rw[EA,EA,List.getLast?_map,EU hne]
 rfl
def knL(c:Int):dl c [c]=[c]:=by
 unfold dl
 by_cases h:[c].sum=0
 ·rw[if_pos h]
  have:c=0:=by simpa using h
  simp[this]
 ·rw[if_neg h]
  have hc:c≠0:=by simpa using h
  have e:part c [c] 0=c:=by
   unfold part pre
   simp[Int.mul_ediv_cancel _ hc]
  simp[Nk,e]
theorem kjL(f:Nat->Int):∀(l:List Nat),(l.map fun i=>[i]).flatten=l/\(l.map fun i=>[f i]).flatten=l.map f
 |[]=>⟨rfl,rfl⟩
 |a::l=>by
  obtain⟨h1,h2⟩:=kjL f l
  simp[h1,h2]
theorem kkT{n m:Nat}{is:List Nat}{pr:List Int}(hm:0<m)(hn:is.Nodup):
  spr n is (spr (qs pr is).length (lasts (grp m (ordQ (qs pr is)))) (qs (qs pr is) (lasts (grp m (ordQ (qs pr is))))))=spr n (lasts (grp m (fallP pr is))) ((lasts (grp m (fallP pr is))).map fun i=>pr.getD i 0):=by
 have ne:∀g∈grp m (ordQ (qs pr is)),g≠[]:=fun g hg z=>by
  obtain⟨i,hi⟩:=NV.mp hg
  have:=(kg9 hi).2.1
  rw[z] at this
  simp at this
  lia
 have hl:∀j∈lasts (grp m (ordQ (qs pr is))),j<is.length:=fun j hj=>by
  obtain⟨g,hg,rfl⟩:=JP.mp hj
  refine kma hg _ ?_
  rw[EA,EU (ne g hg)]
  exact List.getLast_mem _
 rw[kbs,khn hn hl,qs_qs hl]
 have e:lasts (grp m (fallP pr is))=(lasts (grp m (ordQ (qs pr is)))).map fun j=>is.getD j 0:=by
  unfold fallP
  rw[kkE,kkp ne]
 rw[e]
 rfl
def spr_zero{n k:Nat}{is:List Nat}:spr n is (JE k 0)=JE n 0:=by
 unfold spr
 apply Me
 ·simp
 ·intro j h1 h2
  simp only[MA,MZ,List.getElem_replicate]
  cases e:(is.zip (JE k (0:Int))).lookup j with
  |none=>rfl
  |some v=>
   obtain⟨i,_,hv⟩:=kdb e
   have:=List.eq_of_mem_replicate (JB hv)
   rw[this]
   rfl
def kfd{pr:List Int}{is:List Nat}(hn:is.Nodup):(fallP pr is).Nodup:=(kbL pr is).nodup_iff.mpr hn
def khQ(m:Nat)(r:List Nat):(grp m r).length<=r.length:=by
 unfold grp
 rw[Jv,List.length_range]
 exact Nat.div_le_self _ _
noncomputable def atMost(m:Option Int)(n:Int):Int:=match m with
 |none=>n
 |some z=>min z n
noncomputable def rwm(so:Srt)(cg s:Int):Int:=match so with
 | .off a=>min a s
 | .share h _=>s*h/1000
 | .cheap m=>s/m
 | .bund _ _=>s
 | .carr=>cg
noncomputable def kbE(V:Vch)(ps:List (Option Nat))(kk:List Nat)(S:Stnd):Int:=
 atMost V.ms.most (rwm V.so S.cg (qs S.pr (abt ps kk V.ms.kind V.ms.lone S)).sum)
theorem sum_set:∀{l:List Int}{i:Nat}{u v:Int},l[i]?>>u->(l.set i v).sum=l.sum-u+v
 |[],i,u,v,h=>by simp at h
 |a::l,0,u,v,h=>by
  have e:a=u:=by simpa using h
  subst e
  simp only[List.set_cons_zero,J0]
  lia
 |a::l,i+1,u,v,h=>by
  have e:l[i]?>>u:=by simpa using h
  simp only[EB,J0]
  rw[sum_set e]
  lia
def kc7{n:Nat}{is:List Nat}(hn:is.Nodup)(hl:∀i∈is,i<n){vs:List Int}(he:is.length=vs.length):(spr n is vs).sum=vs.sum:=by
 have h:∀k,k<=is.length->(spr n (is.take k) (vs.take k)).sum=(vs.take k).sum:=by
  intro k
  induction k with
  |zero=>intro _;rw[List.take_zero,List.take_zero,kjq];simp
  | succ k ih=>
   intro hk
   obtain⟨i,ei⟩:∃i,is[k]?>>i:=⟨is[k]'(by lia),by simp⟩
   obtain⟨v,ev⟩:∃v,vs[k]?>>v:=⟨vs[k]'(by lia),by simp⟩
   have hi:=hl i (JB ei)
   rw[<-kjp hn ei ev hi]
   have e0:(spr n (is.take k) (vs.take k))[i]?>>0:=by
    unfold spr
    rw[JF,Mq hi]
    show some _>>_
    congr 1
    cases e:((is.take k).zip (vs.take k)).lookup i with
    |none=>simp only[e];rfl
    | some w=>
     obtain⟨j,h1,_⟩:=kdb e
     rw[EC] at h1
     split at h1
     ·rename_i hj
      have a1:=JK.mp h1
      have a2:=JK.mp ei
      exact absurd ((Ef hn).mp (a1.2.trans a2.2.symm)) (by lia)
     ·cases h1
   rw[sum_set e0,ih (by lia),NQ,ev,NC]
   simp
 have e:=h is.length (Jx _)
 rw[J4,he,J4] at e
 exact e
def kjX{q:List Int}(hq:Nn q){is:List Nat}(hn:is.Nodup)(hl:∀i∈is,i<q.length):(qs q is).sum<=q.sum:=by
 have h:=(kfx hq (Le2.self (qs_nn hq is))).sum
 rw[kc7 hn hl (kbs _ _).symm] at h
 exact h.2
theorem kfW:∀(xs:List (List Int)),xs.flatten.sum=(xs.map List.sum).sum
 |[]=>rfl
 |x::xs=>by simp only[J9,NC,JG,J0];rw[kfW xs]
theorem kjY(q:List Int):∀(gs:List (List Nat)),qs q gs.flatten=(gs.map fun g=>qs q g).flatten
 |[]=>rfl
 |g::gs=>by rw[J9,kgP,JG,J9,kjY q gs]
def kdK{c:Int}{ws:List Int}(h0:0<=c)(hn:Nn ws):(dl c ws).sum<=c:=by
 have hs:=kbl hn
 by_cases e:ws.sum=0
 ·rw[kmE e];exact h0
 ·rw[kno (by lia)];exact Int.le_refl _
theorem km6{cut:Int->Int}{gs:List (List Nat)}{q:List Int}(hg:gs.flatten.Nodup)(hl:∀i∈gs.flatten,i<q.length):
  (gdl cut gs q).sum=(gs.map fun g=>(dl (cut (qs q g).sum) (qs q g)).sum).sum:=by
 unfold gdl
 rw[kc7 hg hl ?_,kfW,JO]
 ·rfl
 ·clear hg hl
  induction gs with
  |nil=>rfl
  |cons g gs ih=>rw[JG,J9,J9,JN,JN,kfh,kbs,ih]
def kfK{gs:List (List Nat)}{q:List Int}(hq:Nn q)(hg:gs.flatten.Nodup)(hl:∀i∈gs.flatten,i<q.length):(gs.map fun g=>(qs q g).sum).sum<=q.sum:=by
 have h:=kjX hq hg hl
 rw[kjY,kfW,JO] at h
 exact h
theorem kdP{α:Type}{f g: α->Int}:∀{l:List α},(∀x∈l,f x<=g x)->(l.map f).sum<=(l.map g).sum
 |[],_=>Int.le_refl _
 |a::l,h=>by
  have h1:=h a JS
  have h2:=kdP (l:=l) fun x hx=>h x (JQ _ hx)
  simp only[JG,J0]
  lia
theorem kgL{s:Int}(h0:0<=s):∀{xs:List Int},Nn xs->(xs.map fun z=>z*s/1000).sum<=xs.sum*s/1000
 |[],_=>by simp
 |x::xs,hn=>by
  have ih:=kgL h0 (xs:=xs) fun w hw=>hn w (JQ _ hw)
  simp only[JG,J0]
  have e:(x+xs.sum)*s=x*s+xs.sum*s:=Int.add_mul _ _ _
  rw[e]
  generalize x*s=u at *
  generalize xs.sum*s=v at *
  lia
def kcG{n:Nat}{lines:List Nat}:(kbm n lines).flatten.Nodup:=by
 refine List.pairwise_flatten.mpr ⟨fun l hl=>?_,?_⟩
 ·obtain⟨k,_,rfl⟩:=JP.mp hl
  exact NH.filter _ Mn
 ·unfold kbm
  refine MD.mpr (MC.imp fun {p q} hlt x hx y hy e=>?_)
  have h1:=(JT.mp hx).2
  have h2:=(JT.mp hy).2
  subst e
  have h1':lines.getD x 0=p:=by simpa using h1
  have h2':lines.getD x 0=q:=by simpa using h2
  lia
def kfu{n:Nat}{lines:List Nat}:∀i∈(kbm n lines).flatten,i<lines.length:=fun i hi=>by
 obtain⟨g,hg,h⟩:=NS.mp hi
 exact kfk hg h
def khR{m:Nat}{q:List Int}:∀i∈(grp m (ordQ q)).flatten,i<q.length:=fun i hi=>by
 obtain⟨g,hg,h⟩:=NS.mp hi
 exact khF (khP hg i h)
theorem least_le{c:Int}:∀{l:List Int},(∀z∈l,c<=z)->c*(l.length:Int)<=l.sum
 |[],_=>by simp
 |a::l,h=>by
  have h1:=h a JS
  have h2:=least_le (l:=l) fun x hx=>h x (JQ _ hx)
  rw[J0,Nb]
  have e:c*((l.length+1:Nat):Int)=c*l.length+c:=by rw[Int.natCast_add,Int.mul_add];simp
  lia
def ki6{m:Nat}(hm:0<m){q:List Int}{g:List Nat}(hg:g∈grp m (ordQ q)):q.getD (g.getLastD 0) 0*(m:Int)<=(qs q g).sum:=by
 obtain⟨i,ei⟩:=NV.mp hg
 obtain⟨h1,h2,h3⟩:=kg9 ei
 have h4:=ke9 hm ei
 have hpw:=(kdw q).2
 have key:∀z∈qs q g,q.getD (g.getLastD 0) 0<=z:=fun z hz=>by
  obtain⟨a,ha,rfl⟩:=JP.mp hz
  obtain⟨j,ej⟩:=NV.mp ha
  have hj:j<m:=by
   have:=(JK.mp ej).1
   lia
  rw[h3 j hj] at ej
  by_cases e:j=m-1
  ·subst e
   rw[ej] at h4
   cases h4
   exact Int.le_refl _
  ·have a1:=JK.mp ej
   have a2:=JK.mp h4
   have hb:=Md.mp hpw (i*m+j) (i*m+(m-1)) a1.1 a2.1 (by lia)
   rw[a1.2,a2.2] at hb
   unfold bef at hb
   show q.getD (g.getLastD 0) 0<=q.getD a 0
   lia
 have:=least_le key
 rw[kbs,h2] at this
 exact this
theorem kk5{so:Srt}{n:Nat}{lines:List Nat}{q:List Int}{cg:Int}(hn:Nn q)(ho:SrtOk so)(hll:lines.length=q.length)(hc:0<=cg):(want so n lines q).sum+fee so cg<=rwm so cg q.sum:=by
 have hs:=kbl hn
 cases so with
 |off a=>
  have ho:0<=a/\_:=ho
  show(dl (min a q.sum) q).sum+0<=min a q.sum
  have:=kdK (c:=min a q.sum) (ws:=q) (by lia) hn
  lia
 | share s e=>
  have ho:1<=s/\s<=1000:=ho
  have hsh:=kdt hs ho.1 ho.2
  cases e with
  |false=>
   show(dl (q.sum*s/1000) q).sum+0<=q.sum*s/1000
   have:=kdK (c:=q.sum*s/1000) (ws:=q) hsh.1 hn
   lia
  | true=>
   show(gdl (fun z=>z*s/1000) (kbm n lines) q).sum+0<=q.sum*s/1000
   have hlt:∀i∈(kbm n lines).flatten,i<q.length:=fun i hi=>by rw[<-hll];exact kfu i hi
   rw[km6 kcG hlt]
   have h1:((kbm n lines).map fun g=>(dl ((qs q g).sum*s/1000) (qs q g)).sum).sum<=((kbm n lines).map fun g=>(qs q g).sum*s/1000).sum:=
    kdP fun g _=>kdK (kdt (kbl (qs_nn hn g)) ho.1 ho.2).1 (qs_nn hn g)
   have h2:=kgL (s:=s) (by lia) (xs:=(kbm n lines).map fun g=>(qs q g).sum) fun z hz=>by
    obtain⟨g,_,rfl⟩:=JP.mp hz
    exact kbl (qs_nn hn g)
   rw[JO] at h2
   have h3:=kfK hn kcG hlt
   have h4:((kbm n lines).map fun g=>(qs q g).sum).sum*s<=q.sum*s:=Int.mul_le_mul_of_nonneg_right h3 (by lia)
   have h5:((kbm n lines).map ((fun z=>z*s/1000)∘fun g=>(qs q g).sum))=(kbm n lines).map fun g=>(qs q g).sum*s/1000:=rfl
   rw[h5] at h2
   show((kbm n lines).map fun g=>(dl ((qs q g).sum*s/1000) (qs q g)).sum).sum+0<=_
   generalize ((kbm n lines).map fun g=>(dl ((qs q g).sum*s/1000) (qs q g)).sum).sum=A at *
   generalize ((kbm n lines).map fun g=>(qs q g).sum*s/1000).sum=B at *
   generalize ((kbm n lines).map fun g=>(qs q g).sum).sum*s=C at *
   generalize q.sum*s=D at *
   lia
 | cheap m=>
  have ho:2<=m/\m<=20:=ho
  show(spr q.length (lasts (grp m.toNat (ordQ q))) (qs q (lasts (grp m.toNat (ordQ q))))).sum+0<=q.sum/m
  obtain⟨k,rfl⟩:∃k:Nat,m=(k:Int):=⟨m.toNat,by lia⟩
  rw[Int.toNat_natCast]
  have hk:0<k:=by lia
  have hlt:∀i∈lasts (grp k (ordQ q)),i<q.length:=fun i hi=>by
   obtain⟨g,hg,rfl⟩:=JP.mp hi
   obtain⟨j,ej⟩:=NV.mp hg
   exact khF (JB (ke9 hk ej))
  rw[kc7 (ke8 hk (kfG q)) hlt (kbs _ _).symm]
  have e:qs q (lasts (grp k (ordQ q)))=(grp k (ordQ q)).map fun g=>q.getD (g.getLastD 0) 0:=by
   unfold qs lasts
   rw[JO]
   rfl
  rw[e]
  have h1:((grp k (ordQ q)).map fun g=>q.getD (g.getLastD 0) 0*(k:Int)).sum<=((grp k (ordQ q)).map fun g=>(qs q g).sum).sum:=kdP fun g hg=>ki6 hk hg
  have h2:=kfK hn (kg8 (kfG q)) (khR (m:=k))
  have h3:∀(l:List (List Nat)),(l.map fun g=>q.getD (g.getLastD 0) 0*(k:Int)).sum=(l.map fun g=>q.getD (g.getLastD 0) 0).sum*(k:Int):=by
   intro l
   induction l with
   |nil=>simp
   |cons a l ih=>simp only[JG,J0];rw[ih,Int.add_mul]
  rw[h3] at h1
  rw[Int.add_zero]
  exact(Int.le_ediv_iff_mul_le (by lia)).mpr (by lia)
 |bund m p=>
  have ho:2<=m/\m<=20/\0<=p/\_:=ho
  show(gdl (fun z=>max 0 (z-p)) (grp m.toNat (ordQ q)) q).sum+0<=q.sum
  have:=(kd9 (m:=m) (p:=p) (n:=n) (lines:=lines) hn ho.2.2.1).sum
  have e:want (.bund m p) n lines q=gdl (fun z=>max 0 (z-p)) (grp m.toNat (ordQ q)) q:=rfl
  rw[e] at this
  lia
 |carr=>
  show(JE q.length (0:Int)).sum+cg<=cg
  simp
theorem kng{most:Option Int}{w:List Int}{f:Int}(hw:Nn w)(hf:0<=f)(hm:∀m,most>>m->0<=m)(hz:f=0∨w.sum=0):(cap most w f).1.sum+(cap most w f).2<=atMost most (w.sum+f):=by
 have hs:=kbl hw
 unfold cap atMost
 cases most with
 |none=>exact Int.le_refl _
 | some m=>
  have h0:=hm m rfl
  simp only
  split
  ·have:=kdK (c:=min m w.sum) (ws:=w) (by lia) hw
   simp only
   lia
  ·simp only
   lia
theorem khb{V:Vch}{ps:List (Option Nat)}{kk:List Nat}{S:Stnd}(hl:S.pr.length=S.ow.length)(hn:Nn S.pr)(hc:0<=S.cg)(ho:SrtOk V.so)(hm:∀m,V.ms.most>>m->0<=m):(cutM V ps kk S).1.sum+(cutM V ps kk S).2<=kbE V ps kk S:=by
 have hnn:=qs_nn hn (abt ps kk V.ms.kind V.ms.lone S)
 have hw:=khm (n:=S.mkd.length) (lines:=(abt ps kk V.ms.kind V.ms.lone S).map fun i=>S.ow.getD i 0) hnn ho
 have hws:=kk5 (n:=S.mkd.length) (lines:=(abt ps kk V.ms.kind V.ms.lone S).map fun i=>S.ow.getD i 0) (cg:=S.cg) hnn ho (by rw[Jv,kbs]) hc
 have hf:0<=fee V.so S.cg:=by unfold fee;split <;> lia
 have hz:fee V.so S.cg=0∨(want V.so S.mkd.length ((abt ps kk V.ms.kind V.ms.lone S).map fun i=>S.ow.getD i 0) (qs S.pr (abt ps kk V.ms.kind V.ms.lone S))).sum=0:=by
  cases e:V.so with
  |carr=>
   right
   show(JE _ (0:Int)).sum=0
   simp
  |_=>left;rfl
 have hcs:=kng hw.nn hf hm hz
 have hcl:=(kmt (cg:=fee V.so S.cg) hw ⟨hf,Int.le_refl _⟩ hm).1.1
 show(spr S.pr.length (abt ps kk V.ms.kind V.ms.lone S) (cap V.ms.most (want V.so S.mkd.length ((abt ps kk V.ms.kind V.ms.lone S).map fun i=>S.ow.getD i 0) (qs S.pr (abt ps kk V.ms.kind V.ms.lone S))) (fee V.so S.cg)).1).sum+(cap V.ms.most (want V.so S.mkd.length ((abt ps kk V.ms.kind V.ms.lone S).map fun i=>S.ow.getD i 0) (qs S.pr (abt ps kk V.ms.kind V.ms.lone S))) (fee V.so S.cg)).2<=_
 rw[kc7 (kfm _ _ _ _ _) (fun i hi=>by rw[hl];exact kfQ hi) (by rw[hcl,kbs])]
 refine Int.le_trans hcs ?_
 unfold kbE atMost
 cases V.ms.most with
 |none=>exact hws
 |some m=>simp only;lia
structure Later(S S':Stnd):Prop where
 ow:S'.ow=S.ow
 pr:Le2 S'.pr S.pr
 cg:0<=S'.cg/\S'.cg<=S.cg
 mg:∀l,S.mkd.getD l false=true->S'.mkd.getD l false=true
def Later.refl{S:Stnd}(hn:Nn S.pr)(hc:0<=S.cg):Later S S:=⟨rfl,Le2.self hn,⟨hc,Int.le_refl _⟩,fun _ h=>h⟩
def Later.trans{S S' S'':Stnd}(h:Later S S')(h':Later S' S''):Later S S'':=⟨h'.ow.trans h.ow,h'.pr.trans h.pr,⟨h'.cg.1,Int.le_trans h'.cg.2 h.cg.2⟩,fun l e=>h'.mg l (h.mg l e)⟩
def Later.aft{V:Vch}{ps:List (Option Nat)}{kk:List Nat}{S:Stnd}(hn:Nn S.pr)(hc:0<=S.cg)(ho:SrtOk V.so)(hm:∀m,V.ms.most>>m->0<=m):Later S (aftM V ps kk S):=by
 have h:=kmw (V:=V) (ps:=ps) (kk:=kk) hn hc ho hm
 rwa[6,h.1,h.2,fun l e=>?_]
 unfold aftM
 simp only
 by_cases hl:l<S.mkd.length
 ·rw[JM] at e⊢
  rw[JF,Mq hl]
  show(S.mkd.getD l false||_)=true
  rw[JM,e]
  rfl
 ·rw[JM,Mp (by lia)] at e
  cases e
theorem kdq{f f':Nat->Int}{p p':Nat->Bool}:∀{l:List Nat},(∀i∈l,p' i=true->p i=true)->(∀i∈l,0<=f' i/\f' i<=f i)->((l.filter p').map f').sum<=((l.filter p).map f).sum
 |[],_,_=>Int.le_refl _
 | a::l,h1,h2=>by
  have ih:=kdq (l:=l) (fun i hi=>h1 i (JQ _ hi)) (fun i hi=>h2 i (JQ _ hi))
  have g1:=h1 a JS
  have g2:=h2 a JS
  rw[NB,NB]
  cases e':p' a with
  |true=>
   rw[g1 e',if_pos rfl,if_pos rfl]
   simp only[JG,J0]
   lia
  | false=>
   rw[if_neg JD]
   split
   ·simp only[JG,J0]
    lia
   ·exact ih
def kko{ps:List (Option Nat)}{kk:List Nat}{kind:Option Nat}{lone:Bool}{S S':Stnd}(h:Later S S'):(qs S'.pr (abt ps kk kind lone S')).sum<=(qs S.pr (abt ps kk kind lone S)).sum:=by
 unfold qs abt
 rw[h.ow]
 refine kdq (fun i _ e=>?_) (fun i _=>?_)
 ·unfold hits at e⊢
  rw[NT] at e⊢
  rwa[e.1,?_]
  cases hl:lone with
  |false=>rfl
  |true=>
   rw[hl] at e
   have e2:(!S'.mkd.getD (S.ow.getD i 0) false)=true:=by simpa using e.2
   cases hm:S.mkd.getD (S.ow.getD i 0) false with
   |false=>rfl
   |true=>rw[h.mg _ hm] at e2;cases e2
 ·have hl:=h.pr.1
  rw[JM,JM]
  by_cases hi:i<S.pr.length
  ·have e1:S'.pr[i]?>>(S'.pr[i]'(by lia)):=by simp
   have e2:S.pr[i]?>>S.pr[i]:=by simp
   have:=h.pr.2 i _ _ e1 e2
   rw[e1,e2]
   exact this
  ·rw[Mp (by lia),Mp (by lia)]
   rwa[Int.le_refl _,Int.le_refl _]
theorem khL{V:Vch}{ps:List (Option Nat)}{kk:List Nat}{S S':Stnd}(h:Later S S')(hn:Nn S'.pr)(ho:SrtOk V.so):kbE V ps kk S'<=kbE V ps kk S:=by
 have hs:=kko (ps:=ps) (kk:=kk) (kind:=V.ms.kind) (lone:=V.ms.lone) h
 have h0:=kbl (qs_nn hn (abt ps kk V.ms.kind V.ms.lone S'))
 have hr:rwm V.so S'.cg (qs S'.pr (abt ps kk V.ms.kind V.ms.lone S')).sum<=rwm V.so S.cg (qs S.pr (abt ps kk V.ms.kind V.ms.lone S)).sum:=by
  generalize (qs S'.pr (abt ps kk V.ms.kind V.ms.lone S')).sum=s' at *
  generalize (qs S.pr (abt ps kk V.ms.kind V.ms.lone S)).sum=s at *
  unfold rwm
  revert ho
  cases V.so with
  |off a=>intro ho;simp only;lia
  |share t e=>
   intro ho
   have ho:1<=t/\t<=1000:=ho
   have:s'*t<=s*t:=Int.mul_le_mul_of_nonneg_right hs (by lia)
   simp only
   generalize s'*t=u at *
   generalize s*t=v at *
   lia
  |cheap m=>
   intro ho
   have ho:2<=m/\m<=20:=ho
   exact Int.ediv_le_ediv (by lia) hs
  |bund m p=>intro _;exact hs
  |carr=>intro _;exact h.cg.2
 unfold kbE atMost
 cases V.ms.most with
 |none=>exact hr
 |some m=>simp only;lia
end Vs
namespace Vs
open PySem L2
noncomputable def top(i:Nat):Stmt:=PySem.Challenge.pw_voucherstack_k53_whole_what_holds_is_bes.main.body.getD i (.Pass ⟨0,0,0,0⟩)
abbrev khA:Stmt:=top 1
abbrev khx:Stmt:=top 3
abbrev kbU:Stmt:=top 15
abbrev keM:Stmt:=top 18
abbrev kjN:Stmt:=top 19
abbrev kdn:Stmt:=top 20
abbrev khB:Stmt:=top 21
abbrev khy:Stmt:=top 22
abbrev kbn:Stmt:=top 23
abbrev kbX:Stmt:=top 24
abbrev kbI:Stmt:=top 25
abbrev kbk:Stmt:=top 26
abbrev kbV:Stmt:=top 27
abbrev kaF:Stmt:=top 28
abbrev kb9:Stmt:=top 29
abbrev kcH:Stmt:=top 30
abbrev kb8:Stmt:=top 31
abbrev keL:Stmt:=top 32
abbrev khz:Stmt:=top 35
abbrev kf1:Stmt:=top 36
abbrev kb7:Stmt:=top 37
abbrev kct:Stmt:=top 38
abbrev kcu:Stmt:=top 39
abbrev kbG:Stmt:=top 40
abbrev kcs:Stmt:=top 42
abbrev kcr:Stmt:=top 43
abbrev kf2:Stmt:=top 45
abbrev kcI:Stmt:=top 46
abbrev kbH:Stmt:=top 47
abbrev kbW:Stmt:=top 48
abbrev kbp:Stmt:=top 49
abbrev kcB:Stmt:=top 54
abbrev kdU:Stmt:=top 55
abbrev kcA:Stmt:=top 56
abbrev kcz:Stmt:=top 57
abbrev kcv:Stmt:=top 58
abbrev kcc:Stmt:=top 59
abbrev kbJ:Stmt:=top 60
abbrev kbK:Stmt:=top 61
abbrev kcw:Stmt:=top 62
abbrev kca:Stmt:=top 63
abbrev kcb:Stmt:=top 64
abbrev kcT:Stmt:=top 65
abbrev kcx:Stmt:=top 66
abbrev kcS:Stmt:=top 67
abbrev kcy:Stmt:=top 68
abbrev s_law:Stmt:=top 69
abbrev ka6:Stmt:=inClass (top 5) 0
abbrev kaP:Stmt:=inClass (top 6) 0
abbrev kbr:Stmt:=inClass (top 7) 0
abbrev ka5:Stmt:=inClass (top 8) 0
abbrev kaL:Stmt:=inClass (top 9) 0
abbrev kaV:Stmt:=inClass (top 10) 0
abbrev kaM:Stmt:=inClass (top 11) 0
abbrev kbe:Stmt:=inClass (top 13) 0
abbrev kaW:Stmt:=inClass (top 14) 0
abbrev kce:Stmt:=inClass (top 16) 0
abbrev kbY:Stmt:=inClass (top 16) 1
abbrev kdV:Stmt:=inClass (top 34) 0
abbrev kcC:Stmt:=inClass (top 34) 1
abbrev kcU:Stmt:=inClass (top 34) 2
abbrev kbz:Stmt:=inClass (top 34) 3
abbrev kcd:Stmt:=inClass (top 34) 4
abbrev kbd:Stmt:=inClass (top 51) 0
set_option genInjectivity false
set_option genSizeOf false
set_option genCtorIdx false
structure D where
 Xt:Addr
 Xu:FuncData
 Xv:Addr
 Xw:FuncData
 Xx:Addr
 Xy:FuncData
 Xz:Addr
 XA:FuncData
 XB:Addr
 XC:FuncData
 XD:Addr
 XE:FuncData
 XF:Addr
 XG:FuncData
 XH:Addr
 XI:FuncData
 XJ:Addr
 XM:FuncData
 XO:Addr
 XQ:FuncData
 XR:Addr
 XS:FuncData
 XT:Addr
 XU:FuncData
 XW:Addr
 XX:FuncData
 XY:Addr
 QF:FuncData
 XZ:Addr
 X0:FuncData
 X1:Addr
 X2:FuncData
 X3:Addr
 X4:FuncData
 X5:Addr
 X6:FuncData
 X7:Addr
 X8:FuncData
 X9:Addr
 Ya:FuncData
 Yb:Addr
 Yc:FuncData
 Yd:Addr
 Ye:FuncData
 Yf:Addr
 Yg:FuncData
 Yh:Addr
 Yi:FuncData
 Yj:Addr
 Yk:FuncData
 Yl:Addr
 Ym:FuncData
 Yn:Addr
 Yo:FuncData
 Yp:Addr
 Yq:FuncData
 Yr:Addr
 Ys:FuncData
 Yt:Addr
 Yu:FuncData
 Yv:Addr
 Yw:FuncData
 Yx:Addr
 Yy:FuncData
 Yz:Addr
 YA:FuncData
 YB:Addr
 YC:FuncData
 YD:Addr
 YE:FuncData
 YF:Addr
 YG:FuncData
 YH:Addr
 YI:FuncData
 YJ:Addr
 YK:FuncData
 YL:Addr
 YM:FuncData
 YN:Addr
 YO:FuncData
 YQ:Addr
 YR:FuncData
 YS:Addr
 YT:FuncData
 YU:Addr
 YV:FuncData
 YW:Addr
 YX:FuncData
 qW:Addr
 qX:FuncData
 YY:Addr
 YZ:FuncData
 f_law:Addr
 Y0:FuncData
 qe:Addr
 Y1:Addr
 qF:FuncData
 tok1_Marks_init:Nat
 qz:Addr
 QG:Addr
 QH:FuncData
 c_Off:Addr
 Y2:Addr
 QI:FuncData
 qh:Addr
 Y3:Addr
 Qk:FuncData
 qj:Addr
 Y5:Addr
 QJ:FuncData
 qi:Addr
 Y7:Addr
 QK:FuncData
 ql:Addr
 Y9:Addr
 QL:FuncData
 qf:Addr
 Za:Addr
 QM:FuncData
 qg:Addr
 Zb:Addr
 Ql:FuncData
 tok0_Basket_init:Nat
 qc:Addr
 Zc:Addr
 Zd:FuncData
 Ze:Addr
 Zf:FuncData
 c_Way:Addr
 Zg:Addr
 Zh:FuncData
 Zi:Addr
 Zj:FuncData
 Zk:Addr
 Zl:FuncData
 Zm:Addr
 Zn:FuncData
 Zo:Addr
 Zp:FuncData
 qd:Addr
 Zq:Addr
 QN:FuncData
 tok0_Till_init:Nat
 cc_falling_groups:Addr
 tP_falling_groups:Addr
structure Wld(K:Jw)(mg:Str->Option Value)(d:D):Prop where
 B:TxtB mg
 QO:Dn K mg "dealt" khA ["cut","weights"] d.Xt d.Xu
 Zr:Dn K mg "under" khx ["parents","one","other"] d.Xv d.Xw
 Zs:Dn K mg "price_of_piece" kbU ["line","member"] d.Xx d.Xy
 Qm:Dn K mg "about" keM ["voucher","parents","basket","standing"] d.Xz d.XA
 Zt:Dn K mg "fits" kjN ["marks","parents","kind","marked"] d.XB d.XC
 Zu:Dn K mg "hindrance" kdn ["voucher","parents","basket","standing"] d.XD d.XE
 QP:Dn K mg "after" khB ["voucher","parents","basket","standing"] d.XF d.XG
 QQ:Dn K mg "reach" khy ["voucher","parents","basket","standing"] d.XH d.XI
 Zv:Dn K mg "reach_without_most" kbn ["voucher","standing","together"] d.XJ d.XM
 Zw:Dn K mg "cuts_of_pieces" kbX ["voucher","parents","basket","standing"] d.XO d.XQ
 Zx:Dn K mg "cut_of_carriage" kbI ["voucher","standing"] d.XR d.XS
 Zy:Dn K mg "wanted_cuts" kbk ["voucher","standing","pieces"] d.XT d.XU
 Zz:Dn K mg "parted_by_line" kbV ["standing","pieces"] d.XW d.XX
 QR:Dn K mg "falling_groups" kaF ["standing","pieces","many"] d.XY d.QF
 ZA:Dn K mg "marked_behind" kb9 ["voucher","standing","piece_cuts"] d.XZ d.X0
 QS:Dn K mg "prices_of" kcH ["standing","pieces"] d.X1 d.X2
 qQ:Dn K mg "sum_of_prices" kb8 ["standing","pieces"] d.X3 d.X4
 QT:Dn K mg "at_most" keL ["most","number"] d.X5 d.X6
 Qn:Dn K mg "fault" khz ["till","basket","hand","order"] d.X7 d.X8
 QU:Dn K mg "way_by" kf1 ["till","basket","hand","order"] d.X9 d.Ya
 ZC:Dn K mg "word_of_order" kb7 ["till","hand","used","number"] d.Yb d.Yc
 ZD:Dn K mg "breaks_never" kct ["rules","used","number"] d.Yd d.Ye
 ZE:Dn K mg "breaks_ahead" kcu ["rules","used","number"] d.Yf d.Yg
 ZF:Dn K mg "without_company" kbG ["rules","order"] d.Yh d.Yi
 ZG:Dn K mg "least_behind" kcs ["way"] d.Yj d.Yk
 ZH:Dn K mg "many_to_come" kcr ["way","number"] d.Yl d.Ym
 ZI:Dn K mg "holds" kf2 ["till","basket","hand","order","total","paper"] d.Yn d.Yo
 ZJ:Dn K mg "is_entry_of" kcI ["way","entry"] d.Yp d.Yq
 ZK:Dn K mg "leaves_none_out" kbH ["ways","paper","total"] d.Yr d.Ys
 ZL:Dn K mg "goes_on_within" kbW ["way","entered"] d.Yt d.Yu
 ZM:Dn K mg "first_of_cheapest" kbp ["ways"] d.Yv d.Yw
 qG:Dn K mg "_law_cell_at" kcB ["_law_script","_law_k"] d.Yx d.Yy
 qx:Dn K mg "_law_mix" kdU ["_law_cell","_law_factor","_law_prime"] d.Yz d.YA
 ZN:Dn K mg "_law_coin_by" kcA ["_law_cell"] d.YB d.YC
 qH:Dn K mg "_law_coin_of" kcz ["_law_cell","_law_scale"] d.YD d.YE
 ZO:Dn K mg "_law_line_by" kcv ["_law_cell","_law_kinds","_law_scale","_law_most"] d.YF d.YG
 ZP:Dn K mg "_law_marks_by" kcc ["_law_cell","_law_kinds","_law_scale"] d.YH d.YI
 ZQ:Dn K mg "_law_voucher_by" kbJ ["_law_cell","_law_kinds","_law_scale"] d.YJ d.YK
 ZR:Dn K mg "_law_parents_by" kbK ["_law_cell"] d.YL d.YM
 ZS:Dn K mg "_law_hand_by" kcw ["_law_more_held","_law_vouchers","_law_most_held","_law_first"] d.YN d.YO
 QV:Dn K mg "_law_world_by" kca ["_law_script","_law_most_vouchers","_law_most_held"] d.YQ d.YR
 QW:Dn K mg "_law_standing" kcb ["_law_till","_law_basket","_law_order"] d.YS d.YT
 ZT:Dn K mg "_law_least" kcT ["_law_till","_law_basket","_law_hand","_law_order"] d.YU d.YV
 ZU:Dn K mg "_law_goes_on" kcx ["_law_till","_law_basket","_law_hand","_law_order"] d.YW d.YX
 qY:Dn K mg "_law_lists" kcS ["_law_hand","_law_ahead","_law_out"] d.qW d.qX
 ZV:Dn K mg "_law_entries" kcy ["_law_till","_law_basket","_law_hand"] d.YY d.YZ
 d_law:Dn K mg "law" s_law ["_law_script"] d.f_law d.Y0
 qe:ClsT K mg "Marks" d.qe
 Qo:NoAttr K d.qe "kind"
 ZW:NoAttr K d.qe "needs"
 Qp:NoAttr K d.qe "most"
 ZX:NoAttr K d.qe "member"
 Qq:NoAttr K d.qe "once"
 QX:NoAttr K d.qe "lone"
 Qr:MthT K d.qe "__init__" "Marks.__init__" ka6 ["self","kind","needs","most","member","once","lone"] d.Y1 d.qF
 b1_Marks_init:Binds K d.qF ["self","kind","needs","most","member","once","lone"] [.bool false]
 b2_Marks_init:Binds K d.qF ["self","kind","needs","most","member","once","lone"] [.bool false, .bool false]
 b3_Marks_init:Binds K d.qF ["self","kind","needs","most","member","once","lone"] [.bool false, .bool false, .bool false]
 b4_Marks_init:Binds K d.qF ["self","kind","needs","most","member","once","lone"] [.none, .bool false, .bool false, .bool false]
 b5_Marks_init:Binds K d.qF ["self","kind","needs","most","member","once","lone"] [.int 0 d.tok1_Marks_init, .none, .bool false, .bool false, .bool false]
 b6_Marks_init:Binds K d.qF ["self","kind","needs","most","member","once","lone"] [.none, .int 0 d.tok1_Marks_init, .none, .bool false, .bool false, .bool false]
 qz:ClsT K mg "Voucher" d.qz
 qu:MthT K d.qz "__init__" "Voucher.__init__" kaP ["self","marks"] d.QG d.QH
 b1_Voucher_init:Binds K d.QH ["self","marks"] [.none]
 g_Off:mg "Off">>(.ref d.c_Off)
 c_Off:ClsT K mg "Off" d.c_Off
 QY:NoAttr K d.c_Off "amount"
 ZY:NoAttr K d.c_Off "marks"
 QZ:MthT K d.c_Off "__init__" "Off.__init__" kbr ["self","amount","marks"] d.Y2 d.QI
 b1_Off_init:Binds K d.QI ["self","amount","marks"] [.none]
 ZZ:mg "Share">>(.ref d.qh)
 qh:ClsT K mg "Share" d.qh
 Q0:NoAttr K d.qh "share"
 Z9:NoAttr K d.qh "by_line"
 Va:NoAttr K d.qh "marks"
 Q1:MthT K d.qh "__init__" "Share.__init__" ka5 ["self","share","by_line","marks"] d.Y3 d.Qk
 b1_Share_init:Binds K d.Qk ["self","share","by_line","marks"] [.none]
 b2_Share_init:Binds K d.Qk ["self","share","by_line","marks"] [.bool false, .none]
 Vb:mg "Cheapest">>(.ref d.qj)
 qj:ClsT K mg "Cheapest" d.qj
 Q2:NoAttr K d.qj "many"
 Vd:NoAttr K d.qj "marks"
 Q3:MthT K d.qj "__init__" "Cheapest.__init__" kaL ["self","many","marks"] d.Y5 d.QJ
 b1_Cheapest_init:Binds K d.QJ ["self","many","marks"] [.none]
 Ve:mg "Bundle">>(.ref d.qi)
 qi:ClsT K mg "Bundle" d.qi
 Vf:NoAttr K d.qi "many"
 Vg:NoAttr K d.qi "price"
 Vh:NoAttr K d.qi "marks"
 Q4:MthT K d.qi "__init__" "Bundle.__init__" kaV ["self","many","price","marks"] d.Y7 d.QK
 b1_Bundle_init:Binds K d.QK ["self","many","price","marks"] [.none]
 Vz:mg "Carriage">>(.ref d.ql)
 ql:ClsT K mg "Carriage" d.ql
 Vi:NoAttr K d.ql "marks"
 Q5:MthT K d.ql "__init__" "Carriage.__init__" kaM ["self","marks"] d.Y9 d.QL
 b1_Carriage_init:Binds K d.QL ["self","marks"] [.none]
 qf:ClsT K mg "Line" d.qf
 Vj:NoAttr K d.qf "kind"
 Q6:NoAttr K d.qf "price"
 qZ:NoAttr K d.qf "many"
 Q7:NoAttr K d.qf "special"
 Q8:MthT K d.qf "__init__" "Line.__init__" kbe ["self","kind","price","many","special"] d.Za d.QM
 b1_Line_init:Binds K d.QM ["self","kind","price","many","special"] [.none]
 qg:ClsT K mg "Basket" d.qg
 Qs:NoAttr K d.qg "lines"
 Vk:NoAttr K d.qg "carriage"
 Q9:NoAttr K d.qg "member"
 Xa:MthT K d.qg "__init__" "Basket.__init__" kaW ["self","lines","carriage","member"] d.Zb d.Ql
 b1_Basket_init:Binds K d.Ql ["self","lines","carriage","member"] [.bool false]
 b2_Basket_init:Binds K d.Ql ["self","lines","carriage","member"] [.int 0 d.tok0_Basket_init, .bool false]
 qc:ClsT K mg "Standing" d.qc
 qM:NoAttr K d.qc "owners"
 qA:NoAttr K d.qc "prices"
 qR:NoAttr K d.qc "carriage"
 q9:NoAttr K d.qc "marked"
 qN:MthT K d.qc "__init__" "Standing.__init__" kce ["self","basket"] d.Zc d.Zd
 qw:MthT K d.qc "whole" "Standing.whole" kbY ["self"] d.Ze d.Zf
 c_Way:ClsT K mg "Way" d.c_Way
 qq:NoAttr K d.c_Way "till"
 Qa:NoAttr K d.c_Way "basket"
 Qt:NoAttr K d.c_Way "hand"
 qr:NoAttr K d.c_Way "used"
 qI:NoAttr K d.c_Way "standing"
 Qb:MthT K d.c_Way "__init__" "Way.__init__" kdV ["self","till","basket","hand"] d.Zg d.Zh
 qO:MthT K d.c_Way "word_for" "Way.word_for" kcC ["self","number"] d.Zi d.Zj
 Xb:MthT K d.c_Way "behind" "Way.behind" kcU ["self","number"] d.Zk d.Zl
 Xc:MthT K d.c_Way "followers" "Way.followers" kbz ["self"] d.Zm d.Zn
 Qc:MthT K d.c_Way "is_let_by" "Way.is_let_by" kcd ["self"] d.Zo d.Zp
 qd:ClsT K mg "Till" d.qd
 qS:NoAttr K d.qd "parents"
 qt:NoAttr K d.qd "vouchers"
 qT:NoAttr K d.qd "rules"
 VA:NoAttr K d.qd "back"
 Xd:MthT K d.qd "__init__" "Till.__init__" kbd ["self","parents","vouchers","rules","back"] d.Zq d.QN
 b1_Till_init:Binds K d.QN ["self","parents","vouchers","rules","back"] [.str "again" d.tok0_Till_init]
 Qd:BaseT K d.qz "__init__" d.QG
 VB:JZ K (.ref d.qh) (.ref d.c_Off)>>false
 VC:JZ K (.ref d.qj) (.ref d.c_Off)>>false
 VD:JZ K (.ref d.qi) (.ref d.c_Off)>>false
 VE:JZ K (.ref d.ql) (.ref d.c_Off)>>false
 VF:JZ K (.ref d.c_Off) (.ref d.qh)>>false
 VG:JZ K (.ref d.qj) (.ref d.qh)>>false
 VH:JZ K (.ref d.qi) (.ref d.qh)>>false
 VI:JZ K (.ref d.ql) (.ref d.qh)>>false
 VJ:JZ K (.ref d.c_Off) (.ref d.qj)>>false
 VL:JZ K (.ref d.qh) (.ref d.qj)>>false
 VM:JZ K (.ref d.qi) (.ref d.qj)>>false
 VN:JZ K (.ref d.ql) (.ref d.qj)>>false
 VO:JZ K (.ref d.c_Off) (.ref d.qi)>>false
 VP:JZ K (.ref d.qh) (.ref d.qi)>>false
 VQ:JZ K (.ref d.qj) (.ref d.qi)>>false
 VR:JZ K (.ref d.ql) (.ref d.qi)>>false
 VS:JZ K (.ref d.c_Off) (.ref d.ql)>>false
 VT:JZ K (.ref d.qh) (.ref d.ql)>>false
 VU:JZ K (.ref d.qj) (.ref d.ql)>>false
 VV:JZ K (.ref d.qi) (.ref d.ql)>>false
 code_falling_groups:d.QF.code=.ref d.cc_falling_groups
 ck_falling_groups:CodeK K d.cc_falling_groups d.tP_falling_groups
structure WB(K:Jw)(mg:Str->Option Value)(d:D)(base:Heap):Prop extends Wld K mg d where
 blt:BltM mg base
end Vs
namespace Vs
open PySem L2 War Kin Deal
def LineAt(C:Addr)(H:Hp)(x:Addr)(r:Row):Prop:=∃(dx:Addr)(fs:List (Str×V)),H x>>(.ins C dx fs)/\fs.lookup ("kind" :Str)>>(.int r.kd)/\fs.lookup ("price" :Str)>>(.int r.pr)/\fs.lookup ("many" :Str)>>(.int r.mn)/\fs.lookup ("special" :Str)>>(oV r.ex)
abbrev Lines(C:Addr)(H:Hp)(ls:List Addr)(rs:List Row):Prop:=P2 (LineAt C H) ls rs
def BaskAt(C:Addr)(H:Hp)(b l:Addr)(cg:Int)(m:Bool):Prop:=∃(dx:Addr)(fs:List (Str×V)),H b>>(.ins C dx fs)/\fs.lookup ("lines" :Str)>>(.ref l)/\fs.lookup ("carriage" :Str)>>(.int cg)/\fs.lookup ("member" :Str)>>(.bl m)
def StandAt(C:Addr)(H:Hp)(x o p mk:Addr)(cg:Int):Prop:=∃(dx:Addr)(fs:List (Str×V)),H x>>(.ins C dx fs)/\fs.lookup ("owners" :Str)>>(.ref o)/\fs.lookup ("prices" :Str)>>(.ref p)/\fs.lookup ("carriage" :Str)>>(.int cg)/\fs.lookup ("marked" :Str)>>(.ref mk)/\fs.lookup ("whole" :Str)=none
section
variable{C:Addr}{H H':Hp}
theorem LineAt.same{x:Addr}{r:Row}(s:Same H H'):LineAt C H x r->LineAt C H' x r:=by rintro⟨dx,fs,h,q⟩;exact⟨dx,fs,s _ _ h,q⟩
theorem Lines.same{ls:List Addr}{rs:List Row}(s:Same H H')(h:Lines C H ls rs):Lines C H' ls rs:=h.mono fun _ _ q=>q.same s
theorem BaskAt.same{b l:Addr}{cg:Int}{m:Bool}(s:Same H H'):BaskAt C H b l cg m->BaskAt C H' b l cg m:=by rintro⟨dx,fs,h,q⟩;exact⟨dx,fs,s _ _ h,q⟩
theorem StandAt.same{x o p mk:Addr}{cg:Int}(s:Same H H'):StandAt C H x o p mk cg->StandAt C H' x o p mk cg:=by rintro⟨dx,fs,h,q⟩;exact⟨dx,fs,s _ _ h,q⟩
end
section
variable{H:Hp}{hd:Addr}{xs:List V}{o:HO}
theorem LineAt.set{C x:Addr}{r:Row}(h:H hd>>(.lst xs)):LineAt C H x r->LineAt C (upd H hd o) x r:=by rintro⟨dx,fs,e,q⟩;exact⟨dx,fs,by rw[kak (ne_of e h (by intro z;cases z))];exact e,q⟩
theorem Lines.set{C:Addr}{ls:List Addr}{rs:List Row}(h:H hd>>(.lst xs))(L:Lines C H ls rs):Lines C (upd H hd o) ls rs:=L.mono fun _ _ q=>q.set h
end
structure Bask where
 rs:List Row
 cg:Int
 m:Bool
inductive BaskIs(CL CB:Addr)(H:Hp)(b:Addr)(B:Bask):Prop
 |ct(l:Addr)(ls:List Addr)(_:BaskAt CB H b l B.cg B.m)(_:H l>>(.lst (ls.map V.ref)))(_:Lines CL H ls B.rs):BaskIs CL CB H b B
def BaskIs.same{CL CB:Addr}{H H':Hp}{b:Addr}{B:Bask}(s:Same H H'):BaskIs CL CB H b B->BaskIs CL CB H' b B:=fun⟨l,ls,h1,h2,h3⟩=>⟨l,ls,h1.same s,s _ _ h2,h3.same s⟩
noncomputable def iV(k:Nat):V:=.int (k:Int)
inductive StndIs(CS:Addr)(H:Hp)(x:Addr)(S:Stnd):Prop
 |ct(o p mk:Addr)(_:StandAt CS H x o p mk S.cg)(_:H o>>(.lst (S.ow.map iV)))(_:H p>>(.lst (S.pr.map V.int)))(_:H mk>>(.lst (S.mkd.map V.bl))):StndIs CS H x S
def StndIs.same{CS:Addr}{H H':Hp}{x:Addr}{S:Stnd}(s:Same H H'):StndIs CS H x S->StndIs CS H' x S:=fun⟨o,p,mk,h1,h2,h3,h4⟩=>⟨o,p,mk,h1.same s,s _ _ h2,s _ _ h3,s _ _ h4⟩
def ka1(ns:List Nat):(ns.map iV).all flatV=true:=by
 rw[Ma]
 intro x hx
 obtain⟨n,_,rfl⟩:=JP.mp hx
 rfl
noncomputable def ownN(rs:List Row):List Nat:=(rs.zipIdx.map fun p=>JE p.1.mn.toNat p.2).flatten
theorem kf9(rs:List Row):(own rs).map V.int=(ownN rs).map iV:=by
 unfold own ownN
 generalize rs.zipIdx=l
 induction l with
 |nil=>rfl
 |cons p l ih=>
  rw[JG,J9,JC,ih,JG,J9,JC]
  congr 1
  simp[iV]
def kmR(rs:List Row){l:Nat}(h:l∈ownN rs):l<rs.length:=by
 unfold ownN at h
 obtain⟨xs,h1,h2⟩:=NS.mp h
 obtain⟨p,h3,rfl⟩:=JP.mp h1
 have e:l=p.2:=(ED.mp h2).2
 have q:=List.mem_zipIdx h3
 lia
def kln(rs:List Row)(h:∀r∈rs,r.Ok):(ownN rs).length<=60*rs.length:=by
 have e:(ownN rs).length=(own rs).length:=by
  have:=congrArg Ny (kf9 rs)
  simpa using this.symm
 rw[e]
 exact kj8 rs h
noncomputable def pV:Option Nat->V
 |none=>.non
 |some k=>.int (k:Int)
def eq_int(a b:Nat):decide (V.int (a:Int)=V.int (b:Int))=decide (a=b):=by
 by_cases h:a=b
 ·subst h;simp
 ·have:¬(V.int (a:Int)=V.int (b:Int)):=by
   intro e
   injection e with e
   lia
  simp[h,this]
theorem klw{c:Int}{ws:List Int}(h:ws.sum=0):(dl c ws).map V.int=JE ws.length (V.int 0):=by
 unfold dl
 rw[if_pos h]
 clear h
 induction ws with
 |nil=>rfl
 |cons w ws ih=>simpa[N2] using ih
def kkd{c:Int}{ws:List Int}(h:¬ws.sum=0):dl c ws=(Jy ws.length).map (part c ws):=by
 unfold dl
 rw[if_neg h]
inductive kjH(K:Jw)(vs:List V)(H:Hp)(Q:VK)(E_:XK):Prop
 |ct(c:Int)(a:Addr)(ws:List Int)(_:vs=[.int c, .ref a])(_:SqL K H a (ws.map V.int))(_:Nn ws)(_:ws.sum<2 ^ 100)(_:0<=c)(_:c<2 ^ 64)(_:ws.length<=1000)(_:∀p,H p=none->Q (.ref p) (upd H p (.lst ((dl c ws).map V.int)))):kjH K vs H Q E_
inductive kjv(K:Jw)(vs:List V)(H:Hp)(Q:VK)(E_:XK):Prop
 |ct(a:Addr)(ps:List (Option Nat))(one other:Nat)(_:vs=[.ref a, .int one, .int other])(_:SqL K H a (ps.map pV))(_:Good ps)(_:one<ps.length)(_:Q (.bl (decide (other∈up ps one))) H):kjv K vs H Q E_
inductive khq(C:Addr)(vs:List V)(H:Hp)(Q:VK)(E_:XK):Prop
 |ct(x dx:Addr)(r:Row)(_:vs=[.ref x, .int r.kd, .int r.pr, .int r.mn,oV r.ex])(_:H x>>(.ins C dx []))(_:∀H',But x H H'->LineAt C H' x r->Q .non H'):khq C vs H Q E_
inductive khr(K:Jw)(C:Addr)(vs:List V)(H:Hp)(Q:VK)(E_:XK):Prop
 |ct(x dx l:Addr)(cg:Int)(m:Bool)(xs:List V)(_:vs=[.ref x, .ref l, .int cg, .bl m])(_:H x>>(.ins C dx []))(_:SqL K H l xs)(_:∀(H':Hp)(l':Addr),But x H H'->H l'=none->H' l'>>(.lst xs)->BaskAt C H' x l' cg m->Q .non H'):khr K C vs H Q E_
inductive kjy(CL:Addr)(vs:List V)(H:Hp)(Q:VK)(E_:XK):Prop
 |ct(x:Addr)(m:Bool)(r:Row)(_:vs=[.ref x, .bl m])(_:LineAt CL H x r)(_:Q (.int (prc m r)) H):kjy CL vs H Q E_
inductive kdr(CL CB CS:Addr)(vs:List V)(H:Hp)(Q:VK)(E_:XK):Prop
 |ct(x dx b l:Addr)(cg:Int)(m:Bool)(ls:List Addr)(rs:List Row)(_:vs=[.ref x, .ref b])(_:H x>>(.ins CS dx []))(_:BaskAt CB H b l cg m)(_:H l>>(.lst (ls.map V.ref)))(_:Lines CL H ls rs)(_:rs.length<=12)(_:(∀r∈rs,r.Ok))(_:∀(H':Hp)(o p mk:Addr),But x H H'->H o=none->H p=none->H mk=none->StandAt CS H' x o p mk cg->H' o>>(.lst ((own rs).map V.int))->H' p>>(.lst ((prs m rs).map V.int))->H' mk>>(.lst (JE rs.length (.bl false)))->(∃dx fs,H' x>>(.ins CS dx fs)/\fs.length<=10)->Q .non H'):kdr CL CB CS vs H Q E_
inductive kjs(CS:Addr)(vs:List V)(H:Hp)(Q:VK)(E_:XK):Prop
 |ct(x o p mk:Addr)(cg:Int)(ns:List Int)(_:vs=[.ref x])(_:StandAt CS H x o p mk cg)(_:H p>>(.lst (ns.map V.int)))(_:Q (.int (ns.sum+cg)) H):kjs CS vs H Q E_
structure S3(H0:Hp)(x C dx:Addr)(fs:List (Str×V))(o p mk:Addr)(a b c:List V)(H:Hp):Prop where
 bt:But x H0 H
 ob:H x>>(.ins C dx fs)
 ho:H o>>(.lst a)
 hp:H p>>(.lst b)
 hm:H mk>>(.lst c)
structure Ds(H0:Hp)(x o p mk:Addr):Prop where
 fo:H0 o=none
 fp:H0 p=none
 fm:H0 mk=none
 ox:o≠x
 px:p≠x
 mx:mk≠x
 op:o≠p
 om:o≠mk
 pm:p≠mk
section
variable{H0 H H':Hp}{x C dx o p mk:Addr}{fs:List (Str×V)}{a b c d:List V}
theorem S3.same(h:S3 H0 x C dx fs o p mk a b c H)(s:Same H H'):S3 H0 x C dx fs o p mk a b c H':=⟨h.bt.same s,s _ _ h.ob,s _ _ h.ho,s _ _ h.hp,s _ _ h.hm⟩
theorem S3.setO(h:S3 H0 x C dx fs o p mk a b c H)(D:Ds H0 x o p mk):S3 H0 x C dx fs o p mk d b c (upd H o (.lst d)):=
 ⟨fun y u n e=>kbM (h.bt y u n e) fun u' e'=>ev_eq (by rw[kak (kai e D.fo)];exact e') fun t=>kea t (kai e D.fo) (nx h.ho),by rw[kak D.ox.symm];exact h.ob,kae,by rw[kak D.op.symm];exact h.hp,by rw[kak D.om.symm];exact h.hm⟩
theorem S3.setP(h:S3 H0 x C dx fs o p mk a b c H)(D:Ds H0 x o p mk):S3 H0 x C dx fs o p mk a d c (upd H p (.lst d)):=
 ⟨fun y u n e=>kbM (h.bt y u n e) fun u' e'=>ev_eq (by rw[kak (kai e D.fp)];exact e') fun t=>kea t (kai e D.fp) (nx h.hp),by rw[kak D.px.symm];exact h.ob,by rw[kak D.op];exact h.ho,kae,by rw[kak D.pm.symm];exact h.hm⟩
theorem S3.setM(h:S3 H0 x C dx fs o p mk a b c H)(D:Ds H0 x o p mk):S3 H0 x C dx fs o p mk a b d (upd H mk (.lst d)):=
 ⟨fun y u n e=>kbM (h.bt y u n e) fun u' e'=>ev_eq (by rw[kak (kai e D.fm)];exact e') fun t=>kea t (kai e D.fm) (nx h.hm),by rw[kak D.mx.symm];exact h.ob,by rw[kak D.om];exact h.ho,by rw[kak D.pm];exact h.hp,kae⟩
end
def MksIs(C:Addr)(H:Hp)(x:Addr)(M:Mks):Prop:=∃(dx:Addr)(fs:List (Str×V)),H x>>(.ins C dx fs)/\fs.lookup ("kind" :Str)>>(pV M.kind)/\fs.lookup ("needs" :Str)>>(.int M.needs)/\fs.lookup ("most" :Str)>>(oV M.most)/\fs.lookup ("member" :Str)>>(.bl M.member)/\fs.lookup ("once" :Str)>>(.bl M.once)/\fs.lookup ("lone" :Str)>>(.bl M.lone)
def MksIs.same{C:Addr}{H H':Hp}{x:Addr}{M:Mks}(s:Same H H'):MksIs C H x M->MksIs C H' x M:=fun⟨dx,fs,h,q⟩=>⟨dx,fs,s _ _ h,q⟩
def SrtIs(fs:List (Str×V)):Srt->Prop
 | .off a=>fs.lookup ("amount" :Str)>>(.int a)
 | .share s b=>fs.lookup ("share" :Str)>>(.int s)/\fs.lookup ("by_line" :Str)>>(.bl b)
 | .cheap n=>fs.lookup ("many" :Str)>>(.int n)
 | .bund n p=>fs.lookup ("many" :Str)>>(.int n)/\fs.lookup ("price" :Str)>>(.int p)
 | .carr=>True
noncomputable def clsOf(d:D):Srt->Addr
 | .off _=>d.c_Off
 | .share _ _=>d.qh
 | .cheap _=>d.qj
 | .bund _ _=>d.qi
 | .carr=>d.ql
noncomputable def here:Srt->Bool
 | .off _=>true
 | .share _ _=>true
 | .cheap _=>true
 | .bund _ _=>true
 | .carr=>true
noncomputable def kni:Srt->Bool
 | .off _=>true
 | .share _ _=>false
 | .cheap _=>false
 | .bund _ _=>false
 | .carr=>false
noncomputable def kk0:Srt->Bool
 | .off _=>false
 | .share _ _=>true
 | .cheap _=>false
 | .bund _ _=>false
 | .carr=>false
noncomputable def khk:Srt->Bool
 | .off _=>false
 | .share _ _=>false
 | .cheap _=>true
 | .bund _ _=>false
 | .carr=>false
noncomputable def kjc:Srt->Bool
 | .off _=>false
 | .share _ _=>false
 | .cheap _=>false
 | .bund _ _=>true
 | .carr=>false
noncomputable def kbT:Srt->Bool
 | .off _=>false
 | .share _ _=>false
 | .cheap _=>false
 | .bund _ _=>false
 | .carr=>true
def Tbs(d:D)(H:Hp):Prop:=TbAt d.tP_falling_groups H
def Tbs.same{d:D}{H H':Hp}(s:Same H H')(h:Tbs d H):Tbs d H':=s.tb h
inductive VchIs(d:D)(H:Hp)(v:Addr)(V:Vch):Prop
 |ct(mA dx:Addr)(fs:List (Str×L2.V))(_:H v>>(.ins (clsOf d V.so) dx fs))(_:fs.lookup ("marks" :Str)>>(.ref mA))(_:SrtIs fs V.so)(_:MksIs d.qe H mA V.ms)(_:here V.so=true)(_:Tbs d H):VchIs d H v V
def VchIs.same{d:D}{H H':Hp}{v:Addr}{V:Vch}(s:Same H H'):VchIs d H v V->VchIs d H' v V:=fun⟨mA,dx,fs,h1,h2,h3,h4,h5,h6⟩=>⟨mA,dx,fs,s _ _ h1,h2,h3,h4.same s,h5,h6.same s⟩
noncomputable def kds(B:Bask):List Nat:=B.rs.map fun r=>r.kd.toNat
structure Wf(ps:List (Option Nat))(B:Bask)(S:Stnd):Prop where
 good:Good ps
 pl:ps.length<=20
 kd:∀r∈B.rs,0<=r.kd/\r.kd<(ps.length:Int)
 ok:∀r∈B.rs,r.Ok
 nl:B.rs.length<=12
 bc:0<=B.cg/\B.cg<=1000000000000
 ow:S.ow=ownN B.rs
 lp:S.pr.length=S.ow.length
 lm:S.mkd.length=B.rs.length
 pr:∀z∈S.pr,0<=z/\z<=1000000000000
 cg:0<=S.cg/\S.cg<=1000000000000
 n64:S.ow.length<64
def Wf.np{ps:List (Option Nat)}{B:Bask}{S:Stnd}(W:Wf ps B S):S.ow.length<=720:=by
 have:=kln B.rs W.ok
 have:=W.nl
 rw[W.ow]
 lia
def Wf.line{ps:List (Option Nat)}{B:Bask}{S:Stnd}(W:Wf ps B S){i l:Nat}(h:S.ow[i]?>>l):l<B.rs.length:=by
 have hm:=JB h
 rw[W.ow] at hm
 exact kmR _ hm
structure MksOk(ps:List (Option Nat))(M:Mks):Prop where
 kind:∀k,M.kind>>k->k<ps.length
 needs:0<=M.needs/\M.needs<=1000000000000
 most:∀m,M.most>>m->0<=m/\m<=1000000000000
noncomputable def mks0:Mks:=⟨none,0,none,false,false,false⟩
noncomputable def kjo:Srt->List V
 | .off a=>[.int a]
 | .share s b=>[.int s, .bl b]
 | .cheap n=>[.int n]
 | .bund n p=>[.int n, .int p]
 | .carr=>[]
def Mrk(CM:Addr)(H:Hp)(mv:V)(H':Hp)(mA:Addr):Prop:=mv=.ref mA∨(mv=.non/\H mA=none/\MksIs CM H' mA mks0)
def MksIs.but{C x mA:Addr}{H H':Hp}{M:Mks}(n:mA≠x)(b:But x H H'):MksIs C H mA M->MksIs C H' mA M:=fun⟨dx,fs,h,q⟩=>⟨dx,fs,b _ _ n h,q⟩
theorem Mrk.but{CM x mA:Addr}{H H1 H2:Hp}{mv:V}{o:HO}(hx:H x>>o)(b:But x H1 H2):Mrk CM H mv H1 mA->Mrk CM H mv H2 mA
 | .inl e=>.inl e
 | .inr ⟨e,f,h⟩=>.inr ⟨e,f,h.but (kai hx f).symm b⟩
inductive keu(C:Addr)(vs:List V)(H:Hp)(Q:VK)(E_:XK):Prop
 |ct(x dx:Addr)(M:Mks)(_:vs=[.ref x,pV M.kind, .int M.needs,oV M.most, .bl M.member, .bl M.once, .bl M.lone])(_:H x>>(.ins C dx []))(_:∀H',But x H H'->MksIs C H' x M->Q .non H'):keu C vs H Q E_
inductive kfy(K:Jw)(CM:Addr)(vs:List V)(H:Hp)(Q:VK)(E_:XK):Prop
 |ct(x C dx:Addr)(fs:List (Str×V))(mv:V)(_:vs=[.ref x,mv])(_:H x>>(.ins C dx fs))(_:Cls K C)(_:NoAttr K C "marks")(_:fs.length<=5)(_:(mv=.non∨∃mA,mv=.ref mA))(_:∀(H':Hp)(mA:Addr),But x H H'->Mrk CM H mv H' mA->H' x>>(.ins C dx (putF "marks" (.ref mA) fs))->Q .non H'):kfy K CM vs H Q E_
inductive keb(C CM:Addr)(is:Srt->Prop)(vs:List V)(H:Hp)(Q:VK)(E_:XK):Prop
 |ct(x dx:Addr)(so:Srt)(mv:V)(_:is so)(_:vs=.ref x::(kjo so++[mv]))(_:H x>>(.ins C dx []))(_:(mv=.non∨∃mA,mv=.ref mA))(_:∀(H':Hp)(mA:Addr)(fs:List (Str×V)),But x H H'->Mrk CM H mv H' mA->H' x>>(.ins C dx fs)->fs.lookup ("marks" :Str)>>(.ref mA)->SrtIs fs so->Q .non H'):keb C CM is vs H Q E_
theorem kiA{C:Addr}{H:Hp}{M:Mks}{R:Addr->Hp->Prop}{E:XK}(k:∀(H':Hp)(x:Addr),Same H H'->H x=none->MksIs C H' x M->R x H'):
  ∀x dx,H x=none->H dx=none->dx≠x->keu C [.ref x,pV M.kind, .int M.needs,oV M.most, .bl M.member, .bl M.once, .bl M.lone] (upd (upd H dx (.own x)) x (.ins C dx [])) (fun v H2=>v=.non/\R x H2) E:=
 fun x dx nx nd _=>⟨x,dx,M,rfl,kae,fun H' b l=>⟨rfl,k H' x (kbP nx nd b) nx l⟩⟩
def kg0{d:D}{H:Hp}{so:Srt}{mA:Addr}{M:Mks}{is:Srt->Prop}{R:Addr->Hp->Prop}{E:XK}(hi:is so)(hh:here so=true)(hM:MksIs d.qe H mA M)(k:∀(H':Hp)(x:Addr),Same H H'->H x=none->VchIs d H' x ⟨so,M⟩->R x H')(htb:Tbs d H:=by assumption):
  ∀x dx,H x=none->H dx=none->dx≠x->keb (clsOf d so) d.qe is (.ref x::(kjo so++[.ref mA])) (upd (upd H dx (.own x)) x (.ins (clsOf d so) dx [])) (fun v H2=>v=.non/\R x H2) E:=
 fun x dx nx nd _=>⟨x,dx,so, .ref mA,hi,rfl,kae, .inr ⟨mA,rfl⟩,fun H' mA' fs b hm h1 h2 h3=>by
  have e:mA'=mA:=by
   rcases hm with e|⟨e,_⟩
   ·injection e with e
    exact e.symm
   ·cases e
  subst e
  exact⟨rfl,k H' x (kbP nx nd b) nx ⟨mA',dx,fs,h1,h2,h3,hM.same (kbP nx nd b),hh,htb.same (kbP nx nd b)⟩⟩⟩
inductive spMix(vs:List V)(H:Hp)(Q:VK)(E_:XK):Prop
 |ct(c f p:Int)(_:vs=[.int c, .int f, .int p])(_:(-(2 ^ 64)<f/\f<2 ^ 64))(_:0<p)(_:Q (.int (c*f%p)) H):spMix vs H Q E_
def sN{t u:TS}{D:Ends}{σ:St}{H:Hp}(h:∀N:St->Hp->Prop,(∀σ' H',u D σ' H'->N σ' H')->t {D with nx:=N} σ H):tSeq t u D σ H:=h (u D) fun _ _ q=>q
theorem kmX{CL:Addr}{H:Hp}{r:Row}{R:Addr->Hp->Prop}{E:XK}(k:∀(H':Hp)(x:Addr),Same H H'->H x=none->LineAt CL H' x r->R x H'):
  ∀x dx,H x=none->H dx=none->dx≠x->khq CL [.ref x, .int r.kd, .int r.pr, .int r.mn,oV r.ex] (upd (upd H dx (.own x)) x (.ins CL dx [])) (fun v H2=>v=.non/\R x H2) E:=
 fun x dx nx nd _=>⟨x,dx,r,rfl,kae,fun H' b l=>⟨rfl,k H' x (kbP nx nd b) nx l⟩⟩
theorem kmY{K:Jw}{CB:Addr}{H:Hp}{l:Addr}{cg:Int}{m:Bool}{xs:List V}{R:Addr->Hp->Prop}{E:XK}(hl:SqL K H l xs)(k:∀(H':Hp)(x l':Addr),Same H H'->H x=none->H l'=none->H' l'>>(.lst xs)->BaskAt CB H' x l' cg m->R x H'):
  ∀x dx,H x=none->H dx=none->dx≠x->khr K CB [.ref x, .ref l, .int cg, .bl m] (upd (upd H dx (.own x)) x (.ins CB dx [])) (fun v H2=>v=.non/\R x H2) E:=
 fun x dx nx nd _=>⟨x,dx,l,cg,m,xs,rfl,kae,(kbt nx nd).seq hl,fun H' l' b n h1 h2=>⟨rfl,k H' x l' (kbP nx nd b) nx (kdF n) h1 h2⟩⟩
theorem kls{CL CB CS:Addr}{H:Hp}{b l:Addr}{cg:Int}{m:Bool}{ls:List Addr}{rs:List Row}{R:Addr->Hp->Prop}{E:XK}(hb:BaskAt CB H b l cg m)(hl:H l>>(.lst (ls.map V.ref)))(hL:Lines CL H ls rs)(hn:rs.length<=12)(hok:∀r∈rs,r.Ok)
  (k:∀(H':Hp)(x o p mk:Addr),Same H H'->H x=none->H o=none->H p=none->H mk=none->StandAt CS H' x o p mk cg->H' o>>(.lst ((own rs).map V.int))->H' p>>(.lst ((prs m rs).map V.int))->H' mk>>(.lst (JE rs.length (.bl false)))->R x H'):
  ∀x dx,H x=none->H dx=none->dx≠x->kdr CL CB CS [.ref x, .ref b] (upd (upd H dx (.own x)) x (.ins CS dx [])) (fun v H2=>v=.non/\R x H2) E:=
 fun x dx nx nd _=>⟨x,dx,b,l,cg,m,ls,rs,rfl,kae,hb.same (kbt nx nd),kg1 nx nd hl,hL.same (kbt nx nd),hn,hok,fun H' o p mk bt n1 n2 n3 S h1 h2 h3 _=>⟨rfl,k H' x o p mk (kbP nx nd bt) nx (kdF n1) (kdF n2) (kdF n3) S h1 h2 h3⟩⟩
structure VchOk(ps:List (Option Nat))(V:Vch):Prop where
 so:SrtOk V.so
 ms:MksOk ps V.ms
noncomputable def stnd0(B:Bask):Stnd:=⟨ownN B.rs,prs B.m B.rs,B.cg,JE B.rs.length false⟩
theorem kkb{CL CB CS:Addr}{H:Hp}{b:Addr}{B:Bask}{R:Addr->Hp->Prop}{E:XK}(hb:BaskIs CL CB H b B)(hn:B.rs.length<=12)(hok:∀r∈B.rs,r.Ok)(k:∀(H':Hp)(x:Addr),Same H H'->H x=none->StndIs CS H' x (stnd0 B)->R x H'):
  ∀x dx,H x=none->H dx=none->dx≠x->kdr CL CB CS [.ref x, .ref b] (upd (upd H dx (.own x)) x (.ins CS dx [])) (fun v H2=>v=.non/\R x H2) E:=by
 obtain⟨l,ls,h1,h2,h3⟩:=hb
 refine kls h1 h2 h3 hn hok fun H' x o p mk s f1 _ _ _ hS ho hp hm=>k H' x s f1 ⟨o,p,mk,hS,?_,hp,?_⟩
 ·rw[ho,kf9]
  rfl
 ·rw[hm]
  show _>>(HO.lst ((JE B.rs.length false).map V.bl))
  rw[List.map_replicate]
def kl8{m:Bool}{r:Row}(h:r.Ok):0<=prc m r/\prc m r<=1000000000000:=by
 unfold prc
 split
 ·cases e:r.ex with
  |none=>exact⟨h.pr0,h.pr1⟩
  |some z=>exact h.ex0 z e
 ·rwa[h.pr0,h.pr1]
theorem kio(m:Bool):∀(rs:List Row)(k:Nat),(rs.map fun r=>JE r.mn.toNat (prc m r)).flatten.length=((rs.zipIdx k).map fun p=>JE p.1.mn.toNat (p.2:Int)).flatten.length
 |[],_=>by simp
 |r::rs,k=>by
  rw[Ex,JG,J9,JN,N7,JG,J9,JN,N7,kio m rs (k+1)]
def kmN(m:Bool)(rs:List Row):(prs m rs).length=(ownN rs).length:=by
 have e:(ownN rs).length=(own rs).length:=by
  have:=congrArg Ny (kf9 rs)
  simpa using this.symm
 rw[e]
 exact kio m rs 0
def Wf.start{ps:List (Option Nat)}{B:Bask}(g:Good ps)(pl:ps.length<=20)(kd:∀r∈B.rs,0<=r.kd/\r.kd<(ps.length:Int))(ok:∀r∈B.rs,r.Ok)(nl:B.rs.length<=12)(bc:0<=B.cg/\B.cg<=1000000000000)(n64:(ownN B.rs).length<64):Wf ps B (stnd0 B):=by
 rwa[g,pl,kd,ok,nl,bc,6,kmN _ _,by simp[stnd0],fun z hz=>?_,bc,n64]
 obtain⟨xs,h1,h2⟩:=NS.mp hz
 obtain⟨r,hr,rfl⟩:=JP.mp h1
 rw[(ED.mp h2).2]
 exact kl8 (ok r hr)
def Wf.nn{ps:List (Option Nat)}{B:Bask}{S:Stnd}(W:Wf ps B S):Nn S.pr:=fun z hz=>(W.pr z hz).1
def Wf.after{ps:List (Option Nat)}{B:Bask}{S:Stnd}{V:Vch}(W:Wf ps B S)(O:VchOk ps V):Wf ps B (aftM V ps (kds B) S):=by
 have h:=kmw (V:=V) (ps:=ps) (kk:=kds B) W.nn W.cg.1 O.so fun m e=>(O.ms.most m e).1
 rwa[W.good,W.pl,W.kd,W.ok,W.nl,W.bc,W.ow,h.1.1.trans W.lp,by rw[<-W.lm];simp[aftM],fun z hz=>?_,⟨h.2.1,Int.le_trans h.2.2 W.cg.2⟩,W.n64]
 obtain⟨j,e1⟩:=NV.mp hz
 have hj:j<S.pr.length:=by
  rw[<-h.1.1]
  exact(JK.mp e1).1
 have e2:S.pr[j]?>>S.pr[j]:=by simp[hj]
 have b:=h.1.2 j z _ e1 e2
 have c:=W.pr _ (JB e2)
 rwa[b.1,Int.le_trans b.2 c.2]
inductive kjK(K:Jw)(d:D)(vs:List V)(H:Hp)(Q:VK)(E_:XK):Prop
 |ct(v a b x:Addr)(V:Vch)(ps:List (Option Nat))(B:Bask)(S:Stnd)(_:vs=[.ref v, .ref a, .ref b, .ref x])(_:VchIs d H v V)(_:SqL K H a (ps.map pV))(_:BaskIs d.qf d.qg H b B)(_:StndIs d.qc H x S)(_:Wf ps B S)(_:VchOk ps V)(_:∀(H':Hp)(p:Addr),Same H H'->H p=none->H' p>>(.lst ((abt ps (kds B) V.ms.kind V.ms.lone S).map iV))->Q (.ref p) H'):kjK K d vs H Q E_
theorem cl_of{K:Jw}{mg:Str->Option Value}{d:D}{base:Heap}(W:WB K mg d base):∀{so:Srt},here so=true->Cls K (clsOf d so)
 | .off _,h=>W.c_Off.cl
 | .share _ _,h=>W.qh.cl
 | .cheap _,h=>W.qj.cl
 | .bund _ _,h=>W.qi.cl
 | .carr,h=>W.ql.cl
theorem na_of{K:Jw}{mg:Str->Option Value}{d:D}{base:Heap}(W:WB K mg d base):∀{so:Srt},here so=true->NoAttr K (clsOf d so) "marks"
 | .off _,h=>W.ZY
 | .share _ _,h=>W.Va
 | .cheap _,h=>W.Vd
 | .bund _ _,h=>W.Vh
 | .carr,h=>W.Vi
theorem kky{K:Jw}{mg:Str->Option Value}{d:D}{base:Heap}(W:WB K mg d base):∀{so:Srt},here so=true->Isi K (clsOf d so)
 | .off _,h=>W.c_Off.isi
 | .share _ _,h=>W.qh.isi
 | .cheap _,h=>W.qj.isi
 | .bund _ _,h=>W.qi.isi
 | .carr,h=>W.ql.isi
theorem kks{K:Jw}{mg:Str->Option Value}{d:D}{base:Heap}(W:WB K mg d base):∀{so:Srt},here so=true->JZ K (.ref (clsOf d so)) (.ref d.c_Off)>>(kni so)
 | .off _,h=>kcJ _ _
 | .share _ _,h=>W.VB
 | .cheap _,h=>W.VC
 | .bund _ _,h=>W.VD
 | .carr,h=>W.VE
theorem kbQ{K:Jw}{mg:Str->Option Value}{d:D}{base:Heap}(W:WB K mg d base):∀{so:Srt},here so=true->JZ K (.ref (clsOf d so)) (.ref d.qh)>>(kk0 so)
 | .off _,h=>W.VF
 | .share _ _,h=>kcJ _ _
 | .cheap _,h=>W.VG
 | .bund _ _,h=>W.VH
 | .carr,h=>W.VI
theorem kbu{K:Jw}{mg:Str->Option Value}{d:D}{base:Heap}(W:WB K mg d base):∀{so:Srt},here so=true->JZ K (.ref (clsOf d so)) (.ref d.qj)>>(khk so)
 | .off _,h=>W.VJ
 | .share _ _,h=>W.VL
 | .cheap _,h=>kcJ _ _
 | .bund _ _,h=>W.VM
 | .carr,h=>W.VN
theorem kdc{K:Jw}{mg:Str->Option Value}{d:D}{base:Heap}(W:WB K mg d base):∀{so:Srt},here so=true->JZ K (.ref (clsOf d so)) (.ref d.qi)>>(kjc so)
 | .off _,h=>W.VO
 | .share _ _,h=>W.VP
 | .cheap _,h=>W.VQ
 | .bund _ _,h=>kcJ _ _
 | .carr,h=>W.VR
theorem kg4{K:Jw}{mg:Str->Option Value}{d:D}{base:Heap}(W:WB K mg d base):∀{so:Srt},here so=true->JZ K (.ref (clsOf d so)) (.ref d.ql)>>(kbT so)
 | .off _,h=>W.VS
 | .share _ _,h=>W.VT
 | .cheap _,h=>W.VU
 | .bund _ _,h=>W.VV
 | .carr,h=>kcJ _ _
theorem kdQ{b:Int}:∀{q:List Int},(∀z∈q,z<=b)->q.sum<=b*q.length
 |[],_=>by simp
 |z::q,h=>by
  have h1:=h z JS
  have h2:=kdQ (q:=q) fun x hx=>h x (JQ _ hx)
  rw[J0,Nb]
  have e:b*((q.length+1:Nat):Int)=b*q.length+b:=by rw[Int.natCast_add,Int.mul_add];simp
  lia
def kim{ps:List (Option Nat)}{B:Bask}{S:Stnd}(wf:Wf ps B S){ab:List Nat}(hl:ab.length<=720)(hb:∀i∈ab,i<S.pr.length):(qs S.pr ab).sum<=720000000000000:=by
 have h:=kdQ (b:=1000000000000) (q:=qs S.pr ab) fun z hz=>by
  obtain⟨i,hi,rfl⟩:=JP.mp hz
  obtain⟨w,ew⟩:=at_of (hb i hi)
  rw[JM,ew]
  exact(wf.pr w (JB ew)).2
 rw[kbs] at h
 lia
def knf(xs:List V)(i k:Nat):cutV xs (some (i:Int)) (some ((i+k:Nat):Int))=(xs.drop i).take k:=by
 unfold cutV
 rw[HT.sIx_nat,HT.sIx_nat]
 by_cases h:i<=xs.length
 ·rw[M6 h,EM,Mm]
  lia
 ·rw[EV (by lia),EV (by lia)]
  simp
def kkZ{α:Type}{xs:List α}{v: α}(h:xs[xs.length-1]?>>v)(h0:0<xs.length):atI xs (-1)>>v:=by
 unfold atI ixN
 rw[if_neg (by lia),if_pos (by lia)]
 show xs[(-1+(xs.length:Int)).toNat]?>>v
 rw[show(-1+(xs.length:Int)).toNat=xs.length-1 by lia]
 exact h
def kij{H0 H1 H2:Hp}{x:Addr}(f:H0 x=none)(s:Same H0 H1)(b:But x H1 H2):Same H0 H2:=fun y u e=>kbM (s y u e) fun u' e'=>b y u' (kai e f) e'
noncomputable def hindM(V:Vch)(ps:List (Option Nat))(B:Bask)(S:Stnd):L2.V:=
 if(V.ms.member&& !B.m)=true then .str "member" else if(abt ps (kds B) V.ms.kind V.ms.lone S).length=0 then .str "nothing" else if(qs S.pr (abt ps (kds B) V.ms.kind V.ms.lone S)).sum<V.ms.needs then .str "needs" else .non
inductive kl1(K:Jw)(d:D)(vs:List V)(H:Hp)(Q:VK)(E_:XK):Prop
 |ct(v a b x:Addr)(V:Vch)(ps:List (Option Nat))(B:Bask)(S:Stnd)(_:vs=[.ref v, .ref a, .ref b, .ref x])(_:VchIs d H v V)(_:SqL K H a (ps.map pV))(_:BaskIs d.qf d.qg H b B)(_:StndIs d.qc H x S)(_:Wf ps B S)(_:VchOk ps V)(_:∀(H':Hp),Same H H'->Q (hindM V ps B S) H'):kl1 K d vs H Q E_
noncomputable def atM(m:Option Int)(n:Int):Int:=match m with
 |none=>n
 |some m=>min m n
def none_of{H H':Hp}(s:Same H H'){p:Addr}(h:H' p=none):H p=none:=s.free h
def kkW{x:Addr}{H H':Hp}(b:But x H H')(n:H x=none):Same H H':=fun y u e=>b y u (kai e n) e
theorem kkc{CL CB CS:Addr}{H:Hp}{b l:Addr}{cg:Int}{m:Bool}{ls:List Addr}{rs:List Row}{R:Addr->Hp->Prop}{E:XK}(hb:BaskAt CB H b l cg m)(hl:H l>>(.lst (ls.map V.ref)))(hL:Lines CL H ls rs)(hn:rs.length<=12)(hok:∀r∈rs,r.Ok)
  (k:∀(H':Hp)(x:Addr),Same H H'->H x=none->∀(dx:Addr)(fs:List (Str×V)),H' x>>(.ins CS dx fs)->fs.length<=10->fs.lookup ("whole" :Str)=none->R x H'):
  ∀x dx,H x=none->H dx=none->dx≠x->kdr CL CB CS [.ref x, .ref b] (upd (upd H dx (.own x)) x (.ins CS dx [])) (fun v H2=>v=.non/\R x H2) E:=
 fun x dx nx nd _=>⟨x,dx,b,l,cg,m,ls,rs,rfl,kae,hb.same (kbt nx nd),kg1 nx nd hl,hL.same (kbt nx nd),hn,hok,fun H' o p mk bt n1 n2 n3 S h1 h2 h3 fw=>by
  obtain⟨dx',fs,e,hf⟩:=fw
  obtain⟨dx2,fs2,e2,_,_,_,_,hw⟩:=S
  rw[e] at e2
  injection e2 with e2
  injection e2 with _ e3 e4
  subst e4
  exact⟨rfl,k H' x (kbP nx nd bt) nx dx' fs e hf hw⟩⟩
theorem knb{V:Vch}{ps:List (Option Nat)}{kk:List Nat}{S:Stnd}(vo:VchOk ps V):(cutM V ps kk S).2=if kbT V.so=true then atM V.ms.most S.cg else 0:=by
 have hm:=vo.ms.most
 unfold cutM
 simp only
 cases e:V.ms.most with
 |none=>
  unfold cap atM
  simp only
  unfold fee kbT
  cases V.so <;> rfl
 | some m=>
  have h0:=(hm m e).1
  unfold cap atM
  simp only
  cases eso:V.so with
  | carr=>
   have hz:(want .carr S.mkd.length ((abt ps kk V.ms.kind V.ms.lone S).map fun i=>S.ow.getD i 0) (qs S.pr (abt ps kk V.ms.kind V.ms.lone S))).sum=0:=by
    unfold want
    simp
   show(if m<_+S.cg then _ else _:List Int×Int).2=min m S.cg
   rw[hz,Int.zero_add]
   split
   ·show min S.cg m=_
    lia
   ·show S.cg=_
    lia
  | _=>
   show(if m<_+0 then(_,min 0 m) else(_,0):List Int×Int).2=0
   split
   ·show min 0 m=0
    lia
   ·rfl
def knG{B:Bask}{l:Nat}{r:Row}(h:B.rs[l]?>>r):(kds B).getD l 0=r.kd.toNat:=by
 unfold kds
 rw[JM,JF,h]
 rfl
theorem klW{ps:List (Option Nat)}{kk:List Nat}{kind:Option Nat}{lone:Bool}{S:Stnd}{i:Nat}:
  (Jy (i+1)).filter (fun i=>hits ps kk kind lone S.mkd (S.ow.getD i 0))=(Jy i).filter (fun i=>hits ps kk kind lone S.mkd (S.ow.getD i 0))++(if hits ps kk kind lone S.mkd (S.ow.getD i 0)=true then [i] else []):=by
 rw[Nk,NI]
 congr 1
 simp only[NB,Mf]
def GrpAt(H H':Hp)(pa:Addr)(t:Addr)(q:Int×List Nat):Prop:=∃ga,H' t>>(.tup [.int q.1, .ref ga])/\H' ga>>(.lst (q.2.map iV))/\(ga=pa∨H ga=none)
inductive kh7(d:D)(vs:List V)(H:Hp)(Q:VK)(E_:XK):Prop
 |ct(v x pa:Addr)(V:Vch)(ps:List (Option Nat))(B:Bask)(S:Stnd)(_:vs=[.ref v, .ref x, .ref pa])(_:VchIs d H v V)(_:StndIs d.qc H x S)(_:H pa>>(.lst ((abt ps (kds B) V.ms.kind V.ms.lone S).map iV)))(_:Wf ps B S)(_:VchOk ps V) (_:∀(H':Hp) (p:Addr) (tl:List Addr) (gl:List (Int×List Nat)),Same H H'->H p=none->H' p>>(.lst (tl.map L2.V.ref))->P2 (GrpAt H H' pa) tl gl->(∀c g,(c,g)∈gl->0<=c/\c<=(qs S.pr g).sum/\g.length<=720)->(gl.map Prod.snd).flatten.Nodup->(∀i∈(gl.map Prod.snd).flatten,i<S.pr.length)->gl.length<=720->
  spr S.pr.length (gl.map Prod.snd).flatten (gl.map fun p=>dl p.1 (qs S.pr p.2)).flatten=spr S.pr.length (abt ps (kds B) V.ms.kind V.ms.lone S) (want V.so S.mkd.length ((abt ps (kds B) V.ms.kind V.ms.lone S).map fun i=>S.ow.getD i 0) (qs S.pr (abt ps (kds B) V.ms.kind V.ms.lone S)))->Q (.ref p) H'):kh7 d vs H Q E_
def kay{H H':Hp}{p:Addr}{o:HO}(h:upd H p o=H')(f:H p=none):Same H H'/\H' p>>o:=by
 subst h
 rwa[kam f,kae]
structure Rul where
 w:Str
 a:Nat
 b:Nat
structure TillD where
 ps:List (Option Nat)
 vs:List Vch
 rs:List Rul
 bk:Str
def RulIs(H:Hp)(a:Addr)(r:Rul):Prop:=H a>>(.tup [.str r.w,iV r.a,iV r.b])
inductive TillIs(d:D)(H:Hp)(t:Addr)(T:TillD):Prop
 |ct(dx:Addr)(fs:List (Str×V))(p vl rl:Addr)(va ra:List Addr)(_:H t>>(.ins d.qd dx fs))(_:fs.lookup ("parents" :Str)>>(.ref p))(_:fs.lookup ("vouchers" :Str)>>(.ref vl))(_:fs.lookup ("rules" :Str)>>(.ref rl))(_:fs.lookup ("back" :Str)>>(.str T.bk))(_:H p>>(.lst (T.ps.map pV)))(_:H vl>>(.lst (va.map V.ref)))(_:P2 (fun a V=>VchIs d H a V) va T.vs)(_:H rl>>(.lst (ra.map V.ref)))(_:P2 (fun a r=>RulIs H a r) ra T.rs):TillIs d H t T
def TillIs.same{d:D}{H H':Hp}{t:Addr}{T:TillD}(s:Same H H'):TillIs d H t T->TillIs d H' t T:=fun⟨dx,fs,p,vl,rl,va,ra,h1,h2,h3,h4,h5,h6,h7,h8,h9,h10⟩=>
 ⟨dx,fs,p,vl,rl,va,ra,s _ _ h1,h2,h3,h4,h5,s _ _ h6,s _ _ h7,h8.mono fun a V h=>h.same s,s _ _ h9,h10.mono fun a r h=>s _ _ h⟩
structure kbw(T:TillD):Prop where
 vs:∀V∈T.vs,VchOk T.ps V
 nv:T.vs.length<=8
inductive WayAt(d:D)(m:Nat)(H:Hp)(w t b x:Addr)(hand:List Int)(used:List Nat):Prop
 |ct(dx:Addr)(fs:List (Str×V))(h u:Addr)(_:H w>>(.ins d.c_Way dx fs))(_:fs.lookup ("till" :Str)>>(.ref t))(_:fs.lookup ("basket" :Str)>>(.ref b))(_:fs.lookup ("hand" :Str)>>(.ref h))(_:fs.lookup ("used" :Str)>>(.ref u))(_:fs.lookup ("standing" :Str)>>(.ref x))(_:fs.lookup ("word_for" :Str)=none)(_:fs.lookup ("behind" :Str)=none)(_:fs.lookup ("is_let_by" :Str)=none)(_:fs.lookup ("followers" :Str)=none)(_:fs.length<=m)(_:H h>>(.lst (hand.map V.int)))(_:H u>>(.lst (used.map iV))):WayAt d m H w t b x hand used
abbrev WayIs(d:D)(H:Hp)(w t b x:Addr)(hand:List Int)(used:List Nat):Prop:=WayAt d 7 H w t b x hand used
def WayAt.most{d:D}{m m':Nat}{H:Hp}{w t b x:Addr}{hand:List Int}{used:List Nat}(hm:m<=m'):WayAt d m H w t b x hand used->WayAt d m' H w t b x hand used:=fun⟨dx,fs,h,u,h1,h2,h3,h4,h5,h6,h7,h8,h9,h10,h11,h12,h13⟩=>
 ⟨dx,fs,h,u,h1,h2,h3,h4,h5,h6,h7,h8,h9,h10,JA h11 hm,h12,h13⟩
def WayAt.same{d:D}{m:Nat}{H H':Hp}{w t b x:Addr}{hand:List Int}{used:List Nat}(s:Same H H'):WayAt d m H w t b x hand used->WayAt d m H' w t b x hand used:=fun⟨dx,fs,h,u,h1,h2,h3,h4,h5,h6,h7,h8,h9,h10,h11,h12,h13⟩=>
 ⟨dx,fs,h,u,s _ _ h1,h2,h3,h4,h5,h6,h7,h8,h9,h10,h11,s _ _ h12,s _ _ h13⟩
noncomputable def nevR(used:List Nat)(n:Nat)(r:Rul):Bool:=decide (r.w=("never" :Str))&&((decide (r.a=n)&&used.contains r.b)||(decide (r.b=n)&&used.contains r.a))
noncomputable def kfI(rs:List Rul)(used:List Nat)(n:Nat):Bool:=rs.any (nevR used n)
noncomputable def ahdR(used:List Nat)(n:Nat)(r:Rul):Bool:=decide (r.w=("ahead" :Str))&&(decide (r.a=n)&&used.contains r.b)
noncomputable def kfP(rs:List Rul)(used:List Nat)(n:Nat):Bool:=rs.any (ahdR used n)
noncomputable def loneM(order:List Nat)(r:Rul):Bool:=decide (r.w=("only" :Str))&&(order.contains r.a&& !order.contains r.b)
noncomputable def onlyM(rs:List Rul)(order:List Nat):Option Nat:=(rs.find? (loneM order)).map Rul.a
noncomputable def sV:Option Str->V
 |none=>.non
 |some z=>.str z
noncomputable def wordM(V:Vch)(rs:List Rul)(hand:List Int)(used:List Nat)(n:Nat):Option Str:=
 if hand.getD n 0<(used.count n:Int)+1 then some "held" else if(V.ms.once&&used.contains n)=true then some "once" else if kfI rs used n=true then some "never" else if kfP rs used n=true then some "ahead" else none
noncomputable def dueM(V:Vch)(T:TillD)(B:Bask)(hand:List Int)(used:List Nat)(S:Stnd)(n:Nat):L2.V:=match wordM V T.rs hand used n with
 |some z=>.str z
 |none=>hindM V T.ps B S
theorem kcE{n:Nat}:∀(l:List Nat),inV (iV n) (l.map iV)=l.contains n
 |[]=>rfl
 | m::l=>by
  have ih:=kcE (n:=n) l
  unfold inV at ih⊢
  rw[JG,NF,ih,List.contains_cons]
  congr 1
  show eqV (V.int (m:Int)) (V.int (n:Int))=(n==m)
  by_cases h:n=m
  ·subst h
   simp[eqV]
  ·have h1:¬((m:Int)=(n:Int)):=by lia
   have e2:(n==m)=false:=beq_eq_false_iff_ne.mpr h
   rw[e2]
   simp[eqV,h1]
theorem kgp(l:List Nat)(n:Nat):(l.map fun(i:Nat)=>(i:Int)).count (n:Int)=l.count n:=by
 induction l with
 |nil=>rfl
 | cons m l ih=>
  rw[JG,Es,Es,ih]
  congr 1
  by_cases h:m=n
  ·subst h;simp
  ·have h1:¬((m:Int)=(n:Int)):=by lia
   have e1:((m:Int)==(n:Int))=false:=beq_eq_false_iff_ne.mpr h1
   have e2:(m==n)=false:=beq_eq_false_iff_ne.mpr h
   rw[e1,e2]
def kha(a b:Nat):decide (iV a=iV b)=decide (a=b):=by
 by_cases h:a=b
 ·subst h;simp
 ·have n:¬(iV a=iV b):=fun e=>h (by have:=V.int.inj e;lia)
  rw[decide_eq_false h,decide_eq_false n]
def eq_str(a b:Str):decide (V.str a=V.str b)=decide (a=b):=by
 by_cases h:a=b
 ·subst h;simp
 ·have n:¬(V.str a=V.str b):=fun e=>h (V.str.inj e)
  rw[decide_eq_false h,decide_eq_false n]
section
variable{P:Program}{w:World}{K:Jw}{mg:Str->Option Value}{base:Heap}{d:D}
seal PE PS PSs PA PT PC PG PGs PI
abbrev FO{K:Jw}{mg:Str->Option Value}{d:D}{base:Heap}(P:Program)(w:World)(_:WB K mg d base):=FnOk P w K mg base CX0
theorem Xe:kat ["parents","one","other","kind"] ["parents","one","other"] (kah khx):=by ac_rfl
theorem klo(W:WB K mg d base):FO P w W 1 d.Xv d.Xw ["parents","one","other"] (kjv K):=by
 exists W.Zr.F,Xe
 ·obtain⟨a,ps,one,other,rfl,hS,hg,ho,k⟩:=h
  refine⟨_,kab (psl (i:=3) Xe.nd (pv 1))
   (kab (klg PassesOwn.never (kan kdZ (pv 3) kbo (kau _))
   (kab (ps_if (kan op_eq (pv 3) (pv 2) (kau _)) (kag (kaq pe_bl)) (kar))
   (kag (psl (i:=3) Xe.nd (pe_ix (r:=rIxL K) kaH (pv 0) (pv 3) (fun _ _=>rfl))))))
   (kag (kaq pe_bl))),?_⟩
  rwa[8,?_]
  refine kk4 (fun σ H'=>∃o:Option Nat,σ=[some (.ref a),some (.int one),some (.int other),some (pV o)]/\H'=H/\(∀i,o>>i->i<ps.length)/\decide (other∈up ps one)=decide (other∈rest ps o))
   (fun σ _=>match σ with|[_,_,_,some (.int i)]=>i.toNat+1|_=>0) ⟨some one,rfl,rfl,fun i e=>by cases e;exact ho,rfl⟩ ?_ ?_
  ·rintro σ H' ⟨o,rfl,rfl,hb,he⟩
   rwa[8,6,8,?_]
   cases o with
   |none=>
    show if(!decide (V.non=V.non))=true then _ else _
    rw[kmc]
    refine iteF ?_
    show Q (.bl false) _
    have e:decide (other∈up ps one)=false:=by rw[he];simp[Kin.rest]
    rw[e] at k
    exact k
   | some i=>
    show if(!decide (V.int i=V.non))=true then _ else _
    rw[kmd]
    refine iteT ?_
    have hi:=hb i rfl
    rwa[8,8,6,8,?_]
    show if decide (V.int i=V.int other)=true then _ else _
    rw[eq_int]
    obtain⟨o,eo⟩:∃o,ps[i]?>>o:=⟨ps[i],by simp[hi]⟩
    refine ite2 (fun h=>?_) (fun h=>?_)
    ·have h':i=other:=of_decide_eq_true h
     subst h'
     have e:decide (i∈up ps one)=true:=by
      rw[he]
      show decide (i∈up ps i)=true
      rw[up_eq hg eo]
      simp
     rw[e] at k
     exact k
    ·have h':¬i=other:=fun z=>h (decide_eq_true z)
     rwa[8,8,a,_,_,pV o,6,6,hS,kaK (by simp[eo]),?_]
     rwa[⟨o,rfl,rfl,fun j e=>?_,?_⟩,?_]
     ·subst e
      have:=hg i j eo
      lia
     ·rw[he]
      show decide (other∈up ps i)=_
      rw[up_eq hg eo]
      have:¬other=i:=fun z=>h' z.symm
      simp[this]
     ·cases o with
      |none=>exact Nat.succ_pos _
      |some j=>
       have:=hg i j eo
       show((j:Int)).toNat+1<((i:Int)).toNat+1
       lia
  ·rintro σ H' Q' Q'' hq ⟨v,h1,h2,h3⟩
   rwa[v,h1,h2,by obtain⟨b,e,q⟩:=h3;exact⟨b,e,hq _ _ q⟩]
theorem qB:kat ["cut","weights","total","parts","reached","given","weight","share"] ["cut","weights"] (kah khA):=by ac_rfl
theorem klq(W:WB K mg d base):FO P w W 1 d.Xt d.Xu ["cut","weights"] (kjH K):=by
 exists W.QO.F,qB
 ·obtain⟨c,a,ws,rfl,hS,hn,hs,hc0,hc1,hl,k⟩:=h
  refine⟨_,kab (psl (i:=2) qB.nd (kao (r:=rSum K) (kcM rfl) (by rfl) W.B.sum b_sum (kaa (pv 1) kad)))
   (kab (ps_if (kan op_eq (pv 2) kaf (kau _)) (kag (kaq (kbZ (N:=["weight"]) (CompScope.plain rfl (by cutsat) (by cutsat) (by cutsat) (nd1 _)) rfl (kaB (K:=K) (pv 1)) (fun _ _ _ _=>pgn (i:=0) (nd1 _)) (fun _ _ _ _=>kaf)))) (kar))
   (kab (psl (i:=3) qB.nd (kaX kad))
   (kab (psl (i:=4) qB.nd kaf)
   (kab (psl (i:=5) qB.nd kaf)
   (kab (ka7 PassesOwn.never rfl (kaB (K:=K) (pv 1)) (pgn (i:=6) qB.nd)
   (kab (kjZ (i:=4) qB.nd rfl (Or.inl rfl) (pv 6) kmm)
   (kab (psl (i:=7) qB.nd (pe_op kis (pe_op kcg (pv 0) (pv 4)) (pv 2)))
   (kab (ka0 (pe_bm Nh NJ NK kbc (pv 3) (kaa (pe_op kdx (pv 7) (pv 5)) kad)))
   (kag (psl (i:=5) qB.nd (pv 7)))))))
   (kag (kaq (pv 3)))))))),?_⟩
  rwa[8,a,ws,6,hS,8,6,8,?_]
  refine ite2 (fun h=>?_) (fun h=>?_)
  ·have h0:ws.sum=0:=by
    have e:V.int ws.sum=V.int 0:=of_decide_eq_true h
    injection e
   rwa[8,a,6,⟨_,hS⟩,kaY (xs:=ws.map V.int) (fun i σ ys H'=>H'=H/\ys=JE i (V.int 0)/\∃v,σ=[v]) ⟨rfl,rfl,none,rfl⟩ ?_ ?_ ?_ ?_]
   ·rw[Jv]
    exact JJ (kas hl)
   ·rintro i σ ys H' hi ⟨rfl,rfl,v,rfl⟩
    rwa[hS,by simp]
   ·rintro i x σ ys H' hx ⟨rfl,rfl,v,rfl⟩
    rwa[6,by rw[M7],8]
   ·rintro σ ys H' ⟨rfl,rfl,v,rfl⟩ D hD
    have:=k D hD
    rw[klw h0] at this
    rw[Jv]
    exact this
  ·have h0:¬ws.sum=0:=fun e=>h (by rw[e];simp)
   have hpos:0<ws.sum:=by
    have:=kbl hn
    lia
   rwa[by decide,fun p hp=>?_]
   have s1:∀o,Same H (upd H p o):=fun o=>kam hp
   refine⟨_,rfl,a,rfl,⟨_,(s1 _).seq hS⟩,ka9 (K:=K) (a:=a) (xs:=ws.map V.int) (fun i σ H'=>H'=upd H p (.lst (((Jy i).map (part c ws)).map V.int))/\
    ∃(v6 v7:Option V),σ=[some (.int c),some (.ref a),some (.int ws.sum),some (.ref p),some (.int (pre ws i)),some (.int (c*pre ws i/ws.sum)),v6,v7])
    ⟨rfl,none,none,by simp[kip];rfl⟩ (fun i σ H' _ ⟨e,_⟩=>by rw[e];exact(s1 _).seq hS) ?_ ?_⟩
   ·rintro i x σ H' hi ⟨rfl,v6,v7,rfl⟩
    have hil:i<(ws.map V.int).length:=(JK.mp hi).1
    rw[Jv] at hil
    obtain⟨z,ez,rfl⟩:∃z,ws[i]?>>z/\x=V.int z:=by
     rw[JF] at hi
     cases e:ws[i]? with
     |none=>rw[e] at hi;cases hi
     |some z=>rw[e] at hi;exact⟨z,rfl,(Option.some.inj hi).symm⟩
    have ep:=kew ez
    rwa[8,8,9,?_]
    rwa[8,8,9, .inl ⟨by lia,by lia⟩,8,9,⟨hpos,by lia⟩,?_]
    rwa[8, .inl ⟨rfl,_,SqL.of kae⟩,8,8,9,p,9,kae,kas (by simp;lia),?_]
    rwa[8,?_,some (.int z),some (.int (c*(pre ws i+z)/ws.sum)),?_]
    ·rw[kmz,Nk,JC,JC]
     show upd H p (.lst (_++[V.int (c*(pre ws i+z)/ws.sum-c*pre ws i/ws.sum)]))=upd H p (.lst (_++[V.int (part c ws i)]))
     unfold part
     rw[ep]
    ·rw[ep]
     rfl
   ·rintro σ H' ⟨rfl,v6,v7,rfl⟩
    rwa[8,?_]
    have:=k p hp
    rw[kkd h0] at this
    rw[Jv]
    exact this
theorem kf0:kat ["self","kind","needs","most","member","once","lone"] ["self","kind","needs","most","member","once","lone"] (kah ka6):=by ac_rfl
theorem kdD(W:WB K mg d base):FO P w W 1 d.Y1 d.qF ["self","kind","needs","most","member","once","lone"] (keu d.qe):=by
 exists W.Qr.F,kf0
 ·obtain⟨x,dx,M,rfl,hx,k⟩:=h
  refine⟨_,kab (kaI (pv 0) (pv 1) rfl)
   (kab (kaI (pv 0) (pv 2) rfl)
   (kab (kaI (pv 0) (pv 3) rfl)
   (kab (kaI (pv 0) (pv 4) rfl)
   (kab (kaI (pv 0) (pv 5) rfl)
   (kag (kaI (pv 0) (pv 6) rfl)))))),?_⟩
  rwa[8,8,x,d.qe,dx,[],6,hx,W.qe.cl,W.Qo,by decide,?_]
  rwa[8,8,x,d.qe,dx,8,kae,W.qe.cl,W.ZW,few (JA (kal (n:=0) (Jx _)) (by decide)),?_]
  rwa[8,8,x,d.qe,dx,8,kae,W.qe.cl,W.Qp,few (JA (kal (kal (n:=0) (Jx _))) (by decide)),?_]
  rwa[8,8,x,d.qe,dx,8,kae,W.qe.cl,W.ZX,few (JA (kal (kal (kal (n:=0) (Jx _)))) (by decide)),?_]
  rwa[8,8,x,d.qe,dx,8,kae,W.qe.cl,W.Qq,few (JA (kal (kal (kal (kal (n:=0) (Jx _))))) (by decide)),?_]
  rwa[8,8,x,d.qe,dx,8,kae,W.qe.cl,W.QX,few (JA (kal (kal (kal (kal (kal (n:=0) (Jx _)))))) (by decide)),?_]
  refine k _ (But.trans (But.trans (But.trans (But.trans (But.trans kax kax) kax) kax) kax) kax) ⟨dx,_,kae,?_,?_,?_,?_,?_,?_⟩ <;> ac_nf
theorem keK:kat ["self","marks"] ["self","marks"] (kah kaP):=by ac_rfl
theorem kbi(W:WB K mg d base):FO P w W 3 d.QG d.QH ["self","marks"] (kfy K d.qe):=by
 exists W.qu.F,keK
 ·obtain⟨x,C,dx,fs,mv,rfl,hx,hC,hN,hl,hm,k⟩:=h
  exists Xf,kdD,W
  rwa[_,kag (kaI (pv 0) (kex (kan keS (pv 1) kbo (kau _)) (kli (W.Qr.mk' W.qe) Xf hr rfl W.qe.m W.b6_Marks_init (show Vals [.non, .int 0, .non, .bl false, .bl false, .bl false] [.none, .int 0 d.tok1_Marks_init, .none, .bool false, .bool false, .bool false] from(.cons rfl (.cons ⟨_,rfl⟩ (.cons rfl (.cons rfl (.cons rfl (.cons rfl .nil))))))) pass0) (pv 1)) rfl),?_]
  rcases hm with rfl|⟨mA,rfl⟩
  ·rwa[8,6,8,iteT ?_]
   refine kiA (M:=mks0) fun H1 mA s1 f1 hM=>?_
   rwa[8,x,C,dx,fs,6,s1 _ _ hx,hC,hN,by lia,?_]
   have hne:mA≠x:=(kai hx f1).symm
   refine k _ mA ((But.of_same s1).trans (kax (nx (s1 _ _ hx)))) (.inr ⟨rfl,f1,?_⟩) kae
   exact hM.but hne (kax (nx (s1 _ _ hx)))
  ·rwa[8,6,8,iteF ?_]
   rwa[8,8,x,C,dx,fs,6,hx,hC,hN,by lia,?_]
   exact k _ mA kax (.inl rfl) kae
theorem khw:kat ["self","amount","marks"] ["self","amount","marks"] (kah kbr):=by ac_rfl
theorem khG(W:WB K mg d base):FO P w W 4 d.Y2 d.QI ["self","amount","marks"] (keb d.c_Off d.qe (fun so=>∃(a:Int),so=.off a)):=by
 refine FunD.ok W.QZ.F khw (fun vs H Q E h=>?_) (fun cdv A outer s H vs Q E hr h=>?_)
 ·obtain⟨x,dx,so,mv,⟨a,rfl⟩,rfl,_⟩:=h
  rfl
 ·obtain⟨x,dx,so,mv,⟨a,rfl⟩,rfl,hx,hm,k⟩:=h
  exists qC,kbi,W
  refine⟨_,kab (ka0 (keP W.Qd qC hr rfl W.qz.m W.qu.F.kp W.qu.b .nil pass0 (kaa (pv 0) (kaa (pv 2) kad))))
   (kag (kaI (pv 0) (pv 1) rfl)),?_⟩
  rwa[8,8,x,d.c_Off,dx,[],mv,6,hx,W.c_Off.cl,W.ZY,by decide,hm,fun H1 mA b1 hM h1=>?_]
  rwa[8,8,x,d.c_Off,dx,8,h1,W.c_Off.cl,W.QY,few (JA (kal (n:=0) (Jx _)) (by decide)),?_]
  refine k _ mA _ (b1.trans kax) ?_ kae ?_ ?_
  ·exact hM.but hx kax
  ·ac_nf
  ·show NM _ _=_
   ac_nf
theorem kfZ:kat ["self","share","by_line","marks"] ["self","share","by_line","marks"] (kah ka5):=by ac_rfl
theorem kge(W:WB K mg d base):FO P w W 4 d.Y3 d.Qk ["self","share","by_line","marks"] (keb d.qh d.qe (fun so=>∃(sh:Int)(bb:Bool),so=.share sh bb)):=by
 refine FunD.ok W.Q1.F kfZ (fun vs H Q E h=>?_) (fun cdv A outer s H vs Q E hr h=>?_)
 ·obtain⟨x,dx,so,mv,⟨sh,bb,rfl⟩,rfl,_⟩:=h
  rfl
 ·obtain⟨x,dx,so,mv,⟨sh,bb,rfl⟩,rfl,hx,hm,k⟩:=h
  exists qC,kbi,W
  refine⟨_,kab (ka0 (keP W.Qd qC hr rfl W.qz.m W.qu.F.kp W.qu.b .nil pass0 (kaa (pv 0) (kaa (pv 3) kad))))
   (kab (kaI (pv 0) (pv 1) rfl)
   (kag (kaI (pv 0) (pv 2) rfl))),?_⟩
  rwa[8,8,x,d.qh,dx,[],mv,6,hx,W.qh.cl,W.Va,by decide,hm,fun H1 mA b1 hM h1=>?_]
  rwa[8,8,x,d.qh,dx,8,h1,W.qh.cl,W.Q0,few (JA (kal (n:=0) (Jx _)) (by decide)),?_]
  rwa[8,8,x,d.qh,dx,8,kae,W.qh.cl,W.Z9,few (JA (kal (kal (n:=0) (Jx _))) (by decide)),?_]
  refine k _ mA _ ((b1.trans kax).trans kax) ?_ kae ?_ ?_
  ·exact hM.but hx (But.trans kax kax)
  ·ac_nf
  ·rwa[by ac_nf,by ac_nf]
theorem kek:kat ["self","many","marks"] ["self","many","marks"] (kah kaL):=by ac_rfl
theorem ker(W:WB K mg d base):FO P w W 4 d.Y5 d.QJ ["self","many","marks"] (keb d.qj d.qe (fun so=>∃(n:Int),so=.cheap n)):=by
 refine FunD.ok W.Q3.F kek (fun vs H Q E h=>?_) (fun cdv A outer s H vs Q E hr h=>?_)
 ·obtain⟨x,dx,so,mv,⟨n,rfl⟩,rfl,_⟩:=h
  rfl
 ·obtain⟨x,dx,so,mv,⟨n,rfl⟩,rfl,hx,hm,k⟩:=h
  exists qC,kbi,W
  refine⟨_,kab (ka0 (keP W.Qd qC hr rfl W.qz.m W.qu.F.kp W.qu.b .nil pass0 (kaa (pv 0) (kaa (pv 2) kad))))
   (kag (kaI (pv 0) (pv 1) rfl)),?_⟩
  rwa[8,8,x,d.qj,dx,[],mv,6,hx,W.qj.cl,W.Vd,by decide,hm,fun H1 mA b1 hM h1=>?_]
  rwa[8,8,x,d.qj,dx,8,h1,W.qj.cl,W.Q2,few (JA (kal (n:=0) (Jx _)) (by decide)),?_]
  refine k _ mA _ (b1.trans kax) ?_ kae ?_ ?_
  ·exact hM.but hx kax
  ·ac_nf
  ·show NM _ _=_
   ac_nf
theorem kfo:kat ["self","many","price","marks"] ["self","many","price","marks"] (kah kaV):=by ac_rfl
theorem kfs(W:WB K mg d base):FO P w W 4 d.Y7 d.QK ["self","many","price","marks"] (keb d.qi d.qe (fun so=>∃(n:Int)(pp:Int),so=.bund n pp)):=by
 refine FunD.ok W.Q4.F kfo (fun vs H Q E h=>?_) (fun cdv A outer s H vs Q E hr h=>?_)
 ·obtain⟨x,dx,so,mv,⟨n,pp,rfl⟩,rfl,_⟩:=h
  rfl
 ·obtain⟨x,dx,so,mv,⟨n,pp,rfl⟩,rfl,hx,hm,k⟩:=h
  exists qC,kbi,W
  refine⟨_,kab (ka0 (keP W.Qd qC hr rfl W.qz.m W.qu.F.kp W.qu.b .nil pass0 (kaa (pv 0) (kaa (pv 3) kad))))
   (kab (kaI (pv 0) (pv 1) rfl)
   (kag (kaI (pv 0) (pv 2) rfl))),?_⟩
  rwa[8,8,x,d.qi,dx,[],mv,6,hx,W.qi.cl,W.Vh,by decide,hm,fun H1 mA b1 hM h1=>?_]
  rwa[8,8,x,d.qi,dx,8,h1,W.qi.cl,W.Vf,few (JA (kal (n:=0) (Jx _)) (by decide)),?_]
  rwa[8,8,x,d.qi,dx,8,kae,W.qi.cl,W.Vg,few (JA (kal (kal (n:=0) (Jx _))) (by decide)),?_]
  refine k _ mA _ ((b1.trans kax).trans kax) ?_ kae ?_ ?_
  ·exact hM.but hx (But.trans kax kax)
  ·ac_nf
  ·rwa[by ac_nf,by ac_nf]
theorem kel:kat ["self","marks"] ["self","marks"] (kah kaM):=by ac_rfl
theorem kes(W:WB K mg d base):FO P w W 4 d.Y9 d.QL ["self","marks"] (keb d.ql d.qe (fun so=>so=.carr)):=by
 exists W.Q5.F,kel
 ·obtain⟨x,dx,so,mv,rfl,rfl,hx,hm,k⟩:=h
  exists qC,kbi,W
  rwa[_,kag (ka0 (keP W.Qd qC hr rfl W.qz.m W.qu.F.kp W.qu.b .nil pass0 (kaa (pv 0) (kaa (pv 1) kad)))),?_]
  rwa[8,8,x,d.ql,dx,[],mv,6,hx,W.ql.cl,W.Vi,by decide,hm,fun H1 mA b1 hM h1=>?_]
  refine k _ mA _ b1 hM h1 ?_ trivial
  ac_nf
theorem kgO:kat ["self","kind","price","many","special"] ["self","kind","price","many","special"] (kah kbe):=by ac_rfl
theorem kgY(W:WB K mg d base):FO P w W 1 d.Za d.QM ["self","kind","price","many","special"] (khq d.qf):=by
 exists W.Q8.F,kgO
 ·obtain⟨x,dx,r,rfl,hx,k⟩:=h
  refine⟨_,kab (kaI (pv 0) (pv 1) rfl)
   (kab (kaI (pv 0) (pv 2) rfl)
   (kab (kaI (pv 0) (pv 3) rfl)
   (kag (kaI (pv 0) (pv 4) rfl)))),?_⟩
  rwa[8,8,x,d.qf,dx,[],6,hx,W.qf.cl,W.Vj,by decide,?_]
  rwa[8,8,x,d.qf,dx,8,kae,W.qf.cl,W.Q6,few (JA (kal (n:=0) (Jx _)) (by decide)),?_]
  rwa[8,8,x,d.qf,dx,8,kae,W.qf.cl,W.qZ,few (JA (kal (kal (n:=0) (Jx _))) (by decide)),?_]
  rwa[8,8,x,d.qf,dx,8,kae,W.qf.cl,W.Q7,few (JA (kal (kal (kal (n:=0) (Jx _)))) (by decide)),?_]
  refine k _ (But.trans (But.trans (But.trans kax kax) kax) kax) ⟨dx,_,kae,?_,?_,?_,?_⟩
  ·rw[kac,if_neg (by cutsat),kac,if_neg (by cutsat),kac,if_neg (by cutsat),kac,if_pos rfl]
  ·rw[kac,if_neg (by cutsat),kac,if_neg (by cutsat),kac,if_pos rfl]
  ·rw[kac,if_neg (by cutsat),kac,if_pos rfl]
  ·rw[kac,if_pos rfl]
theorem kfp:kat ["self","lines","carriage","member"] ["self","lines","carriage","member"] (kah kaW):=by ac_rfl
theorem kft(W:WB K mg d base):FO P w W 1 d.Zb d.Ql ["self","lines","carriage","member"] (khr K d.qg):=by
 exists W.Xa.F,kfp
 ·obtain⟨x,dx,l,cg,m,xs,rfl,hx,hl,k⟩:=h
  refine⟨_,kab (kaI (pv 0) (kaJ (r:=kbf K) kaC (by rfl) W.B.list kbF (kaa (pv 1) kad)) rfl)
   (kab (kaI (pv 0) (pv 2) rfl)
   (kag (kaI (pv 0) (pv 3) rfl))),?_⟩
  rwa[8,l,8, .inl hl,fun l' hl'=>?_]
  have s1:=kam (o:=.lst xs) hl'
  have nlx:l'≠x:=fun e=>by
   rw[e,hx] at hl'
   cases hl'
  rwa[8,x,d.qg,dx,[],6,s1 _ _ hx,W.qg.cl,W.Qs,by decide,?_]
  rwa[8,8,x,d.qg,dx,8,kae,W.qg.cl,W.Vk,few (JA (kal (n:=0) (Jx _)) (by decide)),?_]
  rwa[8,8,x,d.qg,dx,8,kae,W.qg.cl,W.Q9,few (JA (kal (kal (n:=0) (Jx _))) (by decide)),?_]
  refine k _ l' ((((But.of_same s1).trans kax).trans kax).trans kax) hl' ?_ ⟨dx,_,kae,?_,?_,?_⟩
  ·rw[kak nlx,kak nlx,kak nlx,kae]
  ·rw[kac,if_neg (by cutsat),kac,if_neg (by cutsat),kac,if_pos rfl]
  ·rw[kac,if_neg (by cutsat),kac,if_pos rfl]
  ·rw[kac,if_pos rfl]
theorem kdS:kat ["line","member"] ["line","member"] (kah kbU):=by ac_rfl
theorem kd0(W:WB K mg d base):FO P w W 1 d.Xx d.Xy ["line","member"] (kjy d.qf):=by
 exists W.Zs.F,kdS
 ·obtain⟨x,m,r,rfl,⟨dx,fs,hx,lk,lp,lm,ls⟩,k⟩:=h
  refine⟨_,kab (ps_if (PW.pt (kbb (kaQ (pv 1)) (kaU (kan kdZ (kaj (K:=K) (pv 0) rfl) kbo (kau _))))) (kag (kaq (kaj (K:=K) (pv 0) rfl))) (kar))
   (kag (kaq (kaj (K:=K) (pv 0) rfl))),?_⟩
  rwa[8,m,6,?_]
  cases m with
  |false=>
   refine iteF (iteF ⟨_,rfl,x,d.qf,dx,fs,_,rfl,hx,W.qf.cl,W.Q6,lp,?_⟩)
   exact k
  | true=>
   refine iteT ⟨_,rfl,x,d.qf,dx,fs,_,rfl,hx,W.qf.cl,W.Q7,ls,rfl,_,rfl,?_⟩
   cases e:r.ex with
   | none=>
    rw[e] at ls
    show if(!decide (V.non=V.non))=true then _ else _
    rw[show(!decide (V.non=V.non))=false by simp]
    refine iteF ⟨_,rfl,x,d.qf,dx,fs,_,rfl,hx,W.qf.cl,W.Q6,lp,?_⟩
    have ep:prc true r=r.pr:=by
     unfold prc
     rw[if_pos rfl,e]
     rfl
    rw[ep] at k
    exact k
   | some z=>
    rw[e] at ls
    show if(!decide (V.int z=V.non))=true then _ else _
    rw[show(!decide (V.int z=V.non))=true by simp]
    refine iteT ⟨_,rfl,x,d.qf,dx,fs,_,rfl,hx,W.qf.cl,W.Q7,ls,?_⟩
    have ep:prc true r=z:=by
     unfold prc
     rw[if_pos rfl,e]
     rfl
    rw[ep] at k
    exact k
theorem Qu:kat ["self","basket","number","line","price"] ["self","basket"] (kah kce):=by ac_rfl
theorem kb3(W:WB K mg d base):FO P w W 2 d.Zc d.Zd ["self","basket"] (kdr d.qf d.qg d.qc):=by
 exists W.qN.F,Qu
 ·obtain⟨x,dx,b,l,cg,m,ls,rs,rfl,hx,⟨dxb,fsb,hb,lbl,lbc,lbm⟩,hl,hL,hn,hok,k⟩:=h
  exists VW,kd0,W
  refine⟨_,kab (kaI (pv 0) (kaX kad) rfl)
   (kab (kaI (pv 0) (kaX kad) rfl)
   (kab (kaI (pv 0) (kaj (K:=K) (pv 1) rfl) rfl)
   (kab (kaI (pv 0) (kaX kad) rfl)
   (kag (ka7 PassesOwn.never rfl (khD rfl W.B.enum (kaa (kaj (K:=K) (pv 1) rfl) kad)) (kbh (K:=K) (n:=2) rfl (kaw (pgn (i:=2) Qu.nd) (kaw (pgn (i:=3) Qu.nd) kbg)))
   (kab (psl (i:=4) Qu.nd (pcl VW hr W.Zs (kaa (pv 3) (kaa (kaj (K:=K) (pv 1) rfl) kad))))
   (kab (ka0 (pe_bm Nh EW EX kgZ (kaj (K:=K) (pv 0) rfl) (kaa (pe_op kmb (kaX (kaa (pv 2) kad)) (kaj (K:=K) (pv 3) rfl)) kad)))
   (kab (ka0 (pe_bm Nh EW EX kgZ (kaj (K:=K) (pv 0) rfl) (kaa (pe_op kmb (kaX (kaa (pv 4) kad)) (kaj (K:=K) (pv 3) rfl)) kad)))
   (kag (ka0 (pe_bm Nh NJ NK kbc (kaj (K:=K) (pv 0) rfl) (kaa pe_bl kad)))))))))))),?_⟩
  have nbx:b≠x:=ne_of hb hx (by
   intro z
   injection z with _ _ z
   rw[z] at lbl
   cases lbl)
  have nlx:l≠x:=ne_of hl hx (by intro z;cases z)
  exists Y4
  rwa[by decide,fun o ho=>?_]
  have nox:o≠x:=(kai hx ho).symm
  nomatch x,d.qc,dx,[],6,kam ho _ _ hx,W.qc.cl,W.qM,by decide,?_
  have b1:But x H (upd (upd H o (.lst [])) x (.ins d.qc dx (putF "owners" (.ref o) []))):=(But.of_same (kam ho)).trans kax
  symm
  exists Y4
  rwa[by decide,fun p hp=>?_]
  have npx:p≠x:=fun e=>by
   rw[e,kae] at hp
   cases hp
  have nop:o≠p:=fun e=>by
   rw[<-e,kak nox,kae] at hp
   cases hp
  have hp0:H p=none:=by
   cases e:H p with
   |none=>rfl
   |some u=>
    obtain⟨u',e'⟩:=kgm (b1 p u npx e)
    rw[e'] at hp
    cases hp
  nomatch x,d.qc,dx,8,kam hp _ _ kae,W.qc.cl,W.qA,few (JA (kal (n:=0) (Jx _)) (by decide)),?_
  have b2:=(b1.same (kam (o:=.lst []) hp)).trans (kax (o:=.ins d.qc dx (putF "prices" (.ref p) (putF "owners" (.ref o) []))))
  nomatch b,d.qg,dxb,fsb,8,b2 b _ nbx hb,W.qg.cl,W.Vk,lbc,8,x,d.qc,dx,8,kae,W.qc.cl,W.qR,few (JA (kal (kal (n:=0) (Jx _))) (by decide)),?_
  have b3:=b2.trans (kax (o:=.ins d.qc dx (putF "carriage" (.int cg) (putF "prices" (.ref p) (putF "owners" (.ref o) [])))))
  symm
  exists Y4
  rwa[by decide,fun mk hm=>?_]
  have nmx:mk≠x:=fun e=>by
   rw[e,kae] at hm
   cases hm
  have hm0:H mk=none:=by
   cases e:H mk with
   |none=>rfl
   |some u=>
    obtain⟨u',e'⟩:=kgm (b3 mk u nmx e)
    rw[e'] at hm
    cases hm
  have nom:o≠mk:=fun e=>by
   rw[<-e,kak nox,kak nox,kak nop,kak nox,kae] at hm
   cases hm
  have npm:p≠mk:=fun e=>by
   rw[<-e,kak npx,kak npx,kae] at hm
   cases hm
  nomatch x,d.qc,dx,8,kam hm _ _ kae,W.qc.cl,W.q9,few (JA (kal (kal (kal (n:=0) (Jx _)))) (by decide)),?_
  have b4:=(b3.same (kam (o:=.lst []) hm)).trans (kax (o:=.ins d.qc dx (putF "marked" (.ref mk) (putF "carriage" (.int cg) (putF "prices" (.ref p) (putF "owners" (.ref o) []))))))
  have Di:Ds H x o p mk:=⟨ho,hp0,hm0,nox,npx,nmx,nop,nom,npm⟩
  have Z0:S3 H x d.qc dx (putF "marked" (.ref mk) (putF "carriage" (.int cg) (putF "prices" (.ref p) (putF "owners" (.ref o) [])))) o p mk [] [] [] (upd (upd (upd (upd (upd (upd (upd H o (.lst [])) x (.ins d.qc dx (putF "owners" (.ref o) []))) p (.lst [])) x (.ins d.qc dx (putF "prices" (.ref p) (putF "owners" (.ref o) []))))
    x (.ins d.qc dx (putF "carriage" (.int cg) (putF "prices" (.ref p) (putF "owners" (.ref o) []))))) mk (.lst [])) x (.ins d.qc dx (putF "marked" (.ref mk) (putF "carriage" (.int cg) (putF "prices" (.ref p) (putF "owners" (.ref o) [])))))):=by
   symm
   exists Y6
   rwa[b4,kae,?_,?_,?_]
   ·rw[kak nox,kak nom,kak nox,kak nox,kak nop,kak nox,kae]
   ·rw[kak npx,kak npm,kak npx,kak npx,kae]
   ·rw[kak nmx,kae]
  have l1:(putF "marked" (.ref mk) (putF "carriage" (.int cg) (putF "prices" (.ref p) (putF "owners" (.ref o) [])))).lookup ("owners" :Str)>>(.ref o):=by
   rw[kac,if_neg (by cutsat),kac,if_neg (by cutsat),kac,if_neg (by cutsat),kac,if_pos rfl]
  have l2:(putF "marked" (.ref mk) (putF "carriage" (.int cg) (putF "prices" (.ref p) (putF "owners" (.ref o) [])))).lookup ("prices" :Str)>>(.ref p):=by
   rw[kac,if_neg (by cutsat),kac,if_neg (by cutsat),kac,if_pos rfl]
  have l3:(putF "marked" (.ref mk) (putF "carriage" (.int cg) (putF "prices" (.ref p) (putF "owners" (.ref o) [])))).lookup ("carriage" :Str)>>(.int cg):=by
   rw[kac,if_neg (by cutsat),kac,if_pos rfl]
  have l4:(putF "marked" (.ref mk) (putF "carriage" (.int cg) (putF "prices" (.ref p) (putF "owners" (.ref o) [])))).lookup ("marked" :Str)>>(.ref mk):=by
   rw[kac,if_pos rfl]
  have l5:(putF "marked" (.ref mk) (putF "carriage" (.int cg) (putF "prices" (.ref p) (putF "owners" (.ref o) [])))).lookup ("whole" :Str)=none:=by
   rw[kac,if_neg (by cutsat),kac,if_neg (by cutsat),kac,if_neg (by cutsat),kac,if_neg (by cutsat)]
   rfl
  have lfs:(putF "marked" (.ref mk) (putF "carriage" (.int cg) (putF "prices" (.ref p) (putF "owners" (.ref o) [])))).length<=10:=JA (kal (kal (kal (kal (n:=0) (Jx _))))) (by decide)
  generalize putF "marked" (.ref mk) (putF "carriage" (.int cg) (putF "prices" (.ref p) (putF "owners" (.ref o) [])))=fs at *
  generalize (upd (upd (upd (upd (upd (upd (upd H o (.lst [])) x (.ins d.qc dx (putF "owners" (.ref o) []))) p (.lst [])) x (.ins d.qc dx (putF "prices" (.ref p) (putF "owners" (.ref o) []))))
    x (.ins d.qc dx (putF "carriage" (.int cg) (putF "prices" (.ref p) (putF "owners" (.ref o) []))))) mk (.lst [])) x (.ins d.qc dx fs))=Hs at *
  symm
  exists Y4
  refine⟨_,rfl,b,d.qg,dxb,fsb,_,rfl,Z0.bt b _ nbx hb,W.qg.cl,W.Qs,lbl,l,_,rfl,Z0.bt l _ nlx hl,kiH (xs:=ls.map V.ref) (fun i σ H'=>(∃v2 v3 v4:Option V,σ=[some (.ref x),some (.ref b),v2,v3,v4])/\
   S3 H x d.qc dx fs o p mk ((own (rs.take i)).map V.int) ((prs m (rs.take i)).map V.int) (JE i (.bl false)) H') ⟨⟨none,none,none,rfl⟩,Z0⟩ (fun i σ H' _ ⟨_,Z⟩=>Z.bt l _ nlx hl) ?_ ?_⟩
  ·rintro i y t σ H1 hy ⟨⟨v2,v3,v4,rfl⟩,Z⟩ ht
   have hll:=hL.len
   have hil:i<(ls.map V.ref).length:=(JK.mp hy).1
   rw[Jv] at hil
   obtain⟨lx,el,rfl⟩:∃lx,ls[i]?>>lx/\y=V.ref lx:=by
    rw[JF] at hy
    cases e:ls[i]? with
    |none=>rw[e] at hy;cases hy
    |some z=>rw[e] at hy;exact⟨z,rfl,(Option.some.inj hy).symm⟩
   obtain⟨r,er⟩:∃r,rs[i]?>>r:=⟨rs[i]'(by lia),by simp[show i<rs.length by lia]⟩
   have hr':r.Ok:=hok r (JB er)
   obtain⟨dxl,fsl,hlx,lk1,lk2,lk3,lk4⟩:=hL.get el er
   have nlxx:lx≠x:=ne_of hlx hx (by
    intro z
    injection z with _ _ z
    rw[z] at lk1
    cases lk1)
   have hmn0:=hr'.mn0
   have hmn1:=hr'.mn1
   have Z1:=Z.same (kam (o:=.tup [.int (i:Nat),V.ref lx]) ht)
   have lo1:((own (rs.take i)).map V.int).length<=720:=by
    rw[Jv]
    have:=kj8 (rs.take i) fun r hr=>hok r (M5 hr)
    rw[JV] at this
    lia
   have lp1:((prs m (rs.take i)).map V.int).length<=720:=by
    rw[Jv]
    have:=kj0 m (rs.take i) fun r hr=>hok r (M5 hr)
    rw[JV] at this
    lia
   symm
   exists Y6
   rwa[t,8,SqT.of kae,6,_,8,9,?_]
   nofun
   exists Y6
   rwa[8,8,b,d.qg,dxb,fsb,8,Z1.bt b _ nbx hb,W.qg.cl,W.Q9,lbm,lx,m,r,6,⟨dxl,fsl,Z1.bt lx _ nlxx hlx,lk1,lk2,lk3,lk4⟩,?_]
   nofun
   exists Y6
   rwa[8,x,d.qc,dx,fs,8,Z1.ob,W.qc.cl,W.qM,l1, .inl ⟨rfl,_,SqL.of Z1.ho⟩,8,(by show 1<=sizeLine;decide),fun t1 ht1=>?_]
   have Z2:=Z1.same (kam (o:=.lst [V.int (i:Nat)]) ht1)
   nofun
   exists Y6
   rwa[8,lx,d.qf,dxl,fsl,8,Z2.bt lx _ nlxx hlx,W.qf.cl,W.qZ,lk3,t1,9,kae,by lia,by lia,JJ (kas (by simp;lia)),fun t2 ht2=>?_]
   have Z3:=Z2.same (kam (o:=.lst (JE r.mn.toNat [V.int (i:Nat)]).flatten) ht2)
   nofun
   exists Y6
   rwa[o,t2,9,Z3.ho,kae,JJ (kas (by rw[rep1,N7];lia)),?_]
   have Z4:=Z3.setO (d:=(own (rs.take i)).map V.int++(JE r.mn.toNat [V.int (i:Nat)]).flatten) Di
   nofun
   exists Y6
   rwa[8,x,d.qc,dx,fs,8,Z4.ob,W.qc.cl,W.qA,l2, .inl ⟨rfl,_,SqL.of Z4.hp⟩,8,(by show 1<=sizeLine;decide),fun t3 ht3=>?_]
   have Z5:=Z4.same (kam (o:=.lst [V.int (prc m r)]) ht3)
   nofun
   exists Y6
   rwa[8,lx,d.qf,dxl,fsl,8,Z5.bt lx _ nlxx hlx,W.qf.cl,W.qZ,lk3,t3,9,kae,by lia,by lia,JJ (kas (by simp;lia)),fun t4 ht4=>?_]
   have Z6:=Z5.same (kam (o:=.lst (JE r.mn.toNat [V.int (prc m r)]).flatten) ht4)
   nofun
   exists Y6
   rwa[p,t4,9,Z6.hp,kae,JJ (kas (by rw[rep1,N7];lia)),?_]
   have Z7:=Z6.setP (d:=(prs m (rs.take i)).map V.int++(JE r.mn.toNat [V.int (prc m r)]).flatten) Di
   nofun
   exists Y6
   rwa[8,x,d.qc,dx,fs,8,Z7.ob,W.qc.cl,W.q9,l4, .inl ⟨rfl,_,SqL.of Z7.hm⟩,mk,9,Z7.hm,kas (by simp;lia),?_]
   have Z8:=Z7.setM (d:=JE i (V.bl false)++[V.bl false]) Di
   nofun
   exists Y6
   rwa[⟨_,_,_,rfl⟩,?_]
   have e1:(own (rs.take i)).map V.int++(JE r.mn.toNat [V.int (i:Nat)]).flatten=(own (rs.take (i+1))).map V.int:=by
    rw[take_snoc er,kll,JC,rep1,kjR,JV,M6 (by lia)]
   have e2:(prs m (rs.take i)).map V.int++(JE r.mn.toNat [V.int (prc m r)]).flatten=(prs m (rs.take (i+1))).map V.int:=by
    rw[take_snoc er,klh,JC,rep1,kjR]
   have e3:JE i (V.bl false)++[V.bl false]=JE (i+1) (V.bl false):=by rw[M7]
   rw[<-e1,<-e2,<-e3]
   nofun
   exact Z8
  ·rintro σ H' ⟨⟨v2,v3,v4,rfl⟩,Z⟩
   have hll:=hL.len
   have e:(ls.map V.ref).length=rs.length:=by rw[Jv,hll]
   rw[e,J4] at Z
   nofun
   exact k H' o p mk Z.bt ho hp0 hm0 ⟨dx,fs,Z.ob,l1,l2,l3,l4,l5⟩ Z.ho Z.hp Z.hm ⟨dx,fs,Z.ob,lfs⟩
theorem kdT:kat ["self"] ["self"] (kah kbY):=by ac_rfl
theorem ka4(W:WB K mg d base):FO P w W 1 d.Ze d.Zf ["self"] (kjs d.qc):=by
 exists W.qw.F,kdT
 ·obtain⟨x,o,p,mk,cg,ns,rfl,⟨dx,fs,hx,l1,l2,l3,l4,l5⟩,hp,k⟩:=h
  rwa[_,kag (kaq (pe_op kcN (kao (r:=rSum K) (kcM rfl) (by rfl) W.B.sum b_sum (kaa (kaj (K:=K) (pv 0) rfl) kad)) (kaj (K:=K) (pv 0) rfl))),?_]
  rwa[8,x,d.qc,dx,fs,8,hx,W.qc.cl,W.qA,l2,p,ns,6,SqL.of hp,8,x,d.qc,dx,fs,8,hx,W.qc.cl,W.qR,l3,9,k]
inductive kl3(K:Jw)(CM:Addr)(vs:List V)(H:Hp)(Q:VK)(E_:XK):Prop
 |ct(mA a:Addr)(M:Mks)(ps:List (Option Nat))(kn:Nat)(mk:Bool)(_:vs=[.ref mA, .ref a, .int kn, .bl mk])(_:MksIs CM H mA M)(_:SqL K H a (ps.map pV))(_:Good ps)(_:kn<ps.length)(_:Q (.bl (kHit ps M.kind kn&&(!M.lone|| !mk))) H):kl3 K CM vs H Q E_
theorem kmH:kat ["marks","parents","kind","marked"] ["marks","parents","kind","marked"] (kah kjN):=by ac_rfl
theorem kmU(W:WB K mg d base):FO P w W 2 d.XB d.XC ["marks","parents","kind","marked"] (kl3 K d.qe):=by
 exists W.Zt.F,kmH
 ·obtain⟨mA,a,M,ps,kn,mk,rfl,⟨dx,fs,hm,l1,l2,l3,l4,l5,l6⟩,hS,hg,hk,k⟩:=h
  exists VX,klo,W
  refine⟨_,kab (kcn (ps_if (PW.pt (kbb (kaQ (kaj (K:=K) (pv 0) rfl)) (kaU (kaQ (pv 3))))) (kag (kaq pe_bl)) (kar)))
   (kag (kaq (pe_or (kbB keS (kaj (K:=K) (pv 0) rfl) kbo (kau _)) (kj4 (pcl VX hr W.Zr (kaa (pv 1) (kaa (pv 2) (kaa (kaj (K:=K) (pv 0) rfl) kad)))))))),?_⟩
  rwa[fun σ' H'=>σ'=[some (.ref mA),some (.ref a),some (.int kn),some (.bl mk)]/\H'=H/\(!M.lone|| !mk)=true,⟨_,rfl,mA,d.qe,dx,fs,_,rfl,hm,W.qe.cl,W.QX,l6,M.lone,rfl,?_⟩,?_]
  ·cases e:M.lone with
   |false=>exact iteF (iteF ⟨rfl,rfl,rfl⟩)
   | true=>
    refine iteT ⟨_,rfl,mk,rfl,?_⟩
    cases mk with
    |false=>exact iteF ⟨rfl,rfl,rfl⟩
    |true=>
     refine iteT ?_
     rw[e,show(kHit ps M.kind kn&&(!true|| !true))=false by simp] at k
     exact k
  ·rintro σ' H' ⟨rfl,rfl,hh⟩
   rw[hh,MN] at k
   cases ek:M.kind with
   |none=>
    rw[ek] at l1 k
    rwa[8,mA,d.qe,dx,fs,8,hm,W.qe.cl,W.Qo,l1,6,8,?_]
    show if decide (V.non=V.non)=true then _ else _
    rw[show decide (V.non=V.non)=true by simp]
    exact iteT k
   |some kk=>
    rw[ek] at l1 k
    rwa[8,mA,d.qe,dx,fs,8,hm,W.qe.cl,W.Qo,l1,6,8,?_]
    show if decide (V.int (kk:Nat)=V.non)=true then _ else _
    rw[show decide (V.int (kk:Nat)=V.non)=false by simp]
    exact iteF ⟨_,rfl,_,rfl,_,rfl,mA,d.qe,dx,fs,_,rfl,hm,W.qe.cl,W.Qo,l1,a,ps,kn,kk,rfl,hS,hg,hk,k⟩
theorem Vl:kat ["voucher","parents","basket","standing","fitting"] ["voucher","parents","basket","standing"] (kah keM):=by ac_rfl
theorem kga(W:WB K mg d base):FO P w W 3 d.Xz d.XA ["voucher","parents","basket","standing"] (kjK K d):=by
 exists W.Qm.F,Vl
 ·obtain⟨v,a,b,x,Vc,ps,B,S,rfl,hV,hA,hB,hS,wf,vo,k⟩:=h
  obtain⟨mA,dxv,fsv,hv,lvm,_,hM,hh,htb⟩:=id hV
  obtain⟨l,ls,⟨dxb,fsb,hb,lb1,lb2,lb3⟩,hl,hL⟩:=id hB
  obtain⟨o,p,mk,⟨dxs,fss,hx,l1,l2,l3,l4,l5⟩,ho,hp,hmk⟩:=id hS
  exists VY,kmU,W
  refine⟨_,kab (psl (i:=4) Vl.nd (kbZ (N:=["line","marked","voucher","parents"]) (CompScope.of (N:=["line","marked","voucher","parents"]) (cap:=[none,none,some 0,some 1]) (kah keM).names ["voucher","parents","basket","standing","fitting"] rfl rfl (by cutsat)) rfl (kdY rfl W.B.zip (kaa (kaj (K:=K) (pv 2) rfl) (kaa (kaj (K:=K) (pv 3) rfl) kad))) (fun _ _ _ _=>kbh (K:=K) (n:=2) rfl (kaw (pgn (i:=0) (show(["line","marked","voucher","parents"]:List Str).Nodup by cutsat)) (kaw (pgn (i:=1) (show(["line","marked","voucher","parents"]:List Str).Nodup by cutsat)) kbg))) (fun _ _ _ _=>(pcl VY hr W.Zt (kaa (kaj (K:=K) (pv 2) rfl) (kaa (pv 3) (kaa (kaj (K:=K) (pv 0) rfl) (kaa (pv 1) kad))))))))
   (kag (kaq (kc9 (N:=["piece","owner","fitting"]) (CompScope.of (N:=["piece","owner","fitting"]) (cap:=[none,none,some 4]) (kah keM).names ["voucher","parents","basket","standing","fitting"] rfl rfl (by cutsat)) rfl (khD rfl W.B.enum (kaa (kaj (K:=K) (pv 3) rfl) kad)) (fun _ _ _ _=>kbh (K:=K) (n:=2) rfl (kaw (pgn (i:=0) (show(["piece","owner","fitting"]:List Str).Nodup by cutsat)) (kaw (pgn (i:=1) (show(["piece","owner","fitting"]:List Str).Nodup by cutsat)) kbg))) (fun _ _ _ _=>kdX (kaQ (pe_ix (r:=rIxL K) kaH (pv 2) (pv 1) (fun _ _=>rfl)))) (fun _ _ _ _=>(pv 0))))),?_⟩
  have np:=wf.np
  have nl:=wf.nl
  have lenL:=hL.len
  have lenM:=wf.lm
  have emin:min (ls.map V.ref).length (S.mkd.map V.bl).length=B.rs.length:=by rw[Jv,Jv,lenL,lenM,Mc]
  refine⟨_,rfl,b,d.qg,dxb,fsb,_,rfl,hb,W.qg.cl,W.Qs,lb1,_,rfl,x,d.qc,dxs,fss,_,rfl,hx,W.qc.cl,W.q9,l4,l,mk,_,_,rfl,hl,hmk,
   kiN (xs:=ls.map V.ref) (ys:=S.mkd.map V.bl) (fun i σ zs H'=>Same H H'/\zs=((Jy i).map fun l=>hits ps (kds B) Vc.ms.kind Vc.ms.lone S.mkd l).map V.bl/\∃v0 v1:Option V,σ=[v0,v1,some (.ref v),some (.ref a)])
    ⟨Same.refl _,rfl,none,none,rfl⟩ (by rw[emin];exact JJ (kas (by lia))) (fun i σ zs H' _ h=>⟨h.1 _ _ hl,h.1 _ _ hmk,by rw[h.2.1];simp⟩) ?_ ?_⟩
  ·rintro i y m t σ zs H1 hy hm ⟨s1,rfl,v0,v1,rfl⟩ ht
   obtain⟨lx,elx,rfl⟩:=kba hy
   obtain⟨mv,emv,rfl⟩:=kbO hm
   obtain⟨r,er,hr⟩:=hL.at elx
   have s2:=s1.trans (kam (o:=.tup [V.ref lx,V.bl mv]) ht)
   obtain⟨dxl,fsl,hlx,lk1,_⟩:=hr.same s2
   have hkd:=wf.kd r (JB er)
   obtain⟨kn,ekn⟩:=Int.eq_ofNat_of_zero_le hkd.1
   have hkn:kn<ps.length:=by lia
   rwa[t,8,SqT.of kae,6,_,8,9,?_]
   rwa[8,v,clsOf d Vc.so,dxv,fsv,8,s2 _ _ hv,cl_of W hh,na_of W hh,lvm,8,8,lx,d.qf,dxl,fsl,8,hlx,W.qf.cl,W.Vj,lk1,8,mA,a,Vc.ms,ps,kn,mv,by rw[ekn];rfl,hM.same s2,s2.seq hA,wf.good,hkn,s2,?_,_,8]
   have e1:hits ps (kds B) Vc.ms.kind Vc.ms.lone S.mkd i=(kHit ps Vc.ms.kind kn&&(!Vc.ms.lone|| !mv)):=by
    unfold hits
    have e2:S.mkd.getD i false=mv:=by rw[JM,emv];rfl
    rw[e2,knG er,ekn,Int.toNat_natCast]
   rw[Nk,JC,JC,<-e1]
   rfl
  rintro σ zs H1 ⟨s1,rfl,v0,v1,rfl⟩ D hD
  rw[emin]
  have s2:=s1.trans (kam (o:=.lst (((Jy B.rs.length).map fun l=>hits ps (kds B) Vc.ms.kind Vc.ms.lone S.mkd l).map V.bl)) hD)
  have eD:(upd H1 D (.lst (((Jy B.rs.length).map fun l=>hits ps (kds B) Vc.ms.kind Vc.ms.lone S.mkd l).map V.bl))) D>>(.lst (((Jy B.rs.length).map fun l=>hits ps (kds B) Vc.ms.kind Vc.ms.lone S.mkd l).map V.bl)):=kae
  generalize upd H1 D (.lst (((Jy B.rs.length).map fun l=>hits ps (kds B) Vc.ms.kind Vc.ms.lone S.mkd l).map V.bl))=H2 at *
  refine⟨_,rfl,x,d.qc,dxs,fss,_,rfl,s2 _ _ hx,W.qc.cl,W.qM,l1,o,_,rfl,s2 _ _ ho,
   kjb (xs:=S.ow.map iV) (fun i σ ys H'=>Same H2 H'/\ys=((Jy i).filter fun i=>hits ps (kds B) Vc.ms.kind Vc.ms.lone S.mkd (S.ow.getD i 0)).map iV/\∃v0 v1:Option V,σ=[v0,v1,some (.ref D)])
    ⟨Same.refl _,rfl,none,none,rfl⟩ (by rw[Jv];exact JJ (kas (by lia))) (fun i σ zs H' _ h=>⟨h.1 _ _ (s2 _ _ ho),by rw[h.2.1,Jv];have:=NR (fun i=>hits ps (kds B) Vc.ms.kind Vc.ms.lone S.mkd (S.ow.getD i 0)) (Jy i);simpa using this⟩) ?_ ?_⟩
  ·rintro i y t σ zs H3 hy ⟨s3,rfl,v0,v1,rfl⟩ ht
   obtain⟨ln,eln,rfl⟩:=kbO hy
   have hln:=wf.line eln
   have s4:=s3.trans (kam (o:=.tup [V.int (i:Nat),iV ln]) ht)
   rwa[t,8,SqT.of kae,6,_,8,9,?_]
   rwa[8,8,D,_,9,SqL.of (s4 _ _ eD),kaK (v:=.bl (hits ps (kds B) Vc.ms.kind Vc.ms.lone S.mkd ln)) (by rw[JF,JF,Mq hln];rfl),8,?_]
   have e1:S.ow.getD i 0=ln:=by rw[JM,eln];rfl
   have st:=klW (ps:=ps) (kk:=kds B) (kind:=Vc.ms.kind) (lone:=Vc.ms.lone) (S:=S) (i:=i)
   rw[e1] at st
   cases hh2:hits ps (kds B) Vc.ms.kind Vc.ms.lone S.mkd ln with
   |false=>exact iteF ⟨s4,by rw[st,hh2];simp,_,_,rfl⟩
   |true=>exact iteT ⟨_,rfl,s4,by rw[st,hh2,if_pos rfl,JC];rfl,_,_,rfl⟩
  ·rintro σ zs H3 ⟨s3,rfl,v0,v1,rfl⟩ D2 hD2
   rw[Jv]
   have s4:=(s2.trans s3).trans (kam (o:=.lst ((abt ps (kds B) Vc.ms.kind Vc.ms.lone S).map iV)) hD2)
   exact k _ D2 s4 (none_of (s2.trans s3) hD2) kae
inductive kfz(CS:Addr)(vs:List V)(H:Hp)(Q:VK)(E_:XK):Prop
 |ct(x g:Addr)(S:Stnd)(is:List Nat)(_:vs=[.ref x, .ref g])(_:StndIs CS H x S)(_:H g>>(.lst (is.map iV)))(_:(∀i∈is,i<S.pr.length))(_:is.length<=720)(_:∀p,H p=none->Q (.ref p) (upd H p (.lst ((qs S.pr is).map V.int)))):kfz CS vs H Q E_
theorem kgM:kat ["standing","pieces"] ["standing","pieces"] (kah kcH):=by ac_rfl
theorem ked(W:WB K mg d base):FO P w W 1 d.X1 d.X2 ["standing","pieces"] (kfz d.qc):=by
 exists W.QS.F,kgM
 ·obtain⟨x,g,S,is,rfl,⟨o,p,mk,⟨dxs,fss,hx,l1,l2,l3,l4,l5⟩,ho,hp,hmk⟩,hg,hi,hl,k⟩:=h
  rwa[_,kag (kaq (kbZ (N:=["piece","standing"]) (CompScope.of (N:=["piece","standing"]) (cap:=[none,some 0]) (kah kcH).names ["standing","pieces"] rfl rfl (by cutsat)) rfl (kaB (K:=K) (pv 1)) (fun _ _ _ _=>pgn (i:=0) (show(["piece","standing"]:List Str).Nodup by cutsat)) (fun _ _ _ _=>(pe_ix (r:=rIxL K) kaH (kaj (K:=K) (pv 1) rfl) (pv 0) (fun _ _=>rfl))))),?_]
  rwa[8,g,6,⟨_,SqL.of hg⟩,kaY (xs:=is.map iV) (fun j σ ys H'=>H'=H/\ys=(qs S.pr (is.take j)).map V.int/\∃v,σ=[v,some (.ref x)]) ⟨rfl,rfl,none,rfl⟩ ?_ ?_ ?_ ?_]
  ·rw[Jv]
   exact JJ (kas (by lia))
  ·rintro j σ ys H' hj ⟨rfl,rfl,_⟩
   rwa[SqL.of hg,by rw[Jv,kbs,JV];rw[Jv] at hj;lia]
  ·rintro j y σ ys H' hy ⟨rfl,rfl,v,rfl⟩
   obtain⟨n,en,rfl⟩:∃n,is[j]?>>n/\y=iV n:=kbO hy
   obtain⟨z,ez⟩:=at_of (hi n (JB en))
   rwa[8,x,d.qc,dxs,fss,8,hx,W.qc.cl,W.qA,l2,8,p,_,9,SqL.of hp,kaK (by rw[JF,ez];rfl),6,?_,8]
   rw[NQ,en]
   simp[qs,ez]
  ·rintro σ ys H' ⟨rfl,rfl,v,rfl⟩ D hD
   rw[Jv,J4]
   exact k D hD
inductive kjw(CS:Addr)(vs:List V)(H:Hp)(Q:VK)(E_:XK):Prop
 |ct(x g:Addr)(S:Stnd)(is:List Nat)(_:vs=[.ref x, .ref g])(_:StndIs CS H x S)(_:H g>>(.lst (is.map iV)))(_:(∀i∈is,i<S.pr.length))(_:is.length<=720)(_:∀H',Same H H'->Q (.int (qs S.pr is).sum) H'):kjw CS vs H Q E_
theorem keh:kat ["standing","pieces"] ["standing","pieces"] (kah kb8):=by ac_rfl
theorem kb0(W:WB K mg d base):FO P w W 2 d.X3 d.X4 ["standing","pieces"] (kjw d.qc):=by
 exists W.qQ.F,keh
 ·obtain⟨x,g,S,is,rfl,hS,hg,hi,hl,k⟩:=h
  exists Xg,ked,W
  rwa[_,kag (kaq (kao (r:=rSum K) (kcM rfl) (by rfl) W.B.sum b_sum (kaa (pcl Xg hr W.QS (kaa (pv 0) (kaa (pv 1) kad))) kad))),?_]
  rwa[8,8,x,g,S,is,6,hS,hg,hi,hl,fun p hp=>⟨p,_,rfl,SqL.of kae,k _ (kam hp)⟩]
theorem Xh:kat ["voucher","parents","basket","standing","marks","pieces"] ["voucher","parents","basket","standing"] (kah kdn):=by ac_rfl
theorem kgW(W:WB K mg d base):FO P w W 4 d.XD d.XE ["voucher","parents","basket","standing"] (kl1 K d):=by
 exists W.Zu.F,Xh
 ·obtain⟨v,a,b,x,Vc,ps,B,S,rfl,hV,hA,hB,hS,wf,vo,k⟩:=h
  obtain⟨mA,dxv,fsv,hv,lvm,_,hM,hh,htb⟩:=id hV
  obtain⟨dxm,fsm,hm,m1,m2,m3,m4,m5,m6⟩:=id hM
  obtain⟨l,ls,⟨dxb,fsb,hb,lb1,lb2,lb3⟩,hl,hL⟩:=id hB
  exists Qe,kga,W
  exists qP,kb0,W
  have hr2:Room 2 _:=hr.mono (by decide)
  refine⟨_,kab (psl (i:=4) Xh.nd (kaj (K:=K) (pv 0) rfl))
   (kab (kcn (ps_if (PW.pt (kbb (kaQ (kaj (K:=K) (pv 4) rfl)) (kaU (kgQ (kaQ (kaj (K:=K) (pv 2) rfl)))))) (kag (kaq kbN)) (kar)))
   (kab (psl (i:=5) Xh.nd (pcl Qe hr W.Qm (kaa (pv 0) (kaa (pv 1) (kaa (pv 2) (kaa (pv 3) kad))))))
   (kab (ps_if (kan op_eq (kao (r:=kaG K) kap (by rfl) W.B.len b_len (kaa (pv 5) kad)) kaf (kau _)) (kag (kaq kbN)) (kar))
   (kab (ps_if (kan op_lt (pcl qP hr2 W.qQ (kaa (pv 3) (kaa (pv 5) kad))) (kaj (K:=K) (pv 4) rfl) (kau _)) (kag (kaq kbN)) (kar))
   (kag (kaq kbo)))))),?_⟩
  have np:=wf.np
  have habl:∀i∈abt ps (kds B) Vc.ms.kind Vc.ms.lone S,i<S.pr.length:=fun i hi=>by rw[wf.lp];exact kfQ hi
  have lab:(abt ps (kds B) Vc.ms.kind Vc.ms.lone S).length<=720:=JA (kd8 _ _ _ _ _) np
  rwa[8,v,clsOf d Vc.so,dxv,fsv,8,hv,cl_of W hh,na_of W hh,lvm,?_]
  rwa[fun σ' H'=>σ'=[some (.ref v),some (.ref a),some (.ref b),some (.ref x),some (.ref mA),none]/\H'=H/\(Vc.ms.member&& !B.m)=false,⟨_,rfl,mA,d.qe,dxm,fsm,_,rfl,hm,W.qe.cl,W.ZX,m4,Vc.ms.member,rfl,?_⟩,?_]
  ·cases e:Vc.ms.member with
   |false=>exact iteF (iteF ⟨rfl,rfl,rfl⟩)
   | true=>
    refine iteT ⟨_,rfl,b,d.qg,dxb,fsb,_,rfl,hb,W.qg.cl,W.Q9,lb3,B.m,rfl,?_⟩
    cases e2:B.m with
    |true=>exact iteF ⟨rfl,rfl,rfl⟩
    |false=>
     refine iteT ?_
     have z:=k H (Same.refl _)
     unfold hindM at z
     rw[e,e2,if_pos (by decide)] at z
     exact z
  ·rintro σ' H' ⟨rfl,rfl,hh2⟩
   rwa[8,8,8,8,v,a,b,x,Vc,ps,B,S,6,hV,hA,hB,hS,wf,vo,fun H1 pa s1 f1 h1=>?_]
   rwa[8,pa,8, .inl (SqL.of h1),6,8,?_]
   have ed:decide (V.int (((abt ps (kds B) Vc.ms.kind Vc.ms.lone S).map iV).length:Nat)=V.int 0)=decide ((abt ps (kds B) Vc.ms.kind Vc.ms.lone S).length=0):=by
    rw[Jv]
    by_cases h0:(abt ps (kds B) Vc.ms.kind Vc.ms.lone S).length=0
    ·rw[h0]
     rfl
    ·rw[decide_eq_false h0]
     refine decide_eq_false fun z=>h0 ?_
     injection z with z
     lia
   show if decide (V.int (((abt ps (kds B) Vc.ms.kind Vc.ms.lone S).map iV).length:Nat)=V.int 0)=true then _ else _
   rw[ed]
   by_cases h0:(abt ps (kds B) Vc.ms.kind Vc.ms.lone S).length=0
   ·rw[decide_eq_true h0]
    refine iteT ?_
    have z:=k H1 s1
    unfold hindM at z
    rw[hh2,if_neg (by decide),if_pos h0] at z
    exact z
   ·rw[decide_eq_false h0]
    refine iteF ⟨_,rfl,_,rfl,x,pa,S,_,rfl,hS.same s1,h1,habl,lab,fun H2 s2=>?_⟩
    have z:=k H2 (s1.trans s2)
    unfold hindM at z
    rw[hh2,if_neg (by decide),if_neg h0] at z
    rwa[8,mA,d.qe,dxm,fsm,8,(s1.trans s2) _ _ hm,W.qe.cl,W.ZW,m2,9,8,?_]
    by_cases h2:(qs S.pr (abt ps (kds B) Vc.ms.kind Vc.ms.lone S)).sum<Vc.ms.needs
    ·rw[if_pos h2] at z
     rw[decide_eq_true h2]
     exact iteT z
    ·rw[if_neg h2] at z
     rw[decide_eq_false h2]
     exact iteF z
inductive kig(vs:List V)(H:Hp)(Q:VK)(E_:XK):Prop
 |ct(m:Option Int)(n:Int)(_:vs=[oV m, .int n])(_:Q (.int (atM m n)) H):kig vs H Q E_
theorem kiW:kat ["most","number"] ["most","number"] (kah keL):=by ac_rfl
theorem kfH(W:WB K mg d base):FO P w W 1 d.X5 d.X6 ["most","number"] kig:=by
 exists W.QT.F,kiW
 ·obtain⟨m,n,rfl,k⟩:=h
  refine⟨_,kab (ps_if (kan keS (pv 0) kbo (kau _)) (kag (kaq (pv 1))) (kar))
   (kag (kaq (kao (kbS rfl) (by rfl) W.B.min b_min (kaa (pv 0) (kaa (pv 1) kad))))),?_⟩
  cases m with
  |none=>
   rwa[8,6,8,?_]
   show if decide (V.non=V.non)=true then _ else _
   rw[show decide (V.non=V.non)=true by simp]
   exact iteT ⟨_,rfl,k⟩
  | some z=>
   rwa[8,6,8,?_]
   show if decide (V.int z=V.non)=true then _ else _
   rw[show decide (V.int z=V.non)=false by simp]
   refine iteF ⟨_,rfl,_,rfl,_,_,rfl,?_⟩
   have e:atM (some z) n=if n<z then n else z:=by
    show min z n=_
    split <;> lia
   rw[e] at k
   exact k
inductive kgH(d:D)(vs:List V)(H:Hp)(Q:VK)(E_:XK):Prop
 |ct(v x:Addr)(V:Vch)(S:Stnd)(_:vs=[.ref v, .ref x])(_:VchIs d H v V)(_:StndIs d.qc H x S)(_:Q (.int (if kbT V.so=true then atM V.ms.most S.cg else 0)) H):kgH d vs H Q E_
theorem kdu:kat ["voucher","standing"] ["voucher","standing"] (kah kbI):=by ac_rfl
theorem kdA(W:WB K mg d base):FO P w W 2 d.XR d.XS ["voucher","standing"] (kgH d):=by
 exists W.Zx.F,kdu
 ·obtain⟨v,x,Vc,S,rfl,⟨mA,dxv,fsv,hv,lvm,_,⟨dxm,fsm,hm,m1,m2,m3,m4,m5,m6⟩,hh,htb⟩,⟨o,p,mk,⟨dxs,fss,hx,l1,l2,l3,l4,l5⟩,ho,hp,hmk⟩,k⟩:=h
  exists Xi,kfH,W
  refine⟨_,kab (ps_if (kaQ (kao (r:=rIsi K) ka2 (by rfl) W.B.isi b_isi (kaa (pv 0) (kaa (kcD (v:=.ref d.ql) (by rfl) W.Vz rfl) kad)))) (kag (kaq (pcl Xi hr W.QT (kaa (kaj (K:=K) (kaj (K:=K) (pv 0) rfl) rfl) (kaa (kaj (K:=K) (pv 1) rfl) kad))))) (kar))
   (kag (kaq kaf)),?_⟩
  have I:=kky W hh
  rwa[8,_,_,_,8, .inr ⟨_,rfl⟩,TyOf.ins hv (cl_of W hh) I.ha I.hn I.ht I.hm,kg4 W hh,8,?_]
  cases e:kbT Vc.so with
  |false=>
   rw[e,if_neg JD] at k
   exact iteF k
  |true=>
   rw[e,if_pos rfl] at k
   exact iteT ⟨_,rfl,v,clsOf d Vc.so,dxv,fsv,_,rfl,hv,cl_of W hh,na_of W hh,lvm,mA,d.qe,dxm,fsm,_,rfl,hm,W.qe.cl,W.Qp,m3,_,rfl,x,d.qc,dxs,fss,_,rfl,hx,W.qc.cl,W.qR,l3,_,_,rfl,k⟩
noncomputable def kvOf(G:List (Nat×List Nat))(gl:List Addr):List (Key×V):=Nl (fun p r=>(Sum.inl (p.1:Int),V.ref r)) G gl
theorem kiF:∀{G:List (Nat×List Nat)}{gl:List Addr},gl.length=G.length->(kvOf G gl).map Prod.snd=gl.map V.ref
 |[],[],_=>rfl
 |[],r::gl,h=>by cases h
 |p::G,[],h=>by cases h
 |p::G,r::gl,h=>by
  have ih:=kiF (G:=G) (gl:=gl) (by simpa using h)
  show V.ref r::(kvOf G gl).map Prod.snd=V.ref r::gl.map V.ref
  rw[ih]
theorem khN:∀{G:List (Nat×List Nat)}{gl:List Addr}(o a:Nat),gl.length=G.length->
  (atK (kvOf G gl) (Sum.inl (o:Int))=none/\ins G o a=G++[(o,[a])])∨∃(j:Nat)(g:List Nat)(r:Addr),G[j]?>>(o,g)/\gl[j]?>>r/\atK (kvOf G gl) (Sum.inl (o:Int))>>(.ref r)/\ins G o a=G.set j (o,g++[a])
 |[],gl,o,a,h=>.inl ⟨rfl,rfl⟩
 |(l,g)::G,[],o,a,h=>by cases h
 | (l,g)::G,r::gl,o,a,h=>by
  have hl:gl.length=G.length:=by simpa using h
  unfold ins
  by_cases e:l=o
  ·subst e
   exact .inr ⟨0,g,r,rfl,rfl,by simp[kvOf,atK],by rw[if_pos rfl];rfl⟩
  ·rw[if_neg e]
   have e':¬((l:Int)=(o:Int)):=fun z=>e (by lia)
   have ea:atK (kvOf ((l,g)::G) (r::gl)) (Sum.inl (o:Int))=atK (kvOf G gl) (Sum.inl (o:Int)):=by
    simp[kvOf,atK,NP,e']
   rcases khN o a hl with⟨h1,h2⟩|⟨j,g',r',h1,h2,h3,h4⟩
   ·exact .inl ⟨by rw[ea];exact h1,by rw[h2];rfl⟩
   ·exact .inr ⟨j+1,g',r',by simpa using h1,by simpa using h2,by rw[ea];exact h3,by rw[h4];rfl⟩
theorem klC{G:List (Nat×List Nat)}{gl:List Addr}{j o:Nat}{g g':List Nat}(h:G[j]?>>(o,g)):kvOf (G.set j (o,g')) gl=kvOf G gl:=by
 unfold kvOf
 apply List.ext_getElem?
 intro i
 rw[M3,M3]
 by_cases e:j=i
 ·subst e
  have hj:=at_lt h
  rw[MG hj,h]
  cases gl[j]? <;> rfl
 ·rw[MH e]
theorem kkr{G:List (Nat×List Nat)}{gl:List Addr}{o:Nat}{g:List Nat}{e:Addr}(h:gl.length=G.length):kvOf (G++[(o,g)]) (gl++[e])=kvOf G gl++[(Sum.inl (o:Int), .ref e)]:=by
 unfold kvOf
 rw[List.zipWith_append h.symm]
 rfl
structure Ptd(H H':Hp)(dd:Addr)(gl:List Addr)(G:List (Nat×List Nat)):Prop where
 sm:Same H H'
 nd:gl.Nodup
 fg:∀r∈gl,H r=none/\r≠dd
 dk:H' dd>>(.dK (kvOf G gl))
 ls:P2 (fun r p=>H' r>>(.lst (p.2.map iV))) gl G
theorem Ptd.more{H H':Hp}{dd e:Addr}{gl:List Addr}{G:List (Nat×List Nat)}(h:Ptd H H' dd gl G)(fd:H dd=none)(he:H' e=none){o a:Nat}:
  Ptd H (upd (upd (upd H' e (.lst [])) dd (.dK (kvOf G gl++[(Sum.inl (o:Int), .ref e)]))) e (.lst [iV a])) dd (gl++[e]) (G++[(o,[a])]):=by
 have e0:H e=none:=none_of h.sm he
 have ned:e≠dd:=fun z=>by rw[z,h.dk] at he;cases he
 rwa[kav e0 (kav fd (h.sm.trans (kam he)) (kdj (nx h.dk)))  (kdj (nx kae)),?_,fun r hr=>?_,?_,?_]
 ·refine Ez.mpr ⟨h.nd,by simp,fun x hx y hy z=>?_⟩
  rw[Nz] at hy
  subst hy z
  obtain⟨i,hi⟩:=NV.mp hx
  obtain⟨p,_,hp⟩:=h.ls.at hi
  rw[hp] at he
  cases he
 ·rcases Na.mp hr with hr|hr
  ·exact h.fg r hr
  ·rw[Nz] at hr
   subst hr
   rwa[e0,ned]
 ·rw[kak ned.symm,kae,kkr h.ls.len]
 ·refine P2.snoc (P2.of h.ls.len fun i r p e1 e2=>?_) kae
  have hp:=h.ls.get e1 e2
  rw[kak (kai hp he),kak (h.fg r (JB e1)).2,kak (kai hp he)]
  exact hp
theorem Ptd.put{H H':Hp}{dd e r:Addr}{gl:List Addr}{G:List (Nat×List Nat)}(h:Ptd H H' dd gl G)(he:H' e=none){j o a:Nat}{g:List Nat}(h1:G[j]?>>(o,g))(h2:gl[j]?>>r):
  Ptd H (upd (upd H' e (.lst [])) r (.lst (g.map iV++[iV a]))) dd gl (G.set j (o,g++[a])):=by
 have hr:=h.fg r (JB h2)
 have hrv:=h.ls.get h2 h1
 rwa[kav hr.1 (h.sm.trans (kam he)),h.nd,h.fg,?_,P2.of (by rw[N8];exact h.ls.len) fun i r' p e1 e2=>?_]
 ·rw[kak hr.2.symm,kak (kai h.dk he),h.dk,klC h1]
 ·by_cases eji:j=i
  ·subst eji
   rw[h2] at e1
   cases e1
   rw[MG (at_lt h1)] at e2
   cases e2
   rw[kae,JC]
   rfl
  ·rw[MH eji] at e2
   have hp:=h.ls.get e1 e2
   have hne:r'≠r:=fun z=>by
    subst z
    exact eji ((List.getElem?_inj (at_lt h2) h.nd).mp (h2.trans e1.symm))
   rw[kak hne,kak (kai hp he)]
   exact hp
inductive kh8(CS:Addr)(vs:List V)(H:Hp)(Q:VK)(E_:XK):Prop
 |ct(x pa:Addr)(S:Stnd)(is:List Nat)(_:vs=[.ref x, .ref pa])(_:StndIs CS H x S)(_:H pa>>(.lst (is.map iV)))(_:(∀i∈is,i<S.ow.length))(_:is.length<=720)(_:∀(H':Hp)(p:Addr)(gl:List Addr),Same H H'->H p=none->H' p>>(.lst (gl.map V.ref))->P2 (fun r g=>H' r>>(.lst (g.map iV))) gl ((parted (fun i=>S.ow.getD i 0) is).map Prod.snd)->(∀r∈gl,H r=none)->Q (.ref p) H'):kh8 CS vs H Q E_
theorem P2.mapR{α β γ:Type}{R: α->γ->Prop}{f: β->γ}{as:List α}{bs:List β}(h:P2 (fun a b=>R a (f b)) as bs):P2 R as (bs.map f):=by
 induction h with
 |nil=>exact .nil
 |cons r t ih=>exact .cons r ih
theorem Xj:kat ["standing","pieces","by_line","piece"] ["standing","pieces"] (kah kbV):=by ac_rfl
theorem kd1(W:WB K mg d base):FO P w W 1 d.XW d.XX ["standing","pieces"] (kh8 d.qc):=by
 exists W.Zz.F,Xj
 ·obtain⟨x,pa,S,is,rfl,⟨o,p,mk,⟨dxs,fss,hx,l1,l2,l3,l4,l5⟩,ho,hp,hmk⟩,hpa,hi,hl,k⟩:=h
  refine⟨_,kab (psl (i:=2) Xj.nd klk)
   (kab (ka7 PassesOwn.never rfl (kaB (K:=K) (pv 1)) (pgn (i:=3) Xj.nd)
   (kag (ka0 (pe_bm Nh NJ NK kbc (pe_bm EO EN PySem.F.type_dict_setdefault kgg (pv 2) (kaa (pe_ix (r:=rIxL K) kaH (kaj (K:=K) (pv 0) rfl) (pv 3) (fun _ _=>rfl)) (kaa (kaX kad) kad))) (kaa (pv 3) kad)))))
   (kag (kaq (khE rfl (by rfl) W.B.list (pv 2))))),?_⟩
  refine fun dd hd=>?_
  have s1:=kam (o:=.dK []) hd
  refine⟨_,rfl,pa,rfl,⟨_,SqL.of (s1 _ _ hpa)⟩,ka9 (K:=K) (a:=pa) (xs:=is.map iV) (fun i σ H'=>(∃v3:Option V,σ=[some (.ref x),some (.ref pa),some (.ref dd),v3])/\∃gl,Ptd H H' dd gl (parted (fun i=>S.ow.getD i 0) (is.take i)))
   ⟨⟨none,rfl⟩,[],s1,by simp,fun r hr=>by simp at hr,kae, .nil⟩ (fun i σ H' _ h=>SqL.of (h.2.choose_spec.sm _ _ hpa)) ?_ ?_⟩
  ·rintro i y σ H1 hy ⟨⟨v3,rfl⟩,gl,Z⟩
   obtain⟨a,ea,rfl⟩:=kbO hy
   have hil:=at_lt ea
   obtain⟨ln,eln⟩:=at_of (hi a (JB ea))
   have eg:S.ow.getD a 0=ln:=by rw[JM,eln];rfl
   have enext:parted (fun i=>S.ow.getD i 0) (is.take (i+1))=ins (parted (fun i=>S.ow.getD i 0) (is.take i)) ln a:=by
    rw[kcq ea,keR,eg]
   have lenG:=kfF (fun i=>S.ow.getD i 0) (is.take i)
   rw[JV] at lenG
   have lenK:(kvOf (parted (fun i=>S.ow.getD i 0) (is.take i)) gl).length<sizeLine:=by
    refine kas ?_
    unfold kvOf
    rw[M1]
    lia
   rwa[8, .inr (.inr (.inl ⟨rfl, .inl ⟨_,Z.dk⟩⟩)),8,x,d.qc,dxs,fss,8,Z.sm _ _ hx,W.qc.cl,W.qM,l1,8,o,_,9,SqL.of (Z.sm _ _ ho),kaK (v:=.int (ln:Nat)) (by rw[JF,eln];rfl),by decide,fun e he=>?_]
   have ned:dd≠e:=kai Z.dk he
   rwa[dd,kvOf (parted (fun i=>S.ow.getD i 0) (is.take i)) gl,(ln:Nat), .ref e,6,6,by rw[kak ned];exact Z.dk,lenK,fun v hv=>?_,fun hn=>?_]
   ·rcases khN (G:=parted (fun i=>S.ow.getD i 0) (is.take i)) ln a Z.ls.len with⟨h1,_⟩|⟨j,g,r,h1,h2,h3,h4⟩
    ·rw[h1] at hv
     cases hv
    ·rw[h3] at hv
     cases hv
     have hrv:=Z.ls.get h2 h1
     have gl20:g.length<=720:=by
      have eg':=(kcV (fun i=>S.ow.getD i 0) (is.take i)).gs ln g (JB h1)
      rw[eg']
      refine JA (NR _ _) ?_
      rw[JV]
      lia
     have hr2:(upd H1 e (.lst [])) r>>(.lst (g.map iV)):=by rw[kak (kai hrv he)];exact hrv
     rwa[.inl ⟨rfl,_,SqL.of hr2⟩,8,r,9,hr2,kas (by rw[Jv];lia),⟨_,rfl⟩,gl,?_]
     rw[enext,h4]
     exact Z.put he h1 h2
   ·rcases khN (G:=parted (fun i=>S.ow.getD i 0) (is.take i)) ln a Z.ls.len with⟨_,h4⟩|⟨j,g,r,h1,h2,h3,h4⟩
    ·have he2:(upd (upd H1 e (.lst [])) dd (.dK (kvOf (parted (fun i=>S.ow.getD i 0) (is.take i)) gl++[(Sum.inl ((ln:Nat):Int), .ref e)]))) e>>(.lst []):=by rw[kak ned.symm,kae]
     rwa[.inl ⟨rfl,_,SqL.of he2⟩,8,e,[],8,6,he2,by decide,⟨_,rfl⟩,gl++[e],?_]
     rw[enext,h4]
     exact Z.more hd he
    ·rw[h3] at hn
     cases hn
  ·rintro σ H1 ⟨⟨v3,rfl⟩,gl,Z⟩
   rw[Jv,J4] at Z
   rwa[8,dd,8,Z.dk,fun l hl2=>?_]
   rw[kiF Z.ls.len]
   refine k _ l gl (Z.sm.trans (kam hl2)) (none_of Z.sm hl2) kae (P2.mapR (f:=Prod.snd) (R:=fun r g=>(upd H1 l (.lst (gl.map V.ref))) r>>(.lst (g.map iV))) (Z.ls.mono fun r p h=>kam hl2 _ _ h)) fun r hr=>(Z.fg r hr).1
inductive kgG(d:D)(vs:List V)(H:Hp)(Q:VK)(E_:XK):Prop
 |ct(x pa:Addr)(S:Stnd)(is:List Nat)(m:Nat)(_:vs=[.ref x, .ref pa, .int m])(_:StndIs d.qc H x S)(_:H pa>>(.lst (is.map iV)))(_:is.Pairwise (· < ·))(_:(∀i∈is,i<S.pr.length))(_:is.length<64)(_:2<=m)(_:m<=20)(_:Tbs d H)(_:∀(H':Hp)(p:Addr)(gl:List Addr),Same H H'->H p=none->H' p>>(.lst (gl.map V.ref))->P2 (fun r g=>H' r>>(.lst (g.map iV))) gl (grp m (fallP S.pr is))->(∀r∈gl,H r=none)->Q (.ref p) H'):kgG d vs H Q E_
theorem km3{pr:List Int}{is:List Nat}{ms:List Int}(hs:is.Pairwise (· < ·))(hp:ms.Perm (is.map fun(i:Nat)=>(i:Int)))(hk:ms.Pairwise fun a b=> -(pr.getD a.toNat 0)< -(pr.getD b.toNat 0)∨(-(pr.getD a.toNat 0)= -(pr.getD b.toNat 0)/\a<b)):ms.map V.int=(fallP pr is).map iV:=by
 have e:ms=(ms.map Int.toNat).map fun(i:Nat)=>(i:Int):=by
  rw[JO]
  conv=>lhs;rw[<-List.map_id ms]
  refine NA fun z hz=>?_
  obtain⟨i,_,rfl⟩:=JP.mp (hp.mem_iff.mp hz)
  simp
 have hp2:(ms.map Int.toNat).Perm is:=by
  have:=hp.map Int.toNat
  rw[JO] at this
  have e2:is.map (Int.toNat∘fun(i:Nat)=>(i:Int))=is:=by
   conv=>rhs;rw[<-List.map_id is]
   exact NA fun i _=>rfl
  rwa [e2] at this
 have hk2:(ms.map Int.toNat).Pairwise (befP pr):=by
  rw[MD]
  refine hk.imp_of_mem fun {a b} ha hb h=>?_
  obtain⟨i,_,rfl⟩:=JP.mp (hp.mem_iff.mp ha)
  obtain⟨j,_,rfl⟩:=JP.mp (hp.mem_iff.mp hb)
  unfold befP
  simp only[Int.toNat_natCast] at h⊢
  lia
 rw[e,ki9 hs hp2 hk2,JO]
 rfl
theorem Vm:kat ["standing","pieces","many","falling"] ["standing","pieces","many"] (kah kaF):=by ac_rfl
theorem kd3(W:WB K mg d base):FO P w W 1 d.XY d.QF ["standing","pieces","many"] (kgG d):=by
 refine FunD.okC W.QR.F Vm (fun vs H Q E h=>?_) (fun A outer s H vs Q E hr h=>?_)
 ·obtain⟨x,pa,S,is,m,rfl,_⟩:=h
  rfl
 ·obtain⟨x,pa,S,is,m,rfl,hS,hpa,hs,hi,h64,hm2,hm20,htb,k⟩:=h
  obtain⟨o,p,mk,⟨dxs,fss,hx,l1,l2,l3,l4,l5⟩,ho,hp,hmk⟩:=id hS
  refine⟨_,kab (psl (i:=3) Vm.nd (kiY (N:=["piece","standing"]) (cap:=[some 0]) (pv 1) ⟨CompScope.of (N:=["piece","standing"]) (cap:=[none,some 0]) (kah kaF).names ["standing","pieces","many","falling"] rfl rfl (by cutsat),rfl,rfl,rfl,rfl,by cutsat⟩ rfl hr.depth W.code_falling_groups W.ck_falling_groups W.blt (by rfl) W.B.sorted (fun _ _ _ _ _=>rfl) (fun _ _ _ _ _=>(pe_un klX (pe_ix (r:=rIxL K) kaH (kaj (K:=K) (pv 1) rfl) (pv 0) (fun _ _=>rfl)))) (by rfl)))
   (kag (kaq (kbZ (N:=["start","falling","many"]) (CompScope.of (N:=["start","falling","many"]) (cap:=[none,some 3,some 2]) (kah kaF).names ["standing","pieces","many","falling"] rfl rfl (by cutsat)) rfl (kiX rfl W.B.range (kaa kaf (kaa (pe_op kcN (pe_op kdx (kao (r:=kaG K) kap (by rfl) W.B.len b_len (kaa (pv 3) kad)) (pv 2)) kaf) (kaa (pv 2) kad)))) (fun _ _ _ _=>pgn (i:=0) (show(["start","falling","many"]:List Str).Nodup by cutsat)) (fun _ _ _ _=>(kf7 (r:=rSlL K) khs (pv 1) (kf6 (pv 0)) (kf6 (pe_op kcN (pv 0) (pv 2)))))))),?_⟩
  have htb':TbAt d.tP_falling_groups H:=htb
  obtain⟨qs0,eT,_⟩:=id htb'
  have npT:∀{b:Addr}{u:HO},H b>>u->(∀ps,u≠.tbl ps)->b≠d.tP_falling_groups:=fun {b u} e hn z=>by
   rw[z,eT] at e
   cases e
   exact hn _ rfl
  have ei:is.map iV=(is.map fun(i:Nat)=>(i:Int)).map V.int:=by rw[JO];rfl
  rwa[8,pa,is.map fun(i:Nat)=>(i:Int),fun a=> -(S.pr.getD a.toNat 0),6,SqL.of (by rw[<-ei];exact hpa),by rw[Jv];exact h64,?_,htb',npT hpa (fun ps z=>by cases z),fun H2 G n hn=>?_,fun H2 l ms G f1 f2 hpm hpw=>?_]
  ·rw[MD]
   exact hs.imp fun {a b} h=>by lia
  ·obtain⟨i,hin,rfl⟩:=JP.mp hn
   obtain⟨z,ez⟩:=at_of (hi i hin)
   have hx2:=G.kp _ _ (npT hx (fun ps z=>by cases z)) hx
   have hp2:=G.kp _ _ (npT hp (fun ps z=>by cases z)) hp
   rwa[8,x,d.qc,dxs,fss,8,hx2,W.qc.cl,W.qA,l2,8,p,_,9,SqL.of hp2,kaK (v:=.int z) (by rw[JF,ez];rfl),8,?_,6]
   show V.int (-z)=V.int (-(S.pr.getD ((i:Int)).toNat 0))
   rw[Int.toNat_natCast,JM,ez]
   rfl
  have s2:=G.same htb'
  rw[km3 hs hpm hpw]
  have lf:(fallP S.pr is).length=is.length:=(kbL S.pr is).length_eq
  have s3:=s2.trans (kam (o:=.lst ((fallP S.pr is).map iV)) f2)
  have el:(upd H2 l (.lst ((fallP S.pr is).map iV))) l>>(.lst ((fallP S.pr is).map iV)):=kae
  generalize upd H2 l (.lst ((fallP S.pr is).map iV))=H3 at *
  have ecnt:(Builtin.Range.rangeSize 0 ((((fallP S.pr is).map iV).length:Int)-(m:Int)+1) (m:Int)).toNat=(fallP S.pr is).length/m:=by
   rw[Jv]
   exact kht (by lia)
  have lg:=khQ m (fallP S.pr is)
  rwa[8,l,8, .inl (SqL.of el),8,9,9,8,0,_,8,by lia,?_,by lia,by lia,?_]
  ·rw[Jv]
   lia
  rw[ecnt]
  refine kkR (n:=(fallP S.pr is).length/m) (fun i σ ys H'=>Same H3 H'/\(∃v0:Option V,σ=[v0,some (.ref l),some (.int m)])/\∃gl,ys=gl.map V.ref/\P2 (fun r g=>H' r>>(.lst (g.map iV))) gl ((grp m (fallP S.pr is)).take i)/\∀r∈gl,H r=none)
   ⟨Same.refl _,⟨none,rfl⟩,[],rfl, .nil,fun r hr=>by simp at hr⟩ ?_ ?_ ?_ ?_
  ·have:(grp m (fallP S.pr is)).length=(fallP S.pr is).length/m:=by simp[grp]
   exact JJ (kas (by lia))
  ·rintro i σ ys H' hi' ⟨_,_,gl,rfl,hP,_⟩
   rw[Jv,hP.len,JV]
   have:(grp m (fallP S.pr is)).length=(fallP S.pr is).length/m:=by simp[grp]
   lia
  ·rintro i σ ys H' hi' ⟨s4,⟨v0,rfl⟩,gl,rfl,hP,hfr⟩
   have eg:(grp m (fallP S.pr is))[i]?>>(((fallP S.pr is).drop (i*m)).take m):=by
    unfold grp
    rw[JF,Mq hi']
    rfl
   have ecut:cutV ((fallP S.pr is).map iV) (some (0+(i:Int)*(m:Int))) (some (0+(i:Int)*(m:Int)+(m:Int)))=(((fallP S.pr is).drop (i*m)).take m).map iV:=by
    have:=knf ((fallP S.pr is).map iV) (i*m) m
    rw[show(0:Int)+(i:Int)*(m:Int)=((i*m:Nat):Int) by rw[Int.zero_add,Int.natCast_mul],show((i*m:Nat):Int)+(m:Int)=((i*m+m:Nat):Int) by rw[Int.natCast_add],this,Mx,Eo]
   rwa[8,8,8,8,8,9,8,l,8,SqL.of (s4 _ _ el),fun r hr=>?_]
   rwa[s4.trans (kam hr),⟨_,rfl⟩,gl++[r],by rw[JC];rfl,?_,fun r' hr'=>?_]
   ·rw[kcq eg,ecut]
    exact P2.snoc (hP.mono fun r' g e=>kam hr _ _ e) kae
   ·rcases Na.mp hr' with h|h
    ·exact hfr r' h
    ·rw[Nz] at h
     rw[h]
     exact(s3.trans s4).free hr
  ·rintro σ ys H' ⟨s4,⟨v0,rfl⟩,gl,rfl,hP,hfr⟩ D hD
   have el2:(grp m (fallP S.pr is)).length=(fallP S.pr is).length/m:=by simp[grp]
   rw[N9 (by lia)] at hP
   exact k _ D gl ((s3.trans s4).trans (kam hD)) ((s3.trans s4).free hD) kae (hP.mono fun r g e=>kam hD _ _ e) hfr
theorem Qv:kat ["voucher","standing","pieces","groups","lasts"] ["voucher","standing","pieces"] (kah kbk):=by ac_rfl
theorem kfq(W:WB K mg d base):FO P w W 3 d.XT d.XU ["voucher","standing","pieces"] (kh7 d):=by
 exists W.Zy.F,Qv
 ·obtain⟨v,x,pa,⟨so,ms⟩,ps,B,S,rfl,⟨mA,dxv,fsv,hv,lvm,hso,hM,hh,htb⟩,hS,hpa,wf,vo,k⟩:=h
  exists qP,kb0,W
  exists VZ,kd1,W
  exists Vn,kd3,W
  have hr1:Room 1 _:=hr.mono (by decide)
  refine⟨_,kab (ps_if (kaQ (kao (r:=rIsi K) ka2 (by rfl) W.B.isi b_isi (kaa (pv 0) (kaa (kcD (v:=.ref d.c_Off) (by rfl) W.g_Off rfl) kad)))) (kag (kaq (kaX (kaa (kb4 (kaa (kao (kbS rfl) (by rfl) W.B.min b_min (kaa (kaj (K:=K) (pv 0) rfl) (kaa (pcl qP hr W.qQ (kaa (pv 1) (kaa (pv 2) kad))) kad))) (kaa (pv 2) kad))) kad)))) (kar))
   (kab (ps_if (kaQ (kao (r:=rIsi K) ka2 (by rfl) W.B.isi b_isi (kaa (pv 0) (kaa (kcD (v:=.ref d.qh) (by rfl) W.ZZ rfl) kad)))) (kab (psl (i:=3) Qv.nd (kl9 (kex (kaQ (kaj (K:=K) (pv 0) rfl)) (pcl VZ hr1 W.Zz (kaa (pv 1) (kaa (pv 2) kad))) (kaX (kaa (pv 2) kad)))))
   (kag (kaq (kbZ (N:=["group","standing","voucher"]) (CompScope.of (N:=["group","standing","voucher"]) (cap:=[none,some 1,some 0]) (kah kbk).names ["voucher","standing","pieces","groups","lasts"] rfl rfl (by cutsat)) rfl (kaB (K:=K) (pv 3)) (fun _ _ _ _=>pgn (i:=0) (show(["group","standing","voucher"]:List Str).Nodup by cutsat)) (fun _ _ _ _=>(kb4 (kaa (pe_op kaz (pe_op kcg (pcl qP hr W.qQ (kaa (pv 1) (kaa (pv 0) kad))) (kaj (K:=K) (pv 2) rfl)) kaf) (kaa (pv 0) kad)))))))) (kar))
   (kab (ps_if (kaQ (kao (r:=rIsi K) ka2 (by rfl) W.B.isi b_isi (kaa (pv 0) (kaa (kcD (v:=.ref d.qj) (by rfl) W.Vb rfl) kad)))) (kab (kdW (N:=["group"]) (CompScope.plain rfl (by cutsat) (by cutsat) (by cutsat) (nd1 _)) rfl (kaB (K:=K) (pcl Vn hr1 W.QR (kaa (pv 1) (kaa (pv 2) (kaa (kaj (K:=K) (pv 0) rfl) kad))))) (fun _ _ _ _=>pgn (i:=0) (nd1 _)) (fun _ _ _ _=>(pe_ix (r:=rIxL K) kaH (pv 0) (pe_un klX kaf) (fun _ _=>rfl))) (pgn (i:=4) Qv.nd))
   (kag (kaq (kbZ (N:=["last","standing"]) (CompScope.of (N:=["last","standing"]) (cap:=[none,some 1]) (kah kbk).names ["voucher","standing","pieces","groups","lasts"] rfl rfl (by cutsat)) rfl (kaB (K:=K) (pv 4)) (fun _ _ _ _=>pgn (i:=0) (show(["last","standing"]:List Str).Nodup by cutsat)) (fun _ _ _ _=>(kb4 (kaa (pe_ix (r:=rIxL K) kaH (kaj (K:=K) (pv 1) rfl) (pv 0) (fun _ _=>rfl)) (kaa (kaX (kaa (pv 0) kad)) kad)))))))) (kar))
   (kab (ps_if (kaQ (kao (r:=rIsi K) ka2 (by rfl) W.B.isi b_isi (kaa (pv 0) (kaa (kcD (v:=.ref d.qi) (by rfl) W.Ve rfl) kad)))) (kab (psl (i:=3) Qv.nd (pcl Vn hr1 W.QR (kaa (pv 1) (kaa (pv 2) (kaa (kaj (K:=K) (pv 0) rfl) kad)))))
   (kag (kaq (kbZ (N:=["group","standing","voucher"]) (CompScope.of (N:=["group","standing","voucher"]) (cap:=[none,some 1,some 0]) (kah kbk).names ["voucher","standing","pieces","groups","lasts"] rfl rfl (by cutsat)) rfl (kaB (K:=K) (pv 3)) (fun _ _ _ _=>pgn (i:=0) (show(["group","standing","voucher"]:List Str).Nodup by cutsat)) (fun _ _ _ _=>(kb4 (kaa (kao (kdM rfl) (by rfl) W.B.max b_max (kaa (pe_op kdx (pcl qP hr W.qQ (kaa (pv 1) (kaa (pv 0) kad))) (kaj (K:=K) (pv 2) rfl)) (kaa kaf kad))) (kaa (pv 0) kad)))))))) (kar))
   (kag (kaq (kaX kad)))))),?_⟩
  have I:=kky W hh
  exists Y4
  rwa[8,_,_,_,8, .inr ⟨_,rfl⟩,TyOf.ins hv (cl_of W hh) I.ha I.hn I.ht I.hm,kks W hh,8,?_]
  have lp:=wf.lp
  have np:=wf.np
  have habl:∀i∈abt ps (kds B) ms.kind ms.lone S,i<S.pr.length:=fun i hi=>by rw[lp];exact kfQ hi
  have habo:∀i∈abt ps (kds B) ms.kind ms.lone S,i<S.ow.length:=fun i hi=>kfQ hi
  have hand:=kfm ps (kds B) ms.kind ms.lone S
  have lab:(abt ps (kds B) ms.kind ms.lone S).length<=720:=JA (kd8 _ _ _ _ _) np
  cases so with
  | off am=>
   have qn:=kbl (qs_nn wf.nn (abt ps (kds B) ms.kind ms.lone S))
   have ha:0<=am/\am<=1000000000000:=vo.so
   refine iteT ?_
   symm
   exists Y6
   rwa[8,v,d.c_Off,dxv,fsv,8,hv,W.c_Off.cl,W.QY,hso,8,8,x,pa,S,8,hS,hpa,habl,lab,fun H1 s1=>?_]
   nofun
   exists Y6
   rwa[_,8,8,(by show 2<=sizeLine;decide),fun t ht=>⟨(by show 1<=sizeLine;decide),fun l hl=>?_⟩]
   have emin:(if(qs S.pr (abt ps (kds B) ms.kind ms.lone S)).sum<am then(qs S.pr (abt ps (kds B) ms.kind ms.lone S)).sum else am)=min am (qs S.pr (abt ps (kds B) ms.kind ms.lone S)).sum:=by
    split <;> lia
   rw[emin] at hl⊢
   have s2:=s1.trans (kam (o:=.tup [.int (min am (qs S.pr (abt ps (kds B) ms.kind ms.lone S)).sum), .ref pa]) ht)
   have s3:=s2.trans (kam (o:=.lst [.ref t]) hl)
   nofun
   refine k _ l [t] [(min am (qs S.pr (abt ps (kds B) ms.kind ms.lone S)).sum,abt ps (kds B) ms.kind ms.lone S)] s3 (none_of s2 hl) kae (.cons ⟨pa,kam hl _ _ kae,s3 _ _ hpa, .inl rfl⟩ .nil) ?_ ?_ ?_ (by simp) ?_
   ·intro c g hc
    rw[Nz] at hc
    cases hc
    nofun
    rwa[by lia,by lia,lab]
   ·simpa using hand
   ·simpa using habl
   ·simp[want]
  | share sh bl=>
   have hsh:1<=sh/\sh<=1000:=vo.so
   refine iteF ?_
   symm
   exists Y6
   rwa[8,_,_,_,8, .inr ⟨_,rfl⟩,TyOf.ins hv (cl_of W hh) I.ha I.hn I.ht I.hm,kbQ W hh,8,iteT ?_]
   nofun
   exists Y6
   refine⟨fun gv H1=>∃(gp:Addr)(gl:List Addr)(gs:List (List Nat)),gv=.ref gp/\Same H H1/\H gp=none/\H1 gp>>(.lst (gl.map V.ref))/\P2 (fun r g=>H1 r>>(.lst (g.map iV))) gl gs/\(∀r∈gl,r=pa∨H r=none)/\gs.length<=720/\(∀g∈gs,g.length<=720)/\gs.flatten.Nodup/\(∀i∈gs.flatten,i<S.pr.length)/\
    spr S.pr.length gs.flatten (gs.map fun g=>dl ((qs S.pr g).sum*sh/1000) (qs S.pr g)).flatten=spr S.pr.length (abt ps (kds B) ms.kind ms.lone S) (want (.share sh bl) S.mkd.length ((abt ps (kds B) ms.kind ms.lone S).map fun i=>S.ow.getD i 0) (qs S.pr (abt ps (kds B) ms.kind ms.lone S))),?_,?_⟩
   ·rwa[8,v,d.qh,dxv,fsv,8,hv,W.qh.cl,W.Z9,hso.2,bl,6,?_]
    cases bl with
    | true=>
     refine iteT ?_
     nofun
     exists Y10
     rwa[8,8,x,pa,S,8,hS,hpa,habo,lab,fun H1 p gl s1 f1 h1 hP hg=>⟨p,gl,_,rfl,s1,f1,h1,hP,fun r hr=>.inr (hg r hr),?_,?_,?_,?_,?_⟩]
     ·rw[Jv]
      try first|apply Y10|apply Y6|apply Y4
      exact JA (kfF _ _) lab
     ·intro g hg'
      rw[(kcV (fun i=>S.ow.getD i 0) (abt ps (kds B) ms.kind ms.lone S)).snds] at hg'
      obtain⟨l,_,rfl⟩:=JP.mp hg'
      try first|apply Y10|apply Y6|apply Y4
      exact JA (NR _ _) lab
     ·have ok:=kcV (fun i=>S.ow.getD i 0) (abt ps (kds B) ms.kind ms.lone S)
      rw[ok.snds]
      try first|apply Y10|apply Y6|apply Y4
      exact keQ (f:=fun i=>S.ow.getD i 0) hand ok.nd
     ·intro i hi
      rw[(kcV (fun i=>S.ow.getD i 0) (abt ps (kds B) ms.kind ms.lone S)).snds] at hi
      obtain⟨g,hg',hi'⟩:=NS.mp hi
      obtain⟨l,_,rfl⟩:=JP.mp hg'
      try first|apply Y10|apply Y6|apply Y4
      exact habl i (JT.mp hi').1
     ·refine ki0 (fun z=>z*sh/1000) hand fun i hi=>?_
      obtain⟨ln,eln⟩:=at_of (habo i hi)
      rw[JM,eln,wf.lm]
      try first|apply Y10|apply Y6|apply Y4
      exact wf.line eln
    |false=>
     refine iteF ?_
     nofun
     exists Y10
     rwa[8,(by show 1<=sizeLine;decide),fun p hp=>⟨p,[pa],[abt ps (kds B) ms.kind ms.lone S],rfl,kam hp,hp,kae, .cons (kam hp _ _ hpa) .nil,fun r hr=>.inl (by simpa using hr),by simp,fun g hg=>?_,by simpa using hand,by simpa using habl,by simp[want]⟩]
     rw[Nz] at hg
     rw[hg]
     try first|apply Y10|apply Y6|apply Y4
     exact lab
   rintro gv H1 ⟨gp,gl,gs,rfl,s1,f1,h1,hP,hor,lgs,lg,gnd,glt,gsp⟩
   have lgl:=hP.len
   have gok:∀g∈gs,∀i∈g,i<S.pr.length:=fun g hg i hi=>glt i (NS.mpr ⟨g,hg,hi⟩)
   nofun
   exists Y6
   refine⟨_,rfl,gp,rfl,⟨_,SqL.of h1⟩,kaY (xs:=gl.map V.ref) (fun i σ ys H'=>Same H1 H'/\(∃v0:Option V,σ=[v0,some (.ref x),some (.ref v)])/\∃tl,ys=tl.map V.ref/\P2 (GrpAt H H' pa) tl ((gs.take i).map fun g=>((qs S.pr g).sum*sh/1000,g)))
    ⟨Same.refl _,⟨none,rfl⟩,[],rfl, .nil⟩ (by rw[Jv];exact JJ (kas (by lia))) ?_ ?_ ?_⟩
   ·rintro i σ ys H2 hi ⟨s2,_,tl,rfl,hT⟩
    nofun
    exists Y8
    rwa[SqL.of (s2 _ _ h1),?_]
    rw[Jv,hT.len,Jv,JV]
    rw[Jv] at hi
    lia
   ·rintro i y σ ys H2 hy ⟨s2,⟨v0,rfl⟩,tl,rfl,hT⟩
    obtain⟨r,er,rfl⟩:=kba hy
    obtain⟨g,eg,hr⟩:=hP.at er
    have s12:=s1.trans s2
    have hg:=JB eg
    have sn:=kbl (qs_nn wf.nn g)
    have sl:=kim wf (lg g hg) (gok g hg)
    exists 3
    exists Y8
    rwa[8,8,x,r,S,g,6,hS.same s12,s2 _ _ hr,gok g hg,lg g hg,fun H3 s3=>?_]
    have s13:=s12.trans s3
    exists 3
    exists Y8
    rwa[8,v,d.qh,dxv,fsv,8,s13 _ _ hv,W.qh.cl,W.Q0,hso.1,9, .inl ⟨by lia,by lia⟩,7,8,(by show 2<=sizeLine;decide),fun t ht=>?_]
    have s4:=kam (o:=.tup [.int ((qs S.pr g).sum*sh/1000), .ref r]) ht
    exists 3
    exists Y8
    rwa[(s2.trans s3).trans s4,⟨_,rfl⟩,tl++[t],by rw[JC];rfl,?_]
    rw[kcq eg,JC]
    exists 3
    refine P2.snoc (hT.mono fun t' q ⟨ga,a1,a2,a3⟩=>⟨ga,(s3.trans s4) _ _ a1,(s3.trans s4) _ _ a2,a3⟩) ⟨r,kae,((s2.trans s3).trans s4) _ _ hr,hor r (JB er)⟩
   ·rintro σ ys H2 ⟨s2,⟨v0,rfl⟩,tl,rfl,hT⟩ D hD
    rw[Jv,lgl,J4] at hT
    have s3:=kam (o:=.lst (tl.map V.ref)) hD
    have e1:(gs.map fun g=>((qs S.pr g).sum*sh/1000,g)).map Prod.snd=gs:=by
     rw[JO]
     exists 3
     exact List.map_id' gs
    exists 3
    refine k _ D tl _ ((s1.trans s2).trans s3) (none_of (s1.trans s2) hD) kae (hT.mono fun t' q ⟨ga,a1,a2,a3⟩=>⟨ga,s3 _ _ a1,s3 _ _ a2,a3⟩) ?_ (by rw[e1];exact gnd) (by rw[e1];exact glt) (by rw[Jv];exact lgs) ?_
    ·intro c g hc
     obtain⟨g',hg',e⟩:=JP.mp hc
     cases e
     have sn:=kbl (qs_nn wf.nn g)
     have:=kdt sn hsh.1 hsh.2
     exists 3
     rwa[this.1,this.2,lg g hg']
    ·rw[e1,JO]
     exists 3
     exact gsp
  | cheap n=>
   have hn:2<=n/\n<=20:=vo.so
   obtain⟨m,rfl⟩:∃m:Nat,n=m:=⟨n.toNat,by lia⟩
   refine iteF ?_
   symm
   rwa[8,_,_,_,8, .inr ⟨_,rfl⟩,TyOf.ins hv (cl_of W hh) I.ha I.hn I.ht I.hm,kbQ W hh,8,iteF ⟨_,rfl,_,_,_,_,rfl, .inr ⟨_,rfl⟩,TyOf.ins hv (cl_of W hh) I.ha I.hn I.ht I.hm,kbu W hh,_,rfl,iteT ?_⟩]
   have hpw:(abt ps (kds B) ms.kind ms.lone S).Pairwise (· < ·):=NH.filter _ MC
   have l64:(abt ps (kds B) ms.kind ms.lone S).length<64:=NU (kd8 _ _ _ _ _) wf.n64
   symm
   exists Y6
   rwa[8,8,8,v,d.qj,dxv,fsv,8,hv,W.qj.cl,W.Q2,hso,x,pa,S,_,m,6,hS,hpa,hpw,habl,l64,by lia,by lia,htb,fun H1 gp gl s1 f1 h1 hP0 hg=>?_]
   have hP:P2 (fun r g=>H1 r>>(.lst (g.map iV))) gl (grp m (fallP S.pr (abt ps (kds B) ms.kind ms.lone S))):=hP0
   clear hP0
   have lgl:=hP.len
   have lG:=khQ m (fallP S.pr (abt ps (kds B) ms.kind ms.lone S))
   have lf:(fallP S.pr (abt ps (kds B) ms.kind ms.lone S)).length=(abt ps (kds B) ms.kind ms.lone S).length:=(kbL _ _).length_eq
   have hgr:∀{i:Nat}{g:List Nat},(grp m (fallP S.pr (abt ps (kds B) ms.kind ms.lone S)))[i]?>>g->0<g.length/\g[g.length-1]?>>(g.getLastD 0)/\g.getLastD 0∈abt ps (kds B) ms.kind ms.lone S:=fun {i g} eg=>by
    obtain⟨h1,h2,h3⟩:=kg9 eg
    have h4:=ke9 (by lia) eg
    nofun
    exists Y8
    rwa[by lia,?_,(kbL _ _).mem_iff.mp (JB h4)]
    rw[h2,h3 _ (by lia)]
    exists 3
    exact h4
   have hla:∀a∈lasts (grp m (fallP S.pr (abt ps (kds B) ms.kind ms.lone S))),a∈abt ps (kds B) ms.kind ms.lone S:=fun a ha=>by
    obtain⟨g,hg',rfl⟩:=JP.mp ha
    obtain⟨j,hj⟩:=NV.mp hg'
    nofun
    exact(hgr hj).2.2
   nofun
   exists Y6
   refine⟨gp,rfl,⟨_,SqL.of h1⟩,kaY (xs:=gl.map V.ref) (fun i σ ys H'=>Same H1 H'/\(∃v0:Option V,σ=[v0])/\ys=((lasts (grp m (fallP S.pr (abt ps (kds B) ms.kind ms.lone S)))).take i).map iV)
    ⟨Same.refl _,⟨none,rfl⟩,rfl⟩ (by rw[Jv];exact JJ (kas (by lia))) ?_ ?_ ?_⟩
   ·rintro i σ ys H2 hi ⟨s2,_,rfl⟩
    nofun
    exists Y8
    rwa[SqL.of (s2 _ _ h1),?_]
    rw[Jv,JV,kdI]
    rw[Jv] at hi
    lia
   ·rintro i y σ ys H2 hy ⟨s2,⟨v0,rfl⟩,rfl⟩
    obtain⟨r,er,rfl⟩:=kba hy
    obtain⟨g,eg,hr⟩:=hP.at er
    obtain⟨g0,g1,g2⟩:=hgr eg
    have al:atI (g.map iV) (-1)>>(iV (g.getLastD 0)):=kkZ (by rw[Jv,JF,g1];rfl) (by rw[Jv];exact g0)
    exists 3
    exists Y8
    rwa[8,1,6,r,_,9,SqL.of (s2 _ _ hr),al,s2,⟨_,rfl⟩,?_]
    rw[kcq (r:=g.getLastD 0) (by unfold lasts;rw[JF,eg];rfl),JC]
    rfl
   rintro σ ys H2 ⟨s2,⟨v0,rfl⟩,rfl⟩ D hD
   rw[Jv,lgl,N9 (by rw[kdI];exact Jx _)]
   have s3:=s2.trans (kam (o:=.lst ((lasts (grp m (fallP S.pr (abt ps (kds B) ms.kind ms.lone S)))).map iV)) hD)
   have fD:H D=none:=none_of (s1.trans s2) hD
   have eD:(upd H2 D (.lst ((lasts (grp m (fallP S.pr (abt ps (kds B) ms.kind ms.lone S)))).map iV))) D>>(.lst ((lasts (grp m (fallP S.pr (abt ps (kds B) ms.kind ms.lone S)))).map iV)):=kae
   generalize upd H2 D (.lst ((lasts (grp m (fallP S.pr (abt ps (kds B) ms.kind ms.lone S)))).map iV))=H3 at *
   obtain⟨o,p,mk,⟨dxs,fss,hx,l1,l2,l3,l4,l5⟩,ho,hp,hmk⟩:=id hS
   have s13:=s1.trans s3
   have lL:=kdI (grp m (fallP S.pr (abt ps (kds B) ms.kind ms.lone S)))
   nofun
   exists Y6
   refine⟨_,rfl,D,rfl,⟨_,SqL.of eD⟩,kaY (xs:=(lasts (grp m (fallP S.pr (abt ps (kds B) ms.kind ms.lone S)))).map iV) (fun i σ ys H'=>Same H3 H'/\(∃v0:Option V,σ=[v0,some (.ref x)])/\∃tl,ys=tl.map V.ref/\P2 (GrpAt H H' pa) tl (((lasts (grp m (fallP S.pr (abt ps (kds B) ms.kind ms.lone S)))).take i).map fun a=>(S.pr.getD a 0,[a])))
    ⟨Same.refl _,⟨none,rfl⟩,[],rfl, .nil⟩ (by rw[Jv];exact JJ (kas (by lia))) ?_ ?_ ?_⟩
   ·rintro i σ ys H4 hi ⟨s4,_,tl,rfl,hT⟩
    nofun
    exists Y8
    rwa[SqL.of (s4 _ _ eD),?_]
    rw[Jv,hT.len,Jv,JV]
    rw[Jv] at hi
    lia
   ·rintro i y σ ys H4 hy ⟨s4,⟨v0,rfl⟩,tl,rfl,hT⟩
    obtain⟨a,ea,rfl⟩:=kbO hy
    have ha:=hla a (JB ea)
    obtain⟨z,ez⟩:=at_of (habl a ha)
    have ez':S.pr.getD a 0=z:=by rw[JM,ez];rfl
    have s14:=s13.trans s4
    exists 3
    exists Y8
    rwa[8,x,d.qc,dxs,fss,8,s14 _ _ hx,W.qc.cl,W.qA,l2,8,p,_,9,SqL.of (s14 _ _ hp),kaK (v:=.int z) (by rw[JF,ez];rfl),8,(by show 1<=sizeLine;decide),fun q hq=>⟨(by show 2<=sizeLine;decide),fun t ht=>?_⟩]
    have s5:=(kam (o:=.lst [iV a]) hq).trans (kam (o:=.tup [.int z, .ref q]) ht)
    exists 3
    exists Y8
    rwa[s4.trans s5,⟨_,rfl⟩,tl++[t],by rw[JC];rfl,?_]
    rw[kcq ea,JC]
    exists 3
    exact P2.snoc (hT.mono fun t' q' ⟨ga,a1,a2,a3⟩=>⟨ga,s5 _ _ a1,s5 _ _ a2,a3⟩) ⟨q,by show upd _ _ _ _>>(.tup [.int (S.pr.getD a 0), .ref q]);rw[ez'];exact kae,kam ht _ _ kae, .inr (none_of s14 hq)⟩
   ·rintro σ ys H4 ⟨s4,⟨v0,rfl⟩,tl,rfl,hT⟩ D2 hD2
    rw[Jv,J4] at hT
    have s5:=kam (o:=.lst (tl.map V.ref)) hD2
    have e1:((lasts (grp m (fallP S.pr (abt ps (kds B) ms.kind ms.lone S)))).map fun a=>(S.pr.getD a 0,[a])).map Prod.snd=(lasts (grp m (fallP S.pr (abt ps (kds B) ms.kind ms.lone S)))).map fun a=>[a]:=by
     rw[JO]
     rfl
    have e2:=kjL (fun i=>S.pr.getD i 0) (lasts (grp m (fallP S.pr (abt ps (kds B) ms.kind ms.lone S))))
    exists 3
    refine k _ D2 tl _ ((s13.trans s4).trans s5) (none_of (s13.trans s4) hD2) kae (hT.mono fun t' q ⟨ga,a1,a2,a3⟩=>⟨ga,s5 _ _ a1,s5 _ _ a2,a3⟩) ?_ (by rw[e1,e2.1];exact ke8 (by lia) (kfd hand)) (by rw[e1,e2.1];exact fun i hi=>habl i (hla i hi)) (by rw[Jv];lia) ?_
    ·intro c g hc
     obtain⟨a,ha,e⟩:=JP.mp hc
     cases e
     have q0:(qs S.pr [a]).sum=S.pr.getD a 0:=by simp[qs]
     have q1:=kbl (qs_nn wf.nn [a])
     rw[q0] at q1⊢
     exists 3
     rwa[q1,Int.le_refl _,by simp]
    ·rw[e1,e2.1,JO]
     have e3:(lasts (grp m (fallP S.pr (abt ps (kds B) ms.kind ms.lone S)))).map ((fun p=>dl p.1 (qs S.pr p.2))∘fun a=>(S.pr.getD a 0,[a]))=(lasts (grp m (fallP S.pr (abt ps (kds B) ms.kind ms.lone S)))).map fun a=>[S.pr.getD a 0]:=
      NA fun a _=>knL _
     rw[e3,e2.2]
     exists 3
     exact(kkT (by lia) hand).symm
  | bund n pc=>
   have hn:2<=n/\n<=20/\0<=pc/\pc<=1000000000000:=vo.so
   obtain⟨m,rfl⟩:∃m:Nat,n=m:=⟨n.toNat,by lia⟩
   refine iteF ?_
   symm
   rwa[8,_,_,_,8, .inr ⟨_,rfl⟩,TyOf.ins hv (cl_of W hh) I.ha I.hn I.ht I.hm,kbQ W hh,8,iteF ⟨_,rfl,_,_,_,_,rfl, .inr ⟨_,rfl⟩,TyOf.ins hv (cl_of W hh) I.ha I.hn I.ht I.hm,kbu W hh,_,rfl,iteF ⟨_,rfl,_,_,_,_,rfl, .inr ⟨_,rfl⟩,TyOf.ins hv (cl_of W hh) I.ha I.hn I.ht I.hm,kdc W hh,_,rfl,iteT ?_⟩⟩]
   have hpw:(abt ps (kds B) ms.kind ms.lone S).Pairwise (· < ·):=NH.filter _ MC
   have l64:(abt ps (kds B) ms.kind ms.lone S).length<64:=NU (kd8 _ _ _ _ _) wf.n64
   symm
   exists Y6
   rwa[8,8,8,v,d.qi,dxv,fsv,8,hv,W.qi.cl,W.Vf,hso.1,x,pa,S,_,m,6,hS,hpa,hpw,habl,l64,by lia,by lia,htb,fun H1 gp gl s1 f1 h1 hP0 hg=>?_]
   have hP:P2 (fun r g=>H1 r>>(.lst (g.map iV))) gl (grp m (fallP S.pr (abt ps (kds B) ms.kind ms.lone S))):=hP0
   clear hP0
   have lgl:=hP.len
   have lG:=khQ m (fallP S.pr (abt ps (kds B) ms.kind ms.lone S))
   have lf:(fallP S.pr (abt ps (kds B) ms.kind ms.lone S)).length=(abt ps (kds B) ms.kind ms.lone S).length:=(kbL _ _).length_eq
   have gin:∀g∈grp m (fallP S.pr (abt ps (kds B) ms.kind ms.lone S)),∀i∈g,i∈abt ps (kds B) ms.kind ms.lone S:=fun g hg' i hi=>(kbL _ _).mem_iff.mp (khP hg' i hi)
   have gok:∀g∈grp m (fallP S.pr (abt ps (kds B) ms.kind ms.lone S)),∀i∈g,i<S.pr.length:=fun g hg' i hi=>habl i (gin g hg' i hi)
   have lg:∀g∈grp m (fallP S.pr (abt ps (kds B) ms.kind ms.lone S)),g.length<=720:=fun g hg'=>by
    obtain⟨j,hj⟩:=NV.mp hg'
    have:=(kg9 hj).2.1
    lia
   generalize egs:grp m (fallP S.pr (abt ps (kds B) ms.kind ms.lone S))=gs at *
   nofun
   exists Y6
   refine⟨_,rfl,gp,rfl,⟨_,SqL.of h1⟩,kaY (xs:=gl.map V.ref) (fun i σ ys H'=>Same H1 H'/\(∃v0:Option V,σ=[v0,some (.ref x),some (.ref v)])/\∃tl,ys=tl.map V.ref/\P2 (GrpAt H H' pa) tl ((gs.take i).map fun g=>(max 0 ((qs S.pr g).sum-pc),g)))
    ⟨Same.refl _,⟨none,rfl⟩,[],rfl, .nil⟩ (by rw[Jv];exact JJ (kas (by lia))) ?_ ?_ ?_⟩
   ·rintro i σ ys H2 hi ⟨s2,_,tl,rfl,hT⟩
    nofun
    exists Y8
    rwa[SqL.of (s2 _ _ h1),?_]
    rw[Jv,hT.len,Jv,JV]
    rw[Jv] at hi
    lia
   ·rintro i y σ ys H2 hy ⟨s2,⟨v0,rfl⟩,tl,rfl,hT⟩
    obtain⟨r,er,rfl⟩:=kba hy
    obtain⟨g,eg,hr⟩:=hP.at er
    have s12:=s1.trans s2
    have hg':=JB eg
    have sn:=kbl (qs_nn wf.nn g)
    exists 3
    exists Y8
    rwa[8,8,x,r,S,g,6,hS.same s12,s2 _ _ hr,gok g hg',lg g hg',fun H3 s3=>?_]
    have s13:=s12.trans s3
    exists 3
    exists Y8
    rwa[8,v,d.qi,dxv,fsv,8,s13 _ _ hv,W.qi.cl,W.Vg,hso.2,9,?_]
    exists 3
    exists Y8
    rwa[_,8,8,(by show 2<=sizeLine;decide),fun t ht=>?_]
    have emax:(if(0:Int) > (qs S.pr g).sum-pc then 0 else(qs S.pr g).sum-pc)=max 0 ((qs S.pr g).sum-pc):=by
     split <;> lia
    rw[emax]
    have s4:=kam (o:=.tup [.int (max 0 ((qs S.pr g).sum-pc)), .ref r]) ht
    exists 3
    exists Y8
    rwa[(s2.trans s3).trans s4,⟨_,rfl⟩,tl++[t],by rw[JC];rfl,?_]
    rw[kcq eg,JC]
    exists 3
    refine P2.snoc (hT.mono fun t' q ⟨ga,a1,a2,a3⟩=>⟨ga,(s3.trans s4) _ _ a1,(s3.trans s4) _ _ a2,a3⟩) ⟨r,kae,((s2.trans s3).trans s4) _ _ hr, .inr (hg r (JB er))⟩
   ·rintro σ ys H2 ⟨s2,⟨v0,rfl⟩,tl,rfl,hT⟩ D hD
    rw[Jv,lgl,J4] at hT
    have s3:=kam (o:=.lst (tl.map V.ref)) hD
    have e1:(gs.map fun g=>(max 0 ((qs S.pr g).sum-pc),g)).map Prod.snd=gs:=by
     rw[JO]
     exists 3
     exact List.map_id' gs
    exists 3
    refine k _ D tl _ ((s1.trans s2).trans s3) (none_of (s1.trans s2) hD) kae (hT.mono fun t' q ⟨ga,a1,a2,a3⟩=>⟨ga,s3 _ _ a1,s3 _ _ a2,a3⟩) ?_ (by rw[e1,<-egs];exact kg8 (kfd hand)) (by rw[e1];intro i hi;obtain⟨g,hg',hi'⟩:=NS.mp hi;exact gok g hg' i hi') (by rw[Jv];lia) ?_
    ·intro c g hc
     obtain⟨g',hg',e⟩:=JP.mp hc
     cases e
     have sn:=kbl (qs_nn wf.nn g)
     exists 3
     rwa[by lia,by lia,lg g hg']
    ·rw[e1,JO,<-egs]
     exists 3
     exact(klS (fun z=>max 0 (z-pc)) hand).symm
  |carr=>
   refine iteF ?_
   symm
   rwa[8,_,_,_,8, .inr ⟨_,rfl⟩,TyOf.ins hv (cl_of W hh) I.ha I.hn I.ht I.hm,kbQ W hh,8,iteF ⟨_,rfl,_,_,_,_,rfl, .inr ⟨_,rfl⟩,TyOf.ins hv (cl_of W hh) I.ha I.hn I.ht I.hm,kbu W hh,_,rfl,iteF ⟨_,rfl,_,_,_,_,rfl, .inr ⟨_,rfl⟩,TyOf.ins hv (cl_of W hh) I.ha I.hn I.ht I.hm,kdc W hh,_,rfl,iteF ?_⟩⟩]
   symm
   rwa[by decide,fun l hl=>?_]
   symm
   refine k _ l [] [] (kam hl) hl kae .nil (fun c g hc=>by simp at hc) (by simp) (by simp) (by simp) ?_
   symm
   exact(spr_zero (k:=0)).trans spr_zero.symm
inductive kjI(K:Jw)(d:D)(vs:List V)(H:Hp)(Q:VK)(E_:XK):Prop
 |ct(v a b x:Addr)(V:Vch)(ps:List (Option Nat))(B:Bask)(S:Stnd)(_:vs=[.ref v, .ref a, .ref b, .ref x])(_:VchIs d H v V)(_:SqL K H a (ps.map pV))(_:BaskIs d.qf d.qg H b B)(_:StndIs d.qc H x S)(_:Wf ps B S)(_:VchOk ps V)(_:∀(H':Hp)(p:Addr),Same H H'->H p=none->H' p>>(.lst ((cutM V ps (kds B) S).1.map L2.V.int))->Q (.ref p) H'):kjI K d vs H Q E_
theorem qJ:kat ["voucher","parents","basket","standing","pieces","wanted","cut","group","piece","part","most"] ["voucher","parents","basket","standing"] (kah kbX):=by ac_rfl
theorem kd4(W:WB K mg d base):FO P w W 4 d.XO d.XQ ["voucher","parents","basket","standing"] (kjI K d):=by
 exists W.Zw.F,qJ
 ·obtain⟨v,a,b,x,Vc,ps,B,S,rfl,hV,hA,hB,hS,wf,vo,k⟩:=h
  exists Qe,kga,W
  exists V1,kfq,W
  exists Vo,klq,W
  exists Xg,ked,W
  have hr1:Room 1 _:=hr.mono (by decide)
  refine⟨_,kab (psl (i:=4) qJ.nd (pcl Qe hr W.Qm (kaa (pv 0) (kaa (pv 1) (kaa (pv 2) (kaa (pv 3) kad))))))
   (kab (kdW (N:=["price"]) (CompScope.plain rfl (by cutsat) (by cutsat) (by cutsat) (nd1 _)) rfl (kaB (K:=K) (kaj (K:=K) (pv 3) rfl)) (fun _ _ _ _=>pgn (i:=0) (nd1 _)) (fun _ _ _ _=>kaf) (pgn (i:=5) qJ.nd))
   (kab (ka7 PassesOwn.never rfl (kaB (K:=K) (pcl V1 hr W.Zy (kaa (pv 0) (kaa (pv 3) (kaa (pv 4) kad))))) (kbh (K:=K) (n:=2) rfl (kaw (pgn (i:=6) qJ.nd) (kaw (pgn (i:=7) qJ.nd) kbg)))
   (kag (ka7 PassesOwn.never rfl (kdY rfl W.B.zip (kaa (pv 7) (kaa (pcl Vo hr1 W.QO (kaa (pv 6) (kaa (pcl Xg hr1 W.QS (kaa (pv 3) (kaa (pv 7) kad))) kad))) kad))) (kbh (K:=K) (n:=2) rfl (kaw (pgn (i:=8) qJ.nd) (kaw (pgn (i:=9) qJ.nd) kbg)))
   (kag (kec (pv 9) (kfD (pv 5) (pv 8) set_list))))))
   (kab (psl (i:=10) qJ.nd (kaj (K:=K) (kaj (K:=K) (pv 0) rfl) rfl))
   (kab (ps_if (PW.pt (kbb (kan kdZ (pv 10) kbo (kau _)) (kaU (kan op_gt (kao (r:=rSum K) (kcM rfl) (by rfl) W.B.sum b_sum (kaa (pv 5) kad)) (pv 10) (kau _))))) (kag (kaq (pcl Vo hr1 W.QO (kaa (pv 10) (kaa (pv 5) kad))))) (kar))
   (kag (kaq (pv 5))))))),?_⟩
  have np:=wf.np
  have lp:=wf.lp
  exists Y4
  rwa[8,8,8,8,v,a,b,x,Vc,ps,B,S,6,hV,hA,hB,hS,wf,vo,fun H1 pa s1 f1 h1=>?_]
  have habl:∀i∈abt ps (kds B) Vc.ms.kind Vc.ms.lone S,i<S.pr.length:=fun i hi=>by rw[lp];exact kfQ hi
  have hand:=kfm ps (kds B) Vc.ms.kind Vc.ms.lone S
  have lab:(abt ps (kds B) Vc.ms.kind Vc.ms.lone S).length<=720:=JA (kd8 _ _ _ _ _) np
  obtain⟨o,p,mk,⟨dxs,fss,hx,l1,l2,l3,l4,l5⟩,ho,hp,hmk⟩:=id (hS.same s1)
  nomatch x,d.qc,dxs,fss,8,hx,W.qc.cl,W.qA,l2,p,6,⟨_,SqL.of hp⟩,kaY (xs:=S.pr.map V.int) (fun i σ ys H'=>H'=H1/\ys=(JE i (0:Int)).map V.int/\∃v,σ=[v]) ⟨rfl,rfl,none,rfl⟩ ?_ ?_ ?_ ?_
  ·rw[Jv]
   symm
   exact JJ (kas (by lia))
  ·rintro i σ ys H' hi ⟨rfl,rfl,_⟩
   symm
   rwa[SqL.of hp,by simp]
  ·rintro i y σ ys H' hy ⟨rfl,rfl,v,rfl⟩
   symm
   rwa[6,by rw[M7,JC];rfl,8]
  rintro σ ys H' ⟨rfl,rfl,v0,rfl⟩ w hw
  rw[Jv]
  have s2:=s1.trans (kam (o:=.lst ((JE S.pr.length (0:Int)).map V.int)) hw)
  have hw0:H w=none:=none_of s1 hw
  have ew:(upd H' w (.lst ((JE S.pr.length (0:Int)).map V.int))) w>>(.lst ((JE S.pr.length (0:Int)).map V.int)):=kae
  have h1o:=h1
  have h1:=kam (o:=.lst ((JE S.pr.length (0:Int)).map V.int)) hw _ _ h1
  have nw:pa≠w:=kai h1o hw
  generalize upd H' w (.lst ((JE S.pr.length (0:Int)).map V.int))=H2 at *
  nomatch 8,8,v,x,pa,Vc,ps,B,S,6,hV.same s2,hS.same s2,h1,wf,vo,fun H3 gp tl gl s3 f3 h3 hP hc hnd hlt hgl hsp=>?_
  have s03:=s2.trans s3
  have e3:=s3 _ _ ew
  have ngw:gp≠w:=fun e=>by rw[e,ew] at f3;cases f3
  symm
  exists Y4
  refine⟨gp,rfl,⟨_,SqL.of h3⟩,ka9 (K:=K) (a:=gp) (xs:=tl.map V.ref) (fun i σ H'=>(∃v8 v9 v10 v11 v12:Option V,σ=[some (.ref v),some (.ref a),some (.ref b),some (.ref x),some (.ref pa),some (.ref w),v8,v9,v10,v11,v12])/\But w H3 H'/\
    H' w>>(.lst ((spr S.pr.length ((gl.take i).map Prod.snd).flatten ((gl.take i).map fun p=>dl p.1 (qs S.pr p.2)).flatten).map V.int)))
   ⟨⟨none,none,none,none,none,rfl⟩,But.refl,by rw[e3];simp[kjq]⟩ (fun i σ H' _ h=>SqL.of (h.2.1 _ _ ngw h3)) ?_ ?_⟩
  ·rintro i y σ H4 hy ⟨⟨v8,v9,v10,v11,v12,rfl⟩,b4,h4⟩
   obtain⟨t,et,rfl⟩:=kba hy
   obtain⟨⟨c,g⟩,eg,ga,ht,hga,hor⟩:=hP.at et
   have hcg:=hc c g (JB eg)
   have hgl':∀i∈g,i<S.pr.length:=fun j hj=>hlt j (NS.mpr ⟨g,JP.mpr ⟨(c,g),JB eg,rfl⟩,hj⟩)
   have ngaw:ga≠w:=by
    rcases hor with rfl|hor
    ·exact nw
    ·exact fun e=>by rw[e,ew] at hor;cases hor
   have ntw:t≠w:=ne_of ht e3 (by intro z;cases z)
   have htt:H4 t>>(.tup [.int c, .ref ga]):=b4 _ _ ntw ht
   have hgg:H4 ga>>(.lst (g.map iV)):=b4 _ _ ngaw hga
   symm
   exists Y6
   rwa[t,8,SqT.of htt,6,_,8,9,?_]
   have hS4:StndIs d.qc H4 x S:=by
    nofun
    exact StndIs.same (H:=H) (kij hw0 s03 b4) hS
   have gnn:=qs_nn wf.nn g
   have gsum:=kim wf hcg.2.2 hgl'
   have hg720:=hcg.2.2
   nofun
   exists Y6
   rwa[8,8,8,8,x,ga,S,g,6,hS4,hgg,hgl',hg720,fun p5 hp5=>?_]
   have s5:=kam (o:=.lst ((qs S.pr g).map V.int)) hp5
   nofun
   exists Y6
   rwa[c,p5,qs S.pr g,6,SqL.of kae,gnn,by lia,hcg.1,by lia,by rw[kbs];lia,fun p6 hp6=>?_]
   have s6:=s5.trans (kam (o:=.lst ((dl c (qs S.pr g)).map V.int)) hp6)
   have h6:(upd (upd H4 p5 (.lst ((qs S.pr g).map V.int))) p6 (.lst ((dl c (qs S.pr g)).map V.int))) p6>>(.lst ((dl c (qs S.pr g)).map V.int)):=kae
   have n6:H4 p6=none:=none_of s5 hp6
   generalize upd (upd H4 p5 (.lst ((qs S.pr g).map V.int))) p6 (.lst ((dl c (qs S.pr g)).map V.int))=H6 at *
   have b6:=b4.same s6
   have w6:=s6 _ _ h4
   have n6w:p6≠w:=fun e=>by rw[e,h4] at n6;cases n6
   have ldl:(dl c (qs S.pr g)).length=g.length:=by rw[kfh,kbs]
   have emin:min (g.map iV).length ((dl c (qs S.pr g)).map V.int).length=g.length:=by rw[Jv,Jv,ldl,Mc]
   have ndt:∀(j n:Nat),g[j]?>>n->(((gl.take i).map Prod.snd).flatten++g.take j++[n]).Nodup:=fun j n hj=>by
    rw[Mx]
    nofun
    exact keF hnd (i:=i) (by rw[JF,eg];rfl) hj
   have lfl:((gl.take i).map Prod.snd).flatten.length=((gl.take i).map fun p=>dl p.1 (qs S.pr p.2)).flatten.length:=by
    rw[List.length_flatten,List.length_flatten,JO,JO]
    congr 1
    nofun
    refine NA fun q _=>?_
    show q.2.length=(dl q.1 (qs S.pr q.2)).length
    rw[kfh,kbs]
   nofun
   exists Y6
   refine⟨ga,p6,_,_,rfl,s6 _ _ hgg,h6,kgk (xs:=g.map iV) (ys:=(dl c (qs S.pr g)).map V.int) (fun j σ H'=>(∃v8 v9 v10 v11 v12:Option V,σ=[some (.ref v),some (.ref a),some (.ref b),some (.ref x),some (.ref pa),some (.ref w),v8,v9,v10,v11,v12])/\But w H3 H'/\H' ga>>(.lst (g.map iV))/\H' p6>>(.lst ((dl c (qs S.pr g)).map V.int))/\
     H' w>>(.lst ((spr S.pr.length (((gl.take i).map Prod.snd).flatten++g.take j) (((gl.take i).map fun p=>dl p.1 (qs S.pr p.2)).flatten++(dl c (qs S.pr g)).take j)).map V.int)))
    ⟨⟨_,_,_,_,_,rfl⟩,b6,s6 _ _ hgg,h6,by rw[w6];simp⟩ (fun j σ H' _ h=>⟨h.2.2.1,h.2.2.2.1⟩) ?_ ?_⟩
   ·rintro j y1 y2 t2 σ H7 hy1 hy2 ⟨⟨v8,v9,v10,v11,v12,rfl⟩,b7,g7,d7,w7⟩ ht2
    obtain⟨n,en,rfl⟩:=kbO hy1
    obtain⟨z,ez,rfl⟩:=kbO hy2
    have hn:=hgl' n (JB en)
    have s8:=kam (o:=.tup [iV n,V.int z]) ht2
    nofun
    exists Y8
    rwa[t2,8,SqT.of kae,6,_,8,9,?_]
    exists 3
    exists Y8
    rwa[8,8,8,w,_,_,n,6,6,s8 _ _ w7,kd6 (by rw[Jv,kdm];exact hn),⟨_,_,_,_,_,rfl⟩,(b7.same s8).trans kax,?_,?_,?_]
    ·rw[kak ngaw]
     exists 3
     exact s8 _ _ g7
    ·rw[kak n6w]
     exists 3
     exact s8 _ _ d7
    ·rw[kae,<-N4,kcq en,kcq ez,<-Nc,<-Nc]
     rw[kk9 (by rw[JN,JN,lfl,JV,JV,ldl]) (ndt j n en) hn]
   ·rintro σ H7 ⟨⟨v8,v9,v10,v11,v12,rfl⟩,b7,g7,d7,w7⟩
    exists 3
    exists Y8
    rwa[⟨_,_,_,_,_,rfl⟩,b7,?_]
    rw[w7,emin,J4,N9 (Mt ldl),kcq eg]
    simp
  rintro σ H4 ⟨⟨v8,v9,v10,v11,v12,rfl⟩,b4,h4⟩
  have ltl:(tl.map V.ref).length=gl.length:=by rw[Jv,hP.len]
  rw[ltl,J4,hsp] at h4
  have s04:Same H H4:=kij hw0 s03 b4
  obtain⟨mA,dxv,fsv,hv,lvm,_,⟨dxm,fsm,hm,m1,m2,m3,m4,m5,m6⟩,hh,htb⟩:=id (hV.same s04)
  nomatch v,clsOf d Vc.so,dxv,fsv,8,hv,cl_of W hh,na_of W hh,lvm,mA,d.qe,dxm,fsm,8,hm,W.qe.cl,W.Qp,m3,?_
  have wle:=khm (so:=Vc.so) (n:=S.mkd.length) (lines:=(abt ps (kds B) Vc.ms.kind Vc.ms.lone S).map fun i=>S.ow.getD i 0) (qs_nn wf.nn (abt ps (kds B) Vc.ms.kind Vc.ms.lone S)) vo.so
  have cn:=klP (V:=Vc) (ps:=ps) (kk:=kds B) (S:=S)
  have cs:=fun(m:Int)(e:Vc.ms.most>>m)(h0:0<=m)=>klO (V:=Vc) (ps:=ps) (kk:=kds B) (S:=S) lp wle e h0
  have sabs:=kim wf lab habl
  generalize ewant:want Vc.so S.mkd.length ((abt ps (kds B) Vc.ms.kind Vc.ms.lone S).map fun i=>S.ow.getD i 0) (qs S.pr (abt ps (kds B) Vc.ms.kind Vc.ms.lone S))=wn at *
  have fnn:Nn (spr S.pr.length (abt ps (kds B) Vc.ms.kind Vc.ms.lone S) wn):=(kfx wf.nn wle).nn
  have fsum:(spr S.pr.length (abt ps (kds B) Vc.ms.kind Vc.ms.lone S) wn).sum<=720000000000000:=by
   have h:=(kfx wf.nn wle).sum
   have h2:=kdQ (b:=1000000000000) (q:=S.pr) fun z hz=>(wf.pr z hz).2
   lia
  cases em:Vc.ms.most with
  |none=>
   symm
   rwa[8,6,8,?_]
   show if(!decide (V.non=V.non))=true then _ else _
   rw[kmc]
   refine iteF (iteF ⟨_,rfl,k _ w s04 hw0 ?_⟩)
   rw[h4,cn em]
  | some m=>
   have hm0:=vo.ms.most m em
   symm
   rwa[8,6,8,?_]
   show if(!decide (V.int m=V.non))=true then _ else _
   rw[kmd]
   refine iteT ?_
   symm
   exists Y6
   rwa[8,w,8,SqL.of h4,8,9,8,?_]
   by_cases hgt:(spr S.pr.length (abt ps (kds B) Vc.ms.kind Vc.ms.lone S) wn).sum > m
   ·rw[decide_eq_true hgt]
    refine iteT ?_
    nofun
    exists Y8
    rwa[8,8,m,w,8,SqL.of h4,fnn,by lia,hm0.1,by lia,by rw[kdm];lia,fun p7 hp7=>?_]
    exists 3
    refine k _ p7 (s04.trans (kam hp7)) (none_of s04 hp7) ?_
    rw[kae,cs m em hm0.1,if_pos hgt]
   ·rw[decide_eq_false hgt]
    refine iteF ?_
    exists 3
    rwa[8,k _ w s04 hw0 ?_]
    rw[h4,cs m em hm0.1,if_neg hgt]
theorem klU{l:List Nat}{f g:Nat->Bool}(h:∀x∈l,f x=g x):l.any f=l.any g:=by
 induction l with
 |nil=>rfl
 |cons a l ih=>rw[NF,NF,h a JS,ih fun x hx=>h x (JQ _ hx)]
theorem khU{ow:List Nat}{cs:List Int}{i o l:Nat}(h:ow[i]?>>o):kdL (ow.take (i+1)) cs l=(kdL (ow.take i) cs l||(o==l&&decide (0<cs.getD i 0))):=by
 have hi:=at_lt h
 unfold kdL
 rw[JV,JV,M6 (by lia),M6 (by lia),Nk,List.any_append]
 congr 1
 ·refine klU fun j hj=>?_
  have hj':j<i:=by simpa using hj
  simp only[JM,EC]
  rw[if_pos (by lia),if_pos hj']
 ·simp only[NF,List.any_nil,Bool.or_false]
  rw[JM,EC,if_pos (by lia),h]
  rfl
inductive kdh(d:D)(vs:List V)(H:Hp)(Q:VK)(E_:XK):Prop
 |ct(v x c:Addr)(V:Vch)(S:Stnd)(cs:List Int)(_:vs=[.ref v, .ref x, .ref c])(_:VchIs d H v V)(_:StndIs d.qc H x S)(_:H c>>(.lst (cs.map L2.V.int)))(_:cs.length=S.ow.length)(_:S.ow.length<=720)(_:S.mkd.length<=12)(_:(∀l∈S.ow,l<S.mkd.length))(_:∀(H':Hp)(p:Addr),Same H H'->H p=none->H' p>>(.lst (((Jy S.mkd.length).map fun l=>S.mkd.getD l false||(V.ms.lone&&kdL S.ow cs l)).map L2.V.bl))->Q (.ref p) H'):kdh d vs H Q E_
theorem Qw:kat ["voucher","standing","piece_cuts","marked","owner","cut"] ["voucher","standing","piece_cuts"] (kah kb9):=by ac_rfl
theorem ken(W:WB K mg d base):FO P w W 1 d.XZ d.X0 ["voucher","standing","piece_cuts"] (kdh d):=by
 exists W.ZA.F,Qw
 ·obtain⟨v,x,c,Vc,S,cs,rfl,⟨mA,dxv,fsv,hv,lvm,_,⟨dxm,fsm,hm,m1,m2,m3,m4,m5,m6⟩,hh,htb⟩,⟨o,p,mk,⟨dxs,fss,hx,l1,l2,l3,l4,l5⟩,ho,hp,hmk⟩,hc,lc,lo,lmk,hw,k⟩:=h
  refine⟨_,kab (psl (i:=3) Qw.nd (kaJ (r:=kbf K) kaC (by rfl) W.B.list kbF (kaa (kaj (K:=K) (pv 1) rfl) kad)))
   (kab (ps_if (kaQ (kaj (K:=K) (kaj (K:=K) (pv 0) rfl) rfl)) (kag (ka7 PassesOwn.never rfl (kdY rfl W.B.zip (kaa (kaj (K:=K) (pv 1) rfl) (kaa (pv 2) kad))) (kbh (K:=K) (n:=2) rfl (kaw (pgn (i:=4) Qw.nd) (kaw (pgn (i:=5) Qw.nd) kbg)))
   (kag (ps_if (kan op_gt (pv 5) kaf (kau _)) (kag (kec pe_bl (kfD (pv 3) (pv 4) set_list))) (kar))))) (kar))
   (kag (kaq (pv 3)))),?_⟩
  have e0:S.mkd.map V.bl=((Jy S.mkd.length).map fun l=>S.mkd.getD l false||kdL (S.ow.take 0) cs l).map V.bl:=by
   congr 1
   apply Me
   ·simp
   ·intro j h1 h2
    simp[kdL,h1]
  exists Y4
  rwa[8,x,d.qc,dxs,fss,8,hx,W.qc.cl,W.q9,l4,mk,8, .inl (SqL.of hmk),fun q hq=>?_]
  have s1:=kam (o:=.lst (S.mkd.map V.bl)) hq
  nomatch v,clsOf d Vc.so,dxv,fsv,8,s1 _ _ hv,cl_of W hh,na_of W hh,lvm,mA,d.qe,dxm,fsm,8,s1 _ _ hm,W.qe.cl,W.QX,m6,8,?_
  cases e:Vc.ms.lone with
  |false=>
   refine iteF ?_
   symm
   exists Y6
   rwa[8,k _ q s1 hq ?_]
   rw[e0]
   simp only[e,Eg,Bool.or_false]
   rw[kae]
   congr 2
   simp[kdL]
  | true=>
   refine iteT ?_
   have emin:min (S.ow.map iV).length (cs.map V.int).length=S.ow.length:=by rw[Jv,Jv,lc,Mc]
   symm
   exists Y6
   refine⟨_,rfl,x,d.qc,dxs,fss,_,rfl,s1 _ _ hx,W.qc.cl,W.qM,l1,_,rfl,o,c,_,_,rfl,s1 _ _ ho,s1 _ _ hc,
    kgk (xs:=S.ow.map iV) (ys:=cs.map V.int) (fun i σ H'=>(∃v4 v5:Option V,σ=[some (.ref v),some (.ref x),some (.ref c),some (.ref q),v4,v5])/\But q H H'/\H' q>>(.lst (((Jy S.mkd.length).map fun l=>S.mkd.getD l false||kdL (S.ow.take i) cs l).map V.bl)))
     ⟨⟨none,none,rfl⟩,But.of_same s1,by rw[kae,e0]⟩ (fun i σ H' _ h=>⟨h.2.1 _ _ (kai ho hq) ho,h.2.1 _ _ (kai hc hq) hc⟩) ?_ ?_⟩
   ·rintro i y z t σ H1 hy hz ⟨⟨v4,v5,rfl⟩,b1,h1⟩ ht
    obtain⟨ln,eln,rfl⟩:=kbO hy
    obtain⟨cz,ecz,rfl⟩:=kbO hz
    have hln:=hw ln (JB eln)
    have st:=fun l=>khU (cs:=cs) (l:=l) eln
    have eg:cs.getD i 0=cz:=by rw[JM,ecz];rfl
    have tq:q≠t:=kai h1 ht
    have b2:=b1.same (kam (o:=.tup [iV ln,V.int cz]) ht)
    have h2:=kam (o:=.tup [iV ln,V.int cz]) ht _ _ h1
    nofun
    exists Y8
    rwa[t,8,SqT.of kae,6,_,8,9,?_]
    exists 3
    exists Y8
    rwa[8,9,8,?_]
    by_cases hc0:cz > 0
    ·rw[decide_eq_true hc0]
     refine iteT ?_
     exists 3
     exists Y10
     rwa[8,8,q,_,_,ln,6,6,h2,kd6 (by simpa using hln),⟨_,_,rfl⟩,b2.trans kax,?_]
     rw[kae,<-N4]
     congr 3
     apply Me
     ·simp
     ·intro j g1 g2
      have hj:j<S.mkd.length:=by simpa using g1
      rw[List.getElem_set]
      simp only[MA,MZ]
      rw[st j,eg]
      by_cases hjl:ln=j
      ·subst hjl
       simp[hc0]
      ·rw[if_neg hjl,show(ln==j)=false by simpa using hjl]
       simp
    ·rw[decide_eq_false hc0]
     refine iteF ?_
     try first|apply Y10|apply Y8|apply Y6|apply Y4
     exists Y10
     rwa[⟨_,_,rfl⟩,b2,?_]
     rw[h2]
     congr 3
     try first|apply Y10|apply Y8|apply Y6|apply Y4
     refine NA fun l _=>?_
     rw[st l,eg,show decide (0<cz)=false by simpa using hc0]
     simp
   ·rintro σ H1 ⟨⟨v4,v5,rfl⟩,b1,h1⟩
    rw[emin,J4] at h1
    exists 3
    exists Y8
    rwa[8,k _ q (kkW b1 hq) hq ?_]
    rw[h1]
    simp only[e,Bool.true_and]
noncomputable def rmv(x:Addr)(H:Hp):Hp:=fun a=>if a=x then none else H a
theorem kjQ{x:Addr}{H:Hp}:rmv x H x=none:=if_pos rfl
theorem kfA{x a:Addr}{H:Hp}(n:a≠x):rmv x H a=H a:=if_neg n
theorem kf3{x a:Addr}{H:Hp}{o:HO}(h:rmv x H a>>o):H a>>o:=by
 by_cases e:a=x
 ·subst e
  rw[kjQ] at h
  cases h
 ·rw[kfA e] at h
  exact h
theorem kjP{x:Addr}{H:Hp}(hx:NX H x):But x H (rmv x H):=fun b u n e=>ev_eq (by rw[kfA n];exact e) fun⟨ps,e1,t,hor⟩=>⟨ps,by rw[kfA n];exact e1,t,fun pos c ec=>by
 obtain⟨c',rfl,z2⟩:=hor pos c ec
 exact⟨c',rfl,by rw[kfA fun e=>hx _ (e▸z2)];exact z2⟩⟩
theorem rmv_sub{x:Addr}{H:Hp}:Same (rmv x H) H:=fun b u e=>ev_eq (kf3 e) fun⟨ps,e1,t,hor⟩=>⟨ps,kf3 e1,t,fun pos c ec=>by
 obtain⟨c',rfl,z2⟩:=hor pos c ec
 exact⟨c',rfl,kf3 z2⟩⟩
theorem kgt{Hs H H':Hp}{x:Addr}(s:Same Hs H)(b:But x H H')(f:Hs x=none):Same Hs H':=fun c u e=>kbM (s c u e) fun u' e'=>b c u' (kai e f) e'
inductive StndN(C:Addr)(H0 H:Hp)(x:Addr)(S:Stnd):Prop
 |ct(_:H0 x=none)(o p mk:Addr)(_:StandAt C H x o p mk S.cg)(_:H0 o=none)(_:H0 p=none)(_:H0 mk=none)(_:H o>>(.lst (S.ow.map iV)))(_:H p>>(.lst (S.pr.map V.int)))(_:H mk>>(.lst (S.mkd.map V.bl))):StndN C H0 H x S
theorem StndN.is{C x:Addr}{H0 H:Hp}{S:Stnd}:StndN C H0 H x S->StndIs C H x S:=by rintro⟨_,o,p,mk,h,_,_,_,h1,h2,h3⟩;exact⟨o,p,mk,h,h1,h2,h3⟩
theorem keN{H0 H:Hp}{q a:Addr}(hq:H0 q≠none)(f:H0 a=none):rmv q H a=H a:=kfA fun e=>hq (e▸f)
inductive WayN(d:D)(m:Nat)(H0 H:Hp)(w t b x:Addr)(hand:List Int)(used:List Nat):Prop
 |ct(_:H0 w=none)(dx:Addr)(fs:List (Str×V))(h u:Addr)(_:H0 h=none)(_:H0 u=none)(_:H w>>(.ins d.c_Way dx fs))(_:fs.lookup ("till" :Str)>>(.ref t))(_:fs.lookup ("basket" :Str)>>(.ref b))(_:fs.lookup ("hand" :Str)>>(.ref h))(_:fs.lookup ("used" :Str)>>(.ref u))(_:fs.lookup ("standing" :Str)>>(.ref x))(_:fs.lookup ("word_for" :Str)=none)(_:fs.lookup ("behind" :Str)=none)(_:fs.lookup ("is_let_by" :Str)=none)(_:fs.lookup ("followers" :Str)=none)(_:fs.length<=m)(_:H h>>(.lst (hand.map V.int)))(_:H u>>(.lst (used.map iV))):WayN d m H0 H w t b x hand used
theorem WayN.at{d:D}{m:Nat}{H0 H:Hp}{w t b x:Addr}{hand:List Int}{used:List Nat}:WayN d m H0 H w t b x hand used->WayAt d m H w t b x hand used:=by rintro⟨_,dx,fs,h,u,_,_,h1,h2,h3,h4,h5,h6,h7,h8,h9,h10,h11,h12,h13⟩;exact⟨dx,fs,h,u,h1,h2,h3,h4,h5,h6,h7,h8,h9,h10,h11,h12,h13⟩
inductive kih(K:Jw)(d:D)(vs:List V)(H:Hp)(Q:VK)(E_:XK):Prop
 |ct(v a b x:Addr)(V:Vch)(ps:List (Option Nat))(B:Bask)(S:Stnd)(_:vs=[.ref v, .ref a, .ref b, .ref x])(_:VchIs d H v V)(_:SqL K H a (ps.map pV))(_:BaskIs d.qf d.qg H b B)(_:StndIs d.qc H x S)(_:Wf ps B S)(_:VchOk ps V)(_:∀(H':Hp)(x':Addr),Same H H'->H x'=none->StndN d.qc H H' x' (aftM V ps (kds B) S)->Q (.ref x') H'):kih K d vs H Q E_
theorem Xk:kat ["voucher","parents","basket","standing","piece_cuts","left"] ["voucher","parents","basket","standing"] (kah khB):=by ac_rfl
theorem kiw(W:WB K mg d base):FO P w W 5 d.XF d.XG ["voucher","parents","basket","standing"] (kih K d):=by
 exists W.QP.F,Xk
 ·obtain⟨v,a,b,x,Vc,ps,B,S,rfl,hV,hA,hB,hS,wf,vo,k⟩:=h
  exists V2,kd4,W
  exists Qf,kb3,W
  exists V3,kdA,W
  exists V4,ken,W
  have hr1:Room 1 _:=hr.mono (by decide)
  have hr2:Room 2 _:=hr.mono (by decide)
  have hr3:Room 3 _:=hr.mono (by decide)
  refine⟨_,kab (psl (i:=4) Xk.nd (pcl V2 hr W.Zw (kaa (pv 0) (kaa (pv 1) (kaa (pv 2) (kaa (pv 3) kad))))))
   (kab (psl (i:=5) Xk.nd (kbA (W.qN.mk' W.qc) Qf hr3 rfl W.qc.m W.qN.b .nil pass0 (kaa (pv 2) kad)))
   (kab (kaI (pv 5) (kaJ (r:=kbf K) kaC (by rfl) W.B.list kbF (kaa (kaj (K:=K) (pv 3) rfl) kad)) rfl)
   (kab (kaI (pv 5) (kbZ (N:=["price","cut"]) (CompScope.plain rfl (by cutsat) (by cutsat) (by cutsat) (show(["price","cut"]:List Str).Nodup by cutsat)) rfl (kdY rfl W.B.zip (kaa (kaj (K:=K) (pv 3) rfl) (kaa (pv 4) kad))) (fun _ _ _ _=>kbh (K:=K) (n:=2) rfl (kaw (pgn (i:=0) (show(["price","cut"]:List Str).Nodup by cutsat)) (kaw (pgn (i:=1) (show(["price","cut"]:List Str).Nodup by cutsat)) kbg))) (fun _ _ _ _=>(pe_op kdx (pv 0) (pv 1)))) rfl)
   (kab (kaI (pv 5) (pe_op kdx (kaj (K:=K) (pv 3) rfl) (pcl V3 hr2 W.Zx (kaa (pv 0) (kaa (pv 3) kad)))) rfl)
   (kab (kaI (pv 5) (pcl V4 hr1 W.ZA (kaa (pv 0) (kaa (pv 3) (kaa (pv 4) kad)))) rfl)
   (kag (kaq (pv 5)))))))),?_⟩
  have np:=wf.np
  have lp:=wf.lp
  have lcut:(cutM Vc ps (kds B) S).1.length=S.pr.length:=(kiM wf.nn wf.cg.1 vo.so fun m e=>(vo.ms.most m e).1).1.1
  exists Y4
  rwa[8,8,8,8,v,a,b,x,Vc,ps,B,S,6,hV,hA,hB,hS,wf,vo,fun H1 pc s1 f1 h1=>?_]
  obtain⟨l,ls,hb1,hl1,hL1⟩:=id (hB.same s1)
  nomatch kkc hb1 hl1 hL1 wf.nl wf.ok fun H2 y s2 f2 dxy fsy hy ly lyw=>?_
  have fy:H y=none:=none_of s1 f2
  have s02:=s1.trans s2
  obtain⟨o,p,mk,⟨dxs,fss,hx,l1,l2,l3,l4,l5⟩,ho,hp,hmk⟩:=id hS
  nomatch x,d.qc,dxs,fss,8,s02 _ _ hx,W.qc.cl,W.qM,l1,o,8, .inl (SqL.of (s02 _ _ ho)),fun q1 hq1=>?_
  have n1:q1≠y:=(kai hy hq1).symm
  nomatch y,d.qc,dxy,fsy,6,kam hq1 _ _ hy,W.qc.cl,W.qM,few (by lia),?_
  have s3:Same H (upd (upd H2 q1 (.lst (S.ow.map iV))) y (.ins d.qc dxy (putF "owners" (.ref q1) fsy))):=kav fy (s02.trans (kam hq1))
  have e3:(upd (upd H2 q1 (.lst (S.ow.map iV))) y (.ins d.qc dxy (putF "owners" (.ref q1) fsy))) q1>>(.lst (S.ow.map iV)):=by rw[kak n1,kae]
  have y3:(upd (upd H2 q1 (.lst (S.ow.map iV))) y (.ins d.qc dxy (putF "owners" (.ref q1) fsy))) y>>(.ins d.qc dxy (putF "owners" (.ref q1) fsy)):=kae
  have c3:(upd (upd H2 q1 (.lst (S.ow.map iV))) y (.ins d.qc dxy (putF "owners" (.ref q1) fsy))) pc>>(.lst ((cutM Vc ps (kds B) S).1.map V.int)):=by
   rw[kak (kai h1 f2)]
   symm
   exact kam hq1 _ _ (s2 _ _ h1)
  have f3:=JA (kal (f:="owners") (v:=.ref q1) ly) (by decide:11<=20)
  generalize upd (upd H2 q1 (.lst (S.ow.map iV))) y (.ins d.qc dxy (putF "owners" (.ref q1) fsy))=H3 at *
  have emin:min (S.pr.map V.int).length ((cutM Vc ps (kds B) S).1.map V.int).length=S.pr.length:=by rw[Jv,Jv,lcut,Mc]
  symm
  exists Y4
  refine⟨_,rfl,x,d.qc,dxs,fss,_,rfl,s3 _ _ hx,W.qc.cl,W.qA,l2,_,rfl,p,pc,_,_,rfl,s3 _ _ hp,c3,
   kiN (xs:=S.pr.map V.int) (ys:=(cutM Vc ps (kds B) S).1.map V.int) (fun i σ zs H'=>Same H3 H'/\zs=((Nl (· - ·) S.pr (cutM Vc ps (kds B) S).1).take i).map V.int/\∃v0 v1:Option V,σ=[v0,v1])
    ⟨Same.refl _,rfl,none,none,rfl⟩ (by rw[emin];exact JJ (kas (by lia))) (fun i σ zs H' hi h=>⟨h.1 _ _ (s3 _ _ hp),h.1 _ _ c3,by rw[h.2.1,Jv,JV,M1,lcut];rw[emin] at hi;lia⟩) ?_ ?_⟩
  ·rintro i y1 y2 t σ zs H4 hy1 hy2 ⟨s4,rfl,v0,v1,rfl⟩ ht
   obtain⟨z1,ez1,rfl⟩:=kbO hy1
   obtain⟨z2,ez2,rfl⟩:=kbO hy2
   symm
   exists Y6
   rwa[t,8,SqT.of kae,6,_,8,9,8,8,9,s4.trans (kam ht),?_,_,8]
   rw[kcq (r:=z1-z2) (by rw[M3,ez1,ez2]),JC]
   rfl
  rintro σ zs H4 ⟨s4,rfl,v0,v1,rfl⟩ q2 hq2
  rw[emin,N9 (by rw[M1,lcut];lia)]
  have n2:q2≠y:=(kai (s4 _ _ y3) hq2).symm
  have n12:q1≠q2:=kai (s4 _ _ e3) hq2
  have s5:=kam (o:=.lst ((Nl (· - ·) S.pr (cutM Vc ps (kds B) S).1).map V.int)) hq2
  nomatch y,d.qc,dxy,8,s5 _ _ (s4 _ _ y3),W.qc.cl,W.qA,few f3,?_
  have s6:Same H (upd (upd H4 q2 (.lst ((Nl (· - ·) S.pr (cutM Vc ps (kds B) S).1).map V.int))) y (.ins d.qc dxy (putF "prices" (.ref q2) (putF "owners" (.ref q1) fsy)))):=kav fy ((s3.trans s4).trans s5) (nx (s5 _ _ (s4 _ _ y3)))
  have e6:(upd (upd H4 q2 (.lst ((Nl (· - ·) S.pr (cutM Vc ps (kds B) S).1).map V.int))) y (.ins d.qc dxy (putF "prices" (.ref q2) (putF "owners" (.ref q1) fsy)))) q1>>(.lst (S.ow.map iV)):=by
   rw[kak n1]
   symm
   exact s5 _ _ (s4 _ _ e3)
  have p6:(upd (upd H4 q2 (.lst ((Nl (· - ·) S.pr (cutM Vc ps (kds B) S).1).map V.int))) y (.ins d.qc dxy (putF "prices" (.ref q2) (putF "owners" (.ref q1) fsy)))) q2>>(.lst ((Nl (· - ·) S.pr (cutM Vc ps (kds B) S).1).map V.int)):=by rw[kak n2,kae]
  have y6:(upd (upd H4 q2 (.lst ((Nl (· - ·) S.pr (cutM Vc ps (kds B) S).1).map V.int))) y (.ins d.qc dxy (putF "prices" (.ref q2) (putF "owners" (.ref q1) fsy)))) y>>(.ins d.qc dxy (putF "prices" (.ref q2) (putF "owners" (.ref q1) fsy))):=kae
  have c6:(upd (upd H4 q2 (.lst ((Nl (· - ·) S.pr (cutM Vc ps (kds B) S).1).map V.int))) y (.ins d.qc dxy (putF "prices" (.ref q2) (putF "owners" (.ref q1) fsy)))) pc>>(.lst ((cutM Vc ps (kds B) S).1.map V.int)):=by
   rw[kak (kai h1 f2)]
   symm
   exact s5 _ _ (s4 _ _ c3)
  have f6:=JA (kal (f:="prices") (v:=.ref q2) (kal (f:="owners") (v:=.ref q1) ly)) (by decide:12<=20)
  generalize upd (upd H4 q2 (.lst ((Nl (· - ·) S.pr (cutM Vc ps (kds B) S).1).map V.int))) y (.ins d.qc dxy (putF "prices" (.ref q2) (putF "owners" (.ref q1) fsy)))=H6 at *
  nomatch x,d.qc,dxs,fss,8,s6 _ _ hx,W.qc.cl,W.qR,l3,8,8,v,x,Vc,S,6,hV.same s6,hS.same s6,9,?_
  rw[<-knb (ps:=ps) (kk:=kds B) (S:=S) vo]
  nomatch y,d.qc,dxy,8,y6,W.qc.cl,W.qR,few f6,?_
  have s7:Same H (upd H6 y (.ins d.qc dxy (putF "carriage" (.int (S.cg-(cutM Vc ps (kds B) S).2)) (putF "prices" (.ref q2) (putF "owners" (.ref q1) fsy))))):=kav fy s6
  have e7:(upd H6 y (.ins d.qc dxy (putF "carriage" (.int (S.cg-(cutM Vc ps (kds B) S).2)) (putF "prices" (.ref q2) (putF "owners" (.ref q1) fsy))))) q1>>(.lst (S.ow.map iV)):=by rw[kak n1];exact e6
  have p7:(upd H6 y (.ins d.qc dxy (putF "carriage" (.int (S.cg-(cutM Vc ps (kds B) S).2)) (putF "prices" (.ref q2) (putF "owners" (.ref q1) fsy))))) q2>>(.lst ((Nl (· - ·) S.pr (cutM Vc ps (kds B) S).1).map V.int)):=by rw[kak n2];exact p6
  have y7:(upd H6 y (.ins d.qc dxy (putF "carriage" (.int (S.cg-(cutM Vc ps (kds B) S).2)) (putF "prices" (.ref q2) (putF "owners" (.ref q1) fsy))))) y>>(.ins d.qc dxy (putF "carriage" (.int (S.cg-(cutM Vc ps (kds B) S).2)) (putF "prices" (.ref q2) (putF "owners" (.ref q1) fsy)))):=kae
  have c7:(upd H6 y (.ins d.qc dxy (putF "carriage" (.int (S.cg-(cutM Vc ps (kds B) S).2)) (putF "prices" (.ref q2) (putF "owners" (.ref q1) fsy))))) pc>>(.lst ((cutM Vc ps (kds B) S).1.map V.int)):=by rw[kak (kai h1 f2)];exact c6
  have f7:=JA (kal (f:="carriage") (v:=.int (S.cg-(cutM Vc ps (kds B) S).2)) (kal (f:="prices") (v:=.ref q2) (kal (f:="owners") (v:=.ref q1) ly))) (by decide:13<=20)
  generalize upd H6 y (.ins d.qc dxy (putF "carriage" (.int (S.cg-(cutM Vc ps (kds B) S).2)) (putF "prices" (.ref q2) (putF "owners" (.ref q1) fsy))))=H7 at *
  nomatch 8,8,v,x,pc,Vc,S,8,hV.same s7,hS.same s7,c7,by rw[lcut,lp],np,by rw[wf.lm];exact wf.nl,fun l hl=>?_,fun H8 q3 s8 f8 h8=>?_
  ·obtain⟨i,hi⟩:=NV.mp hl
   rw[wf.lm]
   symm
   exact wf.line hi
  have n3:q3≠y:=(kai y7 f8).symm
  nomatch y,d.qc,dxy,8,s8 _ _ y7,W.qc.cl,W.q9,few f7,?_
  nomatch k _ y (kav fy (s7.trans s8) (nx (s8 _ _ y7))) fy ⟨fy,q1,q2,q3,⟨dxy,_,kae,?_,?_,?_,?_,?_⟩,none_of s02 hq1,none_of (s3.trans s4) hq2,none_of s7 f8,?_,?_,?_⟩
  ·ac_nf
  ·ac_nf
  ·ac_nf
   rfl
  ·ac_nf
  ·rw[kac,if_neg (by cutsat),kac,if_neg (by cutsat),kac,if_neg (by cutsat),kac,if_neg (by cutsat)]
   symm
   exact lyw
  ·rw[kak n1]
   symm
   exact s8 _ _ e7
  ·rw[kak n2]
   symm
   exact s8 _ _ p7
  ·rw[kak n3]
   symm
   exact h8
inductive spRwm(d:D)(vs:List V)(H:Hp)(Q:VK)(E_:XK):Prop
 |ct(v x:Addr)(V:Vch)(S:Stnd)(s:Int)(_:vs=[.ref v, .ref x, .int s])(_:VchIs d H v V)(_:StndIs d.qc H x S)(_:SrtOk V.so)(_:0<=s)(_:s<=720000000000000)(_:Q (.int (rwm V.so S.cg s)) H):spRwm d vs H Q E_
theorem kcR:kat ["voucher","standing","together"] ["voucher","standing","together"] (kah kbn):=by ac_rfl
theorem kcX(W:WB K mg d base):FO P w W 1 d.XJ d.XM ["voucher","standing","together"] (spRwm d):=by
 exists W.Zv.F,kcR
 ·obtain⟨v,x,⟨so,ms⟩,S,z,rfl,⟨mA,dxv,fsv,hv,lvm,hso,hM,hh,htb⟩,⟨o,p,mk,⟨dxs,fss,hx,l1,l2,l3,l4,l5⟩,ho,hp,hmk⟩,hok,z0,z1,k⟩:=h
  refine⟨_,kab (ps_if (kaQ (kao (r:=rIsi K) ka2 (by rfl) W.B.isi b_isi (kaa (pv 0) (kaa (kcD (v:=.ref d.c_Off) (by rfl) W.g_Off rfl) kad)))) (kag (kaq (kao (kbS rfl) (by rfl) W.B.min b_min (kaa (kaj (K:=K) (pv 0) rfl) (kaa (pv 2) kad))))) (kar))
   (kab (ps_if (kaQ (kao (r:=rIsi K) ka2 (by rfl) W.B.isi b_isi (kaa (pv 0) (kaa (kcD (v:=.ref d.qh) (by rfl) W.ZZ rfl) kad)))) (kag (kaq (pe_op kaz (pe_op kcg (pv 2) (kaj (K:=K) (pv 0) rfl)) kaf))) (kar))
   (kab (ps_if (kaQ (kao (r:=rIsi K) ka2 (by rfl) W.B.isi b_isi (kaa (pv 0) (kaa (kcD (v:=.ref d.qj) (by rfl) W.Vb rfl) kad)))) (kag (kaq (pe_op kis (pv 2) (kaj (K:=K) (pv 0) rfl)))) (kar))
   (kab (ps_if (kaQ (kao (r:=rIsi K) ka2 (by rfl) W.B.isi b_isi (kaa (pv 0) (kaa (kcD (v:=.ref d.qi) (by rfl) W.Ve rfl) kad)))) (kag (kaq (pv 2))) (kar))
   (kag (kaq (kaj (K:=K) (pv 1) rfl)))))),?_⟩
  have I:=kky W hh
  rwa[8,_,_,_,8, .inr ⟨_,rfl⟩,TyOf.ins hv (cl_of W hh) I.ha I.hn I.ht I.hm,kks W hh,8,?_]
  cases so with
  |off am=>
   refine iteT ⟨_,rfl,v,d.c_Off,dxv,fsv,_,rfl,hv,W.c_Off.cl,W.QY,hso,_,rfl,_,_,rfl,?_⟩
   rw[show(if z<am then z else am)=min am z by split <;> lia]
   exact k
  |share sh bl=>
   have hsh:1<=sh/\sh<=1000:=hok
   exact iteF ⟨_,rfl,_,_,_,_,rfl, .inr ⟨_,rfl⟩,TyOf.ins hv (cl_of W hh) I.ha I.hn I.ht I.hm,kbQ W hh,_,rfl,iteT ⟨_,rfl,_,rfl,v,d.qh,dxv,fsv,_,rfl,hv,W.qh.cl,W.Q0,hso.1,_,_,rfl,rfl, .inr ⟨by lia,by lia⟩,_,_,rfl,rfl,⟨by decide,by decide⟩,k⟩⟩
  |cheap m=>
   have hm:2<=m/\m<=20:=hok
   refine iteF ⟨_,rfl,_,_,_,_,rfl, .inr ⟨_,rfl⟩,TyOf.ins hv (cl_of W hh) I.ha I.hn I.ht I.hm,kbQ W hh,_,rfl,iteF ?_⟩
   rwa[8,_,_,_,8, .inr ⟨_,rfl⟩,TyOf.ins hv (cl_of W hh) I.ha I.hn I.ht I.hm,kbu W hh,8,iteT ⟨_,rfl,_,rfl,v,d.qj,dxv,fsv,_,rfl,hv,W.qj.cl,W.Q2,hso,_,_,rfl,rfl,⟨by lia,by lia⟩,k⟩]
  |bund m pz=>
   refine iteF ⟨_,rfl,_,_,_,_,rfl, .inr ⟨_,rfl⟩,TyOf.ins hv (cl_of W hh) I.ha I.hn I.ht I.hm,kbQ W hh,_,rfl,iteF ?_⟩
   rwa[8,_,_,_,8, .inr ⟨_,rfl⟩,TyOf.ins hv (cl_of W hh) I.ha I.hn I.ht I.hm,kbu W hh,8,iteF ?_]
   rwa[8,_,_,_,8, .inr ⟨_,rfl⟩,TyOf.ins hv (cl_of W hh) I.ha I.hn I.ht I.hm,kdc W hh,8,iteT ⟨_,rfl,k⟩]
  |carr=>
   refine iteF ⟨_,rfl,_,_,_,_,rfl, .inr ⟨_,rfl⟩,TyOf.ins hv (cl_of W hh) I.ha I.hn I.ht I.hm,kbQ W hh,_,rfl,iteF ?_⟩
   rwa[8,_,_,_,8, .inr ⟨_,rfl⟩,TyOf.ins hv (cl_of W hh) I.ha I.hn I.ht I.hm,kbu W hh,8,iteF ?_]
   rwa[8,_,_,_,8, .inr ⟨_,rfl⟩,TyOf.ins hv (cl_of W hh) I.ha I.hn I.ht I.hm,kdc W hh,8,iteF ?_]
   rwa[8,x,d.qc,dxs,fss,8,hx,W.qc.cl,W.qR,l3,k]
inductive kjx(K:Jw)(d:D)(vs:List V)(H:Hp)(Q:VK)(E_:XK):Prop
 |ct(v a b x:Addr)(V:Vch)(ps:List (Option Nat))(B:Bask)(S:Stnd)(_:vs=[.ref v, .ref a, .ref b, .ref x])(_:VchIs d H v V)(_:SqL K H a (ps.map pV))(_:BaskIs d.qf d.qg H b B)(_:StndIs d.qc H x S)(_:Wf ps B S)(_:VchOk ps V)(_:∀(H':Hp),Same H H'->Q (.int (kbE V ps (kds B) S)) H'):kjx K d vs H Q E_
theorem knQ(m:Option Int)(n:Int):atM m n=atMost m n:=by cases m <;> rfl
theorem Vp:kat ["voucher","parents","basket","standing","pieces"] ["voucher","parents","basket","standing"] (kah khy):=by ac_rfl
theorem kiu(W:WB K mg d base):FO P w W 4 d.XH d.XI ["voucher","parents","basket","standing"] (kjx K d):=by
 exists W.QQ.F,Vp
 ·obtain⟨v,a,b,x,Vc,ps,B,S,rfl,hV,hA,hB,hS,wf,vo,k⟩:=h
  obtain⟨mA,dxv,fsv,hv,lvm,_,hM,hh,htb⟩:=id hV
  obtain⟨dxm,fsm,hm,m1,m2,m3,m4,m5,m6⟩:=id hM
  exists Qe,kga,W
  exists Xi,kfH,W
  exists V5,kcX,W
  exists qP,kb0,W
  have hr1:Room 1 _:=hr.mono (by decide)
  have hr2:Room 2 _:=hr.mono (by decide)
  refine⟨_,kab (psl (i:=4) Vp.nd (pcl Qe hr W.Qm (kaa (pv 0) (kaa (pv 1) (kaa (pv 2) (kaa (pv 3) kad))))))
   (kag (kaq (pcl Xi hr1 W.QT (kaa (kaj (K:=K) (kaj (K:=K) (pv 0) rfl) rfl) (kaa (pcl V5 hr1 W.Zv (kaa (pv 0) (kaa (pv 3) (kaa (pcl qP hr2 W.qQ (kaa (pv 3) (kaa (pv 4) kad))) kad)))) kad))))),?_⟩
  have np:=wf.np
  have habl:∀i∈abt ps (kds B) Vc.ms.kind Vc.ms.lone S,i<S.pr.length:=fun i hi=>by rw[wf.lp];exact kfQ hi
  have lab:(abt ps (kds B) Vc.ms.kind Vc.ms.lone S).length<=720:=JA (kd8 _ _ _ _ _) np
  have hs0:=kbl (qs_nn wf.nn (abt ps (kds B) Vc.ms.kind Vc.ms.lone S))
  have hsum:=kim wf lab habl
  rwa[8,8,8,8,v,a,b,x,Vc,ps,B,S,6,hV,hA,hB,hS,wf,vo,fun H1 pa s1 f1 h1=>?_]
  rwa[8,v,clsOf d Vc.so,dxv,fsv,8,s1 _ _ hv,cl_of W hh,na_of W hh,lvm,mA,d.qe,dxm,fsm,8,s1 _ _ hm,W.qe.cl,W.Qp,m3,?_]
  rwa[8,8,8,8,x,pa,S,8,hS.same s1,h1,habl,lab,fun H2 s2=>?_]
  rwa[v,x,Vc,S,8,(hV.same s1).same s2,(hS.same s1).same s2,vo.so,hs0,hsum,?_]
  rwa[_,8,?_]
  have:=k H2 (s1.trans s2)
  rw[knQ]
  exact this
inductive kho(d:D)(vs:List V)(H:Hp)(Q:VK)(E_:XK):Prop
 |ct(H0:Hp)(x dx p vl rl:Addr)(ps vs' rs:List V)(bk:Str)(_:vs=[.ref x, .ref p, .ref vl, .ref rl, .str bk])(_:H0 x=none)(_:Same H0 H)(_:H x>>(.ins d.qd dx []))(_:H0 p>>(.lst ps))(_:H0 vl>>(.lst vs'))(_:H0 rl>>(.lst rs))(_:∀(H':Hp)(p' vl' rl':Addr)(fs:List (Str×V)),Same H0 H'->H0 p'=none->H0 vl'=none->H0 rl'=none->H' p'>>(.lst ps)->H' vl'>>(.lst vs')->H' rl'>>(.lst rs)->H' x>>(.ins d.qd dx fs)->fs.lookup ("parents" :Str)>>(.ref p')->fs.lookup ("vouchers" :Str)>>(.ref vl')->fs.lookup ("rules" :Str)>>(.ref rl')->fs.lookup ("back" :Str)>>(.str bk)->Q .non H'):kho d vs H Q E_
theorem kgN:kat ["self","parents","vouchers","rules","back"] ["self","parents","vouchers","rules","back"] (kah kbd):=by ac_rfl
theorem kgX(W:WB K mg d base):FO P w W 1 d.Zq d.QN ["self","parents","vouchers","rules","back"] (kho d):=by
 exists W.Xd.F,kgN
 ·obtain⟨H0,x,dx,p,vl,rl,ps,vs',rs,bk,rfl,fx,s0,hx,hp,hvl,hrl,k⟩:=h
  refine⟨_,kab (kaI (pv 0) (kaJ (r:=kbf K) kaC (by rfl) W.B.list kbF (kaa (pv 1) kad)) rfl)
   (kab (kaI (pv 0) (kaJ (r:=kbf K) kaC (by rfl) W.B.list kbF (kaa (pv 2) kad)) rfl)
   (kab (kaI (pv 0) (kaJ (r:=kbf K) kaC (by rfl) W.B.list kbF (kaa (pv 3) kad)) rfl)
   (kag (kaI (pv 0) (pv 4) rfl)))),?_⟩
  exists Y4
  rwa[8,p,8, .inl (SqL.of (s0 _ _ hp)),fun p' hp'=>?_]
  have n1:=kam (o:=.lst ps) hp'
  have fp:=s0.free hp'
  have np:p'≠x:=(kai hx hp').symm
  have e1:(upd H p' (.lst ps)) p'>>(.lst ps):=kae
  have s1:=s0.trans n1
  have hx1:=n1 _ _ hx
  clear n1
  generalize upd H p' (.lst ps)=H1 at *
  nomatch x,d.qd,dx,[],6,hx1,W.qd.cl,W.qS,by decide,?_
  have s2:Same H0 (upd H1 x (.ins d.qd dx (putF "parents" (.ref p') []))):=kav fx s1 (nx hx1)
  have e2:(upd H1 x (.ins d.qd dx (putF "parents" (.ref p') []))) p'>>(.lst ps):=by rw[kak np];exact e1
  have hx2:(upd H1 x (.ins d.qd dx (putF "parents" (.ref p') []))) x>>(.ins d.qd dx (putF "parents" (.ref p') [])):=kae
  generalize upd H1 x (.ins d.qd dx (putF "parents" (.ref p') []))=H2 at *
  nomatch vl,8, .inl (SqL.of (s2 _ _ hvl)),fun v' hv'=>?_
  have n3:=kam (o:=.lst vs') hv'
  have fv:=s2.free hv'
  have nv:v'≠x:=(kai hx2 hv').symm
  have s3:=s2.trans n3
  have e3:=n3 _ _ e2
  have ev3:(upd H2 v' (.lst vs')) v'>>(.lst vs'):=kae
  have hx3:=n3 _ _ hx2
  clear n3
  generalize upd H2 v' (.lst vs')=H3 at *
  nomatch x,d.qd,dx,8,hx3,W.qd.cl,W.qt,few (JA (kal (n:=0) (Jx _)) (by decide)),?_
  have s4:Same H0 (upd H3 x (.ins d.qd dx (putF "vouchers" (.ref v') (putF "parents" (.ref p') [])))):=kav fx s3 (nx hx3)
  have e4:(upd H3 x (.ins d.qd dx (putF "vouchers" (.ref v') (putF "parents" (.ref p') [])))) p'>>(.lst ps):=by rw[kak np];exact e3
  have ev4:(upd H3 x (.ins d.qd dx (putF "vouchers" (.ref v') (putF "parents" (.ref p') [])))) v'>>(.lst vs'):=by rw[kak nv];exact ev3
  have hx4:(upd H3 x (.ins d.qd dx (putF "vouchers" (.ref v') (putF "parents" (.ref p') [])))) x>>(.ins d.qd dx (putF "vouchers" (.ref v') (putF "parents" (.ref p') []))):=kae
  generalize upd H3 x (.ins d.qd dx (putF "vouchers" (.ref v') (putF "parents" (.ref p') [])))=H4 at *
  nomatch rl,8, .inl (SqL.of (s4 _ _ hrl)),fun r' hr'=>?_
  have n5:=kam (o:=.lst rs) hr'
  have fr:=s4.free hr'
  have nr:r'≠x:=(kai hx4 hr').symm
  have s5:=s4.trans n5
  have e5:=n5 _ _ e4
  have ev5:=n5 _ _ ev4
  have er5:(upd H4 r' (.lst rs)) r'>>(.lst rs):=kae
  have hx5:=n5 _ _ hx4
  clear n5
  generalize upd H4 r' (.lst rs)=H5 at *
  nomatch x,d.qd,dx,8,hx5,W.qd.cl,W.qT,few (JA (kal (kal (n:=0) (Jx _))) (by decide)),?_
  have s6:Same H0 (upd H5 x (.ins d.qd dx (putF "rules" (.ref r') (putF "vouchers" (.ref v') (putF "parents" (.ref p') []))))):=kav fx s5 (nx hx5)
  have hx6:(upd H5 x (.ins d.qd dx (putF "rules" (.ref r') (putF "vouchers" (.ref v') (putF "parents" (.ref p') []))))) x>>(.ins d.qd dx (putF "rules" (.ref r') (putF "vouchers" (.ref v') (putF "parents" (.ref p') [])))):=kae
  nomatch 8,x,d.qd,dx,8,hx6,W.qd.cl,W.VA,few (JA (kal (kal (kal (n:=0) (Jx _)))) (by decide)),?_
  symm
  refine k _ p' v' r' _ (kav fx s6 (nx hx6)) fp fv fr ?_ ?_ ?_ kae ?_ ?_ ?_ ?_
  ·rw[kak np,kak np];exact e5
  ·rw[kak nv,kak nv];exact ev5
  ·rw[kak nr,kak nr];exact er5
  ·ac_nf
  ·ac_nf
  ·ac_nf
  ·ac_nf
theorem kmW{d:D}{H:Hp}{p vl rl:Addr}{T:TillD}{va ra:List Addr}{R:Addr->Hp->Prop}{E:XK}(hp:H p>>(.lst (T.ps.map pV)))(hvl:H vl>>(.lst (va.map V.ref)))(hv:P2 (fun a V=>VchIs d H a V) va T.vs)(hrl:H rl>>(.lst (ra.map V.ref)))(hr:P2 (fun a r=>RulIs H a r) ra T.rs)
  (k:∀(H':Hp)(x:Addr),Same H H'->H x=none->TillIs d H' x T->R x H'):
  ∀x dx,H x=none->H dx=none->dx≠x->kho d [.ref x, .ref p, .ref vl, .ref rl, .str T.bk] (upd (upd H dx (.own x)) x (.ins d.qd dx [])) (fun v H2=>v=.non/\R x H2) E:=
 fun x dx nx nd _=>⟨H,x,dx,p,vl,rl,_,_,_,_,rfl,nx,kbt nx nd,kae,hp,hvl,hrl,fun H' p' vl' rl' fs s f1 f2 f3 h1 h2 h3 hx l1 l2 l3 l4=>⟨rfl,k H' x s nx ⟨dx,fs,p',vl',rl',va,ra,hx,l1,l2,l3,l4,h1,h2,hv.mono fun a V h=>h.same s,h3,hr.mono fun a r h=>s _ _ h⟩⟩⟩
inductive khp(f:List Rul->List Nat->Nat->Bool)(vs:List V)(H:Hp)(Q:VK)(E_:XK):Prop
 |ct(rl u:Addr)(ra:List Addr)(rs:List Rul)(used:List Nat)(n:Nat)(_:vs=[.ref rl, .ref u,iV n])(_:H rl>>(.lst (ra.map V.ref)))(_:P2 (fun a r=>RulIs H a r) ra rs)(_:H u>>(.lst (used.map iV)))(_:Q (.bl (f rs used n)) H):khp f vs H Q E_
theorem kk1{f:Rul->Bool}{rs:List Rul}{i:Nat}{r:Rul}(e:rs[i]?>>r)(h:f r=true):rs.any f=true:=EE.mpr ⟨r,JB e,h⟩
theorem kmv{f:Rul->Bool}{rs:List Rul}{n:Nat}(hn:n=rs.length)(h:∀r∈rs.take n,f r=false):rs.any f=false:=by
 rw[hn,J4] at h
 cases e:rs.any f with
 |false=>rfl
 |true=>
  obtain⟨r,hr,e2⟩:=EE.mp e
  rw[h r hr] at e2
  cases e2
theorem kck{f:Rul->Bool}{rs:List Rul}{i:Nat}{r:Rul}(e:rs[i]?>>r)(h:∀q∈rs.take i,f q=false)(hr:f r=false):∀q∈rs.take (i+1),f q=false:=fun q hq=>by
 rw[NQ,e] at hq
 rcases Na.mp hq with z|z
 ·exact h q z
 ·have e2:q=r:=by simpa using z
  rw[e2]
  exact hr
theorem Qx:kat ["rules","used","number","word","one","other"] ["rules","used","number"] (kah kct):=by ac_rfl
theorem keV(W:WB K mg d base):FO P w W 1 d.Yd d.Ye ["rules","used","number"] (khp kfI):=by
 exists W.ZD.F,Qx
 ·obtain⟨rl,u,ra,rs,used,n,rfl,hrl,hr,hu,k⟩:=h
  refine⟨_,kab (ka7 PassesOwn.never rfl (kaB (K:=K) (pv 0)) (kbh (K:=K) (n:=3) rfl (kaw (pgn (i:=3) Qx.nd) (kaw (pgn (i:=4) Qx.nd) (kaw (pgn (i:=5) Qx.nd) kbg))))
   (kag (ps_if (PW.pt (kbb (kan op_eq (pv 3) kbN (kau _)) (kaU (PW.pt (pw_or (PW.pt (kbb (kan op_eq (pv 4) (pv 2) (kau _)) (kaU (kan kch (pv 5) (pv 1) (by with_unfolding_all rfl))))) (kfC (PW.pt (kbb (kan op_eq (pv 5) (pv 2) (kau _)) (kaU (kan kch (pv 4) (pv 1) (by with_unfolding_all rfl))))))))))) (kag (kaq pe_bl)) (kar))))
   (kag (kaq pe_bl)),?_⟩
  refine⟨_,rfl,rl,rfl,⟨_,SqL.of hrl⟩,ka9 (xs:=ra.map V.ref) (fun i σ H'=>H'=H/\(∀r∈rs.take i,nevR used n r=false)/\∃v3 v4 v5:Option V,σ=[some (.ref rl),some (.ref u),some (iV n),v3,v4,v5])
   ⟨rfl,(fun r hr=>by simp at hr),none,none,none,rfl⟩ (fun i σ H' _ h=>by rw[h.1];exact SqL.of hrl) ?_ ?_⟩
  ·rintro i y σ H' hy ⟨rfl,hno,v3,v4,v5,rfl⟩
   obtain⟨a,ea,rfl⟩:=kba hy
   obtain⟨r,er,hra⟩:=hr.at ea
   have yes:nevR used n r=true->Q (.bl true) H':=fun e=>by
    have z:=kk1 (f:=nevR used n) er e
    unfold kfI at k
    rw[z] at k
    exact k
   rwa[a,8,SqT.of hra,6,_,8,_,8,9,?_]
   rwa[8,6,8,?_]
   show if decide (V.str r.w=V.str "never")=true then _ else _
   rw[eq_str]
   by_cases hw:r.w=("never" :Str)
   ·rw [decide_eq_true hw]
    refine iteT ⟨_,rfl,_,rfl,rfl,_,rfl,?_⟩
    show if decide (iV r.a=iV n)=true then _ else _
    rw[kha]
    by_cases ha:r.a=n
    ·rw[decide_eq_true ha]
     refine iteT ⟨_,rfl,_,rfl,u,_,rfl, .inl (SqL.of hu),rfl,ka1 _,_,rfl,?_⟩
     rw[if_neg JD,kcE]
     cases hb:used.contains r.b with
     |true=>exact iteT (iteT (yes (by unfold nevR;rw[decide_eq_true hw,decide_eq_true ha,hb];rfl)))
     | false=>
      refine iteF ⟨_,rfl,_,rfl,rfl,_,rfl,?_⟩
      show if decide (iV r.b=iV n)=true then _ else _
      rw[kha]
      by_cases hc:r.b=n
      ·rw[decide_eq_true hc]
       refine iteT ⟨_,rfl,_,rfl,u,_,rfl, .inl (SqL.of hu),rfl,ka1 _,_,rfl,?_⟩
       rw[if_neg JD,kcE]
       cases hd:used.contains r.a with
       |true=>exact iteT (yes (by unfold nevR;rw[decide_eq_true hw,decide_eq_true ha,hb,decide_eq_true hc,hd];rfl))
       |false=>exact iteF ⟨rfl,kck er hno (by unfold nevR;rw[decide_eq_true hw,decide_eq_true ha,hb,decide_eq_true hc,hd];rfl),_,_,_,rfl⟩
      ·rw[decide_eq_false hc]
       exact iteF (iteF ⟨rfl,kck er hno (by unfold nevR;rw[decide_eq_true hw,decide_eq_true ha,hb,decide_eq_false hc];rfl),_,_,_,rfl⟩)
    ·rw[decide_eq_false ha]
     refine iteF (iteF ⟨_,rfl,_,rfl,rfl,_,rfl,?_⟩)
     show if decide (iV r.b=iV n)=true then _ else _
     rw[kha]
     by_cases hc:r.b=n
     ·rw[decide_eq_true hc]
      refine iteT ⟨_,rfl,_,rfl,u,_,rfl, .inl (SqL.of hu),rfl,ka1 _,_,rfl,?_⟩
      rw[if_neg JD,kcE]
      cases hd:used.contains r.a with
      |true=>exact iteT (yes (by unfold nevR;rw[decide_eq_true hw,decide_eq_false ha,decide_eq_true hc,hd];rfl))
      |false=>exact iteF ⟨rfl,kck er hno (by unfold nevR;rw[decide_eq_true hw,decide_eq_false ha,decide_eq_true hc,hd];rfl),_,_,_,rfl⟩
     ·rw[decide_eq_false hc]
      exact iteF (iteF ⟨rfl,kck er hno (by unfold nevR;rw[decide_eq_true hw,decide_eq_false ha,decide_eq_false hc];rfl),_,_,_,rfl⟩)
   ·rw[decide_eq_false hw]
    refine iteF (iteF ⟨rfl,kck er hno ?_,_,_,_,rfl⟩)
    unfold nevR
    rw[decide_eq_false hw]
    rfl
  ·rintro σ H' ⟨rfl,hno,v3,v4,v5,rfl⟩
   have z:=kmv (by rw[Jv];exact hr.len) hno
   unfold kfI at k
   rw[z] at k
   exact k
theorem Qy:kat ["rules","used","number","word","one","other"] ["rules","used","number"] (kah kcu):=by ac_rfl
theorem keW(W:WB K mg d base):FO P w W 1 d.Yf d.Yg ["rules","used","number"] (khp kfP):=by
 exists W.ZE.F,Qy
 ·obtain⟨rl,u,ra,rs,used,n,rfl,hrl,hr,hu,k⟩:=h
  refine⟨_,kab (ka7 PassesOwn.never rfl (kaB (K:=K) (pv 0)) (kbh (K:=K) (n:=3) rfl (kaw (pgn (i:=3) Qy.nd) (kaw (pgn (i:=4) Qy.nd) (kaw (pgn (i:=5) Qy.nd) kbg))))
   (kag (ps_if (PW.pt (kbb (kan op_eq (pv 3) kbN (kau _)) (kbb (kan op_eq (pv 4) (pv 2) (kau _)) (kaU (kan kch (pv 5) (pv 1) (by with_unfolding_all rfl)))))) (kag (kaq pe_bl)) (kar))))
   (kag (kaq pe_bl)),?_⟩
  refine⟨_,rfl,rl,rfl,⟨_,SqL.of hrl⟩,ka9 (xs:=ra.map V.ref) (fun i σ H'=>H'=H/\(∀r∈rs.take i,ahdR used n r=false)/\∃v3 v4 v5:Option V,σ=[some (.ref rl),some (.ref u),some (iV n),v3,v4,v5])
   ⟨rfl,(fun r hr=>by simp at hr),none,none,none,rfl⟩ (fun i σ H' _ h=>by rw[h.1];exact SqL.of hrl) ?_ ?_⟩
  ·rintro i y σ H' hy ⟨rfl,hno,v3,v4,v5,rfl⟩
   obtain⟨a,ea,rfl⟩:=kba hy
   obtain⟨r,er,hra⟩:=hr.at ea
   have yes:ahdR used n r=true->Q (.bl true) H':=fun e=>by
    have z:=kk1 (f:=ahdR used n) er e
    unfold kfP at k
    rw[z] at k
    exact k
   rwa[a,8,SqT.of hra,6,_,8,_,8,9,?_]
   rwa[8,6,8,?_]
   show if decide (V.str r.w=V.str "ahead")=true then _ else _
   rw[eq_str]
   by_cases hw:r.w=("ahead" :Str)
   ·rw[decide_eq_true hw]
    refine iteT ⟨_,rfl,_,rfl,rfl,_,rfl,?_⟩
    show if decide (iV r.a=iV n)=true then _ else _
    rw[kha]
    by_cases ha:r.a=n
    ·rw[decide_eq_true ha]
     refine iteT ⟨_,rfl,_,rfl,u,_,rfl, .inl (SqL.of hu),rfl,ka1 _,_,rfl,?_⟩
     rw[if_neg JD,kcE]
     cases hb:used.contains r.b with
     |true=>exact iteT (yes (by unfold ahdR;rw[decide_eq_true hw,decide_eq_true ha,hb];rfl))
     |false=>exact iteF ⟨rfl,kck er hno (by unfold ahdR;rw[decide_eq_true hw,decide_eq_true ha,hb];rfl),_,_,_,rfl⟩
    ·rw[decide_eq_false ha]
     exact iteF (iteF ⟨rfl,kck er hno (by unfold ahdR;rw[decide_eq_true hw,decide_eq_false ha];rfl),_,_,_,rfl⟩)
   ·rw[decide_eq_false hw]
    refine iteF (iteF ⟨rfl,kck er hno ?_,_,_,_,rfl⟩)
    unfold ahdR
    rw[decide_eq_false hw]
    rfl
  ·rintro σ H' ⟨rfl,hno,v3,v4,v5,rfl⟩
   have z:=kmv (by rw[Jv];exact hr.len) hno
   unfold kfP at k
   rw[z] at k
   exact k
inductive kgI(vs:List V)(H:Hp)(Q:VK)(E_:XK):Prop
 |ct(rl u:Addr)(ra:List Addr)(rs:List Rul)(order:List Nat)(_:vs=[.ref rl, .ref u])(_:H rl>>(.lst (ra.map V.ref)))(_:P2 (fun a r=>RulIs H a r) ra rs)(_:H u>>(.lst (order.map iV)))(_:Q (pV (onlyM rs order)) H):kgI vs H Q E_
theorem kiJ{f:Rul->Bool}:∀{rs:List Rul}{i:Nat}{r:Rul},rs[i]?>>r->f r=true->(∀q∈rs.take i,f q=false)->rs.find? f>>r
 |[],i,r,e,_,_=>by simp at e
 |q::rs,0,r,e,h,_=>by
  have e2:q=r:=by simpa using e
  subst e2
  simp[h]
 |q::rs,i+1,r,e,h,hno=>by
  have h1:=hno q (by simp)
  rw[List.find?_cons_of_neg (by rw[h1];simp)]
  exact kiJ (by simpa using e) h fun z hz=>hno z (by simp[hz])
theorem kna{f:Rul->Bool}{rs:List Rul}{n:Nat}(hn:n=rs.length)(h:∀r∈rs.take n,f r=false):rs.find? f=none:=by
 rw[hn,J4] at h
 exact List.find?_eq_none.mpr fun r hr=>by rw[h r hr];simp
theorem Qz:kat ["rules","order","word","one","other"] ["rules","order"] (kah kbG):=by ac_rfl
theorem kdy(W:WB K mg d base):FO P w W 1 d.Yh d.Yi ["rules","order"] kgI:=by
 exists W.ZF.F,Qz
 ·obtain⟨rl,u,ra,rs,order,rfl,hrl,hr,hu,k⟩:=h
  refine⟨_,kab (ka7 PassesOwn.never rfl (kaB (K:=K) (pv 0)) (kbh (K:=K) (n:=3) rfl (kaw (pgn (i:=2) Qz.nd) (kaw (pgn (i:=3) Qz.nd) (kaw (pgn (i:=4) Qz.nd) kbg))))
   (kag (ps_if (PW.pt (kbb (kan op_eq (pv 2) kbN (kau _)) (kbb (kan kch (pv 3) (pv 1) (by with_unfolding_all rfl)) (kaU (kan kgT (pv 4) (pv 1) (by with_unfolding_all rfl)))))) (kag (kaq (pv 3))) (kar))))
   (kag (kaq kbo)),?_⟩
  refine⟨_,rfl,rl,rfl,⟨_,SqL.of hrl⟩,ka9 (xs:=ra.map V.ref) (fun i σ H'=>H'=H/\(∀r∈rs.take i,loneM order r=false)/\∃v3 v4 v5:Option V,σ=[some (.ref rl),some (.ref u),v3,v4,v5])
   ⟨rfl,(fun r hr=>by simp at hr),none,none,none,rfl⟩ (fun i σ H' _ h=>by rw[h.1];exact SqL.of hrl) ?_ ?_⟩
  ·rintro i y σ H' hy ⟨rfl,hno,v3,v4,v5,rfl⟩
   obtain⟨a,ea,rfl⟩:=kba hy
   obtain⟨r,er,hra⟩:=hr.at ea
   rwa[a,8,SqT.of hra,6,_,8,_,8,9,?_]
   rwa[8,6,8,?_]
   show if decide (V.str r.w=V.str "only")=true then _ else _
   rw[eq_str]
   by_cases hw:r.w=("only" :Str)
   ·rw[decide_eq_true hw]
    refine iteT ⟨_,rfl,_,rfl,u,_,rfl, .inl (SqL.of hu),rfl,ka1 _,_,rfl,?_⟩
    rw[if_neg JD,kcE]
    cases ha:order.contains r.a with
    | true=>
     refine iteT ⟨_,rfl,_,rfl,u,_,rfl, .inl (SqL.of hu),rfl,ka1 _,_,rfl,?_⟩
     rw[if_pos rfl,kcE]
     cases hb:order.contains r.b with
     |true=>exact iteF ⟨rfl,kck er hno (by unfold loneM;rw[decide_eq_true hw,ha,hb];rfl),_,_,_,rfl⟩
     |false=>
      refine iteT ⟨_,rfl,?_⟩
      have z:=kiJ (f:=loneM order) er (by unfold loneM;rw[decide_eq_true hw,ha,hb];rfl) hno
      unfold onlyM at k
      rw[z] at k
      exact k
    |false=>exact iteF (iteF ⟨rfl,kck er hno (by unfold loneM;rw[decide_eq_true hw,ha];rfl),_,_,_,rfl⟩)
   ·rw[decide_eq_false hw]
    refine iteF (iteF ⟨rfl,kck er hno ?_,_,_,_,rfl⟩)
    unfold loneM
    rw[decide_eq_false hw]
    rfl
  ·rintro σ H' ⟨rfl,hno,v3,v4,v5,rfl⟩
   have z:=kna (by rw[Jv];exact hr.len) hno
   unfold onlyM at k
   rw[z] at k
   exact k
inductive kh5(d:D)(vs:List V)(H:Hp)(Q:VK)(E_:XK):Prop
 |ct(t h u:Addr)(T:TillD)(hand:List Int)(used:List Nat)(n:Nat)(V:Vch)(_:vs=[.ref t, .ref h, .ref u,iV n])(_:TillIs d H t T)(_:H h>>(.lst (hand.map L2.V.int)))(_:H u>>(.lst (used.map iV)))(_:T.vs[n]?>>V)(_:hand.length=T.vs.length)(_:Q (sV (wordM V T.rs hand used n)) H):kh5 d vs H Q E_
theorem keg:kat ["till","hand","used","number"] ["till","hand","used","number"] (kah kb7):=by ac_rfl
theorem kem(W:WB K mg d base):FO P w W 2 d.Yb d.Yc ["till","hand","used","number"] (kh5 d):=by
 exists W.ZC.F,keg
 ·obtain⟨t,h,u,T,hand,used,n,Vc,rfl,hT,hh,hu,hn,hl,k⟩:=h
  obtain⟨dx,fs,p,vl,rl,va,ra,ht,t1,t2,t3,t4,hp,hvl,hva,hrl,hra⟩:=hT
  exists V6,keV,W
  exists V7,keW,W
  refine⟨_,kab (ps_if (kan op_gt (pe_op kcN (pe_bm Nh M8 M9 kez (pv 2) (kaa (pv 3) kad)) kaf) (pe_ix (r:=rIxL K) kaH (pv 1) (pv 3) (fun _ _=>rfl)) (kau _)) (kag (kaq kbN)) (kar))
   (kab (ps_if (PW.pt (kbb (kaQ (kaj (K:=K) (kaj (K:=K) (pe_ix (r:=rIxL K) kaH (kaj (K:=K) (pv 0) rfl) (pv 3) (fun _ _=>rfl)) rfl) rfl)) (kaU (kan kch (pv 3) (pv 2) (by with_unfolding_all rfl))))) (kag (kaq kbN)) (kar))
   (kab (ps_if (kaQ (pcl V6 hr W.ZD (kaa (kaj (K:=K) (pv 0) rfl) (kaa (pv 2) (kaa (pv 3) kad))))) (kag (kaq kbN)) (kar))
   (kab (ps_if (kaQ (pcl V7 hr W.ZE (kaa (kaj (K:=K) (pv 0) rfl) (kaa (pv 2) (kaa (pv 3) kad))))) (kag (kaq kbN)) (kar))
   (kag (kaq kbo))))),?_⟩
  obtain⟨v,ev⟩:=at_of (xs:=va) (i:=n) (by rw[hva.len];exact at_lt hn)
  obtain⟨Vc',eV',hV⟩:=hva.at ev
  rw[hn] at eV'
  cases eV'
  obtain⟨mA,dxv,fsv,hv,lvm,_,⟨dxm,fsm,hm,m1,m2,m3,m4,m5,m6⟩,hh',_⟩:=id hV
  obtain⟨z,ez⟩:=at_of (xs:=hand) (i:=n) (by rw[hl];exact at_lt hn)
  have eu:H u>>(.lst ((used.map fun(i:Nat)=>(i:Int)).map V.int)):=by rw[hu,JO];rfl
  have eg:hand.getD n 0=z:=by rw[JM,ez];rfl
  rwa[8, .inl ⟨rfl,_,SqL.of hu⟩,8,u,9,eu,9,8,8,h,_,9,SqL.of hh,kaK (v:=.int z) (by rw[JF,ez];rfl),9,8,?_]
  rw[kgp]
  unfold wordM at k
  rw[eg] at k
  by_cases c1:z<(used.count n:Int)+1
  ·rw[if_pos c1] at k
   rw[show decide ((used.count n:Int)+1 > z)=true from decide_eq_true c1]
   exact iteT k
  rw[if_neg c1] at k
  rw[show decide ((used.count n:Int)+1 > z)=false from decide_eq_false c1]
  refine iteF ?_
  rwa[8,t,d.qd,dx,fs,8,ht,W.qd.cl,W.qt,t2,8,vl,_,9,SqL.of hvl,kaK (v:=.ref v) (by rw[JF,ev];rfl),v,clsOf d Vc.so,dxv,fsv,8,hv,cl_of W hh',na_of W hh',lvm,mA,d.qe,dxm,fsm,8,hm,W.qe.cl,W.Qq,m5,Vc.ms.once,6,?_]
  cases ho:Vc.ms.once with
  | true=>
   rw[ho,Bool.true_and] at k
   refine iteT ⟨_,rfl,_,rfl,u,_,rfl, .inl (SqL.of hu),rfl,ka1 _,_,rfl,?_⟩
   rw[if_neg JD,kcE]
   cases hc:used.contains n with
   |true=>
    rw[hc,if_pos rfl] at k
    exact iteT k
   | false=>
    rw[hc,if_neg JD] at k
    refine iteF ?_
    rwa[8,t,d.qd,dx,fs,8,ht,W.qd.cl,W.qT,t3,8,8,rl,u,ra,T.rs,used,n,6,hrl,hra,hu,8,?_]
    cases h1:kfI T.rs used n with
    |true=>
     rw[h1,if_pos rfl] at k
     exact iteT k
    | false=>
     rw[h1,if_neg JD] at k
     refine iteF ⟨_,rfl,t,d.qd,dx,fs,_,rfl,ht,W.qd.cl,W.qT,t3,_,rfl,_,rfl,rl,u,ra,T.rs,used,n,rfl,hrl,hra,hu,_,rfl,?_⟩
     cases h2:kfP T.rs used n with
     |true=>
      rw[h2,if_pos rfl] at k
      exact iteT k
     |false=>
      rw[h2,if_neg JD] at k
      exact iteF k
  | false=>
   rw[ho,Eg,if_neg JD] at k
   refine iteF (iteF ?_)
   rwa[8,t,d.qd,dx,fs,8,ht,W.qd.cl,W.qT,t3,8,8,rl,u,ra,T.rs,used,n,6,hrl,hra,hu,8,?_]
   cases h1:kfI T.rs used n with
   |true=>
    rw[h1,if_pos rfl] at k
    exact iteT k
   | false=>
    rw[h1,if_neg JD] at k
    refine iteF ⟨_,rfl,t,d.qd,dx,fs,_,rfl,ht,W.qd.cl,W.qT,t3,_,rfl,_,rfl,rl,u,ra,T.rs,used,n,rfl,hrl,hra,hu,_,rfl,?_⟩
    cases h2:kfP T.rs used n with
    |true=>
     rw[h2,if_pos rfl] at k
     exact iteT k
    |false=>
     rw[h2,if_neg JD] at k
     exact iteF k
inductive kjt(d:D)(vs:List V)(H:Hp)(Q:VK)(E_:XK):Prop
 |ct(H0:Hp)(w dx t b h:Addr)(hand:List Int)(B:Bask)(_:vs=[.ref w, .ref t, .ref b, .ref h])(_:H0 w=none)(_:Same H0 H)(_:H w>>(.ins d.c_Way dx []))(_:H0 h>>(.lst (hand.map V.int)))(_:BaskIs d.qf d.qg H0 b B)(_:B.rs.length<=12)(_:(∀r∈B.rs,r.Ok))(_:∀(H':Hp)(x:Addr),Same H0 H'->H0 x=none->WayN d 5 H0 H' w t b x hand []->StndIs d.qc H' x (stnd0 B)->Q .non H'):kjt d vs H Q E_
theorem khv:kat ["self","till","basket","hand"] ["self","till","basket","hand"] (kah kdV):=by ac_rfl
theorem ke2(W:WB K mg d base):FO P w W 4 d.Zg d.Zh ["self","till","basket","hand"] (kjt d):=by
 exists W.Qb.F,khv
 ·obtain⟨H0,wy,dx,t,b,h,hand,B,rfl,fw,s0,hw,hh,hb,hB,hok,k⟩:=h
  exists Qf,kb3,W
  refine⟨_,kab (kaI (pv 0) (pv 1) rfl)
   (kab (kaI (pv 0) (pv 2) rfl)
   (kab (kaI (pv 0) (kaJ (r:=kbf K) kaC (by rfl) W.B.list kbF (kaa (pv 3) kad)) rfl)
   (kab (kaI (pv 0) (kaX kad) rfl)
   (kag (kaI (pv 0) (kbA (W.qN.mk' W.qc) Qf hr rfl W.qc.m W.qN.b .nil pass0 (kaa (pv 2) kad)) rfl))))),?_⟩
  exists Y4
  rwa[8,8,wy,d.c_Way,dx,[],6,hw,W.c_Way.cl,W.qq,by decide,?_]
  have s1:Same H0 (upd H wy (.ins d.c_Way dx (putF "till" (.ref t) []))):=kav fw s0 (nx hw)
  have hw1:(upd H wy (.ins d.c_Way dx (putF "till" (.ref t) []))) wy>>(.ins d.c_Way dx (putF "till" (.ref t) [])):=kae
  generalize upd H wy (.ins d.c_Way dx (putF "till" (.ref t) []))=H1 at *
  nomatch 8,wy,d.c_Way,dx,8,hw1,W.c_Way.cl,W.Qa,few (JA (kal (n:=0) (Jx _)) (by decide)),?_
  have s2:Same H0 (upd H1 wy (.ins d.c_Way dx (putF "basket" (.ref b) (putF "till" (.ref t) [])))):=kav fw s1 (nx hw1)
  have hw2:(upd H1 wy (.ins d.c_Way dx (putF "basket" (.ref b) (putF "till" (.ref t) [])))) wy>>(.ins d.c_Way dx (putF "basket" (.ref b) (putF "till" (.ref t) []))):=kae
  generalize upd H1 wy (.ins d.c_Way dx (putF "basket" (.ref b) (putF "till" (.ref t) [])))=H2 at *
  nomatch h,8, .inl (SqL.of (s2 _ _ hh)),fun h' hh'=>?_
  have n3:=kam (o:=.lst (hand.map V.int)) hh'
  have nh:h'≠wy:=(kai hw2 hh').symm
  have s3:=s2.trans n3
  have e3:(upd H2 h' (.lst (hand.map V.int))) h'>>(.lst (hand.map V.int)):=kae
  have hw3:=n3 _ _ hw2
  clear n3
  generalize upd H2 h' (.lst (hand.map V.int))=H3 at *
  nomatch wy,d.c_Way,dx,8,hw3,W.c_Way.cl,W.Qt,few (JA (kal (kal (n:=0) (Jx _))) (by decide)),?_
  have s4:Same H0 (upd H3 wy (.ins d.c_Way dx (putF "hand" (.ref h') (putF "basket" (.ref b) (putF "till" (.ref t) []))))):=kav fw s3 (nx hw3)
  have e4:(upd H3 wy (.ins d.c_Way dx (putF "hand" (.ref h') (putF "basket" (.ref b) (putF "till" (.ref t) []))))) h'>>(.lst (hand.map V.int)):=by rw[kak nh];exact e3
  have hw4:(upd H3 wy (.ins d.c_Way dx (putF "hand" (.ref h') (putF "basket" (.ref b) (putF "till" (.ref t) []))))) wy>>(.ins d.c_Way dx (putF "hand" (.ref h') (putF "basket" (.ref b) (putF "till" (.ref t) [])))):=kae
  generalize upd H3 wy (.ins d.c_Way dx (putF "hand" (.ref h') (putF "basket" (.ref b) (putF "till" (.ref t) []))))=H4 at *
  symm
  exists Y4
  rwa[by decide,fun u hu=>?_]
  have n5:=kam (o:=.lst []) hu
  have nu:u≠wy:=(kai hw4 hu).symm
  have s5:=s4.trans n5
  have e5:=n5 _ _ e4
  have eu5:(upd H4 u (.lst [])) u>>(.lst (([]:List Nat).map iV)):=kae
  have hw5:=n5 _ _ hw4
  clear n5
  generalize upd H4 u (.lst [])=H5 at *
  nomatch wy,d.c_Way,dx,8,hw5,W.c_Way.cl,W.qr,few (JA (kal (kal (kal (n:=0) (Jx _)))) (by decide)),?_
  have s6:Same H0 (upd H5 wy (.ins d.c_Way dx (putF "used" (.ref u) (putF "hand" (.ref h') (putF "basket" (.ref b) (putF "till" (.ref t) [])))))):=kav fw s5 (nx hw5)
  have e6:(upd H5 wy (.ins d.c_Way dx (putF "used" (.ref u) (putF "hand" (.ref h') (putF "basket" (.ref b) (putF "till" (.ref t) [])))))) h'>>(.lst (hand.map V.int)):=by rw[kak nh];exact e5
  have eu6:(upd H5 wy (.ins d.c_Way dx (putF "used" (.ref u) (putF "hand" (.ref h') (putF "basket" (.ref b) (putF "till" (.ref t) [])))))) u>>(.lst (([]:List Nat).map iV)):=by rw[kak nu];exact eu5
  have hw6:(upd H5 wy (.ins d.c_Way dx (putF "used" (.ref u) (putF "hand" (.ref h') (putF "basket" (.ref b) (putF "till" (.ref t) [])))))) wy>>(.ins d.c_Way dx (putF "used" (.ref u) (putF "hand" (.ref h') (putF "basket" (.ref b) (putF "till" (.ref t) []))))):=kae
  generalize upd H5 wy (.ins d.c_Way dx (putF "used" (.ref u) (putF "hand" (.ref h') (putF "basket" (.ref b) (putF "till" (.ref t) [])))))=H6 at *
  nomatch kkb (hb.same s6) hB hok fun H7 x s7 f7 hx=>?_
  have hw7:=s7 _ _ hw6
  have fx:H0 x=none:=s6.free f7
  have nxw:x≠wy:=(kai hw6 f7).symm
  nomatch wy,d.c_Way,dx,8,hw7,W.c_Way.cl,W.qI,few (JA (kal (kal (kal (kal (n:=0) (Jx _))))) (by decide)),?_
  symm
  refine k _ x (kav fw (s6.trans s7) (nx hw7)) fx ⟨fw,dx,_,h',u,none_of s2 hh',none_of s4 hu,kae,?_,?_,?_,?_,?_,?_,?_,?_,?_,?_,?_,?_⟩ ?_
  ·ac_nf
  ·ac_nf
  ·ac_nf
  ·ac_nf
  ·ac_nf
  ·ac_nf
   rfl
  ·ac_nf
   rfl
  ·ac_nf
   rfl
  ·ac_nf
   rfl
  ·exact JA (kal (kal (kal (kal (kal (n:=0) (Jx _)))))) (by decide)
  ·rw[kak nh];exact s7 _ _ e6
  ·rw[kak nu];exact s7 _ _ eu6
  ·obtain⟨o,pp,mm,⟨dxs,fss,hxs,q⟩,ho,hpp,hmm⟩:=hx
   symm
   rwa[o,pp,mm,⟨dxs,fss,by rw[kak nxw];exact hxs,q⟩,by rw[kak (ne_of ho hw7 (by intro z;cases z))];exact ho,by rw[kak (ne_of hpp hw7 (by intro z;cases z))];exact hpp,by rw[kak (ne_of hmm hw7 (by intro z;cases z))];exact hmm]
theorem kme{d:D}{H:Hp}{t b h:Addr}{hand:List Int}{B:Bask}{R:Addr->Hp->Prop}{E:XK}(hh:H h>>(.lst (hand.map V.int)))(hb:BaskIs d.qf d.qg H b B)(hB:B.rs.length<=12)(hok:∀r∈B.rs,r.Ok)
  (k:∀(H':Hp)(w x:Addr),Same H H'->H w=none->H x=none->WayN d 5 H H' w t b x hand []->StndIs d.qc H' x (stnd0 B)->R w H'):
  ∀w dx,H w=none->H dx=none->dx≠w->kjt d [.ref w, .ref t, .ref b, .ref h] (upd (upd H dx (.own w)) w (.ins d.c_Way dx [])) (fun v H2=>v=.non/\R w H2) E:=
 fun w dx nw nd _=>⟨H,w,dx,t,b,h,hand,B,rfl,nw,kbt nw nd,kae,hh,hb,hB,hok,fun H' x s f hW hx=>⟨rfl,k H' w x s nw f hW hx⟩⟩
inductive kgB(d:D)(vs:List V)(H:Hp)(Q:VK)(E_:XK):Prop
 |ct(wy t b x:Addr)(T:TillD)(B:Bask)(S:Stnd)(hand:List Int)(used:List Nat)(n:Nat)(V:Vch)(_:vs=[.ref wy,iV n])(_:WayIs d H wy t b x hand used)(_:TillIs d H t T)(_:BaskIs d.qf d.qg H b B)(_:StndIs d.qc H x S)(_:Wf T.ps B S)(_:VchOk T.ps V)(_:T.vs[n]?>>V)(_:hand.length=T.vs.length)(_:∀(H':Hp),Same H H'->Q (dueM V T B hand used S n) H'):kgB d vs H Q E_
theorem Vq:kat ["self","number","word"] ["self","number"] (kah kcC):=by ac_rfl
theorem kci(W:WB K mg d base):FO P w W 5 d.Zi d.Zj ["self","number"] (kgB d):=by
 exists W.qO.F,Vq
 ·obtain⟨wy,t,b,x,T,B,S,hand,used,n,Vc,rfl,hW,hT,hB,hS,wf,vo,hn,hl,k⟩:=h
  obtain⟨dxw,fsw,h,u,hw,w1,w2,w3,w4,w5,w6,w7,w8,w9,w10,hh,hu⟩:=id hW
  obtain⟨dx,fs,p,vl,rl,va,ra,ht,t1,t2,t3,t4,hp,hvl,hva,hrl,hra⟩:=id hT
  exists V8,kem,W
  exists V9,kgW,W
  have hr2:Room 2 _:=hr.mono (by decide)
  refine⟨_,kab (psl (i:=2) Vq.nd (pcl V8 hr2 W.ZC (kaa (kaj (K:=K) (pv 0) rfl) (kaa (kaj (K:=K) (pv 0) rfl) (kaa (kaj (K:=K) (pv 0) rfl) (kaa (pv 1) kad))))))
   (kab (ps_if (kan kdZ (pv 2) kbo (kau _)) (kag (kaq (pv 2))) (kar))
   (kag (kaq (pcl V9 hr W.Zu (kaa (pe_ix (r:=rIxL K) kaH (kaj (K:=K) (kaj (K:=K) (pv 0) rfl) rfl) (pv 1) (fun _ _=>rfl)) (kaa (kaj (K:=K) (kaj (K:=K) (pv 0) rfl) rfl) (kaa (kaj (K:=K) (pv 0) rfl) (kaa (kaj (K:=K) (pv 0) rfl) kad)))))))),?_⟩
  obtain⟨v,ev⟩:=at_of (xs:=va) (i:=n) (by rw[hva.len];exact at_lt hn)
  obtain⟨Vc',eV',hV⟩:=hva.at ev
  rw[hn] at eV'
  cases eV'
  rwa[8,wy,d.c_Way,dxw,fsw,8,hw,W.c_Way.cl,W.qq,w1,8,wy,d.c_Way,dxw,fsw,8,hw,W.c_Way.cl,W.Qt,w3,8,wy,d.c_Way,dxw,fsw,8,hw,W.c_Way.cl,W.qr,w4,8,t,h,u,T,hand,used,n,Vc,6,hT,hh,hu,hn,hl,?_]
  unfold dueM at k
  cases e:wordM Vc T.rs hand used n with
  |some z=>
   rw[e] at k
   rwa[8,6,8,?_]
   show if(!decide (V.str z=V.non))=true then _ else _
   rw[show(!decide (V.str z=V.non))=true by simp]
   exact iteT ⟨_,rfl,k H (Same.refl _)⟩
  |none=>
   rw[e] at k
   rwa[8,6,8,?_]
   show if(!decide (V.non=V.non))=true then _ else _
   rw[show(!decide (V.non=V.non))=false by simp]
   refine iteF ⟨_,rfl,wy,d.c_Way,dxw,fsw,_,rfl,hw,W.c_Way.cl,W.qq,w1,t,d.qd,dx,fs,_,rfl,ht,W.qd.cl,W.qt,t2,_,rfl,vl,_,_,_,rfl,rfl,SqL.of hvl,kaK (v:=.ref v) (by rw[JF,ev];rfl),?_⟩
   rwa[8,wy,d.c_Way,dxw,fsw,8,hw,W.c_Way.cl,W.qq,w1,t,d.qd,dx,fs,8,ht,W.qd.cl,W.qS,t1,8,wy,d.c_Way,dxw,fsw,8,hw,W.c_Way.cl,W.Qa,w2,8,wy,d.c_Way,dxw,fsw,8,hw,W.c_Way.cl,W.qI,w5,?_]
   rwa[v,p,b,x,Vc,T.ps,B,S,6,hV,SqL.of hp,hB,hS,wf,vo,k]
inductive kif(d:D)(vs:List V)(H:Hp)(Q:VK)(E_:XK):Prop
 |ct(wy t b x:Addr)(T:TillD)(B:Bask)(S:Stnd)(hand:List Int)(used:List Nat)(n:Nat)(V:Vch)(_:vs=[.ref wy,iV n])(_:WayIs d H wy t b x hand used)(_:TillIs d H t T)(_:BaskIs d.qf d.qg H b B)(_:StndIs d.qc H x S)(_:Wf T.ps B S)(_:VchOk T.ps V)(_:T.vs[n]?>>V)(_:used.length<64)(_:∀(H':Hp)(wy' x':Addr),Same H H'->H wy'=none->WayN d 7 H H' wy' t b x' hand (used++[n])->StndN d.qc H H' x' (aftM V T.ps (kds B) S)->Q (.ref wy') H'):kif d vs H Q E_
theorem Vr:kat ["self","number","further"] ["self","number"] (kah kcU):=by ac_rfl
theorem kgd(W:WB K mg d base):FO P w W 6 d.Zk d.Zl ["self","number"] (kif d):=by
 exists W.Xb.F,Vr
 ·obtain⟨wy,t,b,x,T,B,S,hand,used,n,Vc,rfl,hW,hT,hB,hS,wf,vo,hn,hl,k⟩:=h
  obtain⟨dxw,fsw,h,u,hw,w1,w2,w3,w4,w5,w6,w7,w8,w9,w10,hh,hu⟩:=id hW
  obtain⟨dx,fs,p,vl,rl,va,ra,ht,t1,t2,t3,t4,hp,hvl,hva,hrl,hra⟩:=id hT
  exists Xl,ke2,W
  exists Xm,kiw,W
  refine⟨_,kab (psl (i:=2) Vr.nd (kbA (W.Qb.mk' W.c_Way) Xl hr rfl W.c_Way.m W.Qb.b .nil pass0 (kaa (kaj (K:=K) (pv 0) rfl) (kaa (kaj (K:=K) (pv 0) rfl) (kaa (kaj (K:=K) (pv 0) rfl) kad)))))
   (kab (kaI (pv 2) (pe_op kit (kaj (K:=K) (pv 0) rfl) (kaX (kaa (pv 1) kad))) rfl)
   (kab (kaI (pv 2) (pcl Xm hr W.QP (kaa (pe_ix (r:=rIxL K) kaH (kaj (K:=K) (kaj (K:=K) (pv 0) rfl) rfl) (pv 1) (fun _ _=>rfl)) (kaa (kaj (K:=K) (kaj (K:=K) (pv 0) rfl) rfl) (kaa (kaj (K:=K) (pv 0) rfl) (kaa (kaj (K:=K) (pv 0) rfl) kad))))) rfl)
   (kag (kaq (pv 2))))),?_⟩
  obtain⟨v,ev⟩:=at_of (xs:=va) (i:=n) (by rw[hva.len];exact at_lt hn)
  obtain⟨Vc',eV',hV⟩:=hva.at ev
  rw[hn] at eV'
  cases eV'
  exists Y4
  rwa[8,wy,d.c_Way,dxw,fsw,8,hw,W.c_Way.cl,W.qq,w1,8,wy,d.c_Way,dxw,fsw,8,hw,W.c_Way.cl,W.Qa,w2,8,wy,d.c_Way,dxw,fsw,8,hw,W.c_Way.cl,W.Qt,w3,kme hh hB wf.nl wf.ok fun H1 y x1 s1 fy fx1 hy hx1=>?_]
  obtain⟨_,dxy,fsy,h1,u1,fh1,_,hyy,y1,y2,y3,y4,y5,y6,y7,y8,y9,y10,hh1,hu1⟩:=hy
  nomatch wy,d.c_Way,dxw,fsw,8,s1 _ _ hw,W.c_Way.cl,W.qr,w4,8,(by show 1<=sizeLine;decide),fun q1 hq1=>?_
  have n2:=kam (o:=.lst [iV n]) hq1
  have eq1:(upd H1 q1 (.lst [iV n])) q1>>(.lst [iV n]):=kae
  have s2:=s1.trans n2
  have hy2:=n2 _ _ hyy
  have hh2:=n2 _ _ hh1
  clear n2
  generalize upd H1 q1 (.lst [iV n])=H2 at *
  symm
  exists Y4
  rwa[u,q1,9,s2 _ _ hu,eq1,JJ (kas (by rw[Jv];show _+1<=1000;lia)),fun q2 hq2=>?_]
  have n3:=kam (o:=.lst (used.map iV++[iV n])) hq2
  have eq2:(upd H2 q2 (.lst (used.map iV++[iV n]))) q2>>(.lst ((used++[n]).map iV)):=by rw[kae,JC];rfl
  have s3:=s2.trans n3
  have hy3:=n3 _ _ hy2
  have hh3:=n3 _ _ hh2
  have nq2:q2≠y:=(kai hy2 hq2).symm
  clear n3
  generalize upd H2 q2 (.lst (used.map iV++[iV n]))=H3 at *
  have nh1:h1≠y:=ne_of hh3 hy3 (by intro z;cases z)
  nomatch y,d.c_Way,dxy,fsy,6,hy3,W.c_Way.cl,W.qr,few (JA y10 (by decide)),?_
  have s4:Same H (upd H3 y (.ins d.c_Way dxy (putF "used" (.ref q2) fsy))):=kav fy s3 (nx hy3)
  have eq4:(upd H3 y (.ins d.c_Way dxy (putF "used" (.ref q2) fsy))) q2>>(.lst ((used++[n]).map iV)):=by rw[kak nq2];exact eq2
  have hh4:(upd H3 y (.ins d.c_Way dxy (putF "used" (.ref q2) fsy))) h1>>(.lst (hand.map V.int)):=by rw[kak nh1];exact hh3
  have hy4:(upd H3 y (.ins d.c_Way dxy (putF "used" (.ref q2) fsy))) y>>(.ins d.c_Way dxy (putF "used" (.ref q2) fsy)):=kae
  generalize upd H3 y (.ins d.c_Way dxy (putF "used" (.ref q2) fsy))=H4 at *
  nomatch wy,d.c_Way,dxw,fsw,8,s4 _ _ hw,W.c_Way.cl,W.qq,w1,t,d.qd,dx,fs,8,s4 _ _ ht,W.qd.cl,W.qt,t2,8,vl,_,9,SqL.of (s4 _ _ hvl),kaK (v:=.ref v) (by rw[JF,ev];rfl),?_
  nomatch wy,d.c_Way,dxw,fsw,8,s4 _ _ hw,W.c_Way.cl,W.qq,w1,t,d.qd,dx,fs,8,s4 _ _ ht,W.qd.cl,W.qS,t1,8,wy,d.c_Way,dxw,fsw,8,s4 _ _ hw,W.c_Way.cl,W.Qa,w2,8,wy,d.c_Way,dxw,fsw,8,s4 _ _ hw,W.c_Way.cl,W.qI,w5,?_
  symm
  exists Y4
  rwa[v,p,b,x,Vc,T.ps,B,S,6,hV.same s4,SqL.of (s4 _ _ hp),hB.same s4,hS.same s4,wf,vo,fun H5 x' s5 f5 ⟨_,o,pp,mm,⟨dxs,fss,hxs,q⟩,fo,fpp,fmm,ho,hpp,hmm⟩=>?_]
  have hy5:=s5 _ _ hy4
  have hh5:=s5 _ _ hh4
  have eq5:=s5 _ _ eq4
  have nx':x'≠y:=(kai hy4 f5).symm
  nomatch y,d.c_Way,dxy,8,hy5,W.c_Way.cl,W.qI,few (JA (kal y10) (by decide)),?_
  nomatch k _ y x' (kav fy (s4.trans s5) (nx hy5)) fy ⟨fy,dxy,_,h1,q2,fh1,none_of s2 hq2,kae,?_,?_,?_,?_,?_,?_,?_,?_,?_,?_,?_,?_⟩ ?_
  ·ac_nf
   symm
   exact y1
  ·ac_nf
   symm
   exact y2
  ·ac_nf
   symm
   exact y3
  ·ac_nf
  ·ac_nf
  ·ac_nf
   symm
   exact y6
  ·ac_nf
   symm
   exact y7
  ·ac_nf
   symm
   exact y8
  ·ac_nf
   symm
   exact y9
  ·exact JA (kal (kal y10)) (by decide)
  ·rw[kak nh1];exact hh5
  ·rw[kak nq2];exact eq5
  ·rwa[none_of s4 f5,o,pp,mm,⟨dxs,fss,by rw[kak nx'];exact hxs,q⟩,none_of s4 fo,none_of s4 fpp,none_of s4 fmm,by rw[kak (ne_of ho hy5 (by intro z;cases z))];exact ho,by rw[kak (ne_of hpp hy5 (by intro z;cases z))];exact hpp,by rw[kak (ne_of hmm hy5 (by intro z;cases z))];exact hmm]
inductive kjB(d:D)(vs:List V)(H:Hp)(Q:VK)(E_:XK):Prop
 |ct(wy t b x:Addr)(T:TillD)(hand:List Int)(used:List Nat)(_:vs=[.ref wy])(_:WayIs d H wy t b x hand used)(_:TillIs d H t T)(_:Q (.bl (onlyM T.rs used).isNone) H):kjB d vs H Q E_
theorem kei:kat ["self"] ["self"] (kah kcd):=by ac_rfl
theorem kcP(W:WB K mg d base):FO P w W 2 d.Zo d.Zp ["self"] (kjB d):=by
 exists W.Qc.F,kei
 ·obtain⟨wy,t,b,x,T,hand,used,rfl,hW,hT,k⟩:=h
  obtain⟨dxw,fsw,h,u,hw,w1,w2,w3,w4,w5,w6,w7,w8,w9,w10,hh,hu⟩:=id hW
  obtain⟨dx,fs,p,vl,rl,va,ra,ht,t1,t2,t3,t4,hp,hvl,hva,hrl,hra⟩:=id hT
  exists Ua,kdy,W
  rwa[_,kag (kaq (kbB keS (pcl Ua hr W.ZF (kaa (kaj (K:=K) (kaj (K:=K) (pv 0) rfl) rfl) (kaa (kaj (K:=K) (pv 0) rfl) kad))) kbo (kau _))),?_]
  rwa[8,wy,d.c_Way,dxw,fsw,8,hw,W.c_Way.cl,W.qq,w1,t,d.qd,dx,fs,8,ht,W.qd.cl,W.qT,t3,8,wy,d.c_Way,dxw,fsw,8,hw,W.c_Way.cl,W.qr,w4,rl,u,ra,T.rs,used,6,hrl,hra,hu,6,?_]
  cases e:onlyM T.rs used with
  |none=>
   rw[e] at k
   show Q (.bl (decide (V.non=V.non))) H
   rw[show decide (V.non=V.non)=true by simp]
   exact k
  |some z=>
   rw[e] at k
   show Q (.bl (decide (V.int (z:Int)=V.non))) H
   rw[show decide (V.int (z:Int)=V.non)=false by simp]
   exact k
noncomputable def canM(T:TillD)(B:Bask)(hand:List Int)(used:List Nat)(S:Stnd)(n:Nat):Bool:=match T.vs[n]? with
 |none=>false
 |some V=>decide (dueM V T B hand used S n=.non)
noncomputable def folM(T:TillD)(B:Bask)(hand:List Int)(used:List Nat)(S:Stnd):List Nat:=(Jy T.vs.length).filter (canM T B hand used S)
theorem kfB{p:Nat->Bool}{i:Nat}:(Jy (i+1)).filter p=(Jy i).filter p++(if p i=true then [i] else []):=by
 rw[Nk,NI,NB,Mf]
inductive kic(d:D)(vs:List V)(H:Hp)(Q:VK)(E_:XK):Prop
 |ct(wy t b x:Addr)(T:TillD)(B:Bask)(S:Stnd)(hand:List Int)(used:List Nat)(_:vs=[.ref wy])(_:WayIs d H wy t b x hand used)(_:TillIs d H t T)(_:kbw T)(_:BaskIs d.qf d.qg H b B)(_:StndIs d.qc H x S)(_:Wf T.ps B S)(_:hand.length=T.vs.length)(_:∀(H':Hp)(p:Addr),Same H H'->H p=none->H' p>>(.lst ((folM T B hand used S).map iV))->Q (.ref p) H'):kic d vs H Q E_
theorem kej:kat ["self"] ["self"] (kah kbz):=by ac_rfl
theorem keq(W:WB K mg d base):FO P w W 6 d.Zm d.Zn ["self"] (kic d):=by
 exists W.Xc.F,kej
 ·obtain⟨wy,t,b,x,T,B,S,hand,used,rfl,hW,hT,tok,hB,hS,wf,hl,kk⟩:=h
  obtain⟨dxw,fsw,h,u,hw,w1,w2,w3,w4,w5,w6,w7,w8,w9,w10,hh,hu⟩:=id hW
  obtain⟨dx,fs,p,vl,rl,va,ra,ht,t1,t2,t3,t4,hp,hvl,hva,hrl,hra⟩:=id hT
  exists Qg,kci,W
  rwa[_,kag (kaq (kc9 (N:=["number","self"]) (CompScope.of (N:=["number","self"]) (cap:=[none,some 0]) (kah kbz).names ["self"] rfl rfl (by cutsat)) rfl (kcf rfl W.B.range (kaa (kao (r:=kaG K) kap (by rfl) W.B.len b_len (kaa (kaj (K:=K) (kaj (K:=K) (pv 0) rfl) rfl) kad)) kad)) (fun _ _ _ _=>pgn (i:=0) (show(["number","self"]:List Str).Nodup by cutsat)) (fun _ _ _ _=>kdX (kan keS (kf8 (pv 1) W.c_Way.cl W.qO.me Qg hr W.qO.b .nil pass0 (kaa (pv 0) kad)) kbo (kau _))) (fun _ _ _ _=>(pv 0)))),?_]
  have nv:=tok.nv
  have lva:=hva.len
  rwa[8,wy,d.c_Way,dxw,fsw,8,hw,W.c_Way.cl,W.qq,w1,t,d.qd,dx,fs,8,ht,W.qd.cl,W.qt,t2,vl,8, .inl (SqL.of hvl),8,by lia,by rw[Jv];lia,?_]
  rw[show(((va.map V.ref).length:Nat):Int).toNat=T.vs.length by rw[Jv];lia]
  refine khV (fun i σ ys H'=>Same H H'/\ys=((Jy i).filter (canM T B hand used S)).map iV/\∃v0:Option V,σ=[v0,some (.ref wy)]) ⟨Same.refl _,rfl,none,rfl⟩ (JJ (kas (by lia))) ?_ ?_ ?_
  ·rintro i σ ys H' hi ⟨_,rfl,_⟩
   rw[Jv]
   exact JA (NR _ _) (by rw[List.length_range];exact Jx _)
  ·rintro i σ ys H' hi ⟨s1,rfl,v0,rfl⟩
   rw[Int.zero_add]
   obtain⟨Vc,hV⟩:=at_of (xs:=T.vs) (i:=i) hi
   have vo:=tok.vs Vc (JB hV)
   rwa[8,wy,dxw,fsw,6,s1 _ _ hw,w6,8,wy,t,b,x,T,B,S,hand,used,i,Vc,6,hW.same s1,hT.same s1,hB.same s1,hS.same s1,wf,vo,hV,hl,fun H2 s2=>⟨rfl,_,rfl,?_⟩]
   have ec:canM T B hand used S i=decide (dueM Vc T B hand used S i=.non):=by unfold canM;rw[hV]
   rw[kfB,ec]
   by_cases hn:dueM Vc T B hand used S i=.non
   ·rw[decide_eq_true hn]
    refine iteT ⟨_,rfl,s1.trans s2,?_,_,rfl⟩
    rw[if_pos rfl,JC]
    rfl
   ·rw[decide_eq_false hn]
    refine iteF ⟨s1.trans s2,?_,_,rfl⟩
    rw[if_neg JD,J8]
  ·rintro σ ys H' ⟨s1,rfl,v0,rfl⟩ q hq
   exact kk _ q (s1.trans (kam hq)) (s1.free hq) kae
noncomputable def remM(hand:List Int)(used:List Nat):Nat:=((Jy hand.length).map fun m=>(hand.getD m 0-(used.count m:Int)).toNat).sum
theorem kh4{f g:Nat->Nat}{n:Nat}:∀{L:Nat},n<L->f n=g n+1->(∀m,m≠n->f m=g m)->((Jy L).map f).sum=((Jy L).map g).sum+1
 |0,h,_,_=>by lia
 | L+1,h,h1,h2=>by
  rw[Nk,JC,JC,NC,NC]
  simp only[JG,NZ,J0,Mr]
  by_cases e:n=L
  ·subst e
   have:(Jy n).map f=(Jy n).map g:=NA fun m hm=>h2 m (by have:=Mj.mp hm;lia)
   rw[this,h1]
   lia
  ·rw[kh4 (by lia) h1 h2,h2 L (Ne.symm e)]
   lia
theorem kf4{hand:List Int}{used:List Nat}{n:Nat}(hn:n<hand.length)(h:(used.count n:Int)+1<=hand.getD n 0):remM hand used=remM hand (used++[n])+1:=by
 unfold remM
 refine kh4 hn ?_ fun m hm=>?_
 ·rw[ME,show List.count n [n]=1 by simp]
  generalize hand.getD n 0=g at *
  lia
 ·rw[ME]
  have:List.count m [n]=0:=by simp[Ne.symm hm]
  rw[this]
  simp
theorem kjS:∀(hand:List Int),(∀z∈hand,0<=z)->(remM hand []:Int)=hand.sum:=by
 intro hand h
 have key:∀(L:Nat),L<=hand.length->((((Jy L).map fun m=>(hand.getD m 0-((([]:List Nat).count m:Nat):Int)).toNat).sum:Nat):Int)=(hand.take L).sum:=by
  intro L
  induction L with
  |zero=>intro _;rfl
  |succ L ih=>
   intro hL
   have hz:hand[L]?>>hand[L]:=Nw (by lia)
   have e:hand.take (L+1)=hand.take L++[hand[L]]:=by rw[NQ,hz];rfl
   have h0:=h hand[L] (Mw _)
   rw[Nk,JC,NC,e,NC]
   simp only[JG,NZ,J0,Mr,List.count_nil]
   have eg:hand.getD L 0=hand[L]:=by rw[JM,hz];rfl
   rw[eg]
   have:=ih (by lia)
   simp only[List.count_nil] at this
   lia
 have:=key hand.length (Jx _)
 rw[J4] at this
 exact this
theorem kms{p:Nat->Bool}{f:Nat->Nat}(h:∀m,p m=true->1<=f m):∀L:Nat,((Jy L).filter p).length<=((Jy L).map f).sum
 |0=>Jx _
 | L+1=>by
  have ih:=kms h L
  rw[Nk,NI,JN,JC,NC]
  simp only[JG,NZ,J0,Mr,NB,Mf]
  by_cases e:p L=true
  ·have:=h L e
   rw[if_pos e]
   simp
   lia
  ·rw[if_neg e]
   simp
   lia
noncomputable def fan:Nat->Nat
 |0=>1
 |r+1=>1+(r+1)*fan r
theorem kiI{α:Type}{f:Nat->List α}{k:Nat}:∀{l:List Nat},(∀n∈l,(f n).length<=k)->(l.flatMap f).length<=l.length*k
 |[],_=>by simp
 |a::l,h=>by
  have ih:=kiI (f:=f) (k:=k) (l:=l) fun n hn=>h n (JQ _ hn)
  rw[List.flatMap_cons,JN,Nb,Nat.add_mul,Nat.one_mul]
  have:=h a JS
  lia
theorem kgl:∀{r s:Nat},r<=s->fan r<=fan s
 |r,0,h=>by rw[Nat.le_zero.mp h];exact Jx _
 | r,s+1,h=>by
  by_cases e:r=s+1
  ·rw[e];exact Jx _
  ·have:=kgl (r:=r) (s:=s) (by lia)
   show fan r<=1+(s+1)*fan s
   have h2:fan s<=(s+1)*fan s:=Nat.le_mul_of_pos_left _ (by lia)
   lia
variable{T:TillD}{B:Bask}{hand:List Int}
theorem klR{used:List Nat}{S:Stnd}{n:Nat}(h:canM T B hand used S n=true):n<T.vs.length/\(used.count n:Int)+1<=hand.getD n 0:=by
 unfold canM at h
 cases e:T.vs[n]? with
 |none=>rw[e] at h;cases h
 | some V=>
  rw[e] at h
  rwa[at_lt e,?_]
  have h1:dueM V T B hand used S n=.non:=of_decide_eq_true h
  unfold dueM wordM at h1
  by_cases c1:hand.getD n 0<(used.count n:Int)+1
  ·rw[if_pos c1] at h1
   cases h1
  ·lia
noncomputable def walkM(T:TillD)(B:Bask)(hand:List Int):List Nat->List Nat->Stnd->List Nat×Stnd
 |[],used,S=>(used,S)
 |n::ns,used,S=>match T.vs[n]? with
  |none=>(used,S)
  |some V=>if dueM V T B hand used S n=.non then walkM T B hand ns (used++[n]) (aftM V T.ps (kds B) S) else(used,S)
inductive kju(d:D)(vs:List V)(H:Hp)(Q:VK)(E_:XK):Prop
 |ct(t b h o:Addr)(T:TillD)(B:Bask)(hand:List Int)(order:List Nat)(_:vs=[.ref t, .ref b, .ref h, .ref o])(_:TillIs d H t T)(_:kbw T)(_:BaskIs d.qf d.qg H b B)(_:Wf T.ps B (stnd0 B))(_:H h>>(.lst (hand.map V.int)))(_:H o>>(.lst (order.map iV)))(_:hand.length=T.vs.length)(_:(∀n∈order,n<T.vs.length))(_:order.length<64)(_:∀(H':Hp)(wy x:Addr),Same H H'->H wy=none->WayIs d H' wy t b x hand (walkM T B hand order [] (stnd0 B)).1->StndIs d.qc H' x (walkM T B hand order [] (stnd0 B)).2->Wf T.ps B (walkM T B hand order [] (stnd0 B)).2->Q (.ref wy) H'):kju d vs H Q E_
theorem QA:kat ["till","basket","hand","order","way","number"] ["till","basket","hand","order"] (kah kf1):=by ac_rfl
theorem kgV(W:WB K mg d base):FO P w W 7 d.X9 d.Ya ["till","basket","hand","order"] (kju d):=by
 exists W.QU.F,QA
 ·obtain⟨t,b,h,o,T,B,hand,order,rfl,hT,tok,hB,wf0,hh,ho,hl,hlt,h64,k⟩:=h
  exists Xl,ke2,W
  exists Qg,kci,W
  exists Ub,kgd,W
  have hr5:Room 5 _:=hr.mono (by decide)
  refine⟨_,kab (psl (i:=4) QA.nd (kbA (W.Qb.mk' W.c_Way) Xl hr5 rfl W.c_Way.m W.Qb.b .nil pass0 (kaa (pv 0) (kaa (pv 1) (kaa (pv 2) kad)))))
   (kab (ka7 PassesOwn.never rfl (kaB (K:=K) (pv 3)) (pgn (i:=5) QA.nd)
   (kab (ps_if (kan kdZ (kf8 (pv 4) W.c_Way.cl W.qO.me Qg hr5 W.qO.b .nil pass0 (kaa (pv 5) kad)) kbo (kau _)) (kag (kaq (pv 4))) (kar))
   (kag (psl (i:=4) QA.nd (kf8 (pv 4) W.c_Way.cl W.Xb.me Ub hr W.Xb.b .nil pass0 (kaa (pv 5) kad))))))
   (kag (kaq (pv 4)))),?_⟩
  generalize eR:walkM T B hand order [] (stnd0 B)=R at k
  exists Y4
  rwa[8,8,8,kme hh hB wf0.nl wf0.ok fun H1 y0 x0 s1 fy0 fx0 hy0N hx0=>?_]
  have hy0:=hy0N.at
  symm
  exists Y4
  refine⟨_,rfl,o,rfl,⟨_,SqL.of (s1 _ _ ho)⟩,ka9 (xs:=order.map iV) (fun i σ H'=>Same H H'/\∃(y x:Addr)(used:List Nat)(S:Stnd)(v5:Option V),WayIs d H' y t b x hand used/\H y=none/\StndIs d.qc H' x S/\Wf T.ps B S/\used.length=i/\walkM T B hand (order.drop i) used S=R/\σ=[some (.ref t),some (.ref b),some (.ref h),some (.ref o),some (.ref y),v5])
   ⟨s1,y0,x0,[],_,none,hy0.most (by decide),fy0,hx0,wf0,rfl,eR,rfl⟩ (fun i σ H' _ h=>SqL.of (h.1 _ _ ho)) ?_ ?_⟩
  ·rintro i yv σ H' hyv ⟨sI,y,x,used,S,v5,hY,fy,hx,wf,hul,hwalk,rfl⟩
   obtain⟨n,en,rfl⟩:∃n,order[i]?>>n/\yv=iV n:=kbO hyv
   have hi:=at_lt en
   obtain⟨Vc,hV⟩:=at_of (hlt n (JB en))
   have vo:=tok.vs Vc (JB hV)
   have ed:order.drop i=n::order.drop (i+1):=by
    obtain⟨h1,h2⟩:=JK.mp en
    rw[MW h1,h2]
   rw[ed] at hwalk
   have hwk:=hwalk
   unfold walkM at hwk
   rw[hV] at hwk
   simp only at hwk
   obtain⟨dxw,fsw,hd,u,hw,w1,w2,w3,w4,w5,w6,w7,w8,w9,w10,hh',hu⟩:=id hY
   symm
   exists Y6
   rwa[8,y,dxw,fsw,6,hw,w6,8,y,t,b,x,T,B,S,hand,used,n,Vc,6,hY,hT.same sI,hB.same sI,hx,wf,vo,hV,hl,fun H2 s2=>⟨rfl,_,rfl,?_⟩]
   have s02:=sI.trans s2
   by_cases hn:dueM Vc T B hand used S n=.non
   ·rw[if_pos hn] at hwk
    rw[hn]
    rw[show(!decide (V.non=V.non))=false by simp]
    refine iteF ?_
    nofun
    exists Y8
    rwa[8,y,dxw,fsw,6,s2 _ _ hw,w7,8,y,t,b,x,T,B,S,hand,used,n,Vc,6,hY.same s2,hT.same s02,hB.same s02,hx.same s2,wf,vo,hV,by lia,fun H3 y' x' s3 fy' hY1 hx1=>?_]
    have hY':=hY1.at
    have hx':=hx1.is
    exists 3
    rwa[s02.trans s3,y',x',used++[n],_,_,hY',s02.free fy',hx',wf.after vo,by rw[JN,hul];rfl,hwk,6]
   ·rw[if_neg hn] at hwk
    rw[show(!decide (dueM Vc T B hand used S n=V.non))=true by simp[hn]]
    refine iteT ?_
    exists 3
    exists Y8
    rwa[8,k H2 y x s02 fy ?_ ?_ ?_]
    ·rw[<-hwk];exact hY.same s2
    ·rw[<-hwk];exact hx.same s2
    ·rw[<-hwk];exact wf
  ·rintro σ H' ⟨sI,y,x,used,S,v5,hY,fy,hx,wf,hul,hwalk,rfl⟩
   rw[Jv,List.drop_length] at hwalk
   have hwk:=hwalk
   unfold walkM at hwk
   nofun
   exists Y6
   rwa[8,k H' y x sI fy ?_ ?_ ?_]
   ·rw[<-hwk];exact hY
   ·rw[<-hwk];exact hx
   ·rw[<-hwk];exact wf
noncomputable def kb5(T:TillD)(B:Bask)(hand:List Int)(order:List Nat):Option (Nat×L2.V):=
 let r:=walkM T B hand order [] (stnd0 B)
 if r.1.length<order.length then match T.vs[order.getD r.1.length 0]? with
  |none=>none
  |some V=>some (r.1.length,dueM V T B hand r.1 r.2 (order.getD r.1.length 0))
 else if(onlyM T.rs r.1).isNone=true then none else some (r.1.length, .str "only")
def FltIs(H:Hp)(v:L2.V):Option (Nat×L2.V)->Prop
 |none=>v=.non
 |some (k,z)=>∃a,v=.ref a/\H a>>(.tup [iV k,z])
inductive kjG(d:D)(vs:List V)(H:Hp)(Q:VK)(E_:XK):Prop
 |ct(t b h o:Addr)(T:TillD)(B:Bask)(hand:List Int)(order:List Nat)(_:vs=[.ref t, .ref b, .ref h, .ref o])(_:TillIs d H t T)(_:kbw T)(_:BaskIs d.qf d.qg H b B)(_:Wf T.ps B (stnd0 B))(_:H h>>(.lst (hand.map V.int)))(_:H o>>(.lst (order.map iV)))(_:hand.length=T.vs.length)(_:(∀n∈order,n<T.vs.length))(_:order.length<64)(_:∀(H':Hp)(v:L2.V),Same H H'->FltIs H' v (kb5 T B hand order)->Q v H'):kjG d vs H Q E_
theorem Xn:kat ["till","basket","hand","order","way","place"] ["till","basket","hand","order"] (kah khz):=by ac_rfl
theorem kiv(W:WB K mg d base):FO P w W 8 d.X7 d.X8 ["till","basket","hand","order"] (kjG d):=by
 exists W.Qn.F,Xn
 ·obtain⟨t,b,h,o,T,B,hand,order,rfl,hT,tok,hB,wf0,hh,ho,hl,hlt,h64,k⟩:=h
  exists Xo,kgV,W
  exists Qg,kci,W
  exists Xp,kcP,W
  have hr2:Room 2 _:=hr.mono (by decide)
  have hr5:Room 5 _:=hr.mono (by decide)
  refine⟨_,kab (psl (i:=4) Xn.nd (pcl Xo hr W.QU (kaa (pv 0) (kaa (pv 1) (kaa (pv 2) (kaa (pv 3) kad))))))
   (kab (psl (i:=5) Xn.nd (kao (r:=kaG K) kap (by rfl) W.B.len b_len (kaa (kaj (K:=K) (pv 4) rfl) kad)))
   (kab (ps_if (kan op_lt (pv 5) (kao (r:=kaG K) kap (by rfl) W.B.len b_len (kaa (pv 3) kad)) (kau _)) (kag (kaq (kb4 (kaa (pv 5) (kaa (kf8 (pv 4) W.c_Way.cl W.qO.me Qg hr5 W.qO.b .nil pass0 (kaa (pe_ix (r:=rIxL K) kaH (pv 3) (pv 5) (fun _ _=>rfl)) kad)) kad))))) (kar))
   (kab (ps_if (kgQ (kaQ (kco (pv 4) W.c_Way.cl W.Qc.me Xp hr2 W.Qc.b .nil pass0))) (kag (kaq (kb4 (kaa (pv 5) (kaa kbN kad))))) (kar))
   (kag (kaq kbo))))),?_⟩
  exists Y4
  rwa[8,8,8,8,t,b,h,o,T,B,hand,order,6,hT,tok,hB,wf0,hh,ho,hl,hlt,h64,fun H1 y x s1 fy hY hx wf=>?_]
  unfold kb5 at k
  simp only at k
  generalize walkM T B hand order [] (stnd0 B)=r at *
  obtain⟨used,S⟩:=r
  simp only at *
  obtain⟨dxw,fsw,hd,u,hw,w1,w2,w3,w4,w5,w6,w7,w8,w9,w10,hh',hu⟩:=id hY
  nomatch y,d.c_Way,dxw,fsw,8,hw,W.c_Way.cl,W.qr,w4,u,8, .inl (SqL.of hu),?_
  rw[Jv]
  nomatch 8,o,8, .inl (SqL.of (s1 _ _ ho)),9,8,?_
  rw[Jv]
  by_cases hlen:used.length<order.length
  ·rw[if_pos hlen] at k
   rw[show decide ((used.length:Int)<(order.length:Int))=true by simp;exact hlen]
   obtain⟨n,en⟩:=at_of hlen
   have eg:order.getD used.length 0=n:=by rw[JM,en];rfl
   obtain⟨Vc,hV⟩:=at_of (hlt n (JB en))
   rw[eg,hV] at k
   have vo:=tok.vs Vc (JB hV)
   refine iteT ?_
   symm
   exists Y6
   rwa[8,8,y,dxw,fsw,6,hw,w6,8,8,o,_,9,SqL.of (s1 _ _ ho),kaK (v:=iV n) (by rw[JF,en];rfl),y,t,b,x,T,B,S,hand,used,n,Vc,6,hY,hT.same s1,hB.same s1,hx,wf,vo,hV,hl,fun H2 s2=>?_]
   nofun
   exists Y6
   rwa[(by show 2<=sizeLine;decide),fun q hq=>?_]
   nofun
   exact k _ _ ((s1.trans s2).trans (kam hq)) ⟨q,rfl,kae⟩
  ·rw[if_neg hlen] at k
   rw[show decide ((used.length:Int)<(order.length:Int))=false by simp;lia]
   refine iteF ?_
   nofun
   exists Y6
   rwa[8,y,dxw,fsw,6,hw,w8,y,t,b,x,T,hand,used,6,hY,hT.same s1,8,?_]
   cases e:(onlyM T.rs used).isNone with
   |true=>
    rw[e,if_pos rfl] at k
    refine iteF ?_
    nofun
    exact k H1 _ s1 rfl
   |false=>
    rw[e,if_neg JD] at k
    refine iteT ?_
    nofun
    exists Y8
    rwa[8,(by show 2<=sizeLine;decide),fun q hq=>?_]
    exists 3
    exact k _ _ (s1.trans (kam hq)) ⟨q,rfl,kae⟩
noncomputable def comeM(V:Vch)(hand:List Int)(used:List Nat)(n:Nat):Int:=
 if V.ms.once=true then(if used.contains n=true then 0 else if 1<hand.getD n 0-(used.count n:Int) then 1 else hand.getD n 0-(used.count n:Int)) else hand.getD n 0-(used.count n:Int)
inductive kl5(d:D)(vs:List V)(H:Hp)(Q:VK)(E_:XK):Prop
 |ct(wy t b x:Addr)(T:TillD)(hand:List Int)(used:List Nat)(n:Nat)(V:Vch)(_:vs=[.ref wy,iV n])(_:WayIs d H wy t b x hand used)(_:TillIs d H t T)(_:T.vs[n]?>>V)(_:hand.length=T.vs.length)(_:Q (.int (comeM V hand used n)) H):kl5 d vs H Q E_
theorem Vt:kat ["way","number","many"] ["way","number"] (kah kcr):=by ac_rfl
theorem keT(W:WB K mg d base):FO P w W 1 d.Yl d.Ym ["way","number"] (kl5 d):=by
 exists W.ZH.F,Vt
 ·obtain⟨wy,t,b,x,T,hand,used,n,Vc,rfl,hW,hT,hn,hl,kk⟩:=h
  obtain⟨dxw,fsw,h,u,hw,w1,w2,w3,w4,w5,w6,w7,w8,w9,w10,hh,hu⟩:=id hW
  obtain⟨dx,fs,p,vl,rl,va,ra,ht,t1,t2,t3,t4,hp,hvl,hva,hrl,hra⟩:=id hT
  refine⟨_,kab (psl (i:=2) Vt.nd (pe_op kdx (pe_ix (r:=rIxL K) kaH (kaj (K:=K) (pv 0) rfl) (pv 1) (fun _ _=>rfl)) (pe_bm Nh M8 M9 kez (kaj (K:=K) (pv 0) rfl) (kaa (pv 1) kad))))
   (kab (ps_if (kaQ (kaj (K:=K) (kaj (K:=K) (pe_ix (r:=rIxL K) kaH (kaj (K:=K) (kaj (K:=K) (pv 0) rfl) rfl) (pv 1) (fun _ _=>rfl)) rfl) rfl)) (kag (kaq (kex (kan kch (pv 1) (kaj (K:=K) (pv 0) rfl) (by with_unfolding_all rfl)) kaf (kao (kbS rfl) (by rfl) W.B.min b_min (kaa (pv 2) (kaa kaf kad)))))) (kar))
   (kag (kaq (pv 2)))),?_⟩
  obtain⟨v,ev⟩:=at_of (xs:=va) (i:=n) (by rw[hva.len];exact at_lt hn)
  obtain⟨Vc',eV',hV⟩:=hva.at ev
  rw[hn] at eV'
  cases eV'
  obtain⟨mA,dxv,fsv,hv,lvm,_,⟨dxm,fsm,hm,m1,m2,m3,m4,m5,m6⟩,hh',_⟩:=id hV
  obtain⟨z,ez⟩:=at_of (xs:=hand) (i:=n) (by rw[hl];exact at_lt hn)
  have eg:hand.getD n 0=z:=by rw[JM,ez];rfl
  have eu:H u>>(.lst ((used.map fun(i:Nat)=>(i:Int)).map V.int)):=by rw[hu,JO];rfl
  rwa[8,wy,d.c_Way,dxw,fsw,8,hw,W.c_Way.cl,W.Qt,w3,8,h,_,9,SqL.of hh,kaK (v:=V.int z) (by rw[JF,ez];rfl),8,wy,d.c_Way,dxw,fsw,8,hw,W.c_Way.cl,W.qr,w4, .inl ⟨rfl,_,SqL.of hu⟩,8,u,9,eu,9,?_]
  rw[kgp]
  rwa[8,wy,d.c_Way,dxw,fsw,8,hw,W.c_Way.cl,W.qq,w1,t,d.qd,dx,fs,8,ht,W.qd.cl,W.qt,t2,8,vl,_,9,SqL.of hvl,kaK (v:=.ref v) (by rw[JF,ev];rfl),v,clsOf d Vc.so,dxv,fsv,8,hv,cl_of W hh',na_of W hh',lvm,mA,d.qe,dxm,fsm,8,hm,W.qe.cl,W.Qq,m5,Vc.ms.once,6,?_]
  unfold comeM at kk
  rw[eg] at kk
  cases eo:Vc.ms.once with
  | true=>
   rw[eo,if_pos rfl] at kk
   refine iteT ⟨_,rfl,_,rfl,wy,d.c_Way,dxw,fsw,_,rfl,hw,W.c_Way.cl,W.qr,w4,u,_,rfl, .inl (SqL.of hu),rfl,ka1 _,_,rfl,?_⟩
   rw[if_neg JD,kcE]
   cases hc:used.contains n with
   |true=>
    rw[hc,if_pos rfl] at kk
    exact iteT kk
   |false=>
    rw[hc,if_neg JD] at kk
    exact iteF ⟨_,rfl,_,_,rfl,kk⟩
  |false=>
   rw[eo,if_neg JD] at kk
   exact iteF ⟨_,rfl,kk⟩
noncomputable def sumR(T:TillD)(B:Bask)(hand:List Int)(used:List Nat)(S:Stnd):Nat->Int
 |0=>0
 |k+1=>sumR T B hand used S k+(match T.vs[k]? with|none=>0|some V=>kbE V T.ps (kds B) S*comeM V hand used k)
noncomputable def kaO(S:Stnd):Int:=S.pr.sum+S.cg
noncomputable def kcp(T:TillD)(B:Bask)(hand:List Int)(used:List Nat)(S:Stnd):Int:=
 if 0 > kaO S-sumR T B hand used S T.vs.length then 0 else kaO S-sumR T B hand used S T.vs.length
theorem kfN{V:Vch}{hand:List Int}{used:List Nat}{n:Nat}(h:∀z∈hand,0<=z/\z<=100)(hu:used.length<=64): -1000<comeM V hand used n/\comeM V hand used n<1000:=by
 have hc:used.count n<=64:=JA List.count_le_length hu
 have hg:0<=hand.getD n 0/\hand.getD n 0<=100:=by
  rw[JM]
  cases e:hand[n]? with
  |none=>exact⟨by decide,by decide⟩
  |some z=>exact h z (JB e)
 unfold comeM
 generalize hand.getD n 0=g at *
 split
 ·split
  ·lia
  ·split <;> lia
 ·lia
inductive kjC(d:D)(vs:List V)(H:Hp)(Q:VK)(E_:XK):Prop
 |ct(wy t b x:Addr)(T:TillD)(B:Bask)(S:Stnd)(hand:List Int)(used:List Nat)(_:vs=[.ref wy])(_:WayIs d H wy t b x hand used)(_:TillIs d H t T)(_:kbw T)(_:BaskIs d.qf d.qg H b B)(_:StndIs d.qc H x S)(_:Wf T.ps B S)(_:hand.length=T.vs.length)(_:(∀z∈hand,0<=z/\z<=100))(_:used.length<=64)(_:∀H',Same H H'->Q (.int (kcp T B hand used S)) H'):kjC d vs H Q E_
theorem Qh:kat ["way","least","number","voucher"] ["way"] (kah kcs):=by ac_rfl
theorem keU(W:WB K mg d base):FO P w W 5 d.Yj d.Yk ["way"] (kjC d):=by
 exists W.ZG.F,Qh
 ·obtain⟨wy,t,b,x,T,B,S,hand,used,rfl,hW,hT,tok,hB,hS,wf,hl,hz,h64,kk⟩:=h
  obtain⟨dxw,fsw,h,u,hw,w1,w2,w3,w4,w5,w6,w7,w8,w9,w10,hh,hu⟩:=id hW
  obtain⟨dx,fs,p,vl,rl,va,ra,ht,t1,t2,t3,t4,hp,hvl,hva,hrl,hra⟩:=id hT
  obtain⟨o,pp,mk,⟨dxs,fss,hxs,l1,l2,l3,l4,l5⟩,ho,hpp,hmk⟩:=id hS
  exists qD,ka4,W
  exists Xq,kiu,W
  exists Uc,keT,W
  have hr1:Room 1 _:=hr.mono (by decide)
  refine⟨_,kab (psl (i:=1) Qh.nd (kco (kaj (K:=K) (pv 0) rfl) W.qc.cl W.qw.me qD hr1 W.qw.b .nil pass0))
   (kab (ka7 PassesOwn.never rfl (khD rfl W.B.enum (kaa (kaj (K:=K) (kaj (K:=K) (pv 0) rfl) rfl) kad)) (kbh (K:=K) (n:=2) rfl (kaw (pgn (i:=2) Qh.nd) (kaw (pgn (i:=3) Qh.nd) kbg)))
   (kag (kjZ (i:=1) Qh.nd rfl (Or.inl rfl) (pe_op kcg (pcl Xq hr W.QQ (kaa (pv 3) (kaa (kaj (K:=K) (kaj (K:=K) (pv 0) rfl) rfl) (kaa (kaj (K:=K) (pv 0) rfl) (kaa (kaj (K:=K) (pv 0) rfl) kad))))) (pcl Uc hr1 W.ZH (kaa (pv 0) (kaa (pv 2) kad)))) kml)))
   (kag (kaq (kao (kdM rfl) (by rfl) W.B.max b_max (kaa (pv 1) (kaa kaf kad)))))),?_⟩
  have lva:=hva.len
  rwa[8,wy,d.c_Way,dxw,fsw,8,hw,W.c_Way.cl,W.qI,w5,x,dxs,fss,6,hxs,l5,x,o,pp,mk,S.cg,S.pr,6,⟨dxs,fss,hxs,l1,l2,l3,l4,l5⟩,hpp,?_]
  refine⟨_,rfl,wy,d.c_Way,dxw,fsw,_,rfl,hw,W.c_Way.cl,W.qq,w1,t,d.qd,dx,fs,_,rfl,ht,W.qd.cl,W.qt,t2,vl,_,rfl,hvl,kiH (xs:=va.map V.ref) (fun i σ H'=>Same H H'/\∃v2 v3:Option V,σ=[some (.ref wy),some (.int (kaO S-sumR T B hand used S i)),v2,v3])
   ⟨Same.refl _,none,none,by show _=[some (V.ref wy),some (V.int (kaO S-0)),none,none];rw[Int.sub_zero];rfl⟩ (fun i σ H' _ h=>h.1 _ _ hvl) ?_ ?_⟩
  ·rintro i y tp σ Hi' hy ⟨si',v2,v3,rfl⟩ ftp
   obtain⟨v,ev,rfl⟩:=kba hy
   obtain⟨Vc,eV,hV⟩:=hva.at ev
   exists Hi',tp,Hi,np,ep,ftp
   have si:=si'.trans np
   have vo:=tok.vs Vc (JB eV)
   have hcs:=kfN (V:=Vc) (n:=i) hz h64
   rwa[tp,8,SqT.of ep,6,_,8,9,?_]
   rwa[8,8,8,wy,d.c_Way,dxw,fsw,8,si _ _ hw,W.c_Way.cl,W.qq,w1,t,d.qd,dx,fs,8,si _ _ ht,W.qd.cl,W.qS,t1,8,wy,d.c_Way,dxw,fsw,8,si _ _ hw,W.c_Way.cl,W.Qa,w2,8,wy,d.c_Way,dxw,fsw,8,si _ _ hw,W.c_Way.cl,W.qI,w5,v,p,b,x,Vc,T.ps,B,S,6,hV.same si,SqL.of (si _ _ hp),hB.same si,hS.same si,wf,vo,fun H4 s4=>?_]
   have s04:=si.trans s4
   rwa[8,8,wy,t,b,x,T,hand,used,i,Vc,6,hW.same s04,hT.same s04,eV,hl,9, .inr ⟨by lia,by lia⟩,9,?_]
   rwa[s04,some (iV i),some (.ref v),?_]
   have es:sumR T B hand used S (i+1)=sumR T B hand used S i+kbE Vc T.ps (kds B) S*comeM Vc hand used i:=by
    show sumR T B hand used S i+(match T.vs[i]? with|none=>0|some V=>kbE V T.ps (kds B) S*comeM V hand used i)=_
    rw[eV]
   rw[es,<-Int.sub_sub]
   rfl
  ·rintro σ H' ⟨s1,v2,v3,rfl⟩
   rw[Jv,lva]
   rwa[8,_,8,kk H' s1]
def EntAt(H:Hp)(e:Addr)(q:List Nat×Int×Int):Prop:=∃l,H e>>(.tup [.ref l, .int q.2.1, .int q.2.2])/\H l>>(.lst (q.1.map iV))
theorem EntAt.same{H H':Hp}{e:Addr}{q:List Nat×Int×Int}(s:Same H H'):EntAt H e q->EntAt H' e q:=by rintro⟨l,h1,h2⟩;exact⟨l,s _ _ h1,s _ _ h2⟩
noncomputable def kyO(u:List Nat):List Key:=u.map fun(n:Nat)=>Sum.inl (n:Int)
theorem kmi(u:List Nat):(kyO u).map kV=u.map iV:=by
 unfold kyO
 rw[JO]
 rfl
theorem km2{u v:List Nat}(h:kyO u=kyO v):u=v:=(EF (fun _ _ h=>by injection h with h;lia)).mp h
def WayR(d:D)(H:Hp)(t b:Addr)(ps:List (Option Nat))(B:Bask)(hand:List Int)(wy:Addr)(r:List Nat×Stnd):Prop:=∃x,WayIs d H wy t b x hand r.1/\StndIs d.qc H x r.2/\Wf ps B r.2
theorem WayR.same{d:D}{H H':Hp}{t b:Addr}{ps:List (Option Nat)}{B:Bask}{hand:List Int}{wy:Addr}{r:List Nat×Stnd}(s:Same H H'):WayR d H t b ps B hand wy r->WayR d H' t b ps B hand wy r:=by rintro⟨x,h1,h2,h3⟩;exact⟨x,h1.same s,h2.same s,h3⟩
inductive kh6(d:D)(vs:List V)(H:Hp)(Q:VK)(E_:XK):Prop
 |ct(wy t b g:Addr)(T:TillD)(B:Bask)(hand:List Int)(r:List Nat×Stnd)(gk:List (List Key×V))(_:vs=[.ref wy, .ref g])(_:WayR d H t b T.ps B hand wy r)(_:TillIs d H t T)(_:kbw T)(_:BaskIs d.qf d.qg H b B)(_:hand.length=T.vs.length)(_:r.1.length<=64)(_:H g>>(.dT gk))(_:∀(H':Hp),Same H H'->Q (.bl ((folM T B hand r.1 r.2).all fun n=>(valV gk (kyO (r.1++[n]))).isSome)) H'):kh6 d vs H Q E_
theorem Vu:kat ["way","entered","number"] ["way","entered"] (kah kbW):=by ac_rfl
theorem kd2(W:WB K mg d base):FO P w W 7 d.Yt d.Yu ["way","entered"] (kh6 d):=by
 exists W.ZL.F,Vu
 ·obtain⟨wy,t,b,g,T,B,hand,r,gk,rfl,⟨x,hW,hS,wf⟩,hT,tok,hB,hl,h64,hg,kk⟩:=h
  obtain⟨dxw,fsw,h,u,hw,w1,w2,w3,w4,w5,w6,w7,w8,w9,w10,hh,hu⟩:=id hW
  exists Ud,keq,W
  refine⟨_,kab (ka7 PassesOwn.never rfl (kaB (K:=K) (kco (pv 0) W.c_Way.cl W.Xc.me Ud hr W.Xc.b .nil pass0)) (pgn (i:=2) Vu.nd)
   (kag (ps_if (kl7 (kgR (hu_of hr) (kaJ (r:=kjV K) khe (by rfl) W.B.tuple kkX (kaa (pe_op kit (kaj (K:=K) (pv 0) rfl) (kaX (kaa (pv 2) kad))) kad)) (pv 1))) (kag (kaq pe_bl)) (kar))))
   (kag (kaq pe_bl)),?_⟩
  rwa[8,wy,dxw,fsw,6,hw,w9,wy,t,b,x,T,B,r.2,hand,r.1,6,hW,hT,tok,hB,hS,wf,hl,fun H1 f s1 ff ef=>?_]
  refine⟨f,rfl,⟨_,SqL.of ef⟩,ka9 (xs:=(folM T B hand r.1 r.2).map iV) (fun i σ H'=>Same H1 H'/\(∀j n,j<i->(folM T B hand r.1 r.2)[j]?>>n->(valV gk (kyO (r.1++[n]))).isSome=true)/\∃(v2:Option V),σ=[some (.ref wy),some (.ref g),v2])
   ⟨Same.refl _,fun j n hj=>by lia,none,rfl⟩ (fun i σ H' _ h=>SqL.of (h.1 _ _ ef)) ?_ ?_⟩
  ·rintro i y σ H2 hy ⟨s2,hall,v2,rfl⟩
   obtain⟨n,en,rfl⟩:=kbO hy
   have s02:=s1.trans s2
   rwa[8,wy,d.c_Way,dxw,fsw,8,s02 _ _ hw,W.c_Way.cl,W.qr,w4,8,(by show 1<=sizeLine;decide),fun a3 fa3=>?_]
   exists H2,a3,H3,n3,e3,fa3
   rwa[u,a3,9,(s02.trans n3) _ _ hu,e3,JJ (kas (by rw[Jv];show r.1.length+1<=1000;lia)),fun c fc=>?_]
   have ec:r.1.map iV++[iV n]=(r.1++[n]).map iV:=by
    rw[JC]
    rfl
   rw[ec]
   exists H3,c,H4,n4,e4,fc
   rwa[c,8,SqL.of e4,fun k5 fk5=>?_]
   exists H4,k5,H5,n5,e5,fk5
   have s25:=(n3.trans n4).trans n5
   have hget:=DGet.t (k:=kyO (r.1++[n])) ((s02.trans s25) _ _ hg) (show H5 k5>>(.tup ((kyO (r.1++[n])).map kV)) by rw[kmi];exact e5)
   rwa[8,g,8,hget,8,?_]
   cases c9:(valV gk (kyO (r.1++[n]))).isSome with
   | true=>
    refine iteF ⟨s2.trans s25,fun j m hj em=>?_,_,rfl⟩
    by_cases e:j=i
    ·subst e
     rw[en] at em
     cases em
     exact c9
    ·exact hall j m (by lia) em
   |false=>
    refine iteT ?_
    have:=kk H5 (s02.trans s25)
    rw[show((folM T B hand r.1 r.2).all fun n=>(valV gk (kyO (r.1++[n]))).isSome)=false from List.all_eq_false.mpr ⟨n,JB en,by rw[c9];exact JD⟩] at this
    exact this
  ·rintro σ H2 ⟨s2,hall,v2,rfl⟩
   rw[Jv] at hall
   have:=kk H2 (s1.trans s2)
   rw[show((folM T B hand r.1 r.2).all fun n=>(valV gk (kyO (r.1++[n]))).isSome)=true from Ma.mpr fun n hn=>by
    obtain⟨j,ej⟩:=Ms hn
    exact hall j n (at_lt ej) ej] at this
   exact this
def khZ(T:TillD)(B:Bask)(hand:List Int)(rs:List (List Nat×Stnd))(qs:List (List Nat×Int×Int))(total:Int):Prop:=(∃r∈rs,r.1=[])/\∀(i:Nat)(r:List Nat×Stnd)(q:List Nat×Int×Int),rs[i]?>>r->qs[i]?>>q->q.2.2<total->∀n∈folM T B hand r.1 r.2,∃r'∈rs,r'.1=r.1++[n]
inductive kgD(d:D)(vs:List V)(H:Hp)(Q:VK)(E_:XK):Prop
 |ct(wl pp t b:Addr)(total:Int)(wa ea:List Addr)(T:TillD)(B:Bask)(hand:List Int)(rs:List (List Nat×Stnd))(qs:List (List Nat×Int×Int))(_:vs=[.ref wl, .ref pp, .int total])(_:H wl>>(.lst (wa.map V.ref)))(_:H pp>>(.lst (ea.map V.ref)))(_:P2 (WayR d H t b T.ps B hand) wa rs)(_:P2 (fun e q=>EntAt H e q) ea qs)(_:rs.length=qs.length)(_:rs.length<=1000)(_:(∀r∈rs,r.1.length<=64))(_:TillIs d H t T)(_:kbw T)(_:BaskIs d.qf d.qg H b B)(_:hand.length=T.vs.length)(_:∀(H':Hp)(c:Bool),Same H H'->(c=true↔khZ T B hand rs qs total)->Q (.bl c) H'):kgD d vs H Q E_
theorem Qi:kat ["ways","paper","total","entered","way","entry"] ["ways","paper","total"] (kah kbH):=by ac_rfl
theorem kdz(W:WB K mg d base):FO P w W 8 d.Yr d.Ys ["ways","paper","total"] (kgD d):=by
 exists W.ZK.F,Qi
 ·obtain⟨wl,pp,t,b,total,wa,ea,T,B,hand,rs,qs,rfl,hwl,hpp,hwa,hea,hlen,lrs,h64,hT,tok,hB,hl,kk⟩:=h
  have lwa:=hwa.len
  have lea:=hea.len
  exists Ue,kd2,W
  refine⟨_,kab (psl (i:=3) Qi.nd klj)
   (kab (ka7 PassesOwn.never rfl (kaB (K:=K) (pv 0)) (pgn (i:=4) Qi.nd)
   (kag (kmL (hu_of hr) (pv 3) (kaJ (r:=kjV K) khe (by rfl) W.B.tuple kkX (kaa (kaj (K:=K) (pv 4) rfl) kad)) pe_bl rfl)))
   (kab (ps_if (kl7 (kgR (hu_of hr) (kb4 kad) (pv 3))) (kag (kaq pe_bl)) (kar))
   (kab (ka7 PassesOwn.never rfl (kdY rfl W.B.zip (kaa (pv 0) (kaa (pv 1) kad))) (kbh (K:=K) (n:=2) rfl (kaw (pgn (i:=4) Qi.nd) (kaw (pgn (i:=5) Qi.nd) kbg)))
   (kag (ps_if (PW.pt (kbb (kan op_lt (pe_ix (r:=rIxT K) kdl (pv 5) kaf (fun _ _=>rfl)) (pv 2) (kau _)) (kaU (kgQ (kaQ (pcl Ue hr W.ZL (kaa (pv 4) (kaa (pv 3) kad)))))))) (kag (kaq pe_bl)) (kar))))
   (kag (kaq pe_bl))))),?_⟩
  intro m fm
  exists H,m,H1,n1,e1,fm
  refine⟨_,rfl,wl,rfl,⟨_,SqL.of (n1 _ _ hwl)⟩,ka9 (xs:=wa.map V.ref) (fun i σ H'=>Same H H'/\∃(kvs:List (List Key×V))(v4:Option V),H' m>>(.dT kvs)/\kvs.length<=i/\(∀u,(valV kvs (kyO u)).isSome=true↔∃r∈rs.take i,r.1=u)/\σ=[some (.ref wl),some (.ref pp),some (.int total),some (.ref m),v4,none])
   ⟨n1,[],none,e1,Jx _,fun u=>by simp[valV],rfl⟩ (fun i σ H' _ h=>SqL.of (h.1 _ _ hwl)) ?_ ?_⟩
  ·rintro i y σ H' hy ⟨s,kvs,v4,em,lk,hk,rfl⟩
   obtain⟨wy,ew,rfl⟩:=kba hy
   obtain⟨r,er,x,hW,hS,wf⟩:=hwa.at ew
   have hi:=at_lt er
   obtain⟨dxw,fsw,h,u,hw,w1,w2,w3,w4,w5,w6,w7,w8,w9,w10,hh,hu⟩:=id hW
   rwa[8,8,wy,d.c_Way,dxw,fsw,8,s _ _ hw,W.c_Way.cl,W.qr,w4,u,8,SqL.of (s _ _ hu),fun k fk=>?_]
   exists H',k,H2,n2,e2,fk
   have em2:=n2 _ _ em
   rwa[m,8,DPut.t (k:=kyO r.1) em2 (by rw[kmi];exact e2) (kas (by lia)),kav fm (s.trans n2) (nx em2),_,_,kae,JA (kdp _ _ _) (by lia),fun u'=>?_,6]
   rw[kk6,take_snoc er]
   by_cases c:kyO u'=kyO r.1
   ·rw[if_pos c]
    rwa[fun _=>⟨r,Nm _ JS,(km2 c).symm⟩,fun _=>rfl]
   ·rw[if_neg c,hk u']
    constructor
    ·rintro⟨z,hz,e⟩
     rwa[z,MF _ hz,e]
    ·rintro⟨z,hz,e⟩
     rcases Na.mp hz with h|h
     ·rwa[z,h,e]
     ·have ez:z=r:=by simpa using h
      rw[ez] at e
      exact absurd (by rw[e]) c
  rintro σ H2 ⟨s2,kvs,v4,em,lk,hk,rfl⟩
  rw[Jv,lwa,J4] at hk
  rwa[(by show 0<=sizeLine;decide),fun k3 fk3=>?_]
  exists H2,k3,H3,n3,e3,fk3
  have hget:=DGet.t (k:=kyO []) (n3 _ _ em) (show H3 k3>>(.tup ((kyO []).map kV)) by exact e3)
  rwa[8,m,8,hget,8,?_]
  have s03:=s2.trans n3
  cases c0:(valV kvs (kyO [])).isSome with
  |false=>
   refine iteT (kk H3 false s03 ⟨fun z=>(by cases z),fun z=>?_⟩)
   have:=(hk []).mpr z.1
   rw[c0] at this
   cases this
  | true=>
   have hnil:=(hk []).mp c0
   refine iteF ?_
   refine⟨_,rfl,_,rfl,wl,pp,_,_,rfl,s03 _ _ hwl,s03 _ _ hpp,kgk (xs:=wa.map V.ref) (ys:=ea.map V.ref) (fun i σ H'=>Same H3 H'/\(∀(j:Nat)(r:List Nat×Stnd)(q:List Nat×Int×Int),j<i->rs[j]?>>r->qs[j]?>>q->q.2.2<total->∀n∈folM T B hand r.1 r.2,∃r'∈rs,r'.1=r.1++[n])/\∃(v4 v5:Option V),σ=[some (.ref wl),some (.ref pp),some (.int total),some (.ref m),v4,v5])
    ⟨Same.refl _,fun j r q hj=>by lia,_,_,rfl⟩ (fun i σ H' _ h=>⟨(s03.trans h.1) _ _ hwl,(s03.trans h.1) _ _ hpp⟩) ?_ ?_⟩
   ·rintro i y1 y2 t2 σ H4 hy1 hy2 ⟨s4,hall,v4,v5,rfl⟩ ht2
    obtain⟨wy,ew,rfl⟩:=kba hy1
    obtain⟨e,ee,rfl⟩:=kba hy2
    obtain⟨r,er,hWR⟩:=hwa.at ew
    obtain⟨q,eq,l,he,hle⟩:=hea.at ee
    exists H4,t2,H5,n5,e5,ht2
    have s35:=s4.trans n5
    have s05:=s03.trans s35
    rwa[t2,8,SqT.of e5,6,_,8,9,?_]
    rwa[8,e,_,9,SqT.of (s05 _ _ he),6,8,9,8,?_]
    have hnext:∀H6,Same H3 H6->(q.2.2<total->∀n∈folM T B hand r.1 r.2,∃r'∈rs,r'.1=r.1++[n])->(Same H3 H6/\(∀(j:Nat)(r:List Nat×Stnd)(q:List Nat×Int×Int),j<i+1->rs[j]?>>r->qs[j]?>>q->q.2.2<total->∀n∈folM T B hand r.1 r.2,∃r'∈rs,r'.1=r.1++[n])/\∃(v4 v5:Option V),[some (.ref wl),some (.ref pp),some (.int total),some (.ref m),some (.ref wy),some (.ref e)]=[some (.ref wl),some (.ref pp),some (.int total),some (.ref m),v4,v5]):=fun H6 s6 hq=>⟨s6,fun j r' q' hj er' eq'=>by
     by_cases c:j=i
     ·subst c
      rw[er] at er'
      rw[eq] at eq'
      cases er'
      cases eq'
      exact hq
     ·exact hall j r' q' (by lia) er' eq',_,_,rfl⟩
    by_cases c:q.2.2<total
    ·rw[decide_eq_true c]
     refine iteT ?_
     rwa[8,8,wy,t,b,m,T,B,hand,r,kvs,6,hWR.same s05,hT.same s05,tok,hB.same s05,hl,h64 r (JB er),(n3.trans s35) _ _ em,fun H6 s6=>?_]
     cases ca:(folM T B hand r.1 r.2).all fun n=>(valV kvs (kyO (r.1++[n]))).isSome with
     |true=>exact⟨_,rfl,iteF (hnext H6 (s35.trans s6) fun _ n hn=>(hk _).mp (Ma.mp ca n hn))⟩
     |false=>
      rwa[8,iteT (kk H6 false (s05.trans s6) ⟨fun z=>(by cases z),fun z=>?_⟩)]
      rw[Ma.mpr fun n hn=>(hk _).mpr (z.2 i r q er eq c n hn)] at ca
      cases ca
    ·rw[decide_eq_false c]
     exact iteF (iteF (hnext H5 s35 fun z=>absurd z c))
   ·rintro σ H4 ⟨s4,hall,v4,v5,rfl⟩
    refine kk H4 true (s03.trans s4) ⟨fun _=>⟨hnil,fun i r q er eq=>hall i r q ?_ er eq⟩,fun _=>rfl⟩
    rw[Jv,Jv]
    have:=at_lt er
    lia
theorem kc3{us vs:List Nat}:eqVs (us.map iV) (vs.map iV)=decide (us=vs):=by
 have e:∀u:List Nat,u.map iV=(u.map fun(n:Nat)=>(n:Int)).map V.int:=fun u=>by rw[JO];rfl
 rw[e,e,kff]
 by_cases c:us=vs
 ·rw[c]
  simp
 ·rw[decide_eq_false c]
  exact decide_eq_false fun z=>c ((EF (fun _ _ h=>by lia)).mp z)
inductive kjD(d:D)(vs:List V)(H:Hp)(Q:VK)(E_:XK):Prop
 |ct(wy t b e:Addr)(T:TillD)(B:Bask)(hand:List Int)(r:List Nat×Stnd)(q:List Nat×Int×Int)(_:vs=[.ref wy, .ref e])(_:WayR d H t b T.ps B hand wy r)(_:TillIs d H t T)(_:kbw T)(_:BaskIs d.qf d.qg H b B)(_:hand.length=T.vs.length)(_:(∀z∈hand,0<=z/\z<=100))(_:r.1.length<=64)(_:EntAt H e q)(_:∀(H':Hp)(c:Bool),Same H H'->(c=true↔r.1=q.1/\kaO r.2=q.2.1/\kcp T B hand r.1 r.2=q.2.2)->Q (.bl c) H'):kjD d vs H Q E_
theorem kfn:kat ["way","entry"] ["way","entry"] (kah kcI):=by ac_rfl
theorem kfr(W:WB K mg d base):FO P w W 6 d.Yp d.Yq ["way","entry"] (kjD d):=by
 exists W.ZJ.F,kfn
 ·obtain⟨wy,t,b,e,T,B,hand,r,q,rfl,⟨x,hW,hS,wf⟩,hT,tok,hB,hl,hz,h64,⟨l,he,hle⟩,kk⟩:=h
  obtain⟨dxw,fsw,h,u,hw,w1,w2,w3,w4,w5,w6,w7,w8,w9,w10,hh,hu⟩:=id hW
  obtain⟨o,pp,mk,⟨dxs,fss,hxs,l1,l2,l3,l4,l5⟩,ho,hpp,hmk⟩:=id hS
  exists qD,ka4,W
  exists Ug,keU,W
  have hr1:Room 1 _:=hr.mono (by decide)
  rwa[_,kag (kaq (kbB (kj9 hr.units) (kb4 (kaa (kaj (K:=K) (pv 0) rfl) (kaa (kco (kaj (K:=K) (pv 0) rfl) W.qc.cl W.qw.me qD hr1 W.qw.b .nil pass0) (kaa (pcl Ug hr W.ZG (kaa (pv 0) kad)) kad)))) (pv 1) (kau _))),?_]
  rwa[8,wy,d.c_Way,dxw,fsw,8,hw,W.c_Way.cl,W.qr,w4,8,wy,d.c_Way,dxw,fsw,8,hw,W.c_Way.cl,W.qI,w5,x,dxs,fss,6,hxs,l5,x,o,pp,mk,r.2.cg,r.2.pr,6,⟨dxs,fss,hxs,l1,l2,l3,l4,l5⟩,hpp,?_]
  rwa[8,wy,t,b,x,T,B,r.2,hand,r.1,6,hW,hT,tok,hB,hS,wf,hl,hz,h64,fun H1 s1=>?_]
  rwa[(by show 3<=sizeLine;decide),fun p fp=>?_]
  exists H1,p,H2,n2,e2,fp
  have s2:=s1.trans n2
  have e2':H2 p>>(.tup [.ref u, .int (kaO r.2), .int (kcp T B hand r.1 r.2)]):=e2
  rwa[8,p,e,_,_,fun j=>if j=0 then eqVs (r.1.map iV) (q.1.map iV) else if j=1 then eqV (.int (kaO r.2)) (.int q.2.1) else eqV (.int (kcp T B hand r.1 r.2)) (.int q.2.2),6,6,SqT.of e2',SqT.of (s2 _ _ he),6,fun j x y hx hy=>?_,?_]
  ·match j,hx,hy with
   |0,hx,hy=>
    cases hx
    cases hy
    exact .lst (s2 _ _ hu) (s2 _ _ hle) (ka1 _) (ka1 _)
   |1,hx,hy=>
    cases hx
    cases hy
    exact .flat rfl rfl
   |2,hx,hy=>
    cases hx
    cases hy
    exact .flat rfl rfl
   |j+3,hx,hy=>cases hx
  ·refine kk H2 _ s2 ?_
   show((eqVs (r.1.map iV) (q.1.map iV)&&(kaO r.2==q.2.1&&(kcp T B hand r.1 r.2==q.2.2&&true)))=true)↔_
   rw[kc3,NT,NT,MN,decide_eq_true_iff,beq_iff_eq,beq_iff_eq]
abbrev TO:=Int×List Nat
noncomputable def nI(u:List Nat):List Int:=u.map fun(n:Nat)=>(n:Int)
noncomputable def ltO(p q:TO):Bool:=if p.1=q.1 then SeqAt.lexL (nI p.2) (nI q.2) else decide (p.1<q.1)
theorem lex_trans:∀{a b c:List Int},SeqAt.lexL a b=true->SeqAt.lexL b c=true->SeqAt.lexL a c=true
 |[],[],_,h,_=>by cases h
 |[],_::_,[],_,h=>by cases h
 |[],_::_,_::_,_,_=>rfl
 |_::_,[],_,h,_=>by cases h
 |_::_,_::_,[],_,h=>by cases h
 | x::a,y::b,z::c,h,k=>by
  have h':(if x=y then SeqAt.lexL a b else decide (x<y))=true:=h
  have k':(if y=z then SeqAt.lexL b c else decide (y<z))=true:=k
  show(if x=z then SeqAt.lexL a c else decide (x<z))=true
  by_cases e1:x=y
  ·rw[if_pos e1] at h'
   by_cases e2:y=z
   ·rw[if_pos e2] at k'
    rw[if_pos (e1.trans e2)]
    exact lex_trans h' k'
   ·rw[if_neg e2,decide_eq_true_iff] at k'
    rw[if_neg (fun z=>e2 (e1.symm.trans z)),decide_eq_true_iff,e1]
    exact k'
  ·rw[if_neg e1,decide_eq_true_iff] at h'
   by_cases e2:y=z
   ·rw[<-e2,if_neg e1,decide_eq_true_iff]
    exact h'
   ·rw[if_neg e2,decide_eq_true_iff] at k'
    rw[if_neg (by lia),decide_eq_true_iff]
    lia
theorem kkk:∀{a b:List Int},SeqAt.lexL a b=false->SeqAt.lexL b a=false->a=b
 |[],[],_,_=>rfl
 |[],_::_,h,_=>by cases h
 |_::_,[],_,h=>by cases h
 | x::a,y::b,h,k=>by
  have h':(if x=y then SeqAt.lexL a b else decide (x<y))=false:=h
  have k':(if y=x then SeqAt.lexL b a else decide (y<x))=false:=k
  by_cases e:x=y
  ·rw[if_pos e] at h'
   rw[if_pos e.symm] at k'
   rw[e,kkk h' k']
  ·rw[if_neg e,decide_eq_false_iff_not] at h'
   rw[if_neg (Ne.symm e),decide_eq_false_iff_not] at k'
   lia
theorem kny{u v:List Nat}(h:nI u=nI v):u=v:=(EF (fun _ _ h=>by lia)).mp h
theorem kkg(p:TO):ltO p p=false:=by
 unfold ltO
 rw[if_pos rfl]
 exact keA _
theorem kkf{p q r:TO}(h:ltO p q=true)(k:ltO q r=true):ltO p r=true:=by
 unfold ltO at h k⊢
 by_cases e1:p.1=q.1
 ·rw[if_pos e1] at h
  by_cases e2:q.1=r.1
  ·rw[if_pos e2] at k
   rw[if_pos (e1.trans e2)]
   exact lex_trans h k
  ·rw[if_neg e2] at k
   rw[if_neg (fun z=>e2 (e1.symm.trans z)),e1]
   exact k
 ·rw[if_neg e1,decide_eq_true_iff] at h
  by_cases e2:q.1=r.1
  ·rw[<-e2,if_neg e1,decide_eq_true_iff]
   exact h
  ·rw[if_neg e2,decide_eq_true_iff] at k
   rw[if_neg (by lia),decide_eq_true_iff]
   lia
theorem km1{p q:TO}(h:ltO p q=false)(k:ltO q p=false):p=q:=by
 unfold ltO at h k
 by_cases e:p.1=q.1
 ·rw[if_pos e] at h
  rw[if_pos e.symm] at k
  exact Prod.ext e (kny (kkk h k))
 ·rw[if_neg e,decide_eq_false_iff_not] at h
  rw[if_neg (Ne.symm e),decide_eq_false_iff_not] at k
  lia
def IsMin(l:List TO)(p:TO):Prop:=p∈l/\∀q∈l,ltO q p=false
theorem IsMin.one{l:List TO}{p q:TO}(h:IsMin l p)(k:IsMin l q):p=q:=km1 (k.2 p h.1) (h.2 q k.1)
theorem kiP{l:List TO}{bt:Nat->Nat->Bool}(hb:∀i j p q,l[i]?>>p->l[j]?>>q->bt i j=ltO p q):∀(k:Nat),k<l.length->∃p,l[argBest bt k]?>>p/\∀j q,j<=k->l[j]?>>q->ltO q p=false
 |0,h=>by
  obtain⟨p,ep⟩:=at_of h
  rwa[p,ep,fun j q hj eq=>?_]
  have:j=0:=by lia
  subst this
  rw[ep] at eq
  cases eq
  exact kkg _
 | k +1,h=>by
  obtain⟨p,ep,hp⟩:=kiP hb k (by lia)
  obtain⟨q,eq⟩:=at_of h
  have e:=hb _ _ q p eq ep
  by_cases c:ltO q p=true
  ·rwa[q,by unfold argBest;rw[e,c,if_pos rfl];exact eq,fun j z hj ez=>?_]
   by_cases cj:j=k+1
   ·subst cj
    rw[eq] at ez
    cases ez
    exact kkg _
   ·cases cz:ltO z q with
    |false=>rfl
    |true=>
     have:=kkf cz c
     rw[hp j z (by lia) ez] at this
     cases this
  ·have c':ltO q p=false:=by simpa using c
   rwa[p,by unfold argBest;rw[e,c',if_neg JD];exact ep,fun j z hj ez=>?_]
   by_cases cj:j=k+1
   ·subst cj
    rw[eq] at ez
    cases ez
    exact c'
   ·exact hp j z (by lia) ez
noncomputable def letL(T:TillD)(rs:List (List Nat×Stnd)):List TO:=(rs.filter fun r=>(onlyM T.rs r.1).isNone).map fun r=>(kaO r.2,r.1)
inductive kjF(d:D)(vs:List V)(H:Hp)(Q:VK)(E_:XK):Prop
 |ct(wl t b:Addr)(wa:List Addr)(T:TillD)(B:Bask)(hand:List Int)(rs:List (List Nat×Stnd))(_:vs=[.ref wl])(_:H wl>>(.lst (wa.map V.ref)))(_:P2 (WayR d H t b T.ps B hand) wa rs)(_:rs.length<=1000)(_:TillIs d H t T)(_:0<(letL T rs).length)(_:∀(H':Hp)(p u:Addr)(x:TO),Same H H'->H' p>>(.tup [.int x.1, .ref u])->H' u>>(.lst (x.2.map iV))->IsMin (letL T rs) x->Q (.ref p) H'):kjF d vs H Q E_
theorem kdf:kat ["ways"] ["ways"] (kah kbp):=by ac_rfl
theorem kdg(W:WB K mg d base):FO P w W 3 d.Yv d.Yw ["ways"] (kjF d):=by
 exists W.ZM.F,kdf
 ·obtain⟨wl,t,b,wa,T,B,hand,rs,rfl,hwl,hwa,lrs,hT,hpos,kk⟩:=h
  have lwa:=hwa.len
  exists Xp,kcP,W
  exists qD,ka4,W
  have hr1:Room 1 _:=hr.mono (by decide)
  rwa[_,kag (kaq (kao (r:=rMinP K) (kkU rfl hr.units) (by rfl) W.B.min b_min (kaa (kc9 (N:=["way"]) (CompScope.plain rfl (by cutsat) (by cutsat) (by cutsat) (nd1 _)) rfl (kaB (K:=K) (pv 0)) (fun _ _ _ _=>pgn (i:=0) (nd1 _)) (fun _ _ _ _=>kdX (kaQ (kco (pv 0) W.c_Way.cl W.Qc.me Xp hr W.Qc.b .nil pass0))) (fun _ _ _ _=>(kb4 (kaa (kco (kaj (K:=K) (pv 0) rfl) W.qc.cl W.qw.me qD hr1 W.qw.b .nil pass0) (kaa (kaj (K:=K) (pv 0) rfl) kad))))) kad))),?_]
  refine⟨_,rfl,wl,rfl,⟨_,SqL.of hwl⟩,kde (xs:=wa.map V.ref) (fun i σ ys H'=>Same H H'/\∃(ps:List PrI)(v0:Option V),ys=ps.map (fun p=>V.ref p.1)/\(∀p∈ps,H' p.1>>(.tup [.int p.2.1, .ref p.2.2.1])/\H' p.2.2.1>>(.lst (p.2.2.2.map V.int)))/\ps.map (fun p=>p.2.1)=(letL T (rs.take i)).map (fun x=>x.1)/\ps.map (fun p=>p.2.2.2)=(letL T (rs.take i)).map (fun x=>nI x.2)/\σ=[v0])
   ⟨Same.refl _,[],none,rfl,fun p hp=>by simp at hp,rfl,rfl,rfl⟩ (JJ (kas (by rw[Jv];lia))) ?_ ?_ ?_⟩
  ·rintro i σ ys H' hi ⟨s1,ps,v0,rfl,_,hpe,_,_⟩
   rwa[SqL.of (s1 _ _ hwl),?_]
   have:=congrArg Ny hpe
   rw[Jv,Jv] at this
   rw[Jv,this]
   unfold letL
   rw[Jv]
   exact JA (NR _ _) (by rw[JV];lia)
  ·rintro i y σ ys H' hy ⟨s1,ps,v0,rfl,hps,hp1,hp2,rfl⟩
   obtain⟨wy,ew,rfl⟩:=kba hy
   obtain⟨r,er,x,hW,hS,wf⟩:=hwa.at ew
   obtain⟨dxw,fsw,h,u,hw,w1,w2,w3,w4,w5,w6,w7,w8,w9,w10,hh,hu⟩:=id hW
   obtain⟨o,pp,mk,⟨dxs,fss,hxs,l1,l2,l3,l4,l5⟩,ho,hpp,hmk⟩:=id hS
   rwa[8,wy,dxw,fsw,6,s1 _ _ hw,w8,wy,t,b,x,T,hand,r.1,6,hW.same s1,hT.same s1,8,?_]
   have elet:letL T (rs.take (i+1))=letL T (rs.take i)++(if(onlyM T.rs r.1).isNone=true then [(kaO r.2,r.1)] else []):=by
    unfold letL
    rw[take_snoc er,NI,JC,NB,Mf]
    split <;> rfl
   cases c:(onlyM T.rs r.1).isNone with
   | false=>
    refine iteF ⟨s1,ps,_,rfl,hps,?_,?_,rfl⟩
    ·rw[elet,c,if_neg JD,J8]
     exact hp1
    ·rw[elet,c,if_neg JD,J8]
     exact hp2
   | true=>
    refine iteT ⟨_,rfl,wy,d.c_Way,dxw,fsw,_,rfl,s1 _ _ hw,W.c_Way.cl,W.qI,w5,x,dxs,fss,rfl,s1 _ _ hxs,l5,x,o,pp,mk,r.2.cg,r.2.pr,rfl,⟨dxs,fss,s1 _ _ hxs,l1,l2,l3,l4,l5⟩,s1 _ _ hpp,_,rfl,wy,d.c_Way,dxw,fsw,_,rfl,s1 _ _ hw,W.c_Way.cl,W.qr,w4,(by show 2<=sizeLine;decide),fun p fp=>?_⟩
    exists H',p,H2,n2,e2,fp
    rwa[s1.trans n2,ps++[(p,kaO r.2,u,nI r.1)],_,?_,fun p' hp'=>?_,?_,?_,6]
    ·rw[JC]
     rfl
    ·rcases Na.mp hp' with h'|h'
     ·rwa[n2 _ _ (hps p' h').1,n2 _ _ (hps p' h').2]
     ·have ep:p'=(p,kaO r.2,u,nI r.1):=by simpa using h'
      rw[ep]
      rwa[e2,?_]
      have:=(s1.trans n2) _ _ hu
      show H2 u>>(.lst ((nI r.1).map V.int))
      unfold nI
      rw[JO]
      exact this
    ·rw[elet,c,if_pos rfl,JC,JC,hp1]
     rfl
    ·rw[elet,c,if_pos rfl,JC,JC,hp2]
     rfl
  ·rintro σ ys H1 ⟨s1,ps,v0,rfl,hps,hp1,hp2,rfl⟩ D fD
   exists H1,D,H2,n2,e2,fD
   rw[Jv,lwa,J4] at hp1 hp2
   have len:ps.length=(letL T rs).length:=by
    have:=congrArg Ny hp1
    rw[Jv,Jv] at this
    exact this
   have hat:∀(i:Nat)(p:PrI)(x:TO),ps[i]?>>p->(letL T rs)[i]?>>x->p.2.1=x.1/\p.2.2.2=nI x.2:=fun i p x ep ex=>by
    have h1:=congrArg (fun l=>l[i]?) hp1
    have h2:=congrArg (fun l=>l[i]?) hp2
    simp only[JF,ep,ex,N3] at h1 h2
    rwa[Option.some.inj h1,Option.some.inj h2]
   obtain⟨x,ex,hx⟩:=kiP (l:=letL T rs) (bt:=ltQ ps) (fun i j p q ep eq=>by
    obtain⟨p',ep'⟩:=at_of (xs:=ps) (i:=i) (by rw[len];exact at_lt ep)
    obtain⟨q',eq'⟩:=at_of (xs:=ps) (i:=j) (by rw[len];exact at_lt eq)
    obtain⟨a1,a2⟩:=hat i p' p ep' ep
    obtain⟨b1,b2⟩:=hat j q' q eq' eq
    unfold ltQ
    rw[ep',eq']
    show ltP p' q'=ltO p q
    unfold ltP ltO
    rw[a1,a2,b1,b2]) ((letL T rs).length-1) (by lia)
   rwa[D,ps,6,SqL.of e2,fun p hp=>⟨n2 _ _ (hps p hp).1,n2 _ _ (hps p hp).2⟩,by lia,fun p ep=>?_]
   rw[len] at ep
   obtain⟨a1,a2⟩:=hat _ p x ep ex
   obtain⟨q1,q2⟩:=hps p (JB ep)
   rw[a1] at q1
   rw[a2] at q2
   refine kk H2 p.1 p.2.2.1 x (s1.trans n2) (n2 _ _ q1) ?_ ⟨JB ex,fun q hq=>?_⟩
   ·have:=n2 _ _ q2
    unfold nI at this
    rw[JO] at this
    exact this
   ·obtain⟨j,ej⟩:=Ms hq
    exact hx j q (by have:=at_lt ej;lia) ej
def EntW(T:TillD)(B:Bask)(hand:List Int)(q:List Nat×Int×Int):Prop:=(walkM T B hand q.1 [] (stnd0 B)).1=q.1/\kaO (walkM T B hand q.1 [] (stnd0 B)).2=q.2.1/\kcp T B hand q.1 (walkM T B hand q.1 [] (stnd0 B)).2=q.2.2
noncomputable def letQ(T:TillD)(qs:List (List Nat×Int×Int)):List TO:=(qs.filter fun q=>(onlyM T.rs q.1).isNone).map fun q=>(q.2.1,q.1)
def kiS(T:TillD)(B:Bask)(hand:List Int)(order:List Nat)(total:Int)(qs:List (List Nat×Int×Int)):Prop:=(∀q∈qs,EntW T B hand q)/\(∃q∈qs,q.1=[])/\(∀q∈qs,q.2.2<total->∀n∈folM T B hand q.1 (walkM T B hand q.1 [] (stnd0 B)).2,∃q'∈qs,q'.1=q.1++[n])/\IsMin (letQ T qs) (total,order)
theorem kmh:∀{qs:List (List Nat×Int×Int)},(∀q∈qs,EntW T B hand q)->letL T (qs.map fun q=>walkM T B hand q.1 [] (stnd0 B))=letQ T qs
 |[],_=>rfl
 |q::qs,h=>by
  have ih:=kmh (qs:=qs) fun q' hq=>h q' (JQ _ hq)
  obtain⟨h1,h2,h3⟩:=h q JS
  unfold letL letQ at ih⊢
  rw[JG,NB,NB,h1]
  split
  ·rw[JG,JG,ih,h1,h2]
  ·exact ih
theorem kgU(rs:List Rul):(onlyM rs []).isNone=true:=by
 unfold onlyM
 rw[List.find?_eq_none.mpr fun r _=>by unfold loneM;simp]
 rfl
theorem kfv:∀(o u:List Nat)(S:Stnd),∃p s,o=p++s/\(walkM T B hand o u S).1=u++p
 |[],u,S=>⟨[],[],rfl,by unfold walkM;rw[J8]⟩
 | n::o,u,S=>by
  unfold walkM
  cases e:T.vs[n]? with
  |none=>exact⟨[],n::o,rfl,by rw[J8]⟩
  | some V=>
   simp only
   by_cases c:dueM V T B hand u S n=.non
   ·rw[if_pos c]
    obtain⟨p,s,h1,h2⟩:=kfv o (u++[n]) (aftM V T.ps (kds B) S)
    rwa[n::p,s,by rw[h1];rfl,by rw[h2,Nc];rfl]
   ·rw[if_neg c]
    rwa[[],n::o,6,by rw[J8]]
inductive kjE(d:D)(vs:List V)(H:Hp)(Q:VK)(E_:XK):Prop
 |ct(t b h o pp:Addr)(total:Int)(ea:List Addr)(T:TillD)(B:Bask)(hand:List Int)(order:List Nat)(qs:List (List Nat×Int×Int))(_:vs=[.ref t, .ref b, .ref h, .ref o, .int total, .ref pp])(_:TillIs d H t T)(_:kbw T)(_:BaskIs d.qf d.qg H b B)(_:Wf T.ps B (stnd0 B))(_:H h>>(.lst (hand.map V.int)))(_:hand.length=T.vs.length)(_:(∀z∈hand,0<=z/\z<=100))(_:H o>>(.lst (order.map iV)))(_:H pp>>(.lst (ea.map V.ref)))(_:P2 (fun e q=>EntAt H e q) ea qs)(_:qs.length<=1000)(_:(∀q∈qs,(∀n∈q.1,n<T.vs.length)/\q.1.length<64))(_:∀(H':Hp)(c:Bool),Same H H'->(c=true↔kiS T B hand order total qs)->Q (.bl c) H'):kjE d vs H Q E_
theorem QB:kat ["till","basket","hand","order","total","paper","ways","way","entry"] ["till","basket","hand","order","total","paper"] (kah kf2):=by ac_rfl
theorem klp(W:WB K mg d base):FO P w W 9 d.Yn d.Yo ["till","basket","hand","order","total","paper"] (kjE d):=by
 exists W.ZI.F,QB
 ·obtain⟨t,b,h,o,pp,total,ea,T,B,hand,order,qs,rfl,hT,tok,hB,wf0,hh,hl,hz,ho,hpp,hea,lqs,hqs,kk⟩:=h
  have lea:=hea.len
  exists Xo,kgV,W
  exists Uh,kfr,W
  exists Ui,kdg,W
  exists Uj,kdz,W
  have hr3:Room 3 _:=hr.mono (by decide)
  have hr6:Room 6 _:=hr.mono (by decide)
  have hr7:Room 7 _:=hr.mono (by decide)
  refine⟨_,kab (kdW (N:=["entry","till","basket","hand"]) (CompScope.of (N:=["entry","till","basket","hand"]) (cap:=[none,some 0,some 1,some 2]) (kah kf2).names ["till","basket","hand","order","total","paper","ways","way","entry"] rfl rfl (by cutsat)) rfl (kaB (K:=K) (pv 5)) (fun _ _ _ _=>pgn (i:=0) (show(["entry","till","basket","hand"]:List Str).Nodup by cutsat)) (fun _ _ _ _=>(pcl Xo hr7 W.QU (kaa (pv 1) (kaa (pv 2) (kaa (pv 3) (kaa (pe_ix (r:=rIxT K) kdl (pv 0) kaf (fun _ _=>rfl)) kad)))))) (pgn (i:=6) QB.nd))
   (kab (ka7 PassesOwn.never rfl (kdY rfl W.B.zip (kaa (pv 6) (kaa (pv 5) kad))) (kbh (K:=K) (n:=2) rfl (kaw (pgn (i:=7) QB.nd) (kaw (pgn (i:=8) QB.nd) kbg)))
   (kag (ps_if (kgQ (kaQ (pcl Uh hr6 W.ZJ (kaa (pv 7) (kaa (pv 8) kad))))) (kag (kaq pe_bl)) (kar))))
   (kag (kaq (knv (pcl Uj hr W.ZK (kaa (pv 6) (kaa (pv 5) (kaa (pv 4) kad)))) (kj4 (kbB (kj9 hr.units) (pcl Ui hr3 W.ZM (kaa (pv 6) kad)) (kb4 (kaa (pv 4) (kaa (pv 3) kad))) (kau _))))))),?_⟩
  refine⟨_,rfl,pp,rfl,⟨_,SqL.of hpp⟩,kaY (xs:=ea.map V.ref) (fun i σ ys H'=>Same H H'/\∃(wa:List Addr)(v0:Option V),ys=wa.map V.ref/\P2 (WayR d H' t b T.ps B hand) wa ((qs.take i).map fun q=>walkM T B hand q.1 [] (stnd0 B))/\σ=[v0,some (.ref t),some (.ref b),some (.ref h)])
   ⟨Same.refl _,[],none,rfl, .nil,rfl⟩ (by rw[Jv,lea];exact JJ (kas (by lia))) ?_ ?_ ?_⟩
  ·rintro i σ ys H' hi ⟨s1,wa,v0,rfl,hwa,rfl⟩
   rwa[SqL.of (s1 _ _ hpp),?_]
   rw[Jv,hwa.len,Jv,JV]
   rw[Jv,lea] at hi
   lia
  ·rintro i y σ ys H' hy ⟨s1,wa,v0,rfl,hwa,rfl⟩
   obtain⟨e,ee,rfl⟩:=kba hy
   obtain⟨q,eq,l,he,hle⟩:=hea.at ee
   obtain⟨hq1,hq2⟩:=hqs q (JB eq)
   rwa[8,8,8,8,e,_,9,SqT.of (s1 _ _ he),6,t,b,h,l,T,B,hand,q.1,6,hT.same s1,tok,hB.same s1,wf0,s1 _ _ hh,s1 _ _ hle,hl,hq1,hq2,fun H2 wy x s2 _ hW hS wf=>?_]
   rwa[s1.trans s2,wa++[wy],_,by rw[JC];rfl,?_,6]
   rw[take_snoc eq,JC]
   exact P2.snoc (hwa.mono fun a r h=>h.same s2) ⟨x,hW,hS,wf⟩
  rintro σ ys H1 ⟨s1,wa,v0,rfl,hwa,rfl⟩ wl fwl
  exists H1,wl,H2,n2,e2,fwl
  rw[Jv,lea,J4] at hwa
  have s02:=s1.trans n2
  have hwa2:=hwa.mono fun a r h=>h.same n2
  have lwa:=hwa.len
  rw[Jv] at lwa
  have hr64:∀r∈(qs.map fun q=>walkM T B hand q.1 [] (stnd0 B)),r.1.length<=64:=fun r hr=>by
   obtain⟨q,hq,rfl⟩:=JP.mp hr
   obtain⟨p,s,e1,e2⟩:=kfv (T:=T) (B:=B) (hand:=hand) q.1 [] (stnd0 B)
   have:=(hqs q hq).2
   rw[e1,JN] at this
   rw[e2,NG]
   lia
  clear hwa
  refine⟨_,rfl,_,rfl,wl,pp,_,_,rfl,e2,s02 _ _ hpp,kgk (xs:=wa.map V.ref) (ys:=ea.map V.ref) (fun i σ H'=>Same H2 H'/\(∀q∈qs.take i,EntW T B hand q)/\∃(v7 v8:Option V),σ=[some (.ref t),some (.ref b),some (.ref h),some (.ref o),some (.int total),some (.ref pp),some (.ref wl),v7,v8])
   ⟨Same.refl _,fun q hq=>by simp at hq,_,_,rfl⟩ (fun i σ H' _ h=>⟨h.1 _ _ e2,(s02.trans h.1) _ _ hpp⟩) ?_ ?_⟩
  ·rintro i y1 y2 t2 σ H3 hy1 hy2 ⟨s3,hall,v7,v8,rfl⟩ ht2
   obtain⟨wy,ew,rfl⟩:=kba hy1
   obtain⟨e,ee,rfl⟩:=kba hy2
   obtain⟨r,er,hWR⟩:=hwa2.at ew
   obtain⟨q,eq,hE⟩:=hea.at ee
   rw[JF,eq] at er
   cases er
   exists H3,t2,H4,n4,e4,ht2
   have s24:=s3.trans n4
   have s04:=s02.trans s24
   rwa[t2,8,SqT.of e4,6,_,8,9,?_]
   rwa[8,8,wy,t,b,e,T,B,hand,_,q,6,hWR.same s24,hT.same s04,tok,hB.same s04,hl,hz,hr64 _ (Ea (f:=fun q=>walkM T B hand q.1 [] (stnd0 B)) (JB eq)),hE.same s04,fun H5 c s5 hc=>?_]
   have hcE:c=true↔EntW T B hand q:=by
    rw[hc]
    unfold EntW
    constructor
    ·rintro⟨h1,h2,h3⟩
     rw[h1] at h3
     rwa[h1,h2,h3]
    ·rintro⟨h1,h2,h3⟩
     rw[h1]
     rwa[6,h2,h3]
   cases c with
   | true=>
    rwa[8,iteF ⟨s24.trans s5,fun q' hq'=>?_,_,_,rfl⟩]
    rw[take_snoc eq] at hq'
    rcases Na.mp hq' with h'|h'
    ·exact hall q' h'
    ·have e':q'=q:=by simpa using h'
     rw[e']
     exact hcE.mp rfl
   |false=>
    rwa[8,iteT (kk H5 false (s04.trans s5) ⟨fun z=>(by cases z),fun z=>?_⟩)]
    exact hcE.mpr (z.1 q (JB eq))
  rintro σ H3 ⟨s3,hall,v7,v8,rfl⟩
  rw[Jv,Jv,lwa,lea,Mc,J4] at hall
  have s03:=s02.trans s3
  have hwa3:=hwa2.mono fun a r h=>h.same s3
  rwa[8,8,8,wl,pp,t,b,total,wa,ea,T,B,hand,_,qs,6,s3 _ _ e2,s03 _ _ hpp,hwa3,hea.mono fun e q h=>h.same s03,by rw[Jv],by rw[Jv];lia,hr64,hT.same s03,tok,hB.same s03,hl,fun H4 c s4 hc=>?_]
  have s04:=s03.trans s4
  have hno:khZ T B hand (qs.map fun q=>walkM T B hand q.1 [] (stnd0 B)) qs total↔(∃q∈qs,q.1=[])/\(∀q∈qs,q.2.2<total->∀n∈folM T B hand q.1 (walkM T B hand q.1 [] (stnd0 B)).2,∃q'∈qs,q'.1=q.1++[n]):=by
   unfold khZ
   constructor
   ·rintro⟨⟨r,hr,hn⟩,h2⟩
    obtain⟨q,hq,rfl⟩:=JP.mp hr
    rwa[⟨q,hq,by rw[<-(hall q hq).1];exact hn⟩,fun q hq ht n hn=>?_]
    obtain⟨i,ei⟩:=Ms hq
    obtain⟨r',hr',e'⟩:=h2 i (walkM T B hand q.1 [] (stnd0 B)) q (by rw[JF,ei];rfl) ei ht n (by rw[(hall q hq).1];exact hn)
    obtain⟨q',hq',rfl⟩:=JP.mp hr'
    rw[(hall q' hq').1,(hall q hq).1] at e'
    rwa[q',hq',e']
   ·rintro⟨⟨q,hq,hn⟩,h2⟩
    rwa[⟨_,Ea (f:=fun q=>walkM T B hand q.1 [] (stnd0 B)) hq,by rw[(hall q hq).1];exact hn⟩,fun i r q er eq ht n hn=>?_]
    rw[JF,eq] at er
    cases er
    have hq:=JB eq
    rw[(hall q hq).1] at hn
    obtain⟨q',hq',e'⟩:=h2 q hq ht n hn
    rwa[_,Ea (f:=fun q=>walkM T B hand q.1 [] (stnd0 B)) hq',by rw[(hall q' hq').1,(hall q hq).1];exact e']
  cases c with
  |false=>
   rwa[8,iteF (kk H4 false s04 ⟨fun z=>(by cases z),fun z=>?_⟩)]
   exact hc.mpr (hno.mpr ⟨z.2.1,z.2.2.1⟩)
  | true=>
   have hn2:=hno.mp (hc.mp rfl)
   have hlet:=kmh (T:=T) (B:=B) (hand:=hand) hall
   obtain⟨q0,hq0,en0⟩:=hn2.1
   have hpos:0<(letQ T qs).length:=by
    refine EY (a:=(q0.2.1,q0.1)) ?_
    unfold letQ
    exact JP.mpr ⟨q0,JT.mpr ⟨hq0,by rw[en0];exact kgU _⟩,rfl⟩
   rwa[8,iteT ?_]
   rwa[8,wl,t,b,wa,T,B,hand,8,(s3.trans s4) _ _ e2,hwa3.mono fun a r h=>h.same s4,by rw[Jv];lia,hT.same s04,by rw[hlet];exact hpos,fun H5 p u x s5 ep eu hmin=>?_]
   rw[hlet] at hmin
   rwa[8,8,(by show 2<=sizeLine;decide),fun p6 fp6=>?_]
   exists H5,p6,H6,n6,e6,fp6
   have s56:=s5.trans n6
   rwa[p,p6,_,_,fun j=>if j=0 then eqV (.int x.1) (.int total) else eqVs (x.2.map iV) (order.map iV),6,6,SqT.of (n6 _ _ ep),SqT.of e6,6,fun j x' y' hx' hy'=>?_,?_]
   ·match j,hx',hy' with
    |0,hx',hy'=>
     cases hx'
     cases hy'
     exact .flat rfl rfl
    |1,hx',hy'=>
     cases hx'
     cases hy'
     exact .lst (n6 _ _ eu) ((s04.trans s56) _ _ ho) (ka1 _) (ka1 _)
    |j+2,hx',hy'=>cases hx'
   ·refine kk H6 _ (s04.trans s56) ?_
    show((x.1==total&&(eqVs (x.2.map iV) (order.map iV)&&true))=true)↔_
    rw[kc3,MN,NT,decide_eq_true_iff,beq_iff_eq]
    constructor
    ·rintro⟨h1,h2⟩
     have ex:x=(total,order):=Prod.ext h1 h2
     rw[ex] at hmin
     rwa[hall,hn2.1,hn2.2,hmin]
    ·rintro⟨_,_,_,h4⟩
     have ex:=hmin.one h4
     rw[ex]
     rwa[6,6]
inductive kie(K:Jw)(vs:List V)(H:Hp)(Q:VK)(E_:XK):Prop
 |ct(a:Addr)(ns:List Int)(n:Int)(_:vs=[.ref a, .int n])(_:SqL K H a (ns.map V.int))(_:0<=n)(_:∀z:Int,Q (.int z) H):kie K vs H Q E_
theorem keJ:kat ["_law_script","_law_k"] ["_law_script","_law_k"] (kah kcB):=by ac_rfl
theorem kcY(W:WB K mg d base):FO P w W 1 d.Yx d.Yy ["_law_script","_law_k"] (kie K):=by
 exists W.qG.F,keJ
 ·obtain⟨a,ns,n,rfl,hS,n0,kk⟩:=h
  refine⟨_,kab (ps_if (kan op_lt (pv 1) (kao (r:=kaG K) kap (by rfl) W.B.len b_len (kaa (pv 0) kad)) (kau _)) (kag (kaq (pe_ix (r:=rIxL K) kaH (pv 0) (pv 1) (fun _ _=>rfl)))) (kar))
   (kag (kaq kaf)),?_⟩
  obtain⟨m,rfl⟩:=Int.eq_ofNat_of_zero_le n0
  rwa[8,8,a,8, .inl hS,9,8,ite2 (fun h=>?_) (fun _=>kk 0)]
  have hn:m<ns.length:=by
   have:(m:Int)<((ns.map V.int).length:Nat):=by simpa using h
   rw[Jv] at this
   lia
  obtain⟨z,ez⟩:=at_of hn
  rwa[8,8,a,_,9,hS,kaK (v:=.int z) (by rw[JF,ez];rfl),kk z]
theorem khu:kat ["_law_cell","_law_factor","_law_prime"] ["_law_cell","_law_factor","_law_prime"] (kah kdU):=by ac_rfl
theorem kbq(W:WB K mg d base):FO P w W 1 d.Yz d.YA ["_law_cell","_law_factor","_law_prime"] spMix:=by
 exists W.qx.F,khu
 ·obtain⟨c,f,p,rfl,hf,hp,k⟩:=h
  rwa[_,kag (kaq (pe_op kaA (pe_op kcg (pv 0) (pv 1)) (pv 2))),?_]
  rwa[8,8,9, .inr hf,8,9,hp,k]
inductive kjJ(vs:List V)(H:Hp)(Q:VK)(E_:XK):Prop
 |ct(c:Int)(_:vs=[.int c])(_:∀z:Int,0<=z->z<=1000000000000->Q (.int z) H):kjJ vs H Q E_
theorem Vv:kat ["_law_cell","_law_how"] ["_law_cell"] (kah kcA):=by ac_rfl
theorem ke1(W:WB K mg d base):FO P w W 2 d.YB d.YC ["_law_cell"] kjJ:=by
 exists W.ZN.F,Vv
 ·obtain⟨c,rfl,kk⟩:=h
  exists qp,kbq,W
  refine⟨_,kab (psl (i:=1) Vv.nd (pe_op kaA (pv 0) kaf))
   (kab (ps_if (kan op_eq (pv 1) kaf (kau _)) (kag (kaq (pe_op kaA (pe_op kaz (pv 0) kaf) kaf))) (kar))
   (kab (ps_if (kan op_eq (pv 1) kaf (kau _)) (kag (kaq (pe_op kaA (pe_op kcg (pe_op kaz (pv 0) kaf) kaf) kaf))) (kar))
   (kab (ps_if (kan op_eq (pv 1) kaf (kau _)) (kag (kaq (pe_op kdx kaf (pe_op kaA (pe_op kaz (pv 0) kaf) kaf)))) (kar))
   (kab (ps_if (kan op_eq (pv 1) kaf (kau _)) (kag (kaq (pe_op kcg kaf (pe_op kaA (pe_op kaz (pv 0) kaf) kaf)))) (kar))
   (kag (kaq (pe_op kcN kaf (pe_op kaA (pcl qp hr W.qx (kaa (pv 0) (kaa kaf (kaa kaf kad)))) kaf)))))))),?_⟩
  rwa[8,9,(by show(0:Int)<5;decide),?_]
  rwa[8,6,8,ite2 (fun _=>?_) (fun _=>?_)]
  ·rwa[8,7,9,(by show(0:Int)<7;decide),kk (c/5%7) (by lia) (by lia)]
  rwa[8,6,8,ite2 (fun _=>?_) (fun _=>?_)]
  ·rwa[8,7,9, .inr ⟨by decide,by decide⟩,9,(by show(0:Int)<1000000000001;decide),kk (c/5*2862933555777941757%1000000000001) (by lia) (by lia)]
  rwa[8,6,8,ite2 (fun _=>?_) (fun _=>?_)]
  ·rwa[8,7,9,(by show(0:Int)<3;decide),9,kk (1000000000000-c/5%3) (by lia) (by lia)]
  rwa[8,6,8,ite2 (fun _=>?_) (fun _=>?_)]
  ·rwa[8,7,9,(by show(0:Int)<40;decide),9, .inl ⟨by decide,by decide⟩,kk (100*(c/5%40)) (by lia) (by lia)]
  rwa[8,c,48271,2147483647,6,⟨by decide,by decide⟩,by decide,9,(by show(0:Int)<5000;decide),9,kk (1+c*48271%2147483647%5000) (by lia) (by lia)]
inductive kid(vs:List V)(H:Hp)(Q:VK)(E_:XK):Prop
 |ct(c s:Int)(_:vs=[.int c, .int s])(_:∀z:Int,0<=z->z<=1000000000000->Q (.int z) H):kid vs H Q E_
theorem keI:kat ["_law_cell","_law_scale"] ["_law_cell","_law_scale"] (kah kcz):=by ac_rfl
theorem kbC(W:WB K mg d base):FO P w W 3 d.YD d.YE ["_law_cell","_law_scale"] kid:=by
 exists W.qH.F,keI
 ·obtain⟨c,s',rfl,kk⟩:=h
  exists Uk,ke1,W
  refine⟨_,kab (ps_if (kan op_eq (pv 1) kaf (kau _)) (kag (kaq (pe_op kaA (pv 0) kaf))) (kar))
   (kab (ps_if (kan op_eq (pv 1) kaf (kau _)) (kag (kaq (pe_op kcg kaf (pe_op kaA (pv 0) kaf)))) (kar))
   (kab (ps_if (kan op_eq (pv 1) kaf (kau _)) (kag (kaq (pe_op kaA (pe_op kcg (pv 0) kaf) kaf))) (kar))
   (kag (kaq (pcl Uk hr W.ZN (kaa (pv 0) kad)))))),?_⟩
  rwa[8,6,8,ite2 (fun _=>?_) (fun _=>?_)]
  ·rwa[8,9,(by show(0:Int)<10;decide),kk (c%10) (by lia) (by lia)]
  rwa[8,6,8,ite2 (fun _=>?_) (fun _=>?_)]
  ·rwa[8,9,(by show(0:Int)<60;decide),9, .inl ⟨by decide,by decide⟩,kk (50*(c%60)) (by lia) (by lia)]
  rwa[8,6,8,ite2 (fun _=>?_) (fun _=>?_)]
  ·rwa[8,9, .inr ⟨by decide,by decide⟩,9,(by show(0:Int)<1000000000001;decide),kk (c*2862933555777941757%1000000000001) (by lia) (by lia)]
  rwa[8,c,6,kk]
inductive kia(d:D)(vs:List V)(H:Hp)(Q:VK)(E_:XK):Prop
 |ct(c:Int)(n:Nat)(s m:Int)(_:vs=[.int c,iV n, .int s, .int m])(_:0<n)(_:0<=m)(_:m<=7)(_:∀(H':Hp)(x:Addr)(r:Row),Same H H'->H x=none->LineAt d.qf H' x r->r.Ok->(0<=r.kd/\r.kd<(n:Int))->r.mn<=m->Q (.ref x) H'):kia d vs H Q E_
theorem qU:kat ["_law_cell","_law_kinds","_law_scale","_law_most","_law_mixed","_law_special","_law_many"] ["_law_cell","_law_kinds","_law_scale","_law_most"] (kah kcv):=by ac_rfl
theorem keX(W:WB K mg d base):FO P w W 4 d.YF d.YG ["_law_cell","_law_kinds","_law_scale","_law_most"] (kia d):=by
 exists W.ZO.F,qU
 ·obtain⟨c,n,s',m,rfl,hn,hm0,hm7,kk⟩:=h
  exists qp,kbq,W
  exists qy,kbC,W
  exists Ul,kgY,W
  have hr1:Room 1 _:=hr.mono (by decide)
  have hr2:Room 2 _:=hr.mono (by decide)
  refine⟨_,kab (psl (i:=4) qU.nd (pcl qp hr1 W.qx (kaa (pv 0) (kaa kaf (kaa kaf kad)))))
   (kab (psl (i:=5) qU.nd kbo)
   (kab (kcn (ps_if (kan op_eq (pe_op kaA (pv 4) kaf) kaf (kau _)) (kag (psl (i:=5) qU.nd (pcl qy hr W.qH (kaa (pe_op kaz (pv 0) kaf) (kaa (pv 2) kad))))) (kar)))
   (kab (psl (i:=6) qU.nd (pe_op kaA (pe_op kaz (pv 4) kaf) kaf))
   (kab (kcn (ps_if (kan op_eq (pe_op kaA (pe_op kaz (pv 4) kaf) kaf) kaf (kau _)) (kag (psl (i:=6) qU.nd (pe_op kaA (pe_op kaz (pv 4) kaf) kaf))) (kar)))
   (kag (kaq (kbA (W.Q8.mk' W.qf) Ul hr2 rfl W.qf.m W.Q8.b .nil pass0 (kaa (pe_op kaA (pe_op kaz (pv 4) kaf) (pv 1)) (kaa (pcl qy hr W.qH (kaa (pe_op kaz (pv 0) kaf) (kaa (pv 2) kad))) (kaa (kao (kbS rfl) (by rfl) W.B.min b_min (kaa (pv 6) (kaa (pv 3) kad))) (kaa (pv 5) kad))))))))))),?_⟩
  rwa[8,c,16807,2147483399,6,⟨by decide,by decide⟩,by decide,?_]
  have hx0:0<=c*16807%2147483399:=by lia
  generalize c*16807%2147483399=mx at *
  rwa[fun σ' H'=>H'=H/\∃sp:Option Int,(∀z,sp>>z->0<=z/\z<=1000000000000)/\σ'=[some (.int c),some (iV n),some (.int s'),some (.int m),some (.int mx),some (oV sp),none],?_,?_]
  ·rwa[8,9,(by show(0:Int)<3;decide),6,8,ite2 (fun _=>?_) (fun _=>⟨rfl,none,(fun z e=>by cases e),rfl⟩)]
   rwa[8,7,8,_,8,fun z z0 z1=>⟨rfl,some z,(fun y e=>by cases e;exact⟨z0,z1⟩),rfl⟩]
  rintro σ' H' ⟨rfl,sp,hsp,rfl⟩
  rwa[8,7,9,(by show(0:Int)<4;decide),?_]
  rwa[fun σ' H2=>H2=H'/\∃mn:Int,0<=mn/\mn<=7/\σ'=[some (.int c),some (iV n),some (.int s'),some (.int m),some (.int mx),some (oV sp),some (.int mn)],?_,?_]
  ·rwa[8,7,9,(by show(0:Int)<8;decide),6,8,ite2 (fun _=>?_) (fun _=>⟨rfl,mx/3%4,by lia,by lia,rfl⟩)]
   rwa[8,7,9,(by show(0:Int)<8;decide),6,mx/96%8,by lia,by lia,6]
  rintro σ' H2 ⟨rfl,mn,hmn0,hmn7,rfl⟩
  have k0:0<=mx/768%(n:Int):=Int.emod_nonneg _ (by lia)
  have k1:mx/768%(n:Int)<(n:Int):=Int.emod_lt_of_pos _ (by lia)
  rwa[8,7,8,9,(by show(0:Int)<(n:Int);lia),8,7,8,_,8,fun pz p0 p1=>?_]
  have hq:0<=(if m<mn then m else mn)/\(if m<mn then m else mn)<=m:=by split <;> lia
  rwa[8,8,_,8,8,kmX (r:=⟨mx/768%(n:Int),pz,if m<mn then m else mn,sp⟩) fun H1 y s1 fy hy=>?_]
  generalize (if m<mn then m else mn)=q at *
  exact kk H1 y _ s1 fy hy ⟨p0,p1,hq.1,(by show q<=60;lia),hsp⟩ ⟨k0,k1⟩ hq.2
inductive kgE(d:D)(vs:List V)(H:Hp)(Q:VK)(E_:XK):Prop
 |ct(c:Int)(ps:List (Option Nat))(s:Int)(_:vs=[.int c,iV ps.length, .int s])(_:0<ps.length)(_:∀(H':Hp)(x:Addr)(M:Mks),Same H H'->H x=none->MksIs d.qe H' x M->MksOk ps M->Q (.ref x) H'):kgE d vs H Q E_
theorem qE:kat ["_law_cell","_law_kinds","_law_scale","_law_mixed","_law_kind","_law_needs","_law_most","_law_more"] ["_law_cell","_law_kinds","_law_scale"] (kah kcc):=by ac_rfl
theorem kep(W:WB K mg d base):FO P w W 4 d.YH d.YI ["_law_cell","_law_kinds","_law_scale"] (kgE d):=by
 exists W.ZP.F,qE
 ·obtain⟨c,ps,s',rfl,hn,kk⟩:=h
  exists qp,kbq,W
  exists qy,kbC,W
  exists Xf,kdD,W
  have hr1:Room 1 _:=hr.mono (by decide)
  have hr2:Room 2 _:=hr.mono (by decide)
  refine⟨_,kab (psl (i:=3) qE.nd (pcl qp hr1 W.qx (kaa (pv 0) (kaa kaf (kaa kaf kad)))))
   (kab (psl (i:=4) qE.nd kbo)
   (kab (kcn (ps_if (kan op_eq (pe_op kaA (pv 3) kaf) kaf (kau _)) (kag (psl (i:=4) qE.nd (pe_op kaA (pe_op kaz (pv 3) kaf) (pv 1)))) (kar)))
   (kab (psl (i:=5) qE.nd kaf)
   (kab (kcn (ps_if (kan op_eq (pe_op kaA (pe_op kaz (pv 3) kaf) kaf) kaf (kau _)) (kag (psl (i:=5) qE.nd (pcl qy hr W.qH (kaa (pe_op kaz (pv 0) kaf) (kaa (pv 2) kad))))) (kar)))
   (kab (psl (i:=6) qE.nd kbo)
   (kab (kcn (ps_if (kan op_eq (pe_op kaA (pe_op kaz (pv 3) kaf) kaf) kaf (kau _)) (kag (psl (i:=6) qE.nd (pcl qy hr W.qH (kaa (pe_op kaz (pv 0) kaf) (kaa (pv 2) kad))))) (kar)))
   (kab (psl (i:=7) qE.nd (pe_op kaz (pv 3) kaf))
   (kag (kaq (kbA (W.Qr.mk' W.qe) Xf hr2 rfl W.qe.m W.Qr.b .nil pass0 (kaa (pv 4) (kaa (pv 5) (kaa (pv 6) (kaa (kbB op_eq (pe_op kaA (pv 7) kaf) kaf (kau _)) (kaa (kbB op_eq (pe_op kaA (pe_op kaz (pv 7) kaf) kaf) kaf (kau _)) (kaa (kbB op_eq (pe_op kaA (pe_op kaz (pv 7) kaf) kaf) kaf (kau _)) kad)))))))))))))))),?_⟩
  rwa[8,c,39373,2147483587,6,⟨by decide,by decide⟩,by decide,?_]
  have hx0:0<=c*39373%2147483587:=by lia
  generalize c*39373%2147483587=mx at *
  rwa[fun σ' H'=>H'=H/\∃kd:Option Nat,(∀k,kd>>k->k<ps.length)/\σ'=[some (.int c),some (iV ps.length),some (.int s'),some (.int mx),some (pV kd),none,none,none],?_,?_]
  ·rwa[8,9,(by show(0:Int)<2;decide),6,8,ite2 (fun _=>?_) (fun _=>⟨rfl,none,(fun z e=>by cases e),rfl⟩)]
   have k0:0<=mx/2%(ps.length:Int):=Int.emod_nonneg _ (by lia)
   have k1:mx/2%(ps.length:Int)<(ps.length:Int):=Int.emod_lt_of_pos _ (by lia)
   rwa[8,7,8,9,(by show(0:Int)<(ps.length:Int);lia),6,some (mx/2%(ps.length:Int)).toNat,(fun k e=>by cases e;lia),?_]
   show _=[some (V.int c),some (iV ps.length),some (V.int s'),some (V.int mx),some (V.int (((mx/2%(ps.length:Int)).toNat:Nat):Int)),none,none,none]
   rw[Int.toNat_of_nonneg k0]
   rfl
  rintro σ' H' ⟨rfl,kd,hkd,rfl⟩
  rwa[fun σ' H2=>H2=H'/\∃nd:Int,(0<=nd/\nd<=1000000000000)/\σ'=[some (.int c),some (iV ps.length),some (.int s'),some (.int mx),some (pV kd),some (.int nd),none,none],?_,?_]
  ·rwa[8,7,9,(by show(0:Int)<4;decide),6,8,ite2 (fun _=>?_) (fun _=>⟨rfl,0,⟨by decide,by decide⟩,rfl⟩)]
   rwa[8,7,8,_,8,fun z z0 z1=>⟨rfl,z,⟨z0,z1⟩,rfl⟩]
  rintro σ' H2 ⟨rfl,nd,hnd,rfl⟩
  rwa[fun σ' H3=>H3=H2/\∃mo:Option Int,(∀z,mo>>z->0<=z/\z<=1000000000000)/\σ'=[some (.int c),some (iV ps.length),some (.int s'),some (.int mx),some (pV kd),some (.int nd),some (oV mo),none],?_,?_]
  ·rwa[8,7,9,(by show(0:Int)<4;decide),6,8,ite2 (fun _=>?_) (fun _=>⟨rfl,none,(fun z e=>by cases e),rfl⟩)]
   rwa[8,7,8,_,8,fun z z0 z1=>⟨rfl,some z,(fun y e=>by cases e;exact⟨z0,z1⟩),rfl⟩]
  rintro σ' H3 ⟨rfl,mo,hmo,rfl⟩
  rwa[8,7,?_]
  have fin:∀b1 b2 b3:Bool,∀x dx,H3 x=none->H3 dx=none->dx≠x->keu d.qe [.ref x,pV kd, .int nd,oV mo, .bl b1, .bl b2, .bl b3] (upd (upd H3 dx (.own x)) x (.ins d.qe dx [])) (fun v H2=>v=.non/\Q (.ref x) H2) E0:=fun b1 b2 b3=>kiA (M:=⟨kd,nd,mo,b1,b2,b3⟩) fun H1 x s1 fx hM=>kk H1 x _ s1 fx hM ⟨hkd,hnd,hmo⟩
  rwa[8,8,8,8,9,(by show(0:Int)<9;decide),6,8,7,9,(by show(0:Int)<4;decide),6,8,7,9,(by show(0:Int)<4;decide),6,?_]
  exact fin _ _ _
theorem at3V{a b c:V}{i:Int}(h0:0<=i)(h3:i<3):∃v,atI [a,b,c] i>>v/\(v=a∨v=b∨v=c):=by
 obtain⟨n,rfl⟩:=Int.eq_ofNat_of_zero_le h0
 have hn:n<3:=by lia
 match n,hn with
 |0,_=>exact⟨a,rfl, .inl rfl⟩
 |1,_=>exact⟨b,rfl, .inr (.inl rfl)⟩
 |2,_=>exact⟨c,rfl, .inr (.inr rfl)⟩
inductive kgC(d:D)(vs:List V)(H:Hp)(Q:VK)(E_:XK):Prop
 |ct(c:Int)(ps:List (Option Nat))(s:Int)(_:vs=[.int c,iV ps.length, .int s])(_:0<ps.length)(_:Tbs d H)(_:∀(H':Hp)(x:Addr)(V:Vch),Same H H'->H x=none->VchIs d H' x V->VchOk ps V->Q (.ref x) H'):kgC d vs H Q E_
theorem Xr:kat ["_law_cell","_law_kinds","_law_scale","_law_mixed","_law_marks"] ["_law_cell","_law_kinds","_law_scale"] (kah kbJ):=by ac_rfl
theorem kdB(W:WB K mg d base):FO P w W 6 d.YJ d.YK ["_law_cell","_law_kinds","_law_scale"] (kgC d):=by
 exists W.ZQ.F,Xr
 ·obtain⟨c,ps,s',rfl,hn,htb0,kk⟩:=h
  exists qp,kbq,W
  exists Um,kep,W
  exists Uo,khG,W
  exists qy,kbC,W
  exists Uq,kge,W
  exists Ur,ker,W
  exists Us,kfs,W
  exists Ut,kes,W
  have hr1:Room 1 _:=hr.mono (by decide)
  have hr3:Room 3 _:=hr.mono (by decide)
  have hr4:Room 4 _:=hr.mono (by decide)
  refine⟨_,kab (psl (i:=3) Xr.nd (pcl qp hr1 W.qx (kaa (pv 0) (kaa kaf (kaa kaf kad)))))
   (kab (psl (i:=4) Xr.nd (pcl Um hr4 W.ZP (kaa (pv 0) (kaa (pv 1) (kaa (pv 2) kad)))))
   (kab (ps_if (kan op_eq (pe_op kaA (pv 3) kaf) kaf (kau _)) (kag (kaq (kbA (W.QZ.mk' W.c_Off) Uo hr rfl W.c_Off.m W.QZ.b .nil pass0 (kaa (pcl qy hr3 W.qH (kaa (pe_op kaz (pv 0) kaf) (kaa (pv 2) kad))) (kaa (pv 4) kad))))) (kar))
   (kab (ps_if (kan op_eq (pe_op kaA (pv 3) kaf) kaf (kau _)) (kag (kaq (kbA (W.Q1.mk' W.qh) Uq hr rfl W.qh.m W.Q1.b .nil pass0 (kaa (pe_ix (r:=rIxL K) kaH (kaX (kaa kaf (kaa kaf (kaa (pe_op kcN kaf (pe_op kaA (pe_op kaz (pv 3) kaf) kaf)) kad)))) (pe_op kaA (pe_op kaz (pv 3) kaf) kaf) (fun _ _=>rfl)) (kaa (kbB op_eq (pe_op kaA (pe_op kaz (pv 3) kaf) kaf) kaf (kau _)) (kaa (pv 4) kad)))))) (kar))
   (kab (ps_if (kan op_eq (pe_op kaA (pv 3) kaf) kaf (kau _)) (kag (kaq (kbA (W.Q3.mk' W.qj) Ur hr rfl W.qj.m W.Q3.b .nil pass0 (kaa (pe_op kcN kaf (pe_op kaA (pe_op kaz (pv 3) kaf) kaf)) (kaa (pv 4) kad))))) (kar))
   (kab (ps_if (kan op_eq (pe_op kaA (pv 3) kaf) kaf (kau _)) (kag (kaq (kbA (W.Q4.mk' W.qi) Us hr rfl W.qi.m W.Q4.b .nil pass0 (kaa (pe_op kcN kaf (pe_op kaA (pe_op kaz (pv 3) kaf) kaf)) (kaa (pcl qy hr3 W.qH (kaa (pe_op kaz (pv 0) kaf) (kaa (pv 2) kad))) (kaa (pv 4) kad)))))) (kar))
   (kag (kaq (kbA (W.Q5.mk' W.ql) Ut hr rfl W.ql.m W.Q5.b .nil pass0 (kaa (pv 4) kad))))))))),?_⟩
  rwa[8,c,40692,2147483579,6,⟨by decide,by decide⟩,by decide,?_]
  have hx0:0<=c*40692%2147483579:=by lia
  generalize c*40692%2147483579=mx at *
  rwa[8,8,8,c,ps,s',6,hn,fun H1 mA M s1 f1 hM hMo=>?_]
  have htb:Tbs d H1:=Tbs.same s1 htb0
  have fin:∀(so:Srt)(H2:Hp)(x:Addr),Same H1 H2->H1 x=none->VchIs d H2 x ⟨so,M⟩->SrtOk so->Q (.ref x) H2:=fun so H2 x s2 f2 hV hso=>kk H2 x _ (s1.trans s2) (s1.free f2) hV ⟨hso,hMo⟩
  rwa[8,9,(by show(0:Int)<5;decide),6,8,ite2 (fun _=>?_) (fun _=>?_)]
  ·rwa[8,7,8,_,8,fun z z0 z1=>⟨_,rfl,kg0 (so:=.off z) ⟨_,rfl⟩ rfl hM fun H2 x s2 f2 hV=>fin (.off z) H2 x s2 f2 hV ⟨z0,z1⟩⟩]
  rwa[8,9,(by show(0:Int)<5;decide),6,8,ite2 (fun _=>?_) (fun _=>?_)]
  ·rwa[8,7,9,(by show(0:Int)<1000;decide),9,(by show 3<=sizeLine;decide),fun l fl=>?_]
   obtain⟨v,e,hv⟩:=at3V (a:=.int 1000) (b:=.int 500) (c:=.int (1+mx/10%1000)) (i:=mx/5%3) (by lia) (by lia)
   obtain⟨sh,rfl,hsh⟩:∃sh:Int,v=.int sh/\1<=sh/\sh<=1000:=by
    rcases hv with rfl|rfl|rfl
    ·rwa[1000,6,by decide,by decide]
    ·rwa[500,6,by decide,by decide]
    ·rwa[8,by lia,by lia]
   have s2:=kam (o:=.lst [V.int 1000,V.int 500,V.int (1+mx/10%1000)]) fl
   have e2:(upd H1 l (.lst [V.int 1000,V.int 500,V.int (1+mx/10%1000)])) l>>(.lst [V.int 1000,V.int 500,V.int (1+mx/10%1000)]):=kae
   have hM2:=hM.same s2
   have htb2:=Tbs.same s2 htb
   have fin2:∀(b:Bool)(H2:Hp)(x:Addr),Same (upd H1 l (.lst [V.int 1000,V.int 500,V.int (1+mx/10%1000)])) H2->(upd H1 l (.lst [V.int 1000,V.int 500,V.int (1+mx/10%1000)])) x=none->VchIs d H2 x ⟨.share sh b,M⟩->Q (.ref x) H2:=fun b H2 x s3 f3 hV=>fin (.share sh b) H2 x (s2.trans s3) (s2.free f3) hV hsh
   generalize upd H1 l (.lst [V.int 1000,V.int 500,V.int (1+mx/10%1000)])=H2 at *
   rwa[8,7,9,(by show(0:Int)<3;decide),l,_,9,SqL.of e2,e,?_]
   have mk:∀b:Bool,∀x dx,H2 x=none->H2 dx=none->dx≠x->keb d.qh d.qe (fun so=>∃s b,so=.share s b) (.ref x::([.int sh, .bl b]++[.ref mA])) (upd (upd H2 dx (.own x)) x (.ins d.qh dx [])) (fun v H2=>v=.non/\Q (.ref x) H2) E0:=fun b=>kg0 (so:=.share sh b) ⟨_,_,rfl⟩ rfl hM2 (fun H3 x s3 f3 hV=>fin2 b H3 x s3 f3 hV) htb2
   rwa[8,7,9,(by show(0:Int)<2;decide),6,8,?_]
   exact mk _
  rwa[8,9,(by show(0:Int)<5;decide),6,8,ite2 (fun _=>?_) (fun _=>?_)]
  ·rwa[8,7,9,(by show(0:Int)<3;decide),9,8,kg0 (so:=.cheap (2+mx/5%3)) ⟨_,rfl⟩ rfl hM fun H2 x s2 f2 hV=>fin _ H2 x s2 f2 hV ⟨by lia,by lia⟩]
  rwa[8,9,(by show(0:Int)<5;decide),6,8,ite2 (fun _=>?_) (fun _=>?_)]
  ·rwa[8,7,9,(by show(0:Int)<3;decide),9,8,7,8,_,8,fun z z0 z1=>⟨_,rfl,kg0 (so:=.bund (2+mx/5%3) z) ⟨_,_,rfl⟩ rfl hM fun H2 x s2 f2 hV=>fin _ H2 x s2 f2 hV ⟨by lia,by lia,z0,z1⟩⟩]
  rwa[8,kg0 (so:=.carr) rfl rfl hM fun H2 x s2 f2 hV=>fin _ H2 x s2 f2 hV trivial]
inductive kjz(vs:List V)(H:Hp)(Q:VK)(E_:XK):Prop
 |ct(c:Int)(_:vs=[.int c])(_:∀(H':Hp)(p:Addr)(ps:List (Option Nat)),Same H H'->H p=none->H' p>>(.lst (ps.map pV))->Good ps->ps.length<=20->0<ps.length->Q (.ref p) H'):kjz vs H Q E_
theorem qV:kat ["_law_cell","_law_parents","_law_many","_law_k","_law_mixed"] ["_law_cell"] (kah kbK):=by ac_rfl
theorem kdC(W:WB K mg d base):FO P w W 2 d.YL d.YM ["_law_cell"] kjz:=by
 exists W.ZR.F,qV
 ·obtain⟨c,rfl,kk⟩:=h
  exists qp,kbq,W
  refine⟨_,kab (psl (i:=1) qV.nd (kaX kad))
   (kab (psl (i:=2) qV.nd (pe_op kcN kaf (pe_op kaA (pv 0) kaf)))
   (kab (kcn (ps_if (kan op_eq (pe_op kaA (pe_op kaz (pv 0) kaf) kaf) kaf (kau _)) (kag (psl (i:=2) qV.nd kaf)) (kar)))
   (kab (ka7 PassesOwn.never rfl (kcf rfl W.B.range (kaa (pv 2) kad)) (pgn (i:=3) qV.nd)
   (kab (psl (i:=4) qV.nd (pcl qp hr W.qx (kaa (pe_op kcN (pv 0) (pe_op kcg (pe_op kcg kaf (pv 3)) (pv 3))) (kaa kaf (kaa kaf kad)))))
   (kag (ka0 (pe_bm Nh NJ NK kbc (pv 1) (kaa (kl9 (kex (PW.pt (pw_or (kan op_eq (pv 3) kaf (kau _)) (kfC (kan op_eq (pe_op kaA (pv 4) kaf) kaf (kau _))))) kbo (pe_op kaA (pe_op kaz (pv 4) kaf) (pv 3)))) kad))))))
   (kag (kaq (pv 1)))))),?_⟩
  rwa[by decide,fun p fp=>?_]
  exists H,p,H1,n1,e1,fp
  rwa[8,9,(by show(0:Int)<5;decide),9,?_]
  rwa[fun σ' H'=>H'=H1/\∃m:Nat,0<m/\m<=20/\σ'=[some (.int c),some (.ref p),some (iV m),none,none],?_,?_]
  ·rwa[8,7,9,(by show(0:Int)<8;decide),6,8,ite2 (fun _=>⟨rfl,20,by decide,by decide,rfl⟩) (fun _=>⟨rfl,(1+c%5).toNat,by lia,by lia,?_⟩)]
   show _=[some (V.int c),some (.ref p),some (V.int (((1+c%5).toNat:Nat):Int)),none,none]
   rw[Int.toNat_of_nonneg (by lia)]
   rfl
  rintro σ' H' ⟨rfl,m,hm0,hm20,rfl⟩
  rwa[8,8,by lia,by lia,?_]
  rw[Int.toNat_natCast]
  refine kc1 (fun i σ H'=>Same H H'/\∃(ps:List (Option Nat))(v3 v4:Option V),σ=[some (.int c),some (.ref p),some (iV m),v3,v4]/\H' p>>(.lst (ps.map pV))/\ps.length=i/\Good ps)
   ⟨n1,[],none,none,rfl,e1,rfl,klG⟩ ?_ ?_
  ·rintro i σ H' hi ⟨s2,ps,v3,v4,rfl,hp2,hl,hg⟩
   rw[Int.zero_add]
   rwa[8,8,9, .inl ⟨by decide,by decide⟩,8,9, .inr ⟨by lia,by lia⟩,9,_,48271,2147483647,6,⟨by decide,by decide⟩,by decide,?_]
   dsimp only
   have hx0:0<=(c+7*(i:Int)*(i:Int))*48271%2147483647:=by lia
   generalize (c+7*(i:Int)*(i:Int))*48271%2147483647=mx at *
   rwa[8, .inl ⟨rfl,_,SqL.of hp2⟩,?_]
   rwa[fun v H3=>H3=H'/\∃o:Option Nat,v=pV o/\∀k,o>>k->k<i,?_,?_]
   ·rwa[8,6,8,?_]
    show if decide (iV i=iV 0)=true then _ else _
    rw[kha]
    by_cases h0:i=0
    ·rw[decide_eq_true h0]
     exact iteT (iteT ⟨rfl,none,rfl,fun k e=>by cases e⟩)
    ·rw[decide_eq_false h0]
     have k0:0<=mx/4%(i:Int):=Int.emod_nonneg _ (by lia)
     have k1:mx/4%(i:Int)<(i:Int):=Int.emod_lt_of_pos _ (by lia)
     refine iteF ⟨_,rfl,_,_,rfl,rfl,(by show(0:Int)<4;decide),rfl,_,rfl,ite2 (fun _=>⟨rfl,none,rfl,fun k e=>by cases e⟩) (fun _=>?_)⟩
     rwa[8,7,8,9,(by show(0:Int)<(i:Int);lia),6,some (mx/4%(i:Int)).toNat,?_,fun k e=>by cases e;lia]
     show V.int _=V.int (((mx/4%(i:Int)).toNat:Nat):Int)
     rw[Int.toNat_of_nonneg k0]
   rintro v H3 ⟨rfl,o,rfl,ho⟩
   rwa[p,9,hp2,kas (by rw[Jv];lia),?_]
   rwa[kav fp s2 (nx hp2),ps++[o],_,8,?_,by simp[hl],kkG hg (fun k e=>by rw[hl];exact ho k e)]
   rw[kae]
   simp
  ·rintro σ H' ⟨s2,ps,v3,v4,rfl,hp2,hl,hg⟩
   rwa[8,kk H' p ps s2 fp hp2 hg (by lia) (by lia)]
theorem keG:∀(l:List Int)(j:Nat)(x z:Int),l[j]?>>z->(l.set j x).sum=l.sum-z+x
 |[],j,x,z,h=>by simp at h
 |a::l,0,x,z,h=>by
  have e:a=z:=by simpa using h
  subst e
  simp[J0]
  lia
 |a::l,j+1,x,z,h=>by
  have ih:=keG l j x z (by simpa using h)
  rw[EB,J0,ih,J0]
  lia
theorem kii{l:List Int}{j:Nat}{x:Int}(h:∀z∈l,0<=z)(hx:0<=x):∀z∈l.set j x,0<=z:=fun z hz=>by
 rcases EG hz with h'|h'
 ·exact h z h'
 ·rw[h'];exact hx
theorem kgz:∀n:Nat,(JE n (0:Int)).sum=0
 |0=>rfl
 |n+1=>by rw[N2,J0,kgz n];rfl
inductive kib(vs:List V)(H:Hp)(Q:VK)(E_:XK):Prop
 |ct(mh vo:Addr)(ks:List Int)(va:List Addr)(m:Nat)(f:Int)(_:vs=[.ref mh, .ref vo,iV m, .int f])(_:H mh>>(.lst (ks.map V.int)))(_:H vo>>(.lst (va.map V.ref)))(_:ks.length<=100)(_:va.length<=8)(_:m<=20)(_:∀(H':Hp)(p:Addr)(hand:List Int),Same H H'->H p=none->H' p>>(.lst (hand.map V.int))->hand.length=va.length->(∀z∈hand,0<=z)->hand.sum<=(m:Int)->Q (.ref p) H'):kib vs H Q E_
theorem QC:kat ["_law_more_held","_law_vouchers","_law_most_held","_law_first","_law_hand","_law_k","_law_number"] ["_law_more_held","_law_vouchers","_law_most_held","_law_first"] (kah kcw):=by ac_rfl
theorem keY(W:WB K mg d base):FO P w W 1 d.YN d.YO ["_law_more_held","_law_vouchers","_law_most_held","_law_first"] kib:=by
 exists W.ZS.F,QC
 ·obtain⟨mh,vo,ks,va,m,f,rfl,hmh,hvo,hk,h8,hm,kk⟩:=h
  refine⟨_,kab (kdW (N:=["_law_voucher"]) (CompScope.plain rfl (by cutsat) (by cutsat) (by cutsat) (nd1 _)) rfl (kaB (K:=K) (pv 1)) (fun _ _ _ _=>pgn (i:=0) (nd1 _)) (fun _ _ _ _=>kaf) (pgn (i:=4) QC.nd))
   (kab (ka7 PassesOwn.never rfl (kcf rfl W.B.range (kaa (kao (kbS rfl) (by rfl) W.B.min b_min (kaa (kao (r:=kaG K) kap (by rfl) W.B.len b_len (kaa (pv 4) kad)) (kaa (pv 2) kad))) kad)) (pgn (i:=5) QC.nd)
   (kag (kec kaf (kfD (pv 4) (pe_op kaA (pe_op kcN (pv 3) (pv 5)) (kao (r:=kaG K) kap (by rfl) W.B.len b_len (kaa (pv 4) kad))) set_list))))
   (kab (ka7 PassesOwn.never rfl (kaB (K:=K) (pv 0)) (pgn (i:=6) QC.nd)
   (kag (ps_if (PW.pt (kbb (kan op_gt (kao (r:=kaG K) kap (by rfl) W.B.len b_len (kaa (pv 4) kad)) kaf (kau _)) (kbb (kan op_lt (kao (r:=rSum K) (kcM rfl) (by rfl) W.B.sum b_sum (kaa (pv 4) kad)) (pv 2) (kau _)) (kaU (kan op_lt (pe_ix (r:=rIxL K) kaH (pv 4) (pe_op kaA (pv 6) (kao (r:=kaG K) kap (by rfl) W.B.len b_len (kaa (pv 4) kad))) (fun _ _=>rfl)) kaf (kau _)))))) (kag (kmM (pv 4) (pe_op kaA (pv 6) (kao (r:=kaG K) kap (by rfl) W.B.len b_len (kaa (pv 4) kad))) klI kaf kmm set_list)) (kag (ps_if (PW.pt (kbb (kan op_gt (kao (r:=kaG K) kap (by rfl) W.B.len b_len (kaa (pv 4) kad)) kaf (kau _)) (kaU (kan op_eq (pe_op kaA (pe_op kaz (pv 6) kaf) kaf) kaf (kau _))))) (kag (kec kaf (kfD (pv 4) (pe_op kaA (pv 6) (kao (r:=kaG K) kap (by rfl) W.B.len b_len (kaa (pv 4) kad))) set_list))) (kar))))))
   (kag (kaq (pv 4))))),?_⟩
  rwa[8,vo,6,⟨_,SqL.of hvo⟩,kaY (xs:=va.map V.ref) (fun i σ ys H'=>H'=H/\ys=(JE i (0:Int)).map V.int/\∃v0:Option V,σ=[v0]) ⟨rfl,rfl,none,rfl⟩ (by rw[Jv];exact JJ (kas (by lia))) ?_ ?_ ?_]
  ·rintro i σ ys H' hi ⟨rfl,rfl,_⟩
   rwa[SqL.of hvo,by simp]
  ·rintro i y σ ys H' hy ⟨rfl,rfl,v0,rfl⟩
   rwa[6,?_,8]
   rw[M7,JC]
   rfl
  rintro σ ys H' ⟨rfl,rfl,v0,rfl⟩ p fp
  rw[Jv]
  exists H',p,H1,n1,e1,fp
  rwa[8,p,8, .inl (SqL.of e1),8,_,8,?_]
  have hL:((((JE va.length (0:Int)).map V.int).length:Nat):Int)=(va.length:Int):=by simp
  rw[hL]
  have hq:0<=(if(m:Int)<(va.length:Int) then(m:Int) else(va.length:Int))/\(if(m:Int)<(va.length:Int) then(m:Int) else(va.length:Int))<=(m:Int)/\(if(m:Int)<(va.length:Int) then(m:Int) else(va.length:Int))<=(va.length:Int):=by split <;> lia
  generalize (if(m:Int)<(va.length:Int) then(m:Int) else(va.length:Int))=q at *
  rwa[8,by lia,by lia,?_]
  refine kc1 (fun i σ H2=>Same H' H2/\∃(hand:List Int)(v5:Option V),H2 p>>(.lst (hand.map V.int))/\hand.length=va.length/\(∀z∈hand,0<=z)/\hand.sum<=(i:Int)/\σ=[some (.ref mh),some (.ref vo),some (iV m),some (.int f),some (.ref p),v5,none])
   ⟨n1,_,none,e1,by simp,(fun z hz=>by rw[(ED.mp hz).2];exact Int.le_refl _),by rw[kgz];exact Int.le_refl _,rfl⟩ ?_ ?_
  ·rintro i σ H2 hi ⟨s2,hand,v5,e2,hl,hnn,hsum,rfl⟩
   rw[Int.zero_add]
   have hl0:0<hand.length:=by lia
   have k0:0<=(f+(i:Int))%(hand.length:Int):=Int.emod_nonneg _ (by lia)
   have k1:(f+(i:Int))%(hand.length:Int)<(hand.length:Int):=Int.emod_lt_of_pos _ (by lia)
   obtain⟨j,ej⟩:=Int.eq_ofNat_of_zero_le k0
   obtain⟨z,ez⟩:=at_of (xs:=hand) (i:=j) (by lia)
   have hz:=hnn z (JB ez)
   rwa[8,8,8,9,8,p,8, .inl (SqL.of e2),9,(by rw[Jv];lia),p,_,_,j,6,6,e2,(by rw[Jv];show ixN hand.length ((f+(i:Int))%((hand.length:Nat):Int))>>j;rw[ej];exact kd6 (by lia)),?_]
   rw[<-N4]
   rwa[kav fp s2 (nx e2),hand.set j 1,_,kae,by rw[N8];exact hl,kii hnn (by decide),?_,6]
   rw[keG hand j 1 z ez]
   lia
  rintro σ H2 ⟨s2,hand0,v5,e2,hl0,hnn0,hsum0,rfl⟩
  refine⟨_,rfl,mh,rfl,⟨_,SqL.of (s2 _ _ hmh)⟩,ka9 (xs:=ks.map V.int) (fun i σ H3=>Same H' H3/\∃(hand:List Int)(v6:Option V),H3 p>>(.lst (hand.map V.int))/\hand.length=va.length/\(∀z∈hand,0<=z)/\hand.sum<=(m:Int)/\σ=[some (.ref mh),some (.ref vo),some (iV m),some (.int f),some (.ref p),v5,v6])
   ⟨s2,hand0,none,e2,hl0,hnn0,by lia,rfl⟩ (fun i σ H3 _ h=>SqL.of (h.1 _ _ hmh)) ?_ ?_⟩
  ·rintro i y σ H3 hy ⟨s3,hand,v6,e3,hl,hnn,hsum,rfl⟩
   obtain⟨k,_,rfl⟩:∃z,ks[i]?>>z/\y=V.int z:=kbO hy
   have hL3:(((hand.map V.int).length:Nat):Int)=(hand.length:Int):=by rw[Jv]
   rwa[8,p,8, .inl (SqL.of e3),9,8,?_]
   by_cases h0:0<hand.length
   ·have k0:0<=k%(hand.length:Int):=Int.emod_nonneg _ (by lia)
    have k1:k%(hand.length:Int)<(hand.length:Int):=Int.emod_lt_of_pos _ (by lia)
    obtain⟨j,ej⟩:=Int.eq_ofNat_of_zero_le k0
    obtain⟨z,ez⟩:=at_of (xs:=hand) (i:=j) (by lia)
    have hz:=hnn z (JB ez)
    have atJ:atI (hand.map V.int) (k%(((hand.map V.int).length:Nat):Int))>>(V.int z):=by rw[hL3,ej];exact kaK (by rw[JF,ez];rfl)
    have ixJ:ixN (hand.map V.int).length (k%(((hand.map V.int).length:Nat):Int))>>j:=by rw[hL3,ej];exact kd6 (by rw[Jv];lia)
    have hpos:(0:Int)<(((hand.map V.int).length:Nat):Int):=by lia
    rw[show decide ((((hand.map V.int).length:Nat):Int) > 0)=true from decide_eq_true (by lia)]
    refine iteT ⟨_,rfl,p,hand,rfl,SqL.of e3,_,rfl,_,_,rfl,rfl,_,rfl,?_⟩
    by_cases hs:hand.sum<(m:Int)
    ·rw[show decide (hand.sum<(m:Int))=true from decide_eq_true hs]
     refine iteT ⟨_,rfl,_,rfl,_,rfl,p,_,rfl, .inl (SqL.of e3),_,_,rfl,rfl,hpos,p,_,_,_,rfl,rfl,SqL.of e3,atJ,_,_,rfl,rfl,_,rfl,ite2 (fun _=>?_) (fun _=>?_)⟩
     ·rwa[8,8,8,p,8, .inl (SqL.of e3),9,hpos,p,_,9,SqL.of e3,atJ,9,p,_,_,j,6,6,e3,ixJ,?_]
      rw[<-N4]
      rwa[kav fp s3 (nx e3),hand.set j (z+1),_,kae,by rw[N8];exact hl,kii hnn (by lia),?_,6]
      rw[keG hand j (z+1) z ez]
      lia
     ·rwa[8,p,8, .inl (SqL.of e3),9,8,?_]
      rw[show decide ((((hand.map V.int).length:Nat):Int) > 0)=true from decide_eq_true (by lia)]
      refine iteT ⟨_,rfl,_,_,rfl,rfl,⟨by decide,by decide⟩,_,_,rfl,rfl,(by show(0:Int)<3;decide),rfl,_,rfl,ite2 (fun _=>?_) (fun _=>⟨s3,hand,_,e3,hl,hnn,hsum,rfl⟩)⟩
      rwa[8,8,8,p,8, .inl (SqL.of e3),9,hpos,p,_,_,j,6,6,e3,ixJ,?_]
      rw[<-N4]
      rwa[kav fp s3 (nx e3),hand.set j 0,_,kae,by rw[N8];exact hl,kii hnn (by decide),?_,6]
      rw[keG hand j 0 z ez]
      lia
    ·rw[show decide (hand.sum<(m:Int))=false from decide_eq_false hs]
     refine iteF (iteF ?_)
     rwa[8,p,8, .inl (SqL.of e3),9,8,?_]
     rw[show decide ((((hand.map V.int).length:Nat):Int) > 0)=true from decide_eq_true (by lia)]
     refine iteT ⟨_,rfl,_,_,rfl,rfl,⟨by decide,by decide⟩,_,_,rfl,rfl,(by show(0:Int)<3;decide),rfl,_,rfl,ite2 (fun _=>?_) (fun _=>⟨s3,hand,_,e3,hl,hnn,hsum,rfl⟩)⟩
     rwa[8,8,8,p,8, .inl (SqL.of e3),9,hpos,p,_,_,j,6,6,e3,ixJ,?_]
     rw[<-N4]
     rwa[kav fp s3 (nx e3),hand.set j 0,_,kae,by rw[N8];exact hl,kii hnn (by decide),?_,6]
     rw[keG hand j 0 z ez]
     lia
   ·rw[show decide ((((hand.map V.int).length:Nat):Int) > 0)=false from decide_eq_false (by lia)]
    refine iteF (iteF ⟨_,rfl,p,_,rfl, .inl (SqL.of e3),_,_,rfl,rfl,_,rfl,?_⟩)
    rw[show decide ((((hand.map V.int).length:Nat):Int) > 0)=false from decide_eq_false (by lia)]
    exact iteF (iteF ⟨s3,hand,_,e3,hl,hnn,hsum,rfl⟩)
  ·rintro σ H3 ⟨s3,hand,v6,e3,hl,hnn,hsum,rfl⟩
   rwa[8,kk H3 p hand s3 fp e3 hl hnn hsum]
noncomputable def mans(rs:List Row):List Nat:=rs.map fun r=>r.mn.toNat
theorem kgS:∀(rs:List Row)(k:Nat),((rs.zipIdx k).map fun p=>JE p.1.mn.toNat p.2).flatten.length=(mans rs).sum
 |[],k=>rfl
 |r::rs,k=>by
  rw[Ex,JG,J9,JN,N7,kgS rs (k+1)]
  rfl
theorem klm(rs:List Row):(ownN rs).length=(mans rs).sum:=kgS rs 0
theorem kiD:∀{rs:List Row},(∀r∈rs,0<=r.mn)->(rs.map fun r=>r.mn).sum=(((mans rs).sum:Nat):Int)
 |[],_=>rfl
 |r::rs,h=>by
  have h0:=h r JS
  have ih:=kiD (rs:=rs) fun r hr=>h r (JQ _ hr)
  unfold mans at ih⊢
  rw[JG,JG,J0,J0,ih]
  lia
theorem kl6:∀(l:List Nat)(j x:Nat),(l.set j x).sum<=l.sum+x
 |[],j,x=>by simp
 |a::l,0,x=>by simp[J0];lia
 |a::l,j+1,x=>by
  have:=kl6 l j x
  rw[EB,J0,J0]
  lia
theorem VchIs.lst{d:D}{H:Hp}{l v:Addr}{V:Vch}{xs:List L2.V}{o:HO}(hl:H l>>(.lst xs))(tb:Tbs d (upd H l o)):VchIs d H v V->VchIs d (upd H l o) v V:=by rintro⟨mA,dv,fv,h1,h2,h3,⟨dm,fm,h4,h5⟩,h6,_⟩;exact
 ⟨mA,dv,fv,by rw[kak (ne_of h1 hl (by intro z;cases z))];exact h1,h2,h3,⟨dm,fm,by rw[kak (ne_of h4 hl (by intro z;cases z))];exact h4,h5⟩,h6,tb⟩
theorem P2.put{α β:Type}{R: α->β->Prop}{a: α}{b: β}(r:R a b):∀{as:List α}{bs:List β}(i:Nat),P2 R as bs->P2 R (as.set i a) (bs.set i b)
 |_,_,_, .nil=>.nil
 |_,_,0, .cons _ t=>.cons r t
 |_,_,i+1, .cons q t=>.cons q (P2.put r i t)
theorem kkY{ss:List Str}{i:Int}(h0:0<=i)(h:i<((ss.length:Nat):Int)):∃z,z∈ss/\atI (ss.map V.str) i>>(.str z):=by
 obtain⟨n,rfl⟩:=Int.eq_ofNat_of_zero_le h0
 obtain⟨z,ez⟩:=at_of (xs:=ss) (i:=n) (by lia)
 rwa[z,JB ez,kaK (by rw[JF,ez];rfl)]
theorem RulIs.put{H:Hp}{a l:Addr}{r:Rul}{xs ys:List L2.V}(hl:H l>>(.lst xs))(h:RulIs H a r):RulIs (upd H l (.lst ys)) a r:=by
 have h':H a>>(.tup [.str r.w,iV r.a,iV r.b]):=h
 show(upd H l (.lst ys)) a=_
 rw[kak (ne_of h' hl (by intro z;cases z))]
 exact h'
def RowW(n:Nat)(r:Row):Prop:=r.Ok/\(0<=r.kd/\r.kd<(n:Int))/\r.mn<=7
theorem two'{c:Bool}{T A B:Prop}(hT:B->T)(hB:B):if c=true then T else(if false=true then A else B):=by
 cases c with
 |true=>exact iteT (hT hB)
 |false=>exact iteF (iteF hB)
structure Ap4(ln vc lk mo:Addr):Prop where
 lv:ln≠vc
 ll:ln≠lk
 lm:ln≠mo
 vl:vc≠lk
 vm:vc≠mo
 km:lk≠mo
structure WldS(d:D)(H:Hp)(ln vc lk mo:Addr)(la va:List Addr)(rs:List Row)(vs:List Vch)(ls ks:List Int):Prop where
 eln:H ln>>(.lst (la.map V.ref))
 evc:H vc>>(.lst (va.map V.ref))
 elk:H lk>>(.lst (ls.map V.int))
 emo:H mo>>(.lst (ks.map V.int))
 hln:Lines d.qf H la rs
 hvc:P2 (fun v V=>VchIs d H v V) va vs
theorem WldS.same{d:D}{H H':Hp}{ln vc lk mo:Addr}{la va:List Addr}{rs:List Row}{vs:List Vch}{ls ks:List Int}(s:Same H H')(h:WldS d H ln vc lk mo la va rs vs ls ks):WldS d H' ln vc lk mo la va rs vs ls ks:=
 ⟨s _ _ h.eln,s _ _ h.evc,s _ _ h.elk,s _ _ h.emo,h.hln.same s,h.hvc.mono fun v V q=>q.same s⟩
section
variable{d:D}{H:Hp}{ln vc lk mo:Addr}{la va:List Addr}{rs:List Row}{vs:List Vch}{ls ks:List Int}
theorem WldS.putL(a:Ap4 ln vc lk mo){la':List Addr}{rs':List Row}(h:WldS d H ln vc lk mo la va rs vs ls ks)(tb:Tbs d (upd H ln (.lst (la'.map V.ref))))(hl:Lines d.qf H la' rs'):WldS d (upd H ln (.lst (la'.map V.ref))) ln vc lk mo la' va rs' vs ls ks:=
 ⟨kae,by rw[kak a.lv.symm];exact h.evc,by rw[kak a.ll.symm];exact h.elk,by rw[kak a.lm.symm];exact h.emo,hl.set h.eln,h.hvc.mono fun v V q=>q.lst h.eln tb⟩
theorem WldS.putV(a:Ap4 ln vc lk mo){va':List Addr}{vs':List Vch}(h:WldS d H ln vc lk mo la va rs vs ls ks)(tb:Tbs d (upd H vc (.lst (va'.map V.ref))))(hv:P2 (fun v V=>VchIs d H v V) va' vs'):WldS d (upd H vc (.lst (va'.map V.ref))) ln vc lk mo la va' rs vs' ls ks:=
 ⟨by rw[kak a.lv];exact h.eln,kae,by rw[kak a.vl.symm];exact h.elk,by rw[kak a.vm.symm];exact h.emo,h.hln.set h.evc,hv.mono fun v V q=>q.lst h.evc tb⟩
theorem WldS.putK(a:Ap4 ln vc lk mo){ls':List Int}(h:WldS d H ln vc lk mo la va rs vs ls ks)(tb:Tbs d (upd H lk (.lst (ls'.map V.int)))):WldS d (upd H lk (.lst (ls'.map V.int))) ln vc lk mo la va rs vs ls' ks:=
 ⟨by rw[kak a.ll];exact h.eln,by rw[kak a.vl];exact h.evc,kae,by rw[kak a.km.symm];exact h.emo,h.hln.set h.elk,h.hvc.mono fun v V q=>q.lst h.elk tb⟩
theorem WldS.putM(a:Ap4 ln vc lk mo){ks':List Int}(h:WldS d H ln vc lk mo la va rs vs ls ks)(tb:Tbs d (upd H mo (.lst (ks'.map V.int)))):WldS d (upd H mo (.lst (ks'.map V.int))) ln vc lk mo la va rs vs ls ks':=
 ⟨by rw[kak a.lm];exact h.eln,by rw[kak a.vm];exact h.evc,by rw[kak a.km];exact h.elk,kae,h.hln.set h.emo,h.hvc.mono fun v V q=>q.lst h.emo tb⟩
end
structure NumW(n:Nat)(ps:List (Option Nat))(rs:List Row)(vs:List Vch)(ls ks:List Int):Prop where
 rows:∀r∈rs,RowW n r
 vok:∀V∈vs,VchOk ps V
 pcs:(mans rs).sum<=24
 lr:rs.length<=12
 lv:vs.length<=8
 ll:ls.length<=3
 lk:ks.length<=6
inductive LpW(d:D)(H1:Hp)(ps:List (Option Nat))(a p ln vc lk mo:Addr)(mv' mh ml mp:Nat)(sc fl:Int)(l6:Addr)(ms:List Int)(σ:St)(H':Hp):Prop
 |ct(s:Same H1 H')(el:H' l6>>(.lst (ms.map V.int)))(la va:List Addr)(rs:List Row)(vs:List Vch)(ls ks:List Int)(v12 v13 v14:Option V)(w:WldS d H' ln vc lk mo la va rs vs ls ks)(N:NumW ps.length ps rs vs ls ks)(h:(mans rs).sum<=12)(e: σ=[some (.ref a),some (iV mv'),some (iV mh),some (.int sc),some (.ref p),some (.ref ln),some (.ref vc),some (.ref lk),some (.ref mo),some (.int fl),some (iV ml),some (iV mp),v12,v13,v14,none,none,none,none,none])
theorem LpW.el6{d:D}{H1:Hp}{ps:List (Option Nat)}{a p ln vc lk mo:Addr}{mv' mh ml mp:Nat}{sc fl:Int}{l6:Addr}{ms:List Int}{σ:St}{H':Hp}(h:LpW d H1 ps a p ln vc lk mo mv' mh ml mp sc fl l6 ms σ H'):H' l6>>(.lst (ms.map V.int)):=by
 cases h
 assumption
inductive JnV(d:D)(H1:Hp)(ps:List (Option Nat))(a p ln vc lk mo:Addr)(mv' mh ml mp:Nat)(sc fl:Int)(v12 v13 v14:Option V)(la:List Addr)(rs:List Row)(ls ks:List Int)(σ:St)(H':Hp):Prop
 |ct(s:Same H1 H')(va':List Addr)(vs':List Vch)(w:WldS d H' ln vc lk mo la va' rs vs' ls ks)(N:NumW ps.length ps rs vs' ls ks)(e: σ=[some (.ref a),some (iV mv'),some (iV mh),some (.int sc),some (.ref p),some (.ref ln),some (.ref vc),some (.ref lk),some (.ref mo),some (.int fl),some (iV ml),some (iV mp),v12,v13,v14,none,none,none,none,none])
inductive JnL(d:D)(H1:Hp)(ps:List (Option Nat))(a p ln vc lk mo:Addr)(mv' mh ml mp:Nat)(sc fl:Int)(v12 v13 v14:Option V)(va':List Addr)(vs':List Vch)(ls ks:List Int)(σ:St)(H':Hp):Prop
 |ct(s:Same H1 H')(la':List Addr)(rs':List Row)(w:WldS d H' ln vc lk mo la' va' rs' vs' ls ks)(N:NumW ps.length ps rs' vs' ls ks)(e: σ=[some (.ref a),some (iV mv'),some (iV mh),some (.int sc),some (.ref p),some (.ref ln),some (.ref vc),some (.ref lk),some (.ref mo),some (.int fl),some (iV ml),some (iV mp),v12,v13,v14,none,none,none,none,none])
inductive kjr(K:Jw)(d:D)(vs:List V)(H:Hp)(Q:VK)(E_:XK):Prop
 |ct(a:Addr)(ns:List Int)(mv mh:Nat)(_:vs=[.ref a,iV mv,iV mh])(_:SqL K H a (ns.map V.int))(_:ns.length<=63)(_:mv<=8)(_:mh<=20)(_:Tbs d H)(_:∀(H':Hp)(w t b h:Addr)(T:TillD)(B:Bask)(hand:List Int),Same H H'->H h=none->H' w>>(.tup [.ref t, .ref b, .ref h])->TillIs d H' t T->kbw T->BaskIs d.qf d.qg H' b B->Wf T.ps B (stnd0 B)->H' h>>(.lst (hand.map V.int))->hand.length=T.vs.length->(∀z∈hand,0<=z)->hand.sum<=(mh:Int)->T.rs.length<=3->(∀r∈T.rs,r.a<T.vs.length/\r.b<T.vs.length)->(T.bk=("again" :Str)∨T.bk=("shares" :Str))->Q (.ref w) H'):kjr K d vs H Q E_
theorem qo:kat ["_law_script","_law_most_vouchers","_law_most_held","_law_scale","_law_parents","_law_lines","_law_vouchers","_law_links","_law_more_held","_law_flag","_law_most_lines","_law_most_pieces","_law_cell","_law_mixed","_law_left","_law_rules","_law_link","_law_one","_law_basket","_law_till"] ["_law_script","_law_most_vouchers","_law_most_held"] (kah kca):=by ac_rfl
theorem keo(W:WB K mg d base):FO P w W 7 d.YQ d.YR ["_law_script","_law_most_vouchers","_law_most_held"] (kjr K d):=by
 exists W.QV.F,qo
 ·obtain⟨a,ns,mv,mh,rfl,hS,hn,hmv,hmh,htb0,kk⟩:=h
  exists qK,kcY,W
  exists Uu,kdC,W
  exists qp,kbq,W
  exists Uv,keX,W
  exists Uw,kdB,W
  exists Ux,kft,W
  exists qy,kbC,W
  exists Uy,kgX,W
  exists Uz,keY,W
  have hr1:Room 1 _:=hr.mono (by decide)
  have hr2:Room 2 _:=hr.mono (by decide)
  have hr3:Room 3 _:=hr.mono (by decide)
  have hr4:Room 4 _:=hr.mono (by decide)
  refine⟨_,kab (psl (i:=3) qo.nd (pe_op kaA (pcl qK hr1 W.qG (kaa (pv 0) (kaa kaf kad))) kaf))
   (kab (psl (i:=4) qo.nd (pcl Uu hr2 W.ZR (kaa (pe_op kaz (pcl qK hr1 W.qG (kaa (pv 0) (kaa kaf kad))) kaf) kad)))
   (kab (psl (i:=5) qo.nd (kaX kad))
   (kab (psl (i:=6) qo.nd (kaX kad))
   (kab (psl (i:=7) qo.nd (kaX kad))
   (kab (psl (i:=8) qo.nd (kaX kad))
   (kab (psl (i:=9) qo.nd (pcl qp hr1 W.qx (kaa (pcl qK hr1 W.qG (kaa (pv 0) (kaa kaf kad))) (kaa kaf (kaa kaf kad)))))
   (kab (psl (i:=10) qo.nd kaf)
   (kab (psl (i:=11) qo.nd kaf)
   (kab (kcn (ps_if (kan op_eq (pe_op kaA (pv 9) kaf) kaf (kau _)) (kag (psl (i:=1) qo.nd kaf)) (kar)))
   (kab (kcn (ps_if (kan op_eq (pe_op kaA (pe_op kaz (pv 9) kaf) kaf) kaf (kau _)) (kab (psl (i:=10) qo.nd kaf)
   (kag (psl (i:=11) qo.nd kaf))) (kar)))
   (kab (ka7 PassesOwn.never rfl (kaB (K:=K) (kf7 (r:=rSlL K) khs (pv 0) (kf6 kaf) kj2)) (pgn (i:=12) qo.nd)
   (kab (psl (i:=13) qo.nd (pcl qp hr1 W.qx (kaa (pv 12) (kaa kaf (kaa kaf kad)))))
   (kag (ps_if (PW.pt (kbb (kan op_lt (pe_op kaA (pv 13) kaf) kaf (kau _)) (kaU (kan op_lt (kao (r:=kaG K) kap (by rfl) W.B.len b_len (kaa (pv 5) kad)) (pv 10) (kau _))))) (kab (psl (i:=14) qo.nd (kao (kdM rfl) (by rfl) W.B.max b_max (kaa kaf (kaa (pe_op kdx kaf (kao (r:=rSum K) (kcM rfl) (by rfl) W.B.sum b_sum (kaa (kbZ (N:=["_law_line"]) (CompScope.plain rfl (by cutsat) (by cutsat) (by cutsat) (nd1 _)) rfl (kaB (K:=K) (pv 5)) (fun _ _ _ _=>pgn (i:=0) (nd1 _)) (fun _ _ _ _=>(kaj (K:=K) (pv 0) rfl))) kad))) kad))))
   (kag (ka0 (pe_bm Nh NJ NK kbc (pv 5) (kaa (pcl Uv hr4 W.ZO (kaa (pv 12) (kaa (kao (r:=kaG K) kap (by rfl) W.B.len b_len (kaa (pv 4) kad)) (kaa (pv 3) (kaa (kao (kbS rfl) (by rfl) W.B.min b_min (kaa (pv 14) (kaa (pv 11) kad))) kad))))) kad))))) (kag (ps_if (PW.pt (kbb (kan op_lt (pe_op kaA (pv 13) kaf) kaf (kau _)) (kaU (kan op_lt (kao (r:=kaG K) kap (by rfl) W.B.len b_len (kaa (pv 6) kad)) (pv 1) (kau _))))) (kag (ka0 (pe_bm Nh NJ NK kbc (pv 6) (kaa (pcl Uw hr W.ZQ (kaa (pv 12) (kaa (kao (r:=kaG K) kap (by rfl) W.B.len b_len (kaa (pv 4) kad)) (kaa (pv 3) kad)))) kad)))) (kag (ps_if (PW.pt (kbb (kan op_eq (pe_op kaA (pv 13) kaf) kaf (kau _)) (kaU (kan op_lt (kao (r:=kaG K) kap (by rfl) W.B.len b_len (kaa (pv 7) kad)) kaf (kau _))))) (kag (ka0 (pe_bm Nh NJ NK kbc (pv 7) (kaa (pe_op kaz (pv 13) kaf) kad)))) (kag (ps_if (kan op_lt (kao (r:=kaG K) kap (by rfl) W.B.len b_len (kaa (pv 8) kad)) kaf (kau _)) (kag (ka0 (pe_bm Nh NJ NK kbc (pv 8) (kaa (pe_op kaz (pv 13) kaf) kad)))) (kar)))))))))))
   (kab (kcn (ps_if (PW.pt (kbb (kan op_eq (pe_op kaA (pe_op kaz (pv 9) kaf) kaf) kaf (kau _)) (kaU (kan op_gt (kao (r:=kaG K) kap (by rfl) W.B.len b_len (kaa (pv 6) kad)) kaf (kau _))))) (kag (kec (pe_ix (r:=rIxL K) kaH (pv 6) kaf (fun _ _=>rfl)) (kfD (pv 6) kaf set_list))) (kar)))
   (kab (kcn (ps_if (PW.pt (kbb (kan op_eq (pe_op kaA (pe_op kaz (pv 9) kaf) kaf) kaf (kau _)) (kaU (kan op_gt (kao (r:=kaG K) kap (by rfl) W.B.len b_len (kaa (pv 5) kad)) kaf (kau _))))) (kag (kec (pe_ix (r:=rIxL K) kaH (pv 5) kaf (fun _ _=>rfl)) (kfD (pv 5) kaf set_list))) (kar)))
   (kab (psl (i:=15) qo.nd (kaX kad))
   (kab (ka7 PassesOwn.never rfl (kaB (K:=K) (pv 7)) (pgn (i:=16) qo.nd)
   (kag (ps_if (kan op_gt (kao (r:=kaG K) kap (by rfl) W.B.len b_len (kaa (pv 6) kad)) kaf (kau _)) (kab (psl (i:=17) qo.nd (pe_op kaA (pe_op kaz (pv 16) kaf) (kao (r:=kaG K) kap (by rfl) W.B.len b_len (kaa (pv 6) kad))))
   (kag (ka0 (pe_bm Nh NJ NK kbc (pv 15) (kaa (kb4 (kaa (pe_ix (r:=rIxL K) kaH (kaX (kaa kbN (kaa kbN (kaa kbN kad)))) (pe_op kaA (pv 16) kaf) (fun _ _=>rfl)) (kaa (pv 17) (kaa (pe_op kaA (pe_op kaz (pv 16) kaf) (kao (r:=kaG K) kap (by rfl) W.B.len b_len (kaa (pv 6) kad))) kad)))) kad))))) (kar))))
   (kab (psl (i:=12) qo.nd (pcl qK hr1 W.qG (kaa (pv 0) (kaa kaf kad))))
   (kab (psl (i:=18) qo.nd (kbA (W.Xa.mk' W.qg) Ux hr2 rfl W.qg.m W.Xa.b .nil pass0 (kaa (pv 5) (kaa (pcl qy hr3 W.qH (kaa (pe_op kaz (pv 12) kaf) (kaa (pv 3) kad))) (kaa (kbB op_eq (pe_op kaA (pv 12) kaf) kaf (kau _)) kad)))))
   (kab (psl (i:=19) qo.nd (kbA (W.Xd.mk' W.qd) Uy hr2 rfl W.qd.m W.Xd.b .nil pass0 (kaa (pv 4) (kaa (pv 6) (kaa (pv 15) (kaa (pe_ix (r:=rIxL K) kaH (kaX (kaa kbN (kaa kbN kad))) (pe_op kaA (pe_op kaz (pv 12) kaf) kaf) (fun _ _=>rfl)) kad))))))
   (kag (kaq (kb4 (kaa (pv 19) (kaa (pv 18) (kaa (pcl Uz hr1 W.ZS (kaa (pv 8) (kaa (pv 6) (kaa (pv 2) (kaa (pe_op kaz (pv 9) kaf) kad))))) kad)))))))))))))))))))))))),?_⟩
  exists Y4
  rwa[8,a,ns,0,6,hS,by decide,fun z0=>⟨_,_,rfl,rfl,(by show(0:Int)<4;decide),?_⟩]
  dsimp only
  generalize z0%4=sc
  nomatch a,ns,0,6,hS,by decide,fun z1=>⟨_,_,rfl,rfl,⟨by decide,by decide⟩,_,rfl,fun H1 p ps s1 f1 hp hg hl20 hl0=>?_⟩
  symm
  exists Y4
  rwa[by decide,fun ln fln=>?_]
  exists H1,ln,H2,n2,e2,fln
  symm
  exists Y4
  rwa[by decide,fun vc fvc=>?_]
  exists H2,vc,H3,n3,e3,fvc
  symm
  exists Y4
  rwa[by decide,fun lk flk=>?_]
  exists H3,lk,H4,n4,e4,flk
  symm
  exists Y4
  rwa[by decide,fun mo fmo=>?_]
  exists H4,mo,H5,n5,e5,fmo
  have ap:Ap4 ln vc lk mo:=⟨kai e2 fvc,kai (n3 _ _ e2) flk,kai ((n3.trans n4) _ _ e2) fmo,kai e3 flk,kai (n4 _ _ e3) fmo,kai e4 fmo⟩
  have s15:=((n2.trans n3).trans n4).trans n5
  have fvc1:H1 vc=none:=n2.free fvc
  have flk1:H1 lk=none:=(n2.trans n3).free flk
  have fmo1:H1 mo=none:=((n2.trans n3).trans n4).free fmo
  have htb1:Tbs d H1:=Tbs.same s1 htb0
  have w0:WldS d H5 ln vc lk mo [] [] [] [] [] []:=⟨((n3.trans n4).trans n5) _ _ e2,(n4.trans n5) _ _ e3,n5 _ _ e4,e5, .nil, .nil⟩
  clear e2 e3 e4 e5 n2 n3 n4 n5 fvc flk fmo
  have s05:=s1.trans s15
  nomatch a,ns,1,6,s05.seq hS,by decide,fun z2=>⟨_,16807,2147483399,rfl,⟨by decide,by decide⟩,by decide,?_⟩
  generalize z2*16807%2147483399=fl
  symm
  rwa[fun σ' H'=>H'=H5/\∃mv':Nat,mv'<=8/\σ'=[some (.ref a),some (iV mv'),some (iV mh),some (.int sc),some (.ref p),some (.ref ln),some (.ref vc),some (.ref lk),some (.ref mo),some (.int fl),some (iV 4),some (iV 7),none,none,none,none,none,none,none,none],?_,?_]
  ·rwa[8,9,(by show(0:Int)<8;decide),6,8,ite2 (fun _=>⟨rfl,8,by decide,rfl⟩) (fun _=>⟨rfl,mv,hmv,rfl⟩)]
  rintro σ' H' ⟨rfl,mv',hmv',rfl⟩
  symm
  rwa[fun σ' H2=>H2=H'/\∃ml mp:Nat,ml<=12/\mp<=7/\σ'=[some (.ref a),some (iV mv'),some (iV mh),some (.int sc),some (.ref p),some (.ref ln),some (.ref vc),some (.ref lk),some (.ref mo),some (.int fl),some (iV ml),some (iV mp),none,none,none,none,none,none,none,none],?_,?_]
  ·rwa[8,7,9,(by show(0:Int)<8;decide),6,8,ite2 (fun _=>⟨rfl,12,1,by decide,by decide,rfl⟩) (fun _=>⟨rfl,4,7,by decide,by decide,rfl⟩)]
  rintro σ' H2 ⟨rfl,ml,mp,hml,hmp,rfl⟩
  symm
  rwa[8,8,a,8,s05.seq hS,fun l6 fl6=>?_]
  obtain⟨ms,ems,lms⟩:=klQ ns (some 2) none
  rw[ems]
  exists H2,l6,H6,n6,e6,fl6
  have nl6:∀{x:Addr}{o:HO},H2 x>>o->l6≠x:=fun e=>(kai e fl6).symm
  have nln:=nl6 w0.eln
  have nvc:=nl6 w0.evc
  have nlk:=nl6 w0.elk
  have nmo:=nl6 w0.emo
  symm
  exists Y4
  refine⟨l6,rfl,⟨_,SqL.of e6⟩,ka9 (xs:=ms.map V.int) (fun i σ H'=>LpW d H1 ps a p ln vc lk mo mv' mh ml mp sc fl l6 ms σ H')
   ⟨s15.trans n6,e6,[],[],[],[],[],[],none,none,none,w0.same n6,⟨(fun r h=>by simp at h),(fun r h=>by simp at h),by decide,by decide,by decide,by decide,by decide⟩,by decide,rfl⟩ (fun i σ H' _ h=>SqL.of h.el6) ?_ ?_⟩
  ·rintro i y σ Hi hy ⟨si,el6,la,va,rs,vs,ls,ks,v12,v13,v14,w,N,hpc,rfl⟩
   obtain⟨c,_,rfl⟩:∃z,ms[i]?>>z/\y=V.int z:=kbO hy
   have htb:∀{H':Hp},Same H1 H'->Tbs d H':=fun s=>Tbs.same s htb1
   have lla:=w.hln.len
   have lva:=w.hvc.len
   symm
   exists Y6
   rwa[8,c,69621,2147483629,6,⟨by decide,by decide⟩,by decide,?_]
   generalize c*69621%2147483629=mx
   nofun
   exists Y6
   rwa[8,9,(by show(0:Int)<8;decide),9,8,two' (fun els=>?_) ?_]
   ·
    nofun
    exists Y8
    rwa[8,ln,8, .inl (SqL.of w.eln),8,9,8,ite2 (fun h2=>?_) (fun _=>els)]
    clear els
    have hlt:la.length<ml:=by
     have:=of_decide_eq_true h2
     rw[Jv] at this
     lia
    exists 3
    exists Y8
    rwa[8,ln,6,⟨_,SqL.of w.eln⟩,kaY (xs:=la.map V.ref) (fun i σ ys H'=>H'=Hi/\ys=((rs.take i).map fun r=>r.mn).map V.int/\∃v0:Option V,σ=[v0]) ⟨rfl,rfl,none,rfl⟩ (by rw[Jv];exact JJ (kas (by lia))) ?_ ?_ ?_]
    ·rintro i σ ys H' hi ⟨rfl,rfl,_⟩
     rw[Jv] at hi
     exists 3
     rwa[SqL.of w.eln,by rw[Jv,Jv,JV];lia]
    ·rintro i y σ ys H' hy ⟨rfl,rfl,v0,rfl⟩
     obtain⟨x,ex,rfl⟩:=kba hy
     obtain⟨r,er,dx,fs,hx,k1,k2,k3,k4⟩:=w.hln.at ex
     exists 3
     exists Y10
     rwa[8,x,d.qf,dx,fs,8,hx,W.qf.cl,W.qZ,k3,6,?_,8]
     rw[take_snoc er,JC,JC]
     rfl
    rintro σ ys H' ⟨rfl,rfl,v0,rfl⟩ q fq
    rw[Jv,lla,J4]
    have hsm:=kiD (rs:=rs) fun r hr=>(N.rows r hr).1.mn0
    exists H',q,Hq,nq,eq,fq
    exists 3
    exists Y8
    rwa[q,8,SqL.of eq,9,_,8,?_]
    rw[hsm]
    have wq:=w.same nq
    have hleft:0<=(if(12:Int)-(((mans rs).sum:Nat):Int) > 0 then(12:Int)-(((mans rs).sum:Nat):Int) else 0)/\(((mans rs).sum:Nat):Int)+(if(12:Int)-(((mans rs).sum:Nat):Int) > 0 then(12:Int)-(((mans rs).sum:Nat):Int) else 0)<=12:=by split <;> lia
    generalize (if(12:Int)-(((mans rs).sum:Nat):Int) > 0 then(12:Int)-(((mans rs).sum:Nat):Int) else 0)=left at *
    have hm:0<=(if(mp:Int)<left then(mp:Int) else left)/\(if(mp:Int)<left then(mp:Int) else left)<=7/\(if(mp:Int)<left then(mp:Int) else left)<=left:=by split <;> lia
    exists 3
    exists Y8
    rwa[8, .inl ⟨rfl,_,SqL.of wq.eln⟩,8,8,p,8, .inl (SqL.of ((si.trans nq) _ _ hp)),8,8,8,_,8,c,ps.length,sc,(if(mp:Int)<left then(mp:Int) else left),(by rw[Jv];rfl),hl0,hm.1,hm.2.1,fun H7 x r s7 f7 hx hok hkd hmn=>?_]
    generalize (if(mp:Int)<left then(mp:Int) else left)=mm at *
    have w7:=wq.same s7
    have s17:=(si.trans nq).trans s7
    exists 3
    exists Y8
    rwa[ln,9,w7.eln,kas (by rw[Jv];lia),?_]
    have s8:=kav (o:=.lst ((la++[x]).map V.ref)) fln s17 (nx w7.eln)
    rw[show la.map V.ref++[V.ref x]=(la++[x]).map V.ref by rw[JC];rfl]
    have hpc':(mans (rs++[r])).sum<=12:=by
     have:mans (rs++[r])=mans rs++[r.mn.toNat]:=by unfold mans;rw[JC];rfl
     rw[this,NC]
     have:=hok.mn0
     simp only[J0,Mr]
     lia
    exists 3
    exists Y8
    rwa[s8,by rw[kak nln];exact(nq.trans s7) _ _ el6,la++[x],va,rs++[r],vs,ls,ks,_,_,_,w7.putL ap (htb s8) (P2.snoc w7.hln hx),⟨fun r' hr'=>?_,N.vok,by lia,by rw[JN,Nv];lia,N.lv,N.ll,N.lk⟩,hpc',6]
    rcases Na.mp hr' with h|h
    ·exact N.rows r' h
    ·have e:r'=r:=by simpa using h
     rw[e]
     exists 3
     rwa[hok,hkd,by lia]
   nofun
   exists Y6
   rwa[8,9,(by show(0:Int)<8;decide),9,8,two' (fun els=>?_) ?_]
   ·
    nofun
    exists Y8
    rwa[8,vc,8, .inl (SqL.of w.evc),8,9,8,ite2 (fun h2=>?_) (fun _=>els)]
    clear els
    have hlt:va.length<mv':=by
     have:=of_decide_eq_true h2
     rw[Jv] at this
     lia
    exists 3
    exists Y8
    rwa[8, .inl ⟨rfl,_,SqL.of w.evc⟩,8,8,p,8, .inl (SqL.of (si _ _ hp)),8,c,ps,sc,(by rw[Jv];rfl),hl0,htb si,fun H7 x V s7 f7 hx hok=>?_]
    have w7:=w.same s7
    have s17:=si.trans s7
    exists 3
    exists Y8
    rwa[vc,9,w7.evc,kas (by rw[Jv];lia),?_]
    have s8:=kav (o:=.lst ((va++[x]).map L2.V.ref)) fvc1 s17 (nx w7.evc)
    rw[show va.map L2.V.ref++[L2.V.ref x]=(va++[x]).map L2.V.ref by rw[JC];rfl]
    exists 3
    exists Y8
    rwa[s8,by rw[kak nvc];exact s7 _ _ el6,la,va++[x],rs,vs++[V],ls,ks,_,_,_,w7.putV ap (htb s8) (P2.snoc w7.hvc hx),⟨N.rows,fun V' hV'=>?_,N.pcs,N.lr,by rw[JN,Nv];lia,N.ll,N.lk⟩,hpc,6]
    rcases Na.mp hV' with h|h
    ·exact N.vok V' h
    ·have e:V'=V:=by simpa using h
     rw[e]
     exists 3
     exact hok
   nofun
   exists Y6
   rwa[8,9,(by show(0:Int)<8;decide),6,8,two' (fun els=>?_) ?_]
   ·
    nofun
    exists Y8
    rwa[8,lk,8, .inl (SqL.of w.elk),9,8,ite2 (fun h2=>?_) (fun _=>els)]
    clear els
    have hlt:ls.length<3:=by
     have:=of_decide_eq_true h2
     rw[Jv] at this
     lia
    exists 3
    exists Y8
    rwa[8, .inl ⟨rfl,_,SqL.of w.elk⟩,8,7,lk,9,w.elk,kas (by rw[Jv];lia),?_]
    have s8:=kav (o:=.lst ((ls++[mx/8]).map V.int)) flk1 si (nx w.elk)
    rw[show ls.map V.int++[V.int (mx/8)]=(ls++[mx/8]).map V.int by rw[JC];rfl]
    exists 3
    rwa[s8,by rw[kak nlk];exact el6,la,va,rs,vs,ls++[mx/8],ks,_,_,_,w.putK ap (htb s8),⟨N.rows,N.vok,N.pcs,N.lr,N.lv,by rw[JN,Nv];lia,N.lk⟩,hpc,6]
   nofun
   exists Y6
   rwa[8,mo,8, .inl (SqL.of w.emo),9,8,ite2 (fun h2=>?_) (fun _=>⟨si,el6,la,va,rs,vs,ls,ks,_,_,_,w,N,hpc,rfl⟩)]
   have hlt:ks.length<6:=by
    have:=of_decide_eq_true h2
    rw[Jv] at this
    lia
   nofun
   exists Y6
   rwa[8, .inl ⟨rfl,_,SqL.of w.emo⟩,8,7,mo,9,w.emo,kas (by rw[Jv];lia),?_]
   have s8:=kav (o:=.lst ((ks++[mx/8]).map V.int)) fmo1 si (nx w.emo)
   rw[show ks.map V.int++[V.int (mx/8)]=(ks++[mx/8]).map V.int by rw[JC];rfl]
   nofun
   rwa[s8,by rw[kak nmo];exact el6,la,va,rs,vs,ls,ks++[mx/8],_,_,_,w.putM ap (htb s8),⟨N.rows,N.vok,N.pcs,N.lr,N.lv,N.ll,by rw[JN,Nv];lia⟩,hpc,6]
  rintro σ Hi ⟨si,_,la,va,rs,vs,ls,ks,v12,v13,v14,w,N,hpc,rfl⟩
  have htb:∀{H':Hp},Same H1 H'->Tbs d H':=fun s=>Tbs.same s htb1
  symm
  rwa[JnV d H1 ps a p ln vc lk mo mv' mh ml mp sc fl v12 v13 v14 la rs ls ks,?_,?_]
  ·rwa[8,7,9,(by show(0:Int)<4;decide),6,8,two' (fun els=>?_) ⟨si,va,vs,w,N,rfl⟩]
   symm
   rwa[8,vc,8, .inl (SqL.of w.evc),9,8,ite2 (fun h2=>?_) (fun _=>els)]
   have hlt:1<va.length:=by
    have:=of_decide_eq_true h2
    rw[Jv] at this
    lia
   obtain⟨x0,ex⟩:=at_of (xs:=va) (i:=0) (by lia)
   obtain⟨V0,eV,hV0⟩:=w.hvc.at ex
   symm
   rwa[8,vc,_,9,SqL.of w.evc,(show atI (va.map L2.V.ref) ((0:Nat):Int)=_ from kaK (v:=.ref x0) (by rw[JF,ex];rfl)),8,vc,_,_,1,6,6,w.evc,(show ixN (va.map L2.V.ref).length ((1:Nat):Int)>>1 from kd6 (by rw[Jv];lia)),?_]
   rw[<-N4]
   have s8:=kav (o:=.lst ((va.set 1 x0).map L2.V.ref)) fvc1 si (nx w.evc)
   symm
   rwa[s8,va.set 1 x0,vs.set 1 V0,w.putV ap (htb s8) (P2.put hV0 1 w.hvc),⟨N.rows,fun V' hV'=>?_,N.pcs,N.lr,by rw[N8];exact N.lv,N.ll,N.lk⟩,6]
   rcases EG hV' with h|h
   ·exact N.vok V' h
   ·rw[h]
    symm
    exact N.vok V0 (JB eV)
  clear w N si
  rintro σ' Hj ⟨si,va',vs',w,N,rfl⟩
  symm
  rwa[JnL d H1 ps a p ln vc lk mo mv' mh ml mp sc fl v12 v13 v14 va' vs' ls ks,?_,?_]
  ·rwa[8,7,9,(by show(0:Int)<4;decide),6,8,two' (fun els=>?_) ⟨si,la,rs,w,N,rfl⟩]
   symm
   rwa[8,ln,8, .inl (SqL.of w.eln),9,8,ite2 (fun h2=>?_) (fun _=>els)]
   have hlt:1<la.length:=by
    have:=of_decide_eq_true h2
    rw[Jv] at this
    lia
   obtain⟨x0,ex⟩:=at_of (xs:=la) (i:=0) (by lia)
   obtain⟨r0,er,hr0⟩:=w.hln.at ex
   have hm0:=JB er
   have hr7:=(N.rows r0 hm0).2.2
   symm
   rwa[8,ln,_,9,SqL.of w.eln,(show atI (la.map V.ref) ((0:Nat):Int)=_ from kaK (v:=.ref x0) (by rw[JF,ex];rfl)),8,ln,_,_,1,6,6,w.eln,(show ixN (la.map V.ref).length ((1:Nat):Int)>>1 from kd6 (by rw[Jv];lia)),?_]
   rw[<-N4]
   have s8:=kav (o:=.lst ((la.set 1 x0).map V.ref)) fln si (nx w.eln)
   symm
   rwa[s8,la.set 1 x0,rs.set 1 r0,w.putL ap (htb s8) (P2.put hr0 1 w.hln),⟨fun r' hr'=>?_,N.vok,?_,by rw[N8];exact N.lr,N.lv,N.ll,N.lk⟩,6]
   ·rcases EG hr' with h|h
    ·exact N.rows r' h
    ·rw[h]
     symm
     exact N.rows r0 hm0
   ·unfold mans
    rw[N4]
    symm
    refine JA (kl6 _ _ _) ?_
    show(mans rs).sum+r0.mn.toNat<=24
    lia
  clear w N si
  rintro σ' Hk ⟨si,la',rs',w,N,rfl⟩
  have lva:=w.hvc.len
  symm
  rwa[by decide,fun rl frl=>?_]
  exists Hk,rl,H7,n7,e7,frl
  have hL:(((va'.map V.ref).length:Nat):Int)=(vs'.length:Int):=by rw[Jv];lia
  symm
  refine⟨_,rfl,lk,rfl,⟨_,SqL.of (n7 _ _ w.elk)⟩,ka9 (xs:=ls.map V.int) (fun i σ H'=>Same Hk H'/\∃(ra:List Addr)(us:List Rul)(v16 v17:Option V),H' rl>>(.lst (ra.map V.ref))/\P2 (fun a r=>RulIs H' a r) ra us/\(∀r∈us,r.a<vs'.length/\r.b<vs'.length)/\us.length<=i/\σ=[some (.ref a),some (iV mv'),some (iV mh),some (.int sc),some (.ref p),some (.ref ln),some (.ref vc),some (.ref lk),some (.ref mo),some (.int fl),some (iV ml),some (iV mp),v12,v13,v14,some (.ref rl),v16,v17,none,none])
   ⟨n7,[],[],none,none,e7, .nil,(fun r h=>by simp at h),Jx _,rfl⟩ (fun i σ H' _ h=>SqL.of (h.1 _ _ w.elk)) ?_ ?_⟩
  ·rintro i y σ H8 hy ⟨s8,ra,us,v16,v17,erl,hra,hub,hul,rfl⟩
   obtain⟨k,ek,rfl⟩:∃z,ls[i]?>>z/\y=V.int z:=kbO hy
   have hi3:=at_lt ek
   have hl3:=N.ll
   have lra:=hra.len
   symm
   rwa[8,vc,8, .inl (SqL.of (s8 _ _ w.evc)),9,8,ite2 (fun h2=>?_) (fun _=>⟨s8,ra,us,_,_,erl,hra,hub,Nat.le_succ_of_le hul,rfl⟩)]
   have h0:(0:Int)<(vs'.length:Int):=by
    have:=of_decide_eq_true h2
    rw[hL] at this
    lia
   have q0:0<=k/3%(vs'.length:Int):=Int.emod_nonneg _ (by lia)
   have q1:k/3%(vs'.length:Int)<(vs'.length:Int):=Int.emod_lt_of_pos _ h0
   have q2:0<=k/24%(vs'.length:Int):=Int.emod_nonneg _ (by lia)
   have q3:k/24%(vs'.length:Int)<(vs'.length:Int):=Int.emod_lt_of_pos _ h0
   symm
   rwa[8,7,8,vc,8, .inl (SqL.of (s8 _ _ w.evc)),9,(by rw[hL];exact h0),?_]
   symm
   rwa[8, .inl ⟨rfl,_,SqL.of erl⟩,(by show 3<=sizeLine;decide),fun l9 fl9=>?_]
   exists H8,l9,H9,n9,e9,fl9
   obtain⟨wd,_,ewd⟩:=kkY (ss:=["only","never","ahead"]) (i:=k%3) (by lia) (by show k%3<3;lia)
   symm
   rwa[8,9,(by show(0:Int)<3;decide),l9,_,9,SqL.of e9,ewd,8,8,7,8,vc,8, .inl (SqL.of ((s8.trans n9) _ _ w.evc)),9,(by rw[hL];exact h0),(by show 3<=sizeLine;decide),fun q fq=>?_]
   obtain⟨ua,eua⟩:=Int.eq_ofNat_of_zero_le q0
   obtain⟨ub,eub⟩:=Int.eq_ofNat_of_zero_le q2
   exists H9,q,HA,nA,eA,fq
   have hrA:RulIs HA q ⟨wd,ua,ub⟩:=by
    show HA q>>(.tup [.str wd,V.int ((ua:Nat):Int),V.int ((ub:Nat):Int)])
    rw[<-eua,<-eub,<-hL]
    symm
    exact eA
   have erlA:=(n9.trans nA) _ _ erl
   symm
   rwa[rl,9,erlA,kas (by rw[Jv];lia),?_]
   symm
   rwa[kav frl ((s8.trans n9).trans nA) (nx erlA),ra++[q],us++[⟨wd,ua,ub⟩],_,_,by rw[kae,JC];rfl,P2.snoc (hra.mono fun a r h=>RulIs.put erlA ((n9.trans nA) _ _ h)) (RulIs.put erlA hrA),fun r hr=>?_,by rw[JN,Nv];lia,6]
   rcases Na.mp hr with h|h
   ·exact hub r h
   ·have e:r=⟨wd,ua,ub⟩:=by simpa using h
    rw[e]
    symm
    rwa[by show ua<vs'.length;lia,by show ub<vs'.length;lia]
  rintro σ H8 ⟨s8,ra,us,v16,v17,erl,hra,hub,hul,rfl⟩
  rw[Jv] at hul
  have s18:=si.trans s8
  have w8:=w.same s8
  symm
  rwa[8,a,ns,1,6,(s1.trans s18).seq hS,by decide,fun z3=>?_]
  symm
  rwa[8,8,7,8,_,8,fun cg c0 c1=>?_]
  symm
  rwa[8,9,(by show(0:Int)<3;decide),6,kmY (SqL.of w8.eln) fun H9 b l' s9 f9 fl' hl' hb'=>?_]
  obtain⟨mb,hb⟩:∃mb:Bool,BaskAt d.qg H9 b l' cg mb:=⟨_,hb'⟩
  clear hb'
  have hbk:BaskIs d.qf d.qg H9 b ⟨rs',cg,mb⟩:=⟨l',la',hb,hl',w8.hln.same s9⟩
  have w9:=w8.same s9
  have s19:=s18.trans s9
  symm
  rwa[8,8,8,(by show 2<=sizeLine;decide),fun lA flA=>?_]
  exists H9,lA,HA,nA,eA,flA
  obtain⟨bk,hbm,ebk⟩:=kkY (ss:=["again","shares"]) (i:=z3/3%2) (by lia) (by show z3/3%2<2;lia)
  have s9A:=s9.trans nA
  symm
  rwa[8,7,9,(by show(0:Int)<2;decide),lA,_,9,SqL.of eA,ebk,kmW (T:=⟨ps,vs',us,bk⟩) ((s19.trans nA) _ _ hp) (nA _ _ w9.evc) (w9.hvc.mono fun v V h=>h.same nA) (s9A _ _ erl) (hra.mono fun a r h=>s9A _ _ h) fun HB t sB fB hT=>?_]
  have s9B:=nA.trans sB
  have wB:=w9.same s9B
  have s1B:=s19.trans s9B
  have hks:=N.lk
  have hlv:=N.lv
  symm
  rwa[8,8,8,8,8,8,7,mo,vc,ks,va',mh,8,wB.emo,wB.evc,by lia,by lia,hmh,fun HC h hand sC fh eh hl hnn hsum=>⟨(by show 3<=sizeLine;decide),fun w' fw=>?_⟩]
  exists HC,w',HD,nD,eD,fw
  have sBD:=sC.trans nD
  have s0D:=(s1.trans s1B).trans sBD
  symm
  refine kk HD w' t b h ⟨ps,vs',us,bk⟩ ⟨rs',cg,mb⟩ hand s0D ((s1.trans s1B).free fh) eD (hT.same sBD) ⟨N.vok,hlv⟩ (hbk.same (s9B.trans sBD)) ?_ (nD _ _ eh) (by show hand.length=vs'.length;lia) hnn hsum (by show us.length<=3;have:=N.ll;lia) hub (by simpa using hbm)
  symm
  exact Wf.start hg hl20 (fun r hr=>(N.rows r hr).2.1) (fun r hr=>(N.rows r hr).1) N.lr ⟨c0,c1⟩ (by show(ownN rs').length<64;rw[klm];have:=N.pcs;lia)
noncomputable def candM(hand:List Int)(a:List Nat)(n:Nat):Bool:=decide ((a.count n:Int)<hand.getD n 0)
noncomputable def ka3(hand:List Int):Nat->List Nat->List (List Nat)
 |0,_=>[]
 |k+1,a=>a::((Jy hand.length).filter (candM hand a)).flatMap fun n=>ka3 hand k (a++[n])
theorem kdG{hand:List Int}:∀(k:Nat)(a:List Nat),∀o∈ka3 hand k a,∃r,o=a++r
 |0,a,o,h=>by simp[ka3] at h
 | k+1,a,o,h=>by
  unfold ka3 at h
  rcases JY.mp h with h|h
  ·rwa[[],by rw[h,J8]]
  ·obtain⟨n,_,h2⟩:=Eb.mp h
   obtain⟨r,hr⟩:=kdG k (a++[n]) o h2
   rwa[n::r,by rw[hr,Nc];rfl]
theorem ke6{hand:List Int}:∀(k:Nat)(a:List Nat),(ka3 hand k a).length<=fan (remM hand a)
 |0,a=>by unfold ka3;exact J7 _
 | k+1,a=>by
  unfold ka3
  rw[Nb]
  have hf:((Jy hand.length).filter (candM hand a)).length<=remM hand a:=by
   unfold remM
   refine kms (fun m hm=>?_) _
   have:=of_decide_eq_true hm
   lia
  cases er:remM hand a with
  |zero=>
   rw[er] at hf
   rw[EZ.mp (Nat.le_zero.mp hf),List.flatMap_nil]
   exact Jx _
  | succ r=>
   rw[er] at hf
   show _<=1+(r+1)*fan r
   have:=kiI (f:=fun n=>ka3 hand k (a++[n])) (k:=fan r) (l:=(Jy hand.length).filter (candM hand a)) fun n hn=>by
    have h1:=JT.mp hn
    have h2:=of_decide_eq_true h1.2
    have h3:=Mj.mp h1.1
    have hd:=kf4 (hand:=hand) (used:=a) (n:=n) h3 (by lia)
    have hi:=ke6 (hand:=hand) k (a++[n])
    rw[show remM hand (a++[n])=r by lia] at hi
    exact hi
   have hm:((Jy hand.length).filter (candM hand a)).length*fan r<=(r+1)*fan r:=Nat.mul_le_mul_right _ hf
   lia
theorem kev{z a:Addr}{H H':Hp}{xs:List V}(s:Same (Vs.rmv z H) H')(n:a≠z)(e:H a>>(.lst xs)):H' a>>(.lst xs):=s _ _ (show Vs.rmv z H a=_ by rw[kfA n];exact e)
theorem kjO{z:Addr}{H H1 H2:Hp}{xs:List V}(s:Same (Vs.rmv z H) H1)(e:H1 z>>(.lst xs))(t:Same (Vs.rmv z H1) H2):Same (Vs.rmv z H) H2:=(kgt s (kjP (nx e)) kjQ).trans t
inductive kdR(n:Nat)(vs:List V)(H:Hp)(Q:VK)(E_:XK):Prop
 |ct(h o u:Addr)(hand:List Int)(a:List Nat)(oa:List Addr)(outs:List (List Nat))(_:vs=[.ref h, .ref o, .ref u])(_:H h>>(.lst (hand.map V.int)))(_:h≠u)(_:H o>>(.lst (a.map iV)))(_:o≠u)(_:H u>>(.lst (oa.map V.ref)))(_:P2 (fun c q=>c≠u/\H c>>(.lst (q.map iV))) oa outs)(_:remM hand a<n)(_:hand.length<=8)(_:a.length+n<=64)(_:outs.length+(ka3 hand n a).length<=1000)(_:∀(H':Hp)(oa':List Addr),Same (Vs.rmv u H) H'->H' u>>(.lst (oa'.map V.ref))->P2 (fun c q=>c≠u/\H' c>>(.lst (q.map iV))) oa' (outs++ka3 hand n a)->Q .non H'):kdR n vs H Q E_
theorem kh9{vs:List V}{H:Hp}{Q:VK}{E:XK}(h:kdR 0 vs H Q E):False:=by
 obtain⟨_,_,_,_,_,_,_,_,_,_,_,_,_,_,h,_⟩:=h
 lia
theorem Vw:kat ["_law_hand","_law_ahead","_law_out","_law_voucher"] ["_law_hand","_law_ahead","_law_out"] (kah kcS):=by ac_rfl
theorem keH(W:WB K mg d base)(n:Nat)(G_rec:FO P w W (0+n) d.qW d.qX ["_law_hand","_law_ahead","_law_out"] (kdR n)):FO P w W (0+n+1) d.qW d.qX ["_law_hand","_law_ahead","_law_out"] (kdR (n+1)):=by
 exists W.qY.F,Vw
 ·obtain⟨h,o,u,hand,a,oa,outs,rfl,hh,nhu,ho,nou,hu,hoa,hrem,h8,h64,hsz,kk⟩:=h
  refine⟨_,kab (ka0 (pe_bm Nh NJ NK kbc (pv 2) (kaa (kaJ (r:=kbf K) kaC (by rfl) W.B.list kbF (kaa (pv 1) kad)) kad)))
   (kag (ka7 PassesOwn.never rfl (kcf rfl W.B.range (kaa (kao (r:=kaG K) kap (by rfl) W.B.len b_len (kaa (pv 0) kad)) kad)) (pgn (i:=3) Vw.nd)
   (kag (ps_if (kan op_lt (pe_bm Nh M8 M9 kez (pv 1) (kaa (pv 3) kad)) (pe_ix (r:=rIxL K) kaH (pv 0) (pv 3) (fun _ _=>rfl)) (kau _)) (kag (ka0 (kj5 G_rec hr rfl W.qY.m W.qY.F.kp W.qY.b .nil pass0 (kaa (pv 0) (kaa (pe_op kit (pv 1) (kaX (kaa (pv 3) kad))) (kaa (pv 2) kad)))))) (kar))))),?_⟩
  have lun:ka3 hand (n+1) a=a::((Jy hand.length).filter (candM hand a)).flatMap fun m=>ka3 hand n (a++[m]):=rfl
  rw[lun,Nb] at hsz
  have loa:=hoa.len
  rwa[8, .inl ⟨rfl,_,SqL.of hu⟩,8,o,8, .inl (SqL.of ho),fun q fq=>?_]
  exists H,q,H1,n1,e1,fq
  have hu1:=n1 _ _ hu
  have nqu:q≠u:=(kai hu fq).symm
  rwa[u,9,hu1,kas (by rw[Jv];lia),?_]
  rw[show oa.map V.ref++[V.ref q]=(oa++[q]).map V.ref by rw[JC];rfl]
  generalize hg2:upd H1 u _=H2
  have e2:H2 u>>(.lst ((oa++[q]).map V.ref)):=by rw[<-hg2];exact kae
  have b2:But u H1 H2:=by rw[<-hg2];exact kax (nx hu1)
  clear hg2
  have s2:Same (Vs.rmv u H) H2:=kgt (rmv_sub.trans n1) b2 kjQ
  have hoa2:P2 (fun c q=>c≠u/\H2 c>>(.lst (q.map iV))) (oa++[q]) (outs++[a]):=P2.snoc (hoa.mono fun c q h=>⟨h.1,kev s2 h.1 h.2⟩) ⟨nqu,b2 _ _ nqu e1⟩
  rwa[8,h,8, .inl (SqL.of (kev s2 nhu hh)),8,by lia,by rw[Jv];lia,?_]
  rw[show(((hand.map V.int).length:Nat):Int).toNat=hand.length by simp]
  refine kc1 (fun i σ H'=>Same (Vs.rmv u H) H'/\∃(oa':List Addr)(v3:Option V),H' u>>(.lst (oa'.map V.ref))/\P2 (fun c q=>c≠u/\H' c>>(.lst (q.map iV))) oa' ((outs++[a])++((Jy i).filter (candM hand a)).flatMap fun m=>ka3 hand n (a++[m]))/\σ=[some (.ref h),some (.ref o),some (.ref u),v3])
   ⟨s2,oa++[q],none,e2,by rw[List.range_zero,Mf,List.flatMap_nil,J8];exact hoa2,rfl⟩ ?_ ?_
  ·rintro i σ H' hi ⟨sI,oa',v3,eu,hoa',rfl⟩
   rw[Int.zero_add]
   obtain⟨z,ez⟩:=at_of hi
   have eg:hand.getD i 0=z:=by rw[JM,ez];rfl
   have ho':=kev sI nou ho
   have hh':=kev sI nhu hh
   have eo':H' o>>(.lst ((a.map fun(i:Nat)=>(i:Int)).map V.int)):=by rw[ho',JO];rfl
   have hle:((Jy (i+1)).filter (candM hand a)).flatMap (fun m=>ka3 hand n (a++[m]))=((Jy i).filter (candM hand a)).flatMap (fun m=>ka3 hand n (a++[m]))++(if candM hand a i=true then ka3 hand n (a++[i]) else []):=by
    rw[kfB,List.flatMap_append]
    cases candM hand a i <;> simp
   have htot:(((Jy (i+1)).filter (candM hand a)).flatMap fun m=>ka3 hand n (a++[m])).length<=(((Jy hand.length).filter (candM hand a)).flatMap fun m=>ka3 hand n (a++[m])).length:=by
    obtain⟨j,ej⟩:∃j,hand.length=(i+1)+j:=⟨hand.length-(i+1),by lia⟩
    have er:Jy hand.length=Jy (i+1)++(Jy j).map (i+1+ ·):=by rw[ej,List.range_add]
    rw[er,NI,List.flatMap_append,JN]
    exact Nat.le_add_right _ _
   rw[hle] at htot
   have loa':=hoa'.len
   rw[JN,JN,Nv] at loa'
   rwa[8, .inl ⟨rfl,_,SqL.of ho'⟩,8,o,9,eo',8,8,h,_,9,SqL.of hh',kaK (v:=V.int z) (by rw[JF,ez];rfl),9,8,?_]
   rw[kgp]
   have ec:candM hand a i=decide ((a.count i:Int)<z):=by unfold candM;rw[eg]
   by_cases hc:(a.count i:Int)<z
   ·have ecT:candM hand a i=true:=by rw[ec];exact decide_eq_true hc
    rw[show decide ((a.count i:Int)<z)=true from decide_eq_true hc]
    rw[ecT,if_pos rfl,JN] at htot
    have hd:=kf4 (hand:=hand) (used:=a) (n:=i) hi (by rw[eg];lia)
    refine iteT ⟨_,rfl,_,rfl,_,rfl,(by show 1<=sizeLine;decide),fun l3 fl3=>?_⟩
    exists H',l3,H3,n3,e3,fl3
    rwa[o,l3,9,n3 _ _ ho',e3,JJ (kas (by rw[Jv,Nv];lia)),fun o4 fo4=>?_]
    exists H3,o4,H4,n4,e4',fo4
    have e4:H4 o4>>(.lst ((a++[i]).map iV)):=by rw[e4',JC];rfl
    have s34:=n3.trans n4
    have eu4:=s34 _ _ eu
    have sI4:Same (Vs.rmv u H) H4:=sI.trans s34
    rwa[8,h,o4,u,hand,a++[i],oa',8,s34 _ _ hh',nhu,e4,(kai (n3 _ _ eu) fo4).symm,eu4,hoa'.mono fun c q h=>⟨h.1,s34 _ _ h.2⟩,by lia,h8,by rw[JN,Nv];lia,by rw[JN,JN,Nv];lia,fun H5 oa5 s5 e5 hoa5=>?_]
    rwa[kjO sI4 eu4 s5,oa5,_,e5,?_,6]
    rw[hle,ecT,if_pos rfl,<-Nc]
    exact hoa5
   ·have ecF:candM hand a i=false:=by rw[ec];exact decide_eq_false hc
    rw[show decide ((a.count i:Int)<z)=false from decide_eq_false hc]
    refine iteF ⟨sI,oa',_,eu,?_,rfl⟩
    rw[hle,ecF,if_neg JD,J8]
    exact hoa'
  ·rintro σ H' ⟨sI,oa',v3,eu,hoa',rfl⟩
   refine kk H' oa' sI eu ?_
   rw[lun]
   rw[Nc] at hoa'
   exact hoa'
theorem kdi(W:WB K mg d base):∀n:Nat,FO P w W (0+n) d.qW d.qX ["_law_hand","_law_ahead","_law_out"] (kdR n)
 |0=>⟨fun _ _ _ _ h=>(kh9 h).elim,fun _ _ _ _ _ _ _ _ _ _ _ _ _ h=>(kh9 h).elim⟩
 |n+1=>keH W n (kdi W n)
theorem kgb(W:WB K mg d base):FO P w W 10 d.qW d.qX ["_law_hand","_law_ahead","_law_out"] (kdR 10):=kdi W 10
theorem kfV:∀(o1 o2 used:List Nat)(S S1:Stnd),walkM T B hand o1 used S=(used++o1,S1)->walkM T B hand (o1++o2) used S=walkM T B hand o2 (used++o1) S1
 |[],o2,used,S,S1,h=>by
  unfold walkM at h
  rw[J8] at h⊢
  have:=congrArg Prod.snd h
  simp only at this
  rw[this]
  rfl
 | n::o1,o2,used,S,S1,h=>by
  have hcons:∀o:List Nat,walkM T B hand (n::o) used S=match T.vs[n]? with
   |none=>(used,S)
   |some V=>if dueM V T B hand used S n=.non then walkM T B hand o (used++[n]) (aftM V T.ps (kds B) S) else(used,S):=fun _=>rfl
  rw[Mz,hcons]
  rw[hcons] at h
  cases e:T.vs[n]? with
  |none=>
   rw[e] at h
   have:=congrArg Ny (congrArg Prod.fst h)
   simp at this
  | some V=>
   rw[e] at h
   simp only at h⊢
   by_cases hn:dueM V T B hand used S n=.non
   ·rw[if_pos hn] at h⊢
    have h':walkM T B hand o1 (used++[n]) (aftM V T.ps (kds B) S)=((used++[n])++o1,S1):=by rw[h,Nc];rfl
    rw[kfV o1 o2 _ _ _ h',Nc]
    rfl
   ·rw[if_neg hn] at h
    have:=congrArg Ny (congrArg Prod.fst h)
    simp at this
theorem kjl:∀{xs ys:List Int},xs.length=ys.length->(Nl (fun x y=>x-y) xs ys).sum=xs.sum-ys.sum
 |[],[],_=>rfl
 |x::xs,y::ys,h=>by
  rw[List.zipWith_cons_cons,J0,kjl (by simpa using h),J0,J0]
  lia
 |[],y::ys,h=>by cases h
 |x::xs,[],h=>by cases h
theorem kc6{ps:List (Option Nat)}{V:Vch}(vo:VchOk ps V):∀m,V.ms.most>>m->0<=m:=fun m e=>(vo.ms.most m e).1
theorem kjd{ps:List (Option Nat)}{B:Bask}{S:Stnd}{V:Vch}(wf:Wf ps B S)(vo:VchOk ps V):kaO S-kbE V ps (kds B) S<=kaO (aftM V ps (kds B) S):=by
 have hr:=khb (V:=V) (ps:=ps) (kk:=kds B) wf.lp wf.nn wf.cg.1 vo.so (kc6 vo)
 have hle:=kiM (V:=V) (ps:=ps) (kk:=kds B) wf.nn wf.cg.1 vo.so (kc6 vo)
 have e:kaO (aftM V ps (kds B) S)=(S.pr.sum-(cutM V ps (kds B) S).1.sum)+(S.cg-(cutM V ps (kds B) S).2):=by
  show(Nl (fun x y=>x-y) S.pr (cutM V ps (kds B) S).1).sum+(S.cg-(cutM V ps (kds B) S).2)=_
  rw[kjl hle.1.1.symm]
 rw[e]
 unfold kaO
 lia
theorem kk3{ps:List (Option Nat)}{B:Bask}{S:Stnd}(wf:Wf ps B S):0<=kaO S:=by
 have:=kbl wf.nn
 have:=wf.cg.1
 unfold kaO
 lia
theorem klc{ps:List (Option Nat)}{B:Bask}{S:Stnd}{V:Vch}(wf:Wf ps B S)(vo:VchOk ps V):0<=kbE V ps (kds B) S:=by
 have hr:=khb (V:=V) (ps:=ps) (kk:=kds B) wf.lp wf.nn wf.cg.1 vo.so (kc6 vo)
 have hle:=kiM (V:=V) (ps:=ps) (kk:=kds B) wf.nn wf.cg.1 vo.so (kc6 vo)
 have:=(Le2.sum hle.1).1
 have:=hle.2.1
 lia
noncomputable def rcN(T:TillD)(B:Bask)(S:Stnd)(n:Nat):Int:=match T.vs[n]? with
 |none=>0
 |some V=>kbE V T.ps (kds B) S
theorem kb6{n:Nat}{o u:List Nat}{S S':Stnd}(h:walkM T B hand (n::o) u S=(u++n::o,S')):∃V,T.vs[n]?>>V/\dueM V T B hand u S n=.non/\walkM T B hand o (u++[n]) (aftM V T.ps (kds B) S)=((u++[n])++o,S'):=by
 have no:∀S,(u,S)≠(u++n::o,S'):=fun S e=>by
  have:=congrArg Ny (Prod.mk.inj e).1
  simp at this
 unfold walkM at h
 cases e:T.vs[n]? with
 |none=>rw[e] at h;exact absurd h (no _)
 | some V=>
  rw[e] at h
  simp only at h
  by_cases c:dueM V T B hand u S n=.non
  ·rw[if_pos c] at h
   rwa[V,6,c,by rw[h,Nc];rfl]
  ·rw[if_neg c] at h
   exact absurd h (no _)
theorem kiL{V:Vch}{T:TillD}{B:Bask}{hand:List Int}{u:List Nat}{S:Stnd}{n:Nat}(h:dueM V T B hand u S n=.non):(u.count n:Int)+1<=hand.getD n 0/\(V.ms.once=true->u.contains n=false):=by
 unfold dueM wordM at h
 by_cases c1:hand.getD n 0<(u.count n:Int)+1
 ·rw[if_pos c1] at h
  cases h
 ·rw[if_neg c1] at h
  rwa[by lia,fun ho=>?_]
  cases hc:u.contains n with
  |false=>rfl
  |true=>
   rw[ho,hc] at h
   cases h
theorem kfT(tok:kbw T):∀{o u:List Nat}{S S':Stnd},Wf T.ps B S->walkM T B hand o u S=(u++o,S')->Wf T.ps B S'/\Later S S'
 |[],u,S,S',wf,h=>by
  unfold walkM at h
  have e:=(Prod.mk.inj h).2
  subst e
  rwa[wf,Later.refl wf.nn wf.cg.1]
 |n::o,u,S,S',wf,h=>by
  obtain⟨V,hV,_,h2⟩:=kb6 h
  have vo:=tok.vs V (JB hV)
  obtain⟨q1,q2⟩:=kfT tok (wf.after vo) h2
  rwa[q1,(Later.aft wf.nn wf.cg.1 vo.so (kc6 vo)).trans q2]
theorem kh1{S0:Stnd}(tok:kbw T):∀{o u:List Nat}{S S':Stnd},Wf T.ps B S->Later S0 S->walkM T B hand o u S=(u++o,S')->kaO S-(o.map (rcN T B S0)).sum<=kaO S'
 |[],u,S,S',wf,hl,h=>by
  unfold walkM at h
  have e:=(Prod.mk.inj h).2
  subst e
  simp
 |n::o,u,S,S',wf,hl,h=>by
  obtain⟨V,hV,_,h2⟩:=kb6 h
  have vo:=tok.vs V (JB hV)
  have ih:=kh1 tok (S0:=S0) (wf.after vo) (hl.trans (Later.aft wf.nn wf.cg.1 vo.so (kc6 vo))) h2
  have h3:=kjd wf vo
  have h4:=khL (V:=V) (ps:=T.ps) (kk:=kds B) hl wf.nn vo.so
  have e:rcN T B S0 n=kbE V T.ps (kds B) S0:=by unfold rcN;rw[hV]
  rw[JG,J0,e]
  lia
theorem kfU{m:Nat}:∀{o u:List Nat}{S S':Stnd},walkM T B hand o u S=(u++o,S')->0<o.count m->((u++o).count m:Int)<=hand.getD m 0/\∀V,T.vs[m]?>>V->V.ms.once=true->(u++o).count m=1
 |[],u,S,S',h,hc=>by simp at hc
 | n ::o,u,S,S',h,hc=>by
  obtain⟨V,hV,hd,h2⟩:=kb6 h
  obtain⟨hh,ho⟩:=kiL hd
  have ea:u++n::o=(u++[n])++o:=by rw[Nc];rfl
  by_cases c:0<o.count m
  ·rw[ea]
   exact kfU h2 c
  ·have hz:o.count m=0:=by lia
   have en:n=m:=by
    by_cases e:n=m
    ·exact e
    ·rw[E1 (by simpa using e)] at hc
     lia
   subst en
   have ec:(u++n::o).count n=u.count n+1:=by rw[ME,List.count_cons_self,hz]
   rw[ec]
   rwa[by lia,fun V' hV' hon=>?_]
   rw[hV] at hV'
   cases hV'
   have hcn:=ho hon
   have:u.count n=0:=by
    rw[List.count_eq_zero]
    intro hm
    have:u.contains n=true:=by simpa using hm
    rw[hcn] at this
    cases this
   lia
theorem kjk{f:Nat->Int}{L:Nat}:∀{r:List Nat},(∀n∈r,n<L)->(r.map f).sum=((Jy L).map fun m=>(r.count m:Int)*f m).sum
 | [],_=>by
  have:∀K:Nat,((Jy K).map fun m=>((([]:List Nat).count m:Nat):Int)*f m).sum=0:=fun K=>by
   induction K with
   |zero=>rfl
   |succ K ih=>rw[Nk,JC,NC,ih];simp
  rw[this]
  rfl
 | n ::r,h=>by
  have ih:=kjk (f:=f) (L:=L) (r:=r) fun m hm=>h m (JQ _ hm)
  have hn:=h n JS
  have step:∀K:Nat,((Jy K).map fun m=>((n::r).count m:Int)*f m).sum=((Jy K).map fun m=>(r.count m:Int)*f m).sum+(if n<K then f n else 0):=fun K=>by
   induction K with
   |zero=>simp
   | succ K ih=>
    rw[Nk,JC,JC,NC,NC,ih]
    simp only[JG,NZ,J0,Mr,Int.add_zero]
    by_cases e:n=K
    ·subst e
     rw[List.count_cons_self,if_neg (ND _),if_pos (MJ _)]
     rw[show((r.count n+1:Nat):Int)=(r.count n:Int)+1 by lia,Int.add_mul,Int.one_mul]
     lia
    ·rw[E1 (by simpa using e)]
     by_cases c:n<K
     ·rw[if_pos c,if_pos (by lia)]
      lia
     ·rw[if_neg c,if_neg (by lia)]
      lia
  rw[step,if_pos hn,JG,J0,ih]
  lia
theorem kkm{used r:List Nat}{S S':Stnd}(tok:kbw T)(wf0:Wf T.ps B (stnd0 B))(hl:hand.length=T.vs.length)(hz:∀z∈hand,0<=z)(hu:walkM T B hand used [] (stnd0 B)=(used,S))(hr:walkM T B hand (used++r) [] (stnd0 B)=(used++r,S')):kcp T B hand used S<=kaO S':=by
 obtain⟨wfS,_⟩:=kfT tok wf0 (u:=[]) hu
 have h2:walkM T B hand r used S=(used++r,S'):=by
  have:=kfV used r [] (stnd0 B) S hu
  rw[NG] at this
  rw[<-this]
  exact hr
 obtain⟨wfS',_⟩:=kfT tok wfS h2
 have hlow:=kh1 tok wfS (Later.refl wfS.nn wfS.cg.1) h2
 have h0:=kk3 wfS'
 have hmem:∀n∈r,n<T.vs.length:=by
  have:∀{o u:List Nat}{S S':Stnd},walkM T B hand o u S=(u++o,S')->∀n∈o,n<T.vs.length:=by
   intro o
   induction o with
   |nil=>intro u S S' _ n hn;simp at hn
   |cons m o ih=>
    intro u S S' h n hn
    obtain⟨V,hV,_,h3⟩:=kb6 h
    rcases JY.mp hn with e|e
    ·rw[e];exact at_lt hV
    ·exact ih h3 n e
  exact this h2
 rw[kjk (L:=T.vs.length) hmem] at hlow
 have key:∀K:Nat,K<=T.vs.length->((Jy K).map fun m=>(r.count m:Int)*rcN T B S m).sum<=sumR T B hand used S K:=by
  intro K
  induction K with
  |zero=>intro _;exact Int.le_refl _
  | succ K ih=>
   intro hK
   obtain⟨V,hV⟩:=at_of (xs:=T.vs) (i:=K) (by lia)
   have vo:=tok.vs V (JB hV)
   have hrc:=klc wfS vo
   have e1:rcN T B S K=kbE V T.ps (kds B) S:=by unfold rcN;rw[hV]
   have e2:sumR T B hand used S (K+1)=sumR T B hand used S K+kbE V T.ps (kds B) S*comeM V hand used K:=by
    show sumR T B hand used S K+(match T.vs[K]? with|none=>0|some V=>kbE V T.ps (kds B) S*comeM V hand used K)=_
    rw[hV]
   rw[Nk,JC,NC,e2]
   simp only[JG,NZ,J0,Mr,Int.add_zero]
   rw[e1,Int.mul_comm]
   have hcm:(r.count K:Int)<=comeM V hand used K:=by
    have hg0:0<=hand.getD K 0:=by
     obtain⟨z,ez⟩:=at_of (xs:=hand) (i:=K) (by lia)
     rw[JM,ez]
     exact hz z (JB ez)
    have hgu:(used.count K:Int)<=hand.getD K 0:=by
     by_cases c:0<used.count K
     ·have:=(kfU (u:=[]) hu c).1
      rw[NG] at this
      exact this
     ·lia
    by_cases c:0<r.count K
    ·obtain⟨q1,q2⟩:=kfU h2 c
     rw[ME] at q1
     unfold comeM
     generalize hand.getD K 0=g at *
     by_cases ho:V.ms.once=true
     ·have q3:=q2 V hV ho
      rw[ME] at q3
      have hnc:used.contains K=false:=by
       cases hc:used.contains K with
       |false=>rfl
       |true=>
        have:0<used.count K:=List.count_pos_iff.mpr (by simpa using hc)
        lia
      rw[if_pos ho,hnc,if_neg JD]
      split <;> lia
     ·rw[if_neg ho]
      lia
    ·have hr0:r.count K=0:=by lia
     rw[hr0]
     unfold comeM
     generalize hand.getD K 0=g at *
     split
     ·split
      ·lia
      ·split <;> lia
     ·lia
   have:=Int.mul_le_mul_of_nonneg_left hcm hrc
   have:=ih (by lia)
   lia
 have hk:=key T.vs.length (Jx _)
 unfold kcp
 split <;> lia
def EntOk(T:TillD)(B:Bask)(hand:List Int)(q:List Nat×Int×Int):Prop:=∃S,walkM T B hand q.1 [] (stnd0 B)=(q.1,S)/\q.2.1=kaO S/\q.2.2=kcp T B hand q.1 S
theorem khI:∀{l:List Int},(∀z∈l,0<=z)->∀z∈l,z<=l.sum
 |[],_,z,h=>by simp at h
 | a::l,hn,z,h=>by
  have h0:=hn a JS
  have hs:0<=l.sum:=kbl fun w hw=>hn w (JQ _ hw)
  rw[J0]
  rcases JY.mp h with e|e
  ·lia
  ·have:=khI (fun w hw=>hn w (JQ _ hw)) z e
   lia
inductive spStg(d:D)(vs:List V)(H:Hp)(Q:VK)(E_:XK):Prop
 |ct(t b o:Addr)(T:TillD)(B:Bask)(hand:List Int)(order:List Nat)(S:Stnd)(_:vs=[.ref t, .ref b, .ref o])(_:TillIs d H t T)(_:kbw T)(_:BaskIs d.qf d.qg H b B)(_:Wf T.ps B (stnd0 B))(_:H o>>(.lst (order.map iV)))(_:walkM T B hand order [] (stnd0 B)=(order,S))(_:∀(H':Hp)(y:Addr),Same H H'->StndIs d.qc H' y S->Q (.ref y) H'):spStg d vs H Q E_
theorem QD:kat ["_law_till","_law_basket","_law_order","_law_standing_here","_law_voucher"] ["_law_till","_law_basket","_law_order"] (kah kcb):=by ac_rfl
theorem kcO(W:WB K mg d base):FO P w W 6 d.YS d.YT ["_law_till","_law_basket","_law_order"] (spStg d):=by
 exists W.QW.F,QD
 ·obtain⟨t,b,o,T,B,hand,order,S,rfl,hT,tok,hB,wf0,ho,hw,kk⟩:=h
  obtain⟨dxt,fst,pt,vl,rl,va,ra,ht,t1,t2,t3,t4,hpt,hvl,hva,hrl,hra⟩:=id hT
  exists Qf,kb3,W
  exists Xm,kiw,W
  have hr3:Room 3 _:=hr.mono (by decide)
  refine⟨_,kab (psl (i:=3) QD.nd (kbA (W.qN.mk' W.qc) Qf hr3 rfl W.qc.m W.qN.b .nil pass0 (kaa (pv 1) kad)))
   (kab (ka7 PassesOwn.never rfl (kaB (K:=K) (pv 2)) (pgn (i:=4) QD.nd)
   (kag (psl (i:=3) QD.nd (pcl Xm hr W.QP (kaa (pe_ix (r:=rIxL K) kaH (kaj (K:=K) (pv 0) rfl) (pv 4) (fun _ _=>rfl)) (kaa (kaj (K:=K) (pv 0) rfl) (kaa (pv 1) (kaa (pv 3) kad))))))))
   (kag (kaq (pv 3)))),?_⟩
  rwa[8,kkb hB wf0.nl wf0.ok fun H1 y0 s1 fy0 hy0=>?_]
  refine⟨_,rfl,o,rfl,⟨_,SqL.of (s1 _ _ ho)⟩,ka9 (xs:=order.map iV) (fun i σ H'=>Same H H'/\∃(y:Addr)(Si:Stnd)(v4:Option V),StndIs d.qc H' y Si/\Wf T.ps B Si/\walkM T B hand (order.drop i) (order.take i) Si=(order.take i++order.drop i,S)/\σ=[some (.ref t),some (.ref b),some (.ref o),some (.ref y),v4])
   ⟨s1,y0,stnd0 B,none,hy0,wf0,hw,rfl⟩ (fun i σ H' _ h=>SqL.of (h.1 _ _ ho)) ?_ ?_⟩
  ·rintro i v σ H' hv ⟨s,y,Si,v4,hy,wf,hwi,rfl⟩
   obtain⟨n,en,rfl⟩:∃n,order[i]?>>n/\v=iV n:=kbO hv
   have hi:=at_lt en
   have ed:order.drop i=n::order.drop (i+1):=by
    rw[MW hi]
    congr 1
    obtain⟨_,e⟩:=JK.mp en
    exact e
   rw[ed] at hwi
   obtain⟨V,hV,_,hw2⟩:=kb6 hwi
   obtain⟨va1,eva⟩:=at_of (show n<va.length by rw[hva.len];exact at_lt hV)
   obtain⟨V',hV',hVc⟩:=hva.at eva
   rw[hV] at hV'
   cases hV'
   have vo:=tok.vs V (JB hV)
   rwa[8,t,d.qd,dxt,fst,8,s _ _ ht,W.qd.cl,W.qt,t2,8,vl,_,9,SqL.of (s _ _ hvl),kaK (by rw[JF,eva];rfl),8,t,d.qd,dxt,fst,8,s _ _ ht,W.qd.cl,W.qS,t1,8,8,va1,pt,b,y,V,T.ps,B,Si,6,hVc.same s,SqL.of (s _ _ hpt),hB.same s,hy,wf,vo,fun H2 y2 s2 _ hy2=>?_]
   rwa[s.trans s2,y2,aftM V T.ps (kds B) Si,_,hy2.is,wf.after vo,?_,6]
   rw[<-take_snoc en] at hw2
   exact hw2
  ·rintro σ H' ⟨s,y,Si,v4,hy,wf,hwi,rfl⟩
   rw[Jv,List.drop_length,J4] at hwi
   unfold walkM at hwi
   have e:=(Prod.mk.inj hwi).2
   subst e
   rwa[8,kk H' y s hy]
inductive kjA(d:D)(vs:List V)(H:Hp)(Q:VK)(E_:XK):Prop
 |ct(t b h o:Addr)(T:TillD)(B:Bask)(hand:List Int)(order:List Nat)(S:Stnd)(_:vs=[.ref t, .ref b, .ref h, .ref o])(_:TillIs d H t T)(_:kbw T)(_:BaskIs d.qf d.qg H b B)(_:Wf T.ps B (stnd0 B))(_:H h>>(.lst (hand.map V.int)))(_:H o>>(.lst (order.map iV)))(_:hand.length=T.vs.length)(_:(∀z∈hand,0<=z/\z<=100))(_:order.length<=64)(_:walkM T B hand order [] (stnd0 B)=(order,S))(_:∀(H':Hp),Same H H'->Q (.int (kcp T B hand order S)) H'):kjA d vs H Q E_
theorem qL:kat ["_law_till","_law_basket","_law_hand","_law_order","_law_standing_here","_law_least_here","_law_voucher","_law_left"] ["_law_till","_law_basket","_law_hand","_law_order"] (kah kcT):=by ac_rfl
theorem kgc(W:WB K mg d base):FO P w W 7 d.YU d.YV ["_law_till","_law_basket","_law_hand","_law_order"] (kjA d):=by
 exists W.ZT.F,qL
 ·obtain⟨t,b,h,o,T,B,hand,order,S,rfl,hT,tok,hB,wf0,hh,ho,hl,hz,h64,hw,kk⟩:=h
  obtain⟨dxt,fst,pt,vl,rl,va,ra,ht,t1,t2,t3,t4,hpt,hvl,hva,hrl,hra⟩:=id hT
  have wf:=(kfT tok wf0 (u:=[]) hw).1
  have lva:=hva.len
  have nv:=tok.nv
  exists Xs,kcO,W
  exists qD,ka4,W
  exists Xq,kiu,W
  have hr1:Room 1 _:=hr.mono (by decide)
  have hr4:Room 4 _:=hr.mono (by decide)
  refine⟨_,kab (psl (i:=4) qL.nd (pcl Xs hr W.QW (kaa (pv 0) (kaa (pv 1) (kaa (pv 3) kad)))))
   (kab (psl (i:=5) qL.nd (kco (pv 4) W.qc.cl W.qw.me qD hr1 W.qw.b .nil pass0))
   (kab (ka7 PassesOwn.never rfl (kcf rfl W.B.range (kaa (kao (r:=kaG K) kap (by rfl) W.B.len b_len (kaa (kaj (K:=K) (pv 0) rfl) kad)) kad)) (pgn (i:=6) qL.nd)
   (kab (psl (i:=7) qL.nd (pe_op kdx (pe_ix (r:=rIxL K) kaH (pv 2) (pv 6) (fun _ _=>rfl)) (pe_bm Nh M8 M9 kez (pv 3) (kaa (pv 6) kad))))
   (kab (ps_if (kaQ (kaj (K:=K) (kaj (K:=K) (pe_ix (r:=rIxL K) kaH (kaj (K:=K) (pv 0) rfl) (pv 6) (fun _ _=>rfl)) rfl) rfl)) (kab (psl (i:=7) qL.nd (kao (kbS rfl) (by rfl) W.B.min b_min (kaa (pv 7) (kaa kaf kad))))
   (kag (ps_if (kan kch (pv 6) (pv 3) (by with_unfolding_all rfl)) (kag (psl (i:=7) qL.nd kaf)) (kar)))) (kar))
   (kag (kjZ (i:=5) qL.nd rfl (Or.inl rfl) (pe_op kcg (pv 7) (pcl Xq hr4 W.QQ (kaa (pe_ix (r:=rIxL K) kaH (kaj (K:=K) (pv 0) rfl) (pv 6) (fun _ _=>rfl)) (kaa (kaj (K:=K) (pv 0) rfl) (kaa (pv 1) (kaa (pv 4) kad)))))) kml)))))
   (kag (kaq (kao (kdM rfl) (by rfl) W.B.max b_max (kaa kaf (kaa (pv 5) kad))))))),?_⟩
  rwa[8,8,8,t,b,o,T,B,hand,order,S,6,hT,tok,hB,wf0,ho,hw,fun H1 y s1 hy=>?_]
  obtain⟨oo,pp,mk,⟨dxs,fss,hxs,l1,l2,l3,l4,l5⟩,hoo,hpp,hmk⟩:=id hy
  rwa[8,y,dxs,fss,6,hxs,l5,y,oo,pp,mk,S.cg,S.pr,6,⟨dxs,fss,hxs,l1,l2,l3,l4,l5⟩,hpp,?_]
  refine⟨_,rfl,t,d.qd,dxt,fst,_,rfl,s1 _ _ ht,W.qd.cl,W.qt,t2,vl,_,rfl, .inl (SqL.of (s1 _ _ hvl)),_,rfl,by lia,(by rw[Jv];lia),kc1 (fun i σ H'=>Same H1 H'/\∃v6 v7:Option V,σ=[some (.ref t),some (.ref b),some (.ref h),some (.ref o),some (.ref y),some (.int (kaO S-sumR T B hand order S i)),v6,v7])
   ⟨Same.refl _,none,none,by show _=[_,_,_,_,_,some (V.int (kaO S-0)),_,_];rw[Int.sub_zero];rfl⟩ ?_ ?_⟩
  ·rintro i σ Hi hi ⟨sI,v6,v7,rfl⟩
   simp only[Int.zero_add]
   have si:=s1.trans sI
   have hin:i<va.length:=by rw[Jv] at hi;exact hi
   obtain⟨v,ev⟩:=at_of hin
   obtain⟨Vc,eV,hV⟩:=hva.at ev
   have hV':=hV.same si
   obtain⟨mA,dxv,fsv,hv,lvm,_,⟨dxm,fsm,hm,m1,m2,m3,m4,m5,m6⟩,hh',_⟩:=id hV'
   have vo:=tok.vs Vc (JB eV)
   have hcs:=kfN (V:=Vc) (n:=i) hz h64
   obtain⟨z,ez⟩:=at_of (xs:=hand) (i:=i) (by rw[hl];exact at_lt eV)
   have eg:hand.getD i 0=z:=by rw[JM,ez];rfl
   have eu:Hi o>>(.lst ((order.map fun(i:Nat)=>(i:Int)).map V.int)):=by rw[si _ _ ho,JO];rfl
   refine sN fun N1 hN1=>?_
   rwa[8,8,h,_,9,SqL.of (si _ _ hh),kaK (v:=V.int z) (by rw[JF,ez];rfl),8, .inl ⟨rfl,_,SqL.of (si _ _ ho)⟩,8,o,9,eu,9,?_]
   rw[kgp]
   refine hN1 _ _ ?_
   refine sN fun N hN=>?_
   have hrest:N [some (.ref t),some (.ref b),some (.ref h),some (.ref o),some (.ref y),some (.int (kaO S-sumR T B hand order S i)),some (iV i),some (.int (comeM Vc hand order i))] Hi:=by
    refine hN _ _ ?_
    rwa[8,8,8,t,d.qd,dxt,fst,8,si _ _ ht,W.qd.cl,W.qt,t2,8,vl,_,9,SqL.of (si _ _ hvl),kaK (v:=V.ref v) (by rw[JF,ev];rfl),8,t,d.qd,dxt,fst,8,si _ _ ht,W.qd.cl,W.qS,t1,8,8,v,pt,b,y,Vc,T.ps,B,S,6,hV',SqL.of (si _ _ hpt),hB.same si,hy.same sI,wf,vo,fun H4 s4=>?_]
    rwa[9, .inl ⟨by lia,by lia⟩,9,?_]
    rwa[sI.trans s4,some (iV i),some (.int (comeM Vc hand order i)),?_]
    have es:sumR T B hand order S (i+1)=sumR T B hand order S i+comeM Vc hand order i*kbE Vc T.ps (kds B) S:=by
     show sumR T B hand order S i+(match T.vs[i]? with|none=>0|some V=>kbE V T.ps (kds B) S*comeM V hand order i)=_
     rw[eV,Int.mul_comm]
    rw[es,<-Int.sub_sub]
    rfl
   unfold comeM at hrest
   rw[eg] at hrest
   rwa[8,t,d.qd,dxt,fst,8,si _ _ ht,W.qd.cl,W.qt,t2,8,vl,_,9,SqL.of (si _ _ hvl),kaK (v:=.ref v) (by rw[JF,ev];rfl),v,clsOf d Vc.so,dxv,fsv,8,hv,cl_of W hh',na_of W hh',lvm,mA,d.qe,dxm,fsm,8,hm,W.qe.cl,W.Qq,m5,Vc.ms.once,6,?_]
   cases eo:Vc.ms.once with
   |false=>
    rw[eo,if_neg JD] at hrest
    exact iteF hrest
   | true=>
    rw[eo,if_pos rfl] at hrest
    refine iteT ?_
    rwa[8,_,8,?_]
    rwa[8,8,o,8, .inl (SqL.of (si _ _ ho)),6,ka1 _,8,?_]
    rw[if_neg JD,show inV (V.int (i:Int)) (order.map iV)=order.contains i from kcE order]
    cases hc:order.contains i with
    |true=>
     rw[hc,if_pos rfl] at hrest
     exact iteT hrest
    |false=>
     rw[hc,if_neg JD] at hrest
     exact iteF hrest
  ·rintro σ H' ⟨sI,v6,v7,rfl⟩
   rw[Jv,lva]
   have e:(if kaO S-sumR T B hand order S T.vs.length > 0 then kaO S-sumR T B hand order S T.vs.length else 0)=kcp T B hand order S:=by
    unfold kcp
    split <;> split <;> lia
   have hk:=kk H' (s1.trans sI)
   rw[<-e] at hk
   rwa[8,_,8,hk]
theorem kgv:∀(o u:List Nat)(S:Stnd),∃p s,o=p++s/\(walkM T B hand o u S).1=u++p
 |[],u,S=>⟨[],[],rfl,by unfold walkM;rw[J8]⟩
 | n::o,u,S=>by
  unfold walkM
  cases e:T.vs[n]? with
  |none=>exact⟨[],n::o,rfl,by rw[J8]⟩
  | some V=>
   simp only
   by_cases c:dueM V T B hand u S n=.non
   ·rw[if_pos c]
    obtain⟨p,s,h1,h2⟩:=kgv o (u++[n]) (aftM V T.ps (kds B) S)
    rwa[n::p,s,by rw[h1];rfl,by rw[h2,Nc];rfl]
   ·rw[if_neg c]
    rwa[[],n::o,6,by rw[J8]]
theorem klM{V:Vch}{T:TillD}{B:Bask}{hand:List Int}{used:List Nat}{S:Stnd}{n:Nat}:flatV (dueM V T B hand used S n)=true:=by
 unfold dueM
 split
 ·rfl
 ·unfold hindM
  repeat' split
  all_goals rfl
noncomputable def goB(T:TillD)(B:Bask)(hand:List Int)(o:List Nat):Bool:=decide ((walkM T B hand o [] (stnd0 B)).1=o)
noncomputable def fltB(o:List Nat):Option (Nat×L2.V)->Bool
 |none=>true
 |some (k,z)=>eqVs [iV k,z] [iV o.length, .str "only"]
theorem knJ{o:List Nat}(hm:∀n∈o,n<T.vs.length):fltB o (kb5 T B hand o)=goB T B hand o:=by
 obtain⟨p,s,h1,h2⟩:=kgv (T:=T) (B:=B) (hand:=hand) o [] (stnd0 B)
 rw[NG] at h2
 unfold kb5 goB
 simp only
 rw[h2]
 by_cases c:p.length<o.length
 ·rw[if_pos c]
  have hne:¬p=o:=fun z=>by rw[z] at c;exact ND _ c
  rw[decide_eq_false hne]
  have hx:o.getD p.length 0∈o:=by
   rw[JM,Nw c]
   exact Mw c
  obtain⟨V,hV⟩:=at_of (hm _ hx)
  rw[hV]
  show eqVs [iV p.length,_] [iV o.length, .str "only"]=false
  have e:eqV (iV p.length) (iV o.length)=false:=by
   show((p.length:Int)==(o.length:Int))=false
   exact beq_eq_false_iff_ne.mpr (by lia)
  show(eqV (iV p.length) (iV o.length)&&_)=false
  rw[e]
  rfl
 ·rw[if_neg c]
  have hl:s.length=0:=by
   have:=congrArg Ny h1
   rw[JN] at this
   lia
  have hs:s=[]:=EZ.mp hl
  rw[hs,J8] at h1
  rw[<-h1,decide_eq_true rfl]
  split
  ·rfl
  ·show eqVs [iV o.length, .str "only"] [iV o.length, .str "only"]=true
   exact kfe rfl
theorem klK{o:List Nat}{k:Nat}{z:L2.V}(h:kb5 T B hand o>>(k,z)):flatV z=true:=by
 unfold kb5 at h
 simp only at h
 split at h
 ·split at h
  ·cases h
  ·cases h
   exact klM
 ·split at h
  ·cases h
  ·cases h
   rfl
inductive kl2(d:D)(vs:List V)(H:Hp)(Q:VK)(E_:XK):Prop
 |ct(t b h o:Addr)(T:TillD)(B:Bask)(hand:List Int)(order:List Nat)(_:vs=[.ref t, .ref b, .ref h, .ref o])(_:TillIs d H t T)(_:kbw T)(_:BaskIs d.qf d.qg H b B)(_:Wf T.ps B (stnd0 B))(_:H h>>(.lst (hand.map V.int)))(_:H o>>(.lst (order.map iV)))(_:hand.length=T.vs.length)(_:(∀n∈order,n<T.vs.length))(_:order.length<64)(_:∀(H':Hp),Same H H'->Q (.bl (goB T B hand order)) H'):kl2 d vs H Q E_
theorem Vx:kat ["_law_till","_law_basket","_law_hand","_law_order","_law_found"] ["_law_till","_law_basket","_law_hand","_law_order"] (kah kcx):=by ac_rfl
theorem keZ(W:WB K mg d base):FO P w W 9 d.YW d.YX ["_law_till","_law_basket","_law_hand","_law_order"] (kl2 d):=by
 exists W.ZU.F,Vx
 ·obtain⟨t,b,h,o,T,B,hand,order,rfl,hT,tok,hB,wf0,hh,ho,hl,hm,h64,kk⟩:=h
  exists QE,kiv,W
  refine⟨_,kab (psl (i:=4) Vx.nd (pcl QE hr W.Qn (kaa (pv 0) (kaa (pv 1) (kaa (kaJ (r:=kbf K) kaC (by rfl) W.B.list kbF (kaa (pv 2) kad)) (kaa (kaJ (r:=kbf K) kaC (by rfl) W.B.list kbF (kaa (pv 3) kad)) kad))))))
   (kag (kaq (pe_or (kbB keS (pv 4) kbo (kau _)) (kj4 (kbB (kmT hr.units0) (pv 4) (kb4 (kaa (kao (r:=kaG K) kap (by rfl) W.B.len b_len (kaa (pv 3) kad)) (kaa kbN kad))) (kau _)))))),?_⟩
  rwa[8,8,8,h,8, .inl (SqL.of hh),fun h1 fh1=>?_]
  exists H,h1,H1,n1,e1,fh1
  rwa[8,o,8, .inl (SqL.of (n1 _ _ ho)),fun o2 fo2=>?_]
  exists H1,o2,H2,n2,e2,fo2
  have s2:=n1.trans n2
  rwa[t,b,h1,o2,T,B,hand,order,6,hT.same s2,tok,hB.same s2,wf0,n2 _ _ e1,e2,hl,hm,h64,fun H3 fv s3 hfv=>?_]
  have s03:=s2.trans s3
  have hgo:=knJ (B:=B) (hand:=hand) hm
  cases ef:kb5 T B hand order with
  |none=>
   rw[ef] at hfv hgo
   have e:fv=.non:=hfv
   subst e
   rwa[8,6,?_]
   rw[show decide (V.non=V.non)=true by simp]
   rwa[8,?_]
   have:=kk H3 s03
   rw[<-hgo] at this
   exact iteT this
  | some z=>
   obtain⟨k,z⟩:=z
   rw[ef] at hfv hgo
   obtain⟨fa,e,hfa⟩:=hfv
   subst e
   rwa[8,6,?_]
   rw[show decide (V.ref fa=V.non)=false by simp]
   rwa[8,iteF ?_]
   rwa[8,8,o,8, .inl (SqL.of (s03 _ _ ho)),(by show 2<=sizeLine;decide),fun tp ftp=>?_]
   exists H3,tp,H4,n4,e4,ftp
   rw[Jv] at e4
   have fz:([iV k,z]:List V).all flatV=true:=by
    show(flatV (iV k)&&(flatV z&&true))=true
    rw[klK ef]
    rfl
   rwa[fa,tp,[iV k,z],[iV order.length, .str "only"],6,6,SqT.of (n4 _ _ hfa),SqT.of e4,fz,6,6,?_]
   have:=kk H4 (s03.trans n4)
   rw[<-hgo] at this
   exact this
theorem khK:∀(p a b:List Int),SeqAt.lexL (p++a) (p++b)=SeqAt.lexL a b
 |[],_,_=>rfl
 |x::p,a,b=>by
  show(if x=x then SeqAt.lexL (p++a) (p++b) else _)=_
  rw[if_pos rfl]
  exact khK p a b
def ltN(u v:List Nat):Prop:=SeqAt.lexL (u.map fun(n:Nat)=>(n:Int)) (v.map fun(n:Nat)=>(n:Int))=true
theorem knA(u r:List Nat)(n:Nat):ltN u (u++n::r):=by
 unfold ltN
 have:=khK (u.map fun(n:Nat)=>(n:Int)) [] ((n::r).map fun(n:Nat)=>(n:Int))
 rw[J8] at this
 rw[JC,this]
 rfl
theorem knB(u r s:List Nat){n m:Nat}(h:n<m):ltN (u++n::r) (u++m::s):=by
 unfold ltN
 rw[JC,JC,khK]
 show(if(n:Int)=(m:Int) then _ else decide ((n:Int)<(m:Int)))=true
 rw[if_neg (by lia)]
 exact decide_eq_true (by lia)
def goM(T:TillD)(B:Bask)(hand:List Int)(u:List Nat):Prop:=(walkM T B hand u [] (stnd0 B)).1=u
theorem kmu{used:List Nat}{S:Stnd}{n:Nat}(hw:walkM T B hand used [] (stnd0 B)=(used,S)):canM T B hand used S n=true↔goM T B hand (used++[n]):=by
 unfold goM
 rw[kfV used [n] [] _ S (by rw[NG];exact hw),NG]
 unfold walkM canM
 cases e:T.vs[n]? with
 |none=>
  simp only
  rwa[fun h=>absurd h JD,fun h=>by have:=congrArg Ny h;rw[JN,Nv] at this;lia]
 | some V=>
  simp only
  by_cases c:dueM V T B hand used S n=.non
  ·rw[if_pos c]
   rwa[fun _=>rfl,fun _=>decide_eq_true c]
  ·rw[if_neg c]
   rwa[fun h=>absurd (of_decide_eq_true h) c,fun h=>by have:used.length=(used++[n]).length:=congrArg Ny h;rw[JN,Nv] at this;lia]
theorem kkl:∀(u:List Int),SeqAt.lexL u u=false
 |[]=>rfl
 |x::u=>by
  show(if x=x then SeqAt.lexL u u else _)=false
  rw[if_pos rfl]
  exact kkl u
theorem keC{o:List Nat}{S:Stnd}(hw:walkM T B hand o [] (stnd0 B)=(o,S)):(kb5 T B hand o).isNone=(onlyM T.rs o).isNone:=by
 unfold kb5
 rw[hw]
 simp only
 rw[if_neg (ND _)]
 cases(onlyM T.rs o).isNone with
 |true=>rw[if_pos rfl];rfl
 |false=>rw[if_neg JD];rfl
theorem kly{a b:List Int}(h:SeqAt.lexL a b=true):SeqAt.lexL b a=false:=by
 cases c:SeqAt.lexL b a with
 |false=>rfl
 |true=>
  have:=lex_trans h c
  rw[keA] at this
  cases this
theorem kh0{b:List Nat}{S':Stnd}:∀{a u:List Nat}{S:Stnd},walkM T B hand (a++b) u S=(u++(a++b),S')->∃S1,walkM T B hand a u S=(u++a,S1)
 |[],u,S,_=>⟨S,by unfold walkM;rw[J8]⟩
 |n::a,u,S,h=>by
  obtain⟨V,hV,hd,h2⟩:=kb6 (o:=a++b) h
  obtain⟨S1,h3⟩:=kh0 (a:=a) (u:=u++[n]) h2
  rwa[S1,?_]
  unfold walkM
  rw[hV]
  simp only
  rw[if_pos hd,h3,Nc]
  rfl
theorem ent_w{q:List Nat×Int×Int}(h:EntOk T B hand q):EntW T B hand q:=by
 obtain⟨S,h1,h2,h3⟩:=h
 unfold EntW
 rw[h1]
 rwa[6,h2.symm,h3.symm]
theorem knI{u:List Nat}{S:Stnd}{n:Nat}(hw:walkM T B hand u [] (stnd0 B)=(u,S))(hn:n∈folM T B hand u S):goM T B hand (u++[n]):=(kmu hw).mp (JT.mp hn).2
theorem mem_let{T:TillD}{qs:List (List Nat×Int×Int)}{x:TO}:x∈letQ T qs↔∃q∈qs,(onlyM T.rs q.1).isNone=true/\(q.2.1,q.1)=x:=by
 unfold letQ
 rw[JP]
 constructor
 ·rintro⟨q,hq,e⟩
  have:=JT.mp hq
  rwa[q,this.1,this.2,e]
 ·rintro⟨q,hq,h,e⟩
  rwa[q,JT.mpr ⟨hq,h⟩,e]
theorem kfw(hl:hand.length=T.vs.length):∀{k:Nat}{o u:List Nat}{S S':Stnd},remM hand u<k->walkM T B hand o u S=(u++o,S')->u++o∈ka3 hand k u
 |0,_,_,_,_,h,_=>by lia
 |k+1,[],u,S,S',h,hw=>by
  rw[J8]
  exact JS
 | k+1,n::o,u,S,S',h,hw=>by
  obtain⟨V,hV,hd,h2⟩:=kb6 hw
  obtain⟨c1,_⟩:=kiL hd
  have hn:n<hand.length:=by rw[hl];exact at_lt hV
  have hr:=kf4 (hand:=hand) (used:=u) hn c1
  have ih:=kfw hl (k:=k) (o:=o) (u:=u++[n]) (by lia) h2
  refine JQ _ (Eb.mpr ⟨n,JT.mpr ⟨Mj.mpr hn,?_⟩,?_⟩)
  ·unfold candM
   exact decide_eq_true (by lia)
  ·rw[Nc] at ih
   exact ih
noncomputable def entE(T:TillD)(B:Bask)(hand:List Int)(o:List Nat):List Nat×Int×Int:=(o,kaO (walkM T B hand o [] (stnd0 B)).2,kcp T B hand o (walkM T B hand o [] (stnd0 B)).2)
theorem kdJ(hl:hand.length=T.vs.length)(hr:remM hand []<10)(q:List Nat×Int×Int):q∈((ka3 hand 10 []).filter (goB T B hand)).map (entE T B hand)↔EntOk T B hand q:=by
 constructor
 ·intro h
  obtain⟨o,ho,rfl⟩:=JP.mp h
  have hg:=of_decide_eq_true (JT.mp ho).2
  rwa[_,Prod.ext hg rfl,6,6]
 ·rintro⟨S,h1,h2,h3⟩
  refine JP.mpr ⟨q.1,JT.mpr ⟨kfw (u:=[]) hl hr h1,decide_eq_true (by rw[h1])⟩,?_⟩
  unfold entE
  rw[h1]
  exact Prod.ext rfl (Prod.ext h2.symm h3.symm)
theorem kkB{order:List Nat}{total:Int}{qs:List (List Nat×Int×Int)}(tok:kbw T)(wf0:Wf T.ps B (stnd0 B))(hl:hand.length=T.vs.length)(hz:∀z∈hand,0<=z)(hq:∀q∈qs,EntOk T B hand q)(h:kiS T B hand order total qs){o:List Nat}{S:Stnd}(hw:walkM T B hand o [] (stnd0 B)=(o,S))(ho:(onlyM T.rs o).isNone=true):total<=kaO S:=by
 obtain⟨_,h0,h3,h4,h5⟩:=h
 have go:∀(r p:List Nat),(∃q∈qs,q.1=p)->p++r=o->total<=kaO S:=by
  intro r
  induction r with
  | nil=>
   rintro p ⟨q,hqm,rfl⟩ e
   rw[J8] at e
   obtain⟨S',g1,g2,_⟩:=hq q hqm
   rw[e,hw] at g1
   injection g1 with _ g1
   have hm:(q.2.1,q.1)∈letQ T qs:=mem_let.mpr ⟨q,hqm,by rw[e];exact ho,rfl⟩
   have:=h5 _ hm
   unfold ltO at this
   by_cases c:q.2.1=total
   ·rw[<-c,g2,g1]
    exact Int.le_refl _
   ·rw[if_neg c] at this
    have:=of_decide_eq_false this
    simp only at this
    rw[g1,<-g2]
    lia
  | cons n r ih=>
   rintro p ⟨q,hqm,rfl⟩ e
   obtain⟨S',g1,g2,g3⟩:=hq q hqm
   have ea:q.1++n::r=(q.1++[n])++r:=by rw[Nc];rfl
   by_cases c:q.2.2<total
   ·have hn:n∈folM T B hand q.1 (walkM T B hand q.1 [] (stnd0 B)).2:=by
     rw[g1]
     obtain⟨S1,hw1⟩:=kh0 (a:=q.1++[n]) (b:=r) (u:=[]) (S:=stnd0 B) (S':=S) (by rw[NG,<-ea,e];exact hw)
     have hc:canM T B hand q.1 S' n=true:=(kmu g1).mpr (by unfold goM;rw[hw1];rfl)
     refine JT.mpr ⟨Mj.mpr ?_,hc⟩
     exact(klR hc).1
    obtain⟨q',hq',e'⟩:=h3 q hqm c n hn
    exact ih (q.1++[n]) ⟨q',hq',e'⟩ (by rw[<-ea];exact e)
   ·have:=kkm tok wf0 hl hz (used:=q.1) (r:=n::r) (S:=S') (S':=S) g1 (by rw[e];exact hw)
    lia
 obtain⟨q0,hq0,e0⟩:=h0
 exact go o [] ⟨q0,hq0,e0⟩ rfl
theorem kg2{hand:List Int}:∀(k:Nat)(a:List Nat),(ka3 hand k a).Pairwise ltN
 |0,a=>NH.nil
 | k+1,a=>by
  unfold ka3
  refine Mo.mpr ⟨fun o ho=>?_,?_⟩
  ·obtain⟨n,_,h2⟩:=Eb.mp ho
   obtain⟨r,rfl⟩:=kdG k (a++[n]) o h2
   rw[Nc]
   exact knA a r n
  ·refine List.pairwise_flatMap.mpr ⟨fun n _=>kg2 k (a++[n]),?_⟩
   refine(NH.filter _ MC).imp fun {n m} hnm x hx y hy=>?_
   obtain⟨r,rfl⟩:=kdG k (a++[n]) x hx
   obtain⟨s,rfl⟩:=kdG k (a++[m]) y hy
   rw[Nc,Nc]
   exact knB a r s hnm
noncomputable def fullE(T:TillD)(B:Bask)(hand:List Int):List (List Nat×Int×Int):=((ka3 hand 10 []).filter (goB T B hand)).map (entE T B hand)
noncomputable def letE(T:TillD)(B:Bask)(hand:List Int):List (List Nat×Int×Int):=(fullE T B hand).filter fun q=>(kb5 T B hand q.1).isNone
theorem klJ:(fullE T B hand).Pairwise fun p q=>ltN p.1 q.1:=by
 refine MD.mpr ?_
 exact(NH.filter _ (kg2 10 [])).imp fun h=>h
theorem kkI(hl:hand.length=T.vs.length)(hr:remM hand []<10){m:Int}(hm:∀q∈letE T B hand,m<=q.2.1){f:List Nat×Int×Int}(hf:((letE T B hand).filter fun q=>decide (q.2.1=m)).head?>>f):IsMin (letQ T (fullE T B hand)) (m,f.1):=by
 have hfm:=E2 hf
 obtain⟨h1,h2⟩:=JT.mp hfm
 have h2:=of_decide_eq_true h2
 obtain⟨h3,h4⟩:=JT.mp h1
 have flt:∀q∈fullE T B hand,(kb5 T B hand q.1).isNone=(onlyM T.rs q.1).isNone:=fun q hq=>by
  obtain⟨S,g,_⟩:=(kdJ (B:=B) hl hr q).mp hq
  exact keC g
 rwa[mem_let.mpr ⟨f,h3,by rw[<-flt f h3];exact h4,by rw[h2]⟩,fun x hx=>?_]
 obtain⟨q,hq,ho,rfl⟩:=mem_let.mp hx
 have hql:q∈letE T B hand:=JT.mpr ⟨hq,by rw[flt q hq];exact ho⟩
 have:=hm q hql
 unfold ltO
 by_cases c:q.2.1=m
 ·rw[if_pos c]
  have hqm:q∈(letE T B hand).filter fun q=>decide (q.2.1=m):=JT.mpr ⟨hql,decide_eq_true c⟩
  have hp:((letE T B hand).filter fun q=>decide (q.2.1=m)).Pairwise fun p q=>ltN p.1 q.1:=NH.filter _ (NH.filter _ klJ)
  generalize (letE T B hand).filter (fun q=>decide (q.2.1=m))=L at *
  cases L with
  |nil=>cases hf
  | cons g L=>
   have e:g=f:=by simpa using hf
   subst e
   rcases JY.mp hqm with e|e
   ·rw[e]
    exact kkl _
   ·exact kly ((Mo.mp hp).1 q e)
 ·rw[if_neg c]
  exact decide_eq_false (by show ¬q.2.1<m;lia)
theorem khO{order:List Nat}{total m:Int}{qs:List (List Nat×Int×Int)}(tok:kbw T)(wf0:Wf T.ps B (stnd0 B))(hl:hand.length=T.vs.length)(hz:∀z∈hand,0<=z)(hr:remM hand []<10)(hq:∀q∈qs,q∈fullE T B hand)(h:kiS T B hand order total qs)(hm:∀q∈letE T B hand,m<=q.2.1)(hme:∃q∈letE T B hand,q.2.1=m):total=m/\(∃q∈qs,q.1=order)/\kb5 T B hand order=none:=by
 have hok:∀q∈qs,EntOk T B hand q:=fun q h=>(kdJ hl hr q).mp (hq q h)
 obtain⟨q,hqm,ho,e⟩:=mem_let.mp h.2.2.2.1
 obtain⟨e1,e2⟩:=Prod.mk.inj e
 obtain⟨S,g1,g2,_⟩:=hok q hqm
 have hf:(kb5 T B hand q.1).isNone=true:=by rw[keC g1];exact ho
 have hql:q∈letE T B hand:=JT.mpr ⟨hq q hqm,hf⟩
 have h1:=hm q hql
 obtain⟨p,hp,ep⟩:=hme
 obtain⟨hp1,hp2⟩:=JT.mp hp
 obtain⟨S',k1,k2,_⟩:=(kdJ (B:=B) hl hr p).mp hp1
 have h2:=kkB tok wf0 hl hz hok h k1 (by rw[<-keC k1];exact hp2)
 rwa[by lia,⟨q,hqm,e2⟩,by rw[<-e2];exact Option.isNone_iff_eq_none.mp hf]
theorem ki7(hl:hand.length=T.vs.length)(hr:remM hand []<10){m:Int}(hm:∀q∈letE T B hand,m<=q.2.1){f p:List Nat×Int×Int}(hf:((letE T B hand).filter fun q=>decide (q.2.1=m)).head?>>f)(hp:p∈fullE T B hand):kiS T B hand p.1 p.2.1 (fullE T B hand)↔p.1=f.1:=by
 have hmin:=kkI hl hr hm hf
 have ent:∀q,q∈fullE T B hand↔EntOk T B hand q:=fun q=>kdJ hl hr q
 constructor
 ·intro h
  have:=h.2.2.2.one hmin
  exact(Prod.mk.inj this).2
 ·intro e
  have hfm:=JT.mp (E2 hf)
  have hff:=(JT.mp hfm.1).1
  have e2:p.2.1=m:=by
   obtain⟨S,g1,g2,_⟩:=(ent p).mp hp
   obtain⟨S',k1,k2,_⟩:=(ent f).mp hff
   rw[e,k1] at g1
   injection g1 with _ g1
   rw[g2,<-g1,<-k2]
   exact of_decide_eq_true hfm.2
  rw[e,e2]
  rwa[fun q hq=>ent_w ((ent q).mp hq),⟨entE T B hand [],(ent _).mpr ⟨_,rfl,rfl,rfl⟩,rfl⟩,fun q hq ht n hn=>?_,hmin]
  obtain⟨S,h1,h2,h3⟩:=(ent q).mp hq
  rw[h1] at hn
  have hg:=knI h1 hn
  unfold goM at hg
  rwa[entE T B hand (q.1++[n]),(ent _).mpr ⟨_,Prod.ext hg rfl,rfl,rfl⟩,6]
theorem ke5{hand:List Int}:∀(k:Nat)(a:List Nat),(∀n∈a,n<hand.length)->∀o∈ka3 hand k a,(∀n∈o,n<hand.length)/\o.length<=a.length+k
 |0,a,_,o,h=>by simp[ka3] at h
 | k +1,a,ha,o,h=>by
  unfold ka3 at h
  rcases JY.mp h with h|h
  ·rw[h]
   rwa[ha,by lia]
  ·obtain⟨n,hn,h2⟩:=Eb.mp h
   have hm:=Mj.mp (JT.mp hn).1
   obtain⟨q1,q2⟩:=ke5 k (a++[n]) (fun m hm'=>by
    rcases Na.mp hm' with h'|h'
    ·exact ha m h'
    ·have e:m=n:=by simpa using h'
     rw[e]
     exact hm) o h2
   rw[JN,Nv] at q2
   rwa[q1,by lia]
def EntX(z:Addr)(H:Hp)(e:Addr)(q:List Nat×Int×Int):Prop:=∃l,e≠z/\l≠z/\H e>>(.tup [.ref l, .int q.2.1, .int q.2.2])/\H l>>(.lst (q.1.map iV))
theorem EntX.same{z:Addr}{H H':Hp}{e:Addr}{q:List Nat×Int×Int}(s:Same H H'):EntX z H e q->EntX z H' e q:=by rintro⟨l,n1,n2,h1,h2⟩;exact⟨l,n1,n2,s _ _ h1,s _ _ h2⟩
theorem EntX.but{z:Addr}{H H':Hp}{e:Addr}{q:List Nat×Int×Int}(s:But z H H'):EntX z H e q->EntX z H' e q:=by rintro⟨l,n1,n2,h1,h2⟩;exact⟨l,n1,n2,s _ _ n1 h1,s _ _ n2 h2⟩
inductive kl4(d:D)(vs:List V)(H:Hp)(Q:VK)(E_:XK):Prop
 |ct(t b h:Addr)(T:TillD)(B:Bask)(hand:List Int)(_:vs=[.ref t, .ref b, .ref h])(_:TillIs d H t T)(_:kbw T)(_:BaskIs d.qf d.qg H b B)(_:Wf T.ps B (stnd0 B))(_:H h>>(.lst (hand.map V.int)))(_:hand.length=T.vs.length)(_:(∀z∈hand,0<=z))(_:hand.sum<=4)(_:∀(H':Hp)(f:Addr)(fa:List Addr),Same H H'->H f=none->H' f>>(.lst (fa.map V.ref))->P2 (EntX f H') fa (fullE T B hand)->Q (.ref f) H'):kl4 d vs H Q E_
theorem Qj:kat ["_law_till","_law_basket","_law_hand","_law_lists_here","_law_found","_law_one","_law_total"] ["_law_till","_law_basket","_law_hand"] (kah kcy):=by ac_rfl
theorem ke0(W:WB K mg d base):FO P w W 11 d.YY d.YZ ["_law_till","_law_basket","_law_hand"] (kl4 d):=by
 exists W.ZV.F,Qj
 ·obtain⟨t,b,h,T,B,hand,rfl,hT,tok,hB,wf0,eh,hl,hnn,hsum,kk⟩:=h
  exists UA,kgb,W
  exists UB,keZ,W
  exists Xs,kcO,W
  exists qD,ka4,W
  exists UC,kgc,W
  have hr1:Room 1 _:=hr.mono (by decide)
  have hr6:Room 6 _:=hr.mono (by decide)
  have hr7:Room 7 _:=hr.mono (by decide)
  have hr9:Room 9 _:=hr.mono (by decide)
  refine⟨_,kab (psl (i:=3) Qj.nd (kaX kad))
   (kab (ka0 (pcl UA hr W.qY (kaa (pv 2) (kaa (kaX kad) (kaa (pv 3) kad)))))
   (kab (psl (i:=4) Qj.nd (kaX kad))
   (kab (ka7 PassesOwn.never rfl (kaB (K:=K) (pv 3)) (pgn (i:=5) Qj.nd)
   (kag (ps_if (kaQ (pcl UB hr9 W.ZU (kaa (pv 0) (kaa (pv 1) (kaa (pv 2) (kaa (pv 5) kad)))))) (kab (psl (i:=6) Qj.nd (kco (pcl Xs hr6 W.QW (kaa (pv 0) (kaa (pv 1) (kaa (pv 5) kad)))) W.qc.cl W.qw.me qD hr1 W.qw.b .nil pass0))
   (kag (ka0 (pe_bm Nh NJ NK kbc (pv 4) (kaa (kb4 (kaa (pv 5) (kaa (pv 6) (kaa (pcl UC hr7 W.ZT (kaa (pv 0) (kaa (pv 1) (kaa (pv 2) (kaa (pv 5) kad))))) kad)))) kad))))) (kar))))
   (kag (kaq (pv 4)))))),?_⟩
  have nv:=tok.nv
  have erem:remM hand []<=4:=by have:=kjS hand hnn;lia
  have hz:∀z∈hand,0<=z/\z<=100:=fun z hz'=>⟨hnn z hz',by have:=khI hnn z hz';lia⟩
  have hlen:(ka3 hand 10 []).length<=65:=JA (ke6 10 []) (JA (kgl erem) (by decide))
  have lmem:=ke5 (hand:=hand) 10 [] (fun n h=>by simp at h)
  rwa[by decide,fun u fu=>?_]
  exists H,u,H11,n11,e11,fu
  rwa[8,by decide,fun o fo=>?_]
  exists H11,o,H12,n12,e12,fo
  have nhu:h≠u:=kai eh fu
  have nou:o≠u:=(kai e11 fo).symm
  have eu12:=n12 _ _ e11
  have s1012:=n11.trans n12
  rwa[8,h,o,u,hand,[],[],[],6,s1012 _ _ eh,nhu,e12,nou,eu12, .nil,by lia,by lia,by decide,by rw[MB];lia,fun H13 oa s13' e13 hoa=>?_]
  rw[NG] at hoa
  have s1013:Same H H13:=(kgt s1012 (kjP (nx eu12)) fu).trans s13'
  have loa:=hoa.len
  generalize hLL:ka3 hand 10 []=L at *
  rwa[by decide,fun f ff=>?_]
  exists H13,f,H14,n14,e14,ff
  have s113:=s1013
  refine⟨_,rfl,u,rfl,⟨_,SqL.of (n14 _ _ e13)⟩,ka9 (xs:=oa.map V.ref) (fun i σ H'=>Same H13 H'/\∃(fa:List Addr)(v11 v12:Option V),H' f>>(.lst (fa.map V.ref))/\P2 (EntX f H') fa (((L.take i).filter (goB T B hand)).map (entE T B hand))/\σ=[some (.ref t),some (.ref b),some (.ref h),some (.ref u),some (.ref f),v11,v12])
   ⟨n14,[],none,none,e14, .nil,rfl⟩ (fun i σ H' _ h=>SqL.of (h.1 _ _ e13)) ?_ ?_⟩
  ·rintro i y σ H15 hy ⟨s15,fa,v11,v12,ef,hfa,rfl⟩
   obtain⟨c,ec,rfl⟩:=kba hy
   obtain⟨q,eq,_,hc⟩:=hoa.at ec
   have s115:=s113.trans s15
   obtain⟨hq1,hq2⟩:=lmem q (JB eq)
   rw[hl] at hq1
   rw[MB] at hq2
   have efil:((L.take (i+1)).filter (goB T B hand)).map (entE T B hand)=((L.take i).filter (goB T B hand)).map (entE T B hand)++(if goB T B hand q=true then [entE T B hand q] else []):=by
    rw[take_snoc eq,NI,JC,NB,Mf]
    split <;> rfl
   have lfa:=hfa.len
   have lfi:(((L.take i).filter (goB T B hand)).map (entE T B hand)).length<=i:=by
    rw[Jv]
    exact JA (NR _ _) (by rw[JV];lia)
   have hiL:=at_lt eq
   rwa[8,8,8,8,t,b,h,c,T,B,hand,q,6,hT.same s115,tok,hB.same s115,wf0,s115 _ _ eh,s15 _ _ hc,hl,hq1,by lia,fun H16 s16=>?_]
   have s1316:=s15.trans s16
   have s116:=s115.trans s16
   cases cg:goB T B hand q with
   |false=>
    rwa[8,iteF ⟨s1316,fa,_,_,s16 _ _ ef,?_,rfl⟩]
    rw[efil,cg,if_neg JD,J8]
    exact hfa.mono fun e q h=>h.same s16
   | true=>
    have hgo:=of_decide_eq_true cg
    obtain⟨S,hw⟩:∃S,walkM T B hand q [] (stnd0 B)=(q,S):=⟨_,Prod.ext hgo rfl⟩
    rwa[8,iteT ?_]
    rwa[8,8,8,t,b,c,T,B,hand,q,S,6,hT.same s116,tok,hB.same s116,wf0,s1316 _ _ hc,hw,fun H17 y s17 hSt=>?_]
    obtain⟨o',pr,mk,⟨dxs,fss,hxs,l1,l2,l3,l4,l5⟩,ho',hpr,hmk⟩:=id hSt
    have s117:=s116.trans s17
    rwa[y,dxs,fss,6,hxs,l5,y,o',pr,mk,S.cg,S.pr,6,⟨dxs,fss,hxs,l1,l2,l3,l4,l5⟩,hpr,?_]
    rwa[8, .inl ⟨rfl,_,SqL.of ((s16.trans s17) _ _ ef)⟩,8,8,8,8,8,8,t,b,h,c,T,B,hand,q,S,6,hT.same s117,tok,hB.same s117,wf0,s117 _ _ eh,(s1316.trans s17) _ _ hc,hl,hz,by lia,hw,fun H18 s18=>?_]
    rwa[(by show 3<=sizeLine;decide),fun e fe=>?_]
    have s1518:=(s16.trans s17).trans s18
    have ef18:=s1518 _ _ ef
    exists H18,e,H19,n19,e19,fe
    have s1519:=s1518.trans n19
    have ef19:=n19 _ _ ef18
    rwa[f,9,ef19,kas (by rw[Jv];lia),?_]
    rw[show fa.map V.ref++[V.ref e]=(fa++[e]).map V.ref by rw[JC];rfl]
    have b20:But f H19 (upd H19 f (.lst ((fa++[e]).map V.ref))):=kax (nx ef19)
    rwa[kav ff (s15.trans s1519) (nx ef19),fa++[e],_,_,kae,?_,6]
    rw[efil,cg,if_pos rfl]
    have eE:entE T B hand q=(q,kaO S,kcp T B hand q S):=by
     unfold entE
     rw[hw]
    rw[eE]
    refine P2.snoc (hfa.mono fun e q h=>(h.same s1519).but b20) ?_
    exact EntX.but b20 ⟨c,(kai ef18 fe).symm,kai hc ff,e19,(s15.trans s1519) _ _ hc⟩
  rintro σ H15 ⟨s15,fa,v11,v12,ef,hfa,rfl⟩
  rw[Jv,loa,J4] at hfa
  rwa[8,?_]
  refine kk _ f fa (s1013.trans s15) (s1013.free ff) ef ?_
  unfold fullE
  rw[hLL]
  exact hfa
theorem P2.cat{α β:Type}{R: α->β->Prop}{as':List α}{bs':List β}(h':P2 R as' bs'){as:List α}{bs:List β}(h:P2 R as bs):P2 R (as++as') (bs++bs'):=by
 induction h with|nil=>exact h'|cons h t ih=>exact .cons h ih
def Wd53(d:D)(H:Hp)(a:Addr):St->Hp->Prop:=fun σ' H'=>∃(few:Bool)(t b h:Addr)(T:TillD)(B:Bask)(hand:List Int),Same H H'/\TillIs d H' t T/\kbw T/\BaskIs d.qf d.qg H' b B/\Wf T.ps B (stnd0 B)/\H' h>>(.lst (hand.map V.int))/\hand.length=T.vs.length/\(∀z∈hand,0<=z)/\hand.sum<=4/\σ'=[some (.ref a),some (.ref t),some (.ref b),some (.ref h),some (.bl few),none,none,none,none,none,none,none,none,none,none,none,none,none,none,none]
theorem qk:kat ["_law_script","_law_till","_law_basket","_law_hand","_law_few","_law_entries_here","_law_share","_law_paper","_law_k","_law_mixed","_law_whole_here","_law_let_by","_law_least_here","_law_first","_law_there","_law_asked","_law_order","_law_total","_law_bound","_law_found"] ["_law_script"] (kah s_law):=by ac_rfl
theorem knx(W:WB K mg d base):FO P w W 12 d.f_law d.Y0 ["_law_script"] (kgF K d.tP_falling_groups):=by
 refine FunD.ok W.d_law.F qk (fun vs H Q E h=>?_) (fun cdv A outer s H vs Q E hr h=>?_)
 ·obtain⟨a,ns,rfl,_⟩:=h
  rfl
 ·obtain⟨a,ns,rfl,hS,hn,htb0,k⟩:=h
  exists Vy,keo,W
  exists qp,kbq,W
  exists qK,kcY,W
  exists UD,ke0,W
  exists QE,kiv,W
  exists UE,klp,W
  have hr1:Room 1 _:=hr.mono (by decide)
  have hr7:Room 7 _:=hr.mono (by decide)
  have hr8:Room 8 _:=hr.mono (by decide)
  have hr9:Room 9 _:=hr.mono (by decide)
  refine⟨_,kab (kec (pcl Vy hr7 W.QV (kaa (pv 0) (kaa kaf (kaa kaf kad)))) (kbh (K:=K) (n:=3) rfl (kaw (pgn (i:=1) qk.nd) (kaw (pgn (i:=2) qk.nd) (kaw (pgn (i:=3) qk.nd) kbg)))))
   (kab (psl (i:=4) qk.nd (kbB op_lt (kao (r:=rSum K) (kcM rfl) (by rfl) W.B.sum b_sum (kaa (kbZ (N:=["_law_line"]) (CompScope.plain rfl (by cutsat) (by cutsat) (by cutsat) (nd1 _)) rfl (kaB (K:=K) (kaj (K:=K) (pv 2) rfl)) (fun _ _ _ _=>pgn (i:=0) (nd1 _)) (fun _ _ _ _=>(kaj (K:=K) (pv 0) rfl))) kad)) kaf (kau _)))
   (kab (kcn (ps_if (PW.pt (pw_or (kan op_lt (kao (r:=kaG K) kap (by rfl) W.B.len b_len (kaa (kaj (K:=K) (pv 1) rfl) kad)) kaf (kau _)) (kfC (PW.pt (kbb (kaQ (pv 4)) (kaU (kan op_eq (pe_op kaA (pcl qp hr1 W.qx (kaa (pcl qK hr1 W.qG (kaa (pv 0) (kaa kaf kad))) (kaa kaf (kaa kaf kad)))) kaf) kaf (kau _)))))))) (kag (kec (pcl Vy hr7 W.QV (kaa (pv 0) (kaa kaf (kaa kaf kad)))) (kbh (K:=K) (n:=3) rfl (kaw (pgn (i:=1) qk.nd) (kaw (pgn (i:=2) qk.nd) (kaw (pgn (i:=3) qk.nd) kbg)))))) (kar)))
   (kab (psl (i:=5) qk.nd (pcl UD hr W.ZV (kaa (pv 1) (kaa (pv 2) (kaa (pv 3) kad)))))
   (kab (psl (i:=6) qk.nd (pe_op kaA (pe_op kaz (pcl qK hr1 W.qG (kaa (pv 0) (kaa kaf kad))) kaf) kaf))
   (kab (psl (i:=7) qk.nd (kaX kad))
   (kab (ka7 PassesOwn.never rfl (kcf rfl W.B.range (kaa (kao (r:=kaG K) kap (by rfl) W.B.len b_len (kaa (pv 5) kad)) kad)) (pgn (i:=8) qk.nd)
   (kab (psl (i:=9) qk.nd (pcl qp hr1 W.qx (kaa (pe_op kcN (pcl qK hr1 W.qG (kaa (pv 0) (kaa (pv 8) kad))) (pe_op kcg (pe_op kcg kaf (pv 8)) (pv 8))) (kaa kaf (kaa kaf kad)))))
   (kag (ps_if (PW.pt (pw_or (kan op_eq (pv 6) kaf (kau _)) (kfC (kan op_gt (pe_op kaA (pv 9) (pe_ix (r:=rIxL K) kaH (kaX (kaa kaf (kaa kaf (kaa kaf kad)))) (pv 6) (fun _ _=>rfl))) kaf (kau _))))) (kag (ka0 (pe_bm Nh NJ NK kbc (pv 7) (kaa (pe_ix (r:=rIxL K) kaH (pv 5) (pv 8) (fun _ _=>rfl)) kad)))) (kar)))))
   (kab (psl (i:=10) qk.nd (kbB op_eq (kao (r:=kaG K) kap (by rfl) W.B.len b_len (kaa (pv 7) kad)) (kao (r:=kaG K) kap (by rfl) W.B.len b_len (kaa (pv 5) kad)) (kau _)))
   (kab (psl (i:=11) qk.nd (kc9 (N:=["_law_entry","_law_till","_law_basket","_law_hand"]) (CompScope.of (N:=["_law_entry","_law_till","_law_basket","_law_hand"]) (cap:=[none,some 1,some 2,some 3]) (kah s_law).names ["_law_script","_law_till","_law_basket","_law_hand","_law_few","_law_entries_here","_law_share","_law_paper","_law_k","_law_mixed","_law_whole_here","_law_let_by","_law_least_here","_law_first","_law_there","_law_asked","_law_order","_law_total","_law_bound","_law_found"] rfl rfl (by cutsat)) rfl (kaB (K:=K) (pv 5)) (fun _ _ _ _=>pgn (i:=0) (show(["_law_entry","_law_till","_law_basket","_law_hand"]:List Str).Nodup by cutsat)) (fun _ _ _ _=>kdX (kan keS (pcl QE hr8 W.Qn (kaa (pv 1) (kaa (pv 2) (kaa (kaJ (r:=kbf K) kaC (by rfl) W.B.list kbF (kaa (pv 3) kad)) (kaa (kaJ (r:=kbf K) kaC (by rfl) W.B.list kbF (kaa (pe_ix (r:=rIxT K) kdl (pv 0) kaf (fun _ _=>rfl)) kad)) kad))))) kbo (kau _))) (fun _ _ _ _=>(pv 0))))
   (kab (psl (i:=12) qk.nd (kao (r:=rMinL K) (kkV rfl) (by rfl) W.B.min b_min (kaa (kbZ (N:=["_law_entry"]) (CompScope.plain rfl (by cutsat) (by cutsat) (by cutsat) (nd1 _)) rfl (kaB (K:=K) (pv 11)) (fun _ _ _ _=>pgn (i:=0) (nd1 _)) (fun _ _ _ _=>(pe_ix (r:=rIxT K) kdl (pv 0) kaf (fun _ _=>rfl)))) kad)))
   (kab (psl (i:=13) qk.nd (pe_ix (r:=rIxL K) kaH (kc9 (N:=["_law_entry","_law_least_here"]) (CompScope.of (N:=["_law_entry","_law_least_here"]) (cap:=[none,some 12]) (kah s_law).names ["_law_script","_law_till","_law_basket","_law_hand","_law_few","_law_entries_here","_law_share","_law_paper","_law_k","_law_mixed","_law_whole_here","_law_let_by","_law_least_here","_law_first","_law_there","_law_asked","_law_order","_law_total","_law_bound","_law_found"] rfl rfl (by cutsat)) rfl (kaB (K:=K) (pv 11)) (fun _ _ _ _=>pgn (i:=0) (show(["_law_entry","_law_least_here"]:List Str).Nodup by cutsat)) (fun _ _ _ _=>kdX (kan op_eq (pe_ix (r:=rIxT K) kdl (pv 0) kaf (fun _ _=>rfl)) (pv 1) (kau _))) (fun _ _ _ _=>(pe_ix (r:=rIxT K) kdl (pv 0) kaf (fun _ _=>rfl)))) kaf (fun _ _=>rfl)))
   (kab (kdW (N:=["_law_entry"]) (CompScope.plain rfl (by cutsat) (by cutsat) (by cutsat) (nd1 _)) rfl (kaB (K:=K) (pv 7)) (fun _ _ _ _=>pgn (i:=0) (nd1 _)) (fun _ _ _ _=>(pe_ix (r:=rIxT K) kdl (pv 0) kaf (fun _ _=>rfl))) (pgn (i:=14) qk.nd))
   (kab (psl (i:=15) qk.nd (pv 5))
   (kab (kcn (ps_if (kan op_gt (kao (r:=kaG K) kap (by rfl) W.B.len b_len (kaa (pv 5) kad)) kaf (kau _)) (kab (psl (i:=15) qk.nd (kf7 (r:=rSlL K) khs (kao (r:=kjW K) (kgs hr.units) (by rfl) W.B.sorted kiQ (kaa (kc9 (N:=["_law_entry","_law_let_by"]) (CompScope.of (N:=["_law_entry","_law_let_by"]) (cap:=[none,some 11]) (kah s_law).names ["_law_script","_law_till","_law_basket","_law_hand","_law_few","_law_entries_here","_law_share","_law_paper","_law_k","_law_mixed","_law_whole_here","_law_let_by","_law_least_here","_law_first","_law_there","_law_asked","_law_order","_law_total","_law_bound","_law_found"] rfl rfl (by cutsat)) rfl (kaB (K:=K) (pv 7)) (fun _ _ _ _=>pgn (i:=0) (show(["_law_entry","_law_let_by"]:List Str).Nodup by cutsat)) (fun _ _ _ _=>kdX (kan (r:=rInTD K) (kmS hr.units) (pv 0) (pv 1) (by with_unfolding_all rfl))) (fun _ _ _ _=>(kb4 (kaa (pe_ix (r:=rIxT K) kdl (pv 0) kaf (fun _ _=>rfl)) (kaa (pe_ix (r:=rIxT K) kdl (pv 0) kaf (fun _ _=>rfl)) (kaa (pe_ix (r:=rIxT K) kdl (pv 0) kaf (fun _ _=>rfl)) kad)))))) kad)) kj2 (kf6 kaf)))
   (kab (kdW (N:=["_law_total","_law_order","_law_bound"]) (CompScope.plain rfl (by cutsat) (by cutsat) (by cutsat) (show(["_law_total","_law_order","_law_bound"]:List Str).Nodup by cutsat)) rfl (kaB (K:=K) (pv 15)) (fun _ _ _ _=>kbh (K:=K) (n:=3) rfl (kaw (pgn (i:=0) (show(["_law_total","_law_order","_law_bound"]:List Str).Nodup by cutsat)) (kaw (pgn (i:=1) (show(["_law_total","_law_order","_law_bound"]:List Str).Nodup by cutsat)) (kaw (pgn (i:=2) (show(["_law_total","_law_order","_law_bound"]:List Str).Nodup by cutsat)) kbg)))) (fun _ _ _ _=>(kb4 (kaa (pv 1) (kaa (pv 0) (kaa (pv 2) kad))))) (pgn (i:=15) qk.nd))
   (kag (psl (i:=15) qk.nd (pe_op kit (pv 15) (kbZ (N:=["_law_k","_law_entries_here"]) (CompScope.of (N:=["_law_k","_law_entries_here"]) (cap:=[none,some 5]) (kah s_law).names ["_law_script","_law_till","_law_basket","_law_hand","_law_few","_law_entries_here","_law_share","_law_paper","_law_k","_law_mixed","_law_whole_here","_law_let_by","_law_least_here","_law_first","_law_there","_law_asked","_law_order","_law_total","_law_bound","_law_found"] rfl rfl (by cutsat)) rfl (kcf rfl W.B.range (kaa kaf kad)) (fun _ _ _ _=>pgn (i:=0) (show(["_law_k","_law_entries_here"]:List Str).Nodup by cutsat)) (fun _ _ _ _=>(pe_ix (r:=rIxL K) kaH (pv 1) (pe_op kaz (pe_op kcg (pv 0) (kao (r:=kaG K) kap (by rfl) W.B.len b_len (kaa (pv 1) kad))) kaf) (fun _ _=>rfl))))))))) (kar)))
   (kab (ka7 PassesOwn.never rfl (kaB (K:=K) (pv 15)) (kbh (K:=K) (n:=3) rfl (kaw (pgn (i:=16) qk.nd) (kaw (pgn (i:=17) qk.nd) (kaw (pgn (i:=18) qk.nd) kbg))))
   (kab (psl (i:=19) qk.nd (pcl UE hr9 W.ZI (kaa (pv 1) (kaa (pv 2) (kaa (kaJ (r:=kbf K) kaC (by rfl) W.B.list kbF (kaa (pv 3) kad)) (kaa (kaJ (r:=kbf K) kaC (by rfl) W.B.list kbF (kaa (pv 16) kad)) (kaa (pv 17) (kaa (kaJ (r:=kbf K) kaC (by rfl) W.B.list kbF (kaa (pv 7) kad)) kad))))))))
   (kab (ps_if (PW.pt (pw_or (kgQ (kaQ (kao (r:=rIsi K) ka2 (by rfl) W.B.isi b_isi (kaa (pv 19) (kaa (kmQ (v:=.ty "bool") (by rfl) W.B.bool knP rfl) kad))))) (kfC (PW.pt (kbb (kaQ (pv 19)) (kaU (PW.pt (pw_or (kan op_ne (pv 17) (pv 12) (kau _)) (kfC (kan (ki1 hr.units) (pv 16) (pv 14) (by with_unfolding_all rfl))))))))))) (kag (kaq pe_bl)) (kar))
   (kab (ps_if (PW.pt (kbb (kaQ (pv 19)) (kaU (kan kdZ (pcl QE hr8 W.Qn (kaa (pv 1) (kaa (pv 2) (kaa (kaJ (r:=kbf K) kaC (by rfl) W.B.list kbF (kaa (pv 3) kad)) (kaa (kaJ (r:=kbf K) kaC (by rfl) W.B.list kbF (kaa (pv 16) kad)) kad))))) kbo (kau _))))) (kag (kaq pe_bl)) (kar))
   (kag (ps_if (PW.pt (kbb (kaQ (pv 10)) (kaU (kan op_ne (pv 19) (kbB (knw hr.units0) (pv 16) (pv 13) (kau _)) (kau _))))) (kag (kaq pe_bl)) (kar)))))))
   (kag (kaq pe_bl)))))))))))))))),?_⟩
  refine sN fun A1 hA1=>?_
  rwa[8,a,ns,4,3,6,hS,hn,by decide,by decide,htb0,fun H1 w t b h T B hand s1 fh ew hT tok hB wf0 eh hl hnn hsum hr3 hrb _=>?_]
  rwa[w,8,SqT.of ew,6,_,8,_,8,9,?_]
  refine hA1 _ _ ?_
  refine sN fun A2 hA2=>?_
  obtain⟨l2,ls2,⟨dxb2,fsb2,hb2,lbl2,lbc2,lbm2⟩,hl2,hL2⟩:=id hB
  have hll:=hL2.len
  have hnl:=wf0.nl
  rwa[8,b,d.qg,dxb2,fsb2,8,hb2,W.qg.cl,W.Qs,lbl2,l2,6,⟨_,SqL.of hl2⟩,kaY (xs:=ls2.map V.ref) (fun i σ ys H'=>H'=H1/\ys=((B.rs.take i).map fun r=>r.mn).map V.int/\∃v,σ=[v]) ⟨rfl,rfl,none,rfl⟩ (by rw[Jv,hll];exact JJ (kas (by lia))) ?_ ?_ ?_]
  ·rintro i σ ys H' hi ⟨rfl,rfl,_⟩
   rwa[SqL.of hl2,by rw[Jv,Jv,JV];rw[Jv] at hi;lia]
  ·rintro i y σ ys H' hy ⟨rfl,rfl,v,rfl⟩
   obtain⟨lx,el,rfl⟩:=kba hy
   obtain⟨r,er⟩:=at_of (xs:=B.rs) (i:=i) (by have:=at_lt el;lia)
   obtain⟨dxl,fsl,hlx,lk1,lk2,lk3,lk4⟩:=hL2.get el er
   rwa[8,lx,d.qf,dxl,fsl,8,hlx,W.qf.cl,W.qZ,lk3,6,?_,8]
   rw[take_snoc er,JC,JC]
   rfl
  rintro σ ys H' ⟨rfl,rfl,v,rfl⟩ m' fm'
  exists H',m',H2,n2,e2,fm'
  rwa[m',8,SqL.of e2,9,?_]
  refine hA2 _ _ ?_
  have s12:=s1.trans n2
  have htb2:=Tbs.same s12 htb0
  refine sN fun A3 hA3=>?_
  obtain⟨dxt,fst,pt,vl,rl,va,ra,ht,t1,t2,t3,t4,hpt,hvl,hva,hrl,hra⟩:=id (hT.same n2)
  rwa[Wd53 d H a,?_,?_]
  ·have hno:∀few:Bool,Wd53 d H a [some (.ref a),some (.ref t),some (.ref b),some (.ref h),some (.bl few),none,none,none,none,none,none,none,none,none,none,none,none,none,none,none] H2:=fun few=>⟨few,t,b,h,T,B,hand,s12,hT.same n2,tok,hB.same n2,wf0,n2 _ _ eh,hl,hnn,(by have:hand.sum<=3:=hsum;lia),rfl⟩
   have hyes:∀(few:Bool)(H3:Hp)(w t b h:Addr)(T:TillD)(B:Bask)(hand:List Int),Same H2 H3->H2 h=none->H3 w>>(.tup [.ref t, .ref b, .ref h])->TillIs d H3 t T->kbw T->BaskIs d.qf d.qg H3 b B->Wf T.ps B (stnd0 B)->H3 h>>(.lst (hand.map V.int))->hand.length=T.vs.length->(∀z∈hand,0<=z)->hand.sum<=((4:Nat):Int)->T.rs.length<=3->(∀r∈T.rs,r.a<T.vs.length/\r.b<T.vs.length)->Wd53 d H a [some (.ref a),some (.ref t),some (.ref b),some (.ref h),some (.bl few),none,none,none,none,none,none,none,none,none,none,none,none,none,none,none] H3:=fun few H3 w t b h T B hand s3 _ _ hT tok hB wf0 eh hl hnn hsum _ _=>⟨few,t,b,h,T,B,hand,s12.trans s3,hT,tok,hB,wf0,eh,hl,hnn,hsum,rfl⟩
   rwa[8,t,d.qd,dxt,fst,8,ht,W.qd.cl,W.qt,t2,vl,8, .inl (SqL.of hvl),9,8,ite2 (fun _=>iteT ?_) (fun _=>?_)]
   ·rwa[8,a,ns,4,4,6,s12.seq hS,hn,by decide,by decide,htb2,fun H3 w t b h T B hand s3 f3 ew hT tok hB wf0 eh hl hnn hsum hr3 hrb _=>⟨w,_,rfl,SqT.of ew,rfl,_,_,rfl,_,_,rfl,_,_,rfl,rfl,hyes _ H3 w t b h T B hand s3 f3 ew hT tok hB wf0 eh hl hnn hsum hr3 hrb⟩]
   rwa[8,8,ite2 (fun _=>?_) (fun _=>iteF (hno _))]
   rwa[8,a,ns,1,6,s12.seq hS,by decide,fun z=>⟨z,69621,2147483629,rfl,by decide,by decide,_,_,rfl,rfl,(by show(0:Int)<3;decide),rfl,_,rfl,ite2 (fun _=>?_) (fun _=>hno _)⟩]
   rwa[8,a,ns,4,4,6,s12.seq hS,hn,by decide,by decide,htb2,fun H3 w t b h T B hand s3 f3 ew hT tok hB wf0 eh hl hnn hsum hr3 hrb _=>⟨w,_,rfl,SqT.of ew,rfl,_,_,rfl,_,_,rfl,_,_,rfl,rfl,hyes _ H3 w t b h T B hand s3 f3 ew hT tok hB wf0 eh hl hnn hsum hr3 hrb⟩]
  clear hT tok hB wf0 eh hl hnn hsum hr3 hrb ew fh hL2 hl2 hb2 lbl2 lbc2 lbm2 hll hnl ht t1 t2 t3 t4 hpt hvl hva hrl hra e2 fm' n2 s1 s12 htb2
  rintro σ H3 ⟨few,t,b,h,T,B,hand,s3,hT,tok,hB,wf0,eh,hl,hnn,hsum,rfl⟩
  refine hA3 _ _ ?_
  have erem:remM hand []<=4:=by have:=kjS hand hnn;lia
  have hz:∀z∈hand,0<=z/\z<=100:=fun z hz'=>⟨hnn z hz',by have:=khI hnn z hz';lia⟩
  refine sN fun A4 hA4=>?_
  rwa[8,8,8,t,b,h,T,B,hand,6,hT,tok,hB,wf0,eh,hl,hnn,hsum,fun H4 f fa s4 ff ef hfa=>?_]
  refine hA4 _ _ ?_
  have s04:=s3.trans s4
  have hen:P2 (fun e q=>EntAt H4 e q) fa (fullE T B hand):=hfa.mono fun e q ⟨l,_,_,h1,h2⟩=>⟨l,h1,h2⟩
  have lF:(fullE T B hand).length<=65:=by
   unfold fullE
   rw[Jv]
   exact JA (NR _ _) (JA (ke6 10 []) (JA (kgl erem) (by decide)))
  have hFq:∀q∈fullE T B hand,(∀n∈q.1,n<T.vs.length)/\q.1.length<64:=fun q hq=>by
   obtain⟨o,ho,rfl⟩:=JP.mp hq
   obtain⟨g1,g2⟩:=ke5 (hand:=hand) 10 [] (fun n h=>by simp at h) o (JT.mp ho).1
   rw[hl] at g1
   rw[MB] at g2
   rwa[g1,by show o.length<64;lia]
  have lfa:=hen.len
  have hT4:=hT.same s4
  have hB4:=hB.same s4
  have eh4:=s4 _ _ eh
  clear hfa hT hB eh hA1 hA2 hA3 hA4 s3 s4 ff
  refine sN fun A5 hA5=>?_
  rwa[8,a,ns,1,6,s04.seq hS,by decide,fun z=>⟨_,_,rfl,rfl,⟨by decide,by decide⟩,_,_,rfl,rfl,(by show(0:Int)<3;decide),?_⟩]
  obtain⟨sh,esh⟩:=Int.eq_ofNat_of_zero_le (Int.emod_nonneg (z/5) (show(3:Int)≠0 by decide))
  have hsh:sh<3:=by have:=Int.emod_lt_of_pos (z/5) (show(0:Int)<3 by decide);lia
  dsimp only
  rw[show V.int (z/5%3)=iV sh from congrArg V.int esh]
  refine hA5 _ _ ?_
  refine sN fun A6 hA6=>?_
  rwa[by decide,fun pp fpp=>?_]
  exists H4,pp,H5,n5,e5,fpp
  refine hA6 _ _ ?_
  refine sN fun A7 hA7=>?_
  rwa[8,f,8, .inl (SqL.of (n5 _ _ ef)),8,by lia,(by rw[Jv];lia),?_]
  rw[Jv,lfa,Int.toNat_natCast]
  refine kc1 (fun i σ H'=>Same H4 H'/\∃(pa:List Addr)(pq:List (List Nat×Int×Int))(v8 v9:Option V),H' pp>>(.lst (pa.map V.ref))/\P2 (fun e q=>EntAt H4 e q) pa pq/\pq.Sublist ((fullE T B hand).take i)/\σ=[some (.ref a),some (.ref t),some (.ref b),some (.ref h),some (.bl few),some (.ref f),some (iV sh),some (.ref pp),v8,v9,none,none,none,none,none,none,none,none,none,none])
   ⟨n5,[],[],none,none,e5, .nil,M4.refl _,rfl⟩ ?_ ?_
  ·rintro i σ Hi hi ⟨si,pa,pq,v8,v9,epi,hpa,hsub,rfl⟩
   rw[Int.zero_add]
   have s0i:=s04.trans si
   obtain⟨q,eq⟩:=at_of hi
   obtain⟨e,ee⟩:=at_of (xs:=fa) (i:=i) (by lia)
   have hq:=hen.get ee eq
   have lpq:pq.length<=i:=JA hsub.length_le (by rw[JV];lia)
   have lpa:=hpa.len
   rwa[8,8,a,ns,(i:Int),6,s0i.seq hS,by lia,fun z=>⟨_,rfl,_,_,rfl,rfl, .inl ⟨by decide,by decide⟩,_,rfl,_,_,rfl,rfl, .inr ⟨by lia,by lia⟩,_,_,rfl,rfl,_,16807,2147483399,rfl,⟨by decide,by decide⟩,by decide,?_⟩]
   generalize (z+31*(i:Int)*(i:Int))*16807%2147483399=mx
   have hno:∀H',Same Hi H'->∃(pa':List Addr)(pq':List (List Nat×Int×Int))(v8 v9:Option V),H' pp>>(.lst (pa'.map V.ref))/\P2 (fun e q=>EntAt H4 e q) pa' pq'/\pq'.Sublist ((fullE T B hand).take (i+1))/\[some (.ref a),some (.ref t),some (.ref b),some (.ref h),some (.bl few),some (.ref f),some (iV sh),some (.ref pp),some (iV i),some (.int mx),none,none,none,none,none,none,none,none,none,none]=[some (.ref a),some (.ref t),some (.ref b),some (.ref h),some (.bl few),some (.ref f),some (iV sh),some (.ref pp),v8,v9,none,none,none,none,none,none,none,none,none,none]:=fun H' s'=>⟨pa,pq,_,_,s' _ _ epi,hpa,hsub.trans (by rw[take_snoc eq];exact Ey _ _),rfl⟩
   have hyes:∀H',Same Hi H'->∃(pa':List Addr)(pq':List (List Nat×Int×Int))(v8 v9:Option V),(upd H' pp (.lst ((pa++[e]).map V.ref))) pp>>(.lst (pa'.map V.ref))/\P2 (fun e q=>EntAt H4 e q) pa' pq'/\pq'.Sublist ((fullE T B hand).take (i+1))/\[some (.ref a),some (.ref t),some (.ref b),some (.ref h),some (.bl few),some (.ref f),some (iV sh),some (.ref pp),some (iV i),some (.int mx),none,none,none,none,none,none,none,none,none,none]=[some (.ref a),some (.ref t),some (.ref b),some (.ref h),some (.bl few),some (.ref f),some (iV sh),some (.ref pp),v8,v9,none,none,none,none,none,none,none,none,none,none]:=fun H' s'=>⟨pa++[e],pq++[q],_,_,kae,P2.snoc hpa hq,by rw[take_snoc eq];exact hsub.append (M4.refl _),rfl⟩
   rwa[8,6,8,?_]
   refine ite2 (fun _=>iteT ?_) (fun _=>?_)
   ·rwa[8, .inl ⟨rfl,_,SqL.of epi⟩,8,8,f,_,9,SqL.of (si _ _ ef),kaK (v:=V.ref e) (by rw[JF,ee];rfl),pp,9,epi,kas (by rw[Jv];lia),?_]
    rw[show pa.map V.ref++[V.ref e]=(pa++[e]).map V.ref by rw[JC];rfl]
    rwa[kav fpp si (nx epi),hyes Hi (Same.refl _)]
   ·rwa[8,(by show 3<=sizeLine;decide),fun l9 fl9=>?_]
    exists Hi,l9,H6,n6,e6,fl9
    obtain⟨m9,hm9,em9⟩:∃m9:Int,0<m9/\atI [V.int 1,V.int 9,V.int 3] ((sh:Nat):Int)>>(.int m9):=by
     rcases(by lia:sh=0∨sh=1∨sh=2) with e|e|e <;> subst e
     ·rwa[1,by decide,6]
     ·rwa[(9:Int),by decide,6]
     ·rwa[3,by decide,6]
    rwa[8,l9,_,9,SqL.of e6,em9,9,hm9,9,8,?_]
    refine ite2 (fun _=>?_) (fun _=>⟨si.trans n6,hno H6 n6⟩)
    rwa[8, .inl ⟨rfl,_,SqL.of (n6 _ _ epi)⟩,8,8,f,_,9,SqL.of ((si.trans n6) _ _ ef),kaK (v:=V.ref e) (by rw[JF,ee];rfl),pp,9,n6 _ _ epi,kas (by rw[Jv];lia),?_]
    rw[show pa.map V.ref++[V.ref e]=(pa++[e]).map V.ref by rw[JC];rfl]
    rwa[kav fpp (si.trans n6) (nx (n6 _ _ epi)),hyes H6 n6]
  rintro σ H5 ⟨s5,pa,pq,v8,v9,epp,hpa,hsub,rfl⟩
  rw[J4] at hsub
  refine hA7 _ _ ?_
  clear hA7 hA5 hA6
  have lpq:=hsub.length_le
  have lpa:=hpa.len
  refine sN fun A8 hA8=>?_
  rwa[8,pp,8, .inl (SqL.of epp),8,f,8, .inl (SqL.of (s5 _ _ ef)),6,?_]
  generalize hwh:decide (V.int (((pa.map V.ref).length:Nat):Int)=V.int (((fa.map V.ref).length:Nat):Int))=whole
  have hwhole:whole=true->pq=fullE T B hand:=fun hw=>by
   rw[hw] at hwh
   have h1:=of_decide_eq_true hwh
   injection h1 with h1
   rw[Jv,Jv] at h1
   exact hsub.eq_of_length (by lia)
  clear hwh
  refine hA8 _ _ ?_
  clear hA8
  refine sN fun A9 hA9=>?_
  rwa[8,f,6,⟨_,SqL.of (s5 _ _ ef)⟩,kde (xs:=fa.map V.ref) (fun i σ ys H'=>Same H5 H'/\∃(la:List Addr)(v0:Option V),ys=la.map V.ref/\P2 (fun e q=>EntAt H4 e q) la (((fullE T B hand).take i).filter fun q=>(kb5 T B hand q.1).isNone)/\σ=[v0,some (.ref t),some (.ref b),some (.ref h)]) ⟨Same.refl _,[],none,rfl, .nil,rfl⟩ (by rw[Jv];exact JJ (kas (by lia))) ?_ ?_ ?_]
  ·rintro i σ ys H' hi ⟨s6,la,v0,rfl,hla,rfl⟩
   rwa[SqL.of ((s5.trans s6) _ _ ef),by rw[Jv,hla.len];exact JA (NR _ _) (by rw[JV];lia)]
  ·rintro i y σ ys H6 hy ⟨s6,la,v0,rfl,hla,rfl⟩
   obtain⟨e,ee,rfl⟩:=kba hy
   obtain⟨q,eq,le,he1,he2⟩:=hen.at ee
   have s46:=s5.trans s6
   obtain⟨q1,q2⟩:=hFq q (JB eq)
   rwa[8,8,8,h,8, .inl (SqL.of (s46 _ _ eh4)),fun h2 fh2=>?_]
   exists H6,h2,H7,n7,e7,fh2
   have s47:=s46.trans n7
   rwa[8,e,_,9,SqT.of (s47 _ _ he1),6,le,8, .inl (SqL.of (s47 _ _ he2)),fun o2 fo2=>?_]
   exists H7,o2,H8,n8,e8,fo2
   have s48:=s47.trans n8
   rwa[t,b,h2,o2,T,B,hand,q.1,6,hT4.same s48,tok,hB4.same s48,wf0,n8 _ _ e7,e8,hl,q1,q2,fun H9 fv s9 hfv=>⟨rfl,_,rfl,?_⟩]
   have s69:=(n7.trans n8).trans s9
   rw[take_snoc eq,NI,NB,Mf]
   cases eF:kb5 T B hand q.1 with
   |none=>
    rw[eF] at hfv
    have e1:fv=.non:=hfv
    subst e1
    rw[show decide (V.non=V.non)=true by simp]
    refine iteT ⟨_,rfl,s6.trans s69,la++[e],_,by rw[JC];rfl,?_,rfl⟩
    rw[if_pos (show(none:Option (Nat×V)).isNone=true from rfl)]
    exact P2.snoc hla ⟨le,he1,he2⟩
   |some z=>
    rw[eF] at hfv
    obtain⟨_,e1,_⟩:=hfv
    subst e1
    rw[show decide (V.ref _=V.non)=false by simp]
    refine iteF ⟨s6.trans s69,la,_,rfl,?_,rfl⟩
    rw[if_neg (by simp),J8]
    exact hla
  rintro σ ys H6 ⟨s6,la,v0,rfl,hla,rfl⟩ lb flb
  rw[Jv,lfa,J4] at hla
  have hla:P2 (fun e q=>EntAt H4 e q) la (letE T B hand):=hla
  exists H6,lb,H7,n7,e7,flb
  have s57:=s6.trans n7
  have s47:=s5.trans s57
  have epp7:=s57 _ _ epp
  refine hA9 _ _ ?_
  clear hA9 epp s5 s6 n7 s57 flb
  have lla:=hla.len
  have lL:(letE T B hand).length<=65:=JA (NR _ _) lF
  refine sN fun A10 hA10=>?_
  rwa[8,lb,6,⟨_,SqL.of e7⟩,kaY (xs:=la.map V.ref) (fun i σ ys H'=>H'=H7/\ys=(((letE T B hand).take i).map fun q=>q.2.1).map V.int/\∃v,σ=[v]) ⟨rfl,rfl,none,rfl⟩ (by rw[Jv];exact JJ (kas (by lia))) ?_ ?_ ?_]
  ·rintro i σ ys H' hi ⟨rfl,rfl,_⟩
   rw[Jv] at hi
   rwa[SqL.of e7,by rw[Jv,Jv,JV];lia]
  ·rintro i y σ ys H' hy ⟨rfl,rfl,v,rfl⟩
   obtain⟨e,ee,rfl⟩:=kba hy
   obtain⟨q,eq,le,he1,he2⟩:=hla.at ee
   rwa[8,e,_,9,SqT.of (s47 _ _ he1),6,6,?_,8]
   rw[take_snoc eq,JC,JC]
   rfl
  rintro σ ys H' ⟨rfl,rfl,v,rfl⟩ m8 fm8
  rw[Jv,lla,J4]
  exists H',m8,H8,n8,e8,fm8
  have hne:letE T B hand≠[]:=fun e=>by
   have h1:entE T B hand []∈fullE T B hand:=(kdJ hl (by lia) _).mpr ⟨_,rfl,rfl,rfl⟩
   have h2:entE T B hand []∈letE T B hand:=JT.mpr ⟨h1,by rw[keC (show walkM T B hand (entE T B hand []).1 [] (stnd0 B)=((entE T B hand []).1,_) from rfl)];exact kgU _⟩
   rw[e] at h2
   cases h2
  rwa[m8,8,SqL.of e8,(by simpa using hne),fun m hmm hml=>?_]
  have hm1:∀q∈letE T B hand,m<=q.2.1:=fun q hq=>hml _ (Ea (f:=fun q:List Nat×Int×Int=>q.2.1) hq)
  obtain⟨qm,hqm,eqm⟩:=JP.mp hmm
  clear hmm hml
  refine hA10 _ _ ?_
  clear hA10
  have s48:=s47.trans n8
  have e78:=n8 _ _ e7
  have epp8:=n8 _ _ epp7
  clear s47 n8 e7 epp7 fm8 e8
  refine sN fun A11 hA11=>?_
  rwa[8,lb,6,⟨_,SqL.of e78⟩,kde (xs:=la.map V.ref) (fun i σ ys H'=>H'=H8/\∃(oa:List Addr)(v0:Option V),ys=oa.map V.ref/\P2 (fun l q=>H4 l>>(.lst (q.1.map iV))) oa (((letE T B hand).take i).filter fun q=>decide (q.2.1=m))/\σ=[v0,some (.int m)]) ⟨rfl,[],none,rfl, .nil,rfl⟩ (by rw[Jv];exact JJ (kas (by lia))) ?_ ?_ ?_]
  ·rintro i σ ys H' hi ⟨rfl,oa,v0,rfl,hoa,rfl⟩
   rwa[SqL.of e78,by rw[Jv,hoa.len];exact JA (NR _ _) (by rw[JV];lia)]
  ·rintro i y σ ys H' hy ⟨rfl,oa,v0,rfl,hoa,rfl⟩
   obtain⟨e,ee,rfl⟩:=kba hy
   obtain⟨q,eq,le,he1,he2⟩:=hla.at ee
   rwa[8,e,_,9,SqT.of (s48 _ _ he1),6,8,6,8,?_]
   rw[take_snoc eq,NI,NB,Mf]
   by_cases c:q.2.1=m
   ·rw[decide_eq_true (show V.int q.2.1=V.int m by rw[c]),decide_eq_true c]
    refine iteT ⟨_,rfl,e,_,_,_,rfl,rfl,SqT.of (s48 _ _ he1),rfl,rfl,oa++[le],_,by rw[JC];rfl,P2.snoc hoa he2,rfl⟩
   ·rw[decide_eq_false (show ¬V.int q.2.1=V.int m from fun h=>by injection h with h;exact c h),decide_eq_false c]
    refine iteF ⟨rfl,oa,_,rfl,?_,rfl⟩
    rw[if_neg JD,J8]
    exact hoa
  rintro σ ys H' ⟨rfl,oa,v0,rfl,hoa,rfl⟩ o9 fo9
  rw[Jv,lla,J4] at hoa
  exists H',o9,H9,n9,e9,fo9
  obtain⟨fq,fr,hfq⟩:∃fq fr,((letE T B hand).filter fun q=>decide (q.2.1=m))=fq::fr:=by
   cases hc:(letE T B hand).filter fun q=>decide (q.2.1=m) with
   |nil=>
    have:qm∈(letE T B hand).filter fun q=>decide (q.2.1=m):=JT.mpr ⟨hqm,decide_eq_true eqm⟩
    rw[hc] at this
    cases this
   |cons fq fr=>exact⟨fq,fr,rfl⟩
  have hhead:((letE T B hand).filter fun q=>decide (q.2.1=m)).head?>>fq:=by rw[hfq];rfl
  rw[hfq] at hoa
  obtain⟨ol,oa',rfl,hol⟩:∃ol oa',oa=ol::oa'/\H4 ol>>(.lst (fq.1.map iV)):=by
   cases hoa with
   |cons h1 h2=>exact⟨_,_,rfl,h1⟩
  clear hfq hoa
  rwa[o9,_,9,SqL.of e9,kaK (j:=0) (v:=V.ref ol) rfl,?_]
  refine hA11 _ _ ?_
  clear hA11 fo9 e9
  have s49:=s48.trans n9
  have epp9:=n9 _ _ epp8
  have e79:=n9 _ _ e78
  clear s48 n9 epp8 e78
  refine sN fun A12 hA12=>?_
  rwa[8,pp,6,⟨_,SqL.of epp9⟩,kaY (xs:=pa.map V.ref) (fun i σ ys H'=>H'=H9/\∃(oa:List Addr)(v0:Option V),ys=oa.map V.ref/\P2 (fun l q=>H4 l>>(.lst (q.1.map iV))) oa (pq.take i)/\σ=[v0]) ⟨rfl,[],none,rfl, .nil,rfl⟩ (by rw[Jv];exact JJ (kas (by lia))) ?_ ?_ ?_]
  ·rintro i σ ys H' hi ⟨rfl,oa,v0,rfl,hoa,rfl⟩
   rw[Jv] at hi
   rwa[SqL.of epp9,by rw[Jv,hoa.len,JV];lia]
  ·rintro i y σ ys H' hy ⟨rfl,oa,v0,rfl,hoa,rfl⟩
   obtain⟨e,ee,rfl⟩:=kba hy
   obtain⟨q,eq,le,he1,he2⟩:=hpa.at ee
   rwa[8,e,_,9,SqT.of (s49 _ _ he1),6,6,oa++[le],_,by rw[JC];rfl,?_,6]
   rw[take_snoc eq]
   exact P2.snoc hoa he2
  rintro σ ys H' ⟨rfl,ta,v0,rfl,hta,rfl⟩ tl ftl
  rw[Jv,lpa,J4] at hta
  exists H',tl,H10,n10,e10,ftl
  refine hA12 _ _ ?_
  clear hA12 ftl
  have s410:=s49.trans n10
  have epp10:=n10 _ _ epp9
  have elb10:=n10 _ _ e79
  clear s49 n10 epp9 e79
  refine sN fun A13 hA13=>?_
  rwa[8,?_]
  refine hA13 _ _ ?_
  clear hA13
  refine sN fun A14 hA14=>?_
  have hpf:∀q∈pq,q∈fullE T B hand:=fun q h=>hsub.subset h
  rwa[fun σ' H'=>∃(xl:Addr)(xa:List Addr)(xq:List (List Nat×Int×Int))(v8:Option V),Same H10 H'/\H' xl>>(.lst (xa.map V.ref))/\P2 (fun e q=>EntAt H' e q) xa xq/\(∀q∈xq,q∈fullE T B hand)/\xq.length<=65/\σ'=[some (.ref a),some (.ref t),some (.ref b),some (.ref h),some (.bl few),some (.ref f),some (iV sh),some (.ref pp),v8,v9,some (.bl whole),some (.ref lb),some (.int m),some (.ref ol),some (.ref tl),some (.ref xl),none,none,none,none],?_,?_]
  ·rwa[8,f,8, .inl (SqL.of (s410 _ _ ef)),9,8,ite2 (fun _=>?_) (fun _=>?_)]
   ·refine sN fun B1 hB1=>?_
    rwa[8,pp,6,⟨_,SqL.of epp10⟩,kde (xs:=pa.map V.ref) (fun i σ ys H'=>Same H10 H'/\∃(ps:List TpI)(v0:Option V),ys=ps.map (fun p=>V.ref p.b)/\(∀p∈ps,TpAt H' p/\∃q∈pq,p.z=q.2.1/\p.ns=q.1.map (fun(n:Nat)=>(n:Int))/\p.y=q.2.2)/\ps.length<=i/\σ=[v0,some (.ref lb)]) ⟨Same.refl _,[],none,rfl,fun p h=>by simp at h,Jx _,rfl⟩ (by rw[Jv];exact JJ (kas (by lia))) ?_ ?_ ?_]
    ·rintro i σ ys H' hi ⟨si,ps,v0,rfl,hps,lps,rfl⟩
     rwa[SqL.of (si _ _ epp10),by rw[Jv];exact lps]
    ·rintro i y σ ys H11 hy ⟨si,ps,v0,rfl,hps,lps,rfl⟩
     obtain⟨e,ee,rfl⟩:=kba hy
     obtain⟨q,eq,le,he1,he2⟩:=hpa.at ee
     have s411:=s410.trans si
     rwa[8,8,e,lb,_,la,6,6,SqL.of (si _ _ elb10),SqT.of (s411 _ _ he1),fun c hc=>?_,fun r=>⟨_,rfl,ite2 (fun _=>?_) (fun _=>?_)⟩]
     ·obtain⟨ic,hic⟩:=Ms hc
      obtain⟨q',hq',lc,hc1,hc2⟩:=hla.at hic
      rwa[_,SqT.of (s411 _ _ hc1),fun j x y h1 h2=>?_]
      rcases j with _|_|_|j
      ·cases h1
       cases h2
       rwa[_, .lst (s411 _ _ hc2) (s411 _ _ he2) (ka1 _) (ka1 _)]
      ·cases h1
       cases h2
       rwa[_, .flat rfl rfl]
      ·cases h1
       cases h2
       rwa[_, .flat rfl rfl]
      ·cases h1
     ·rwa[8,e,_,9,SqT.of (s411 _ _ he1),6,8,e,_,9,SqT.of (s411 _ _ he1),6,8,e,_,9,SqT.of (s411 _ _ he1),6,(by show 3<=sizeLine;decide),fun tb ftb=>?_]
      exists H11,tb,H12,n12,e12,ftb
      rwa[si.trans n12,ps++[⟨tb,q.2.1,le,q.1.map fun(n:Nat)=>(n:Int),q.2.2⟩],_,by rw[JC];rfl,fun p hp=>?_,by rw[JN];show ps.length+1<=_;lia,6]
      rcases Na.mp hp with hp|hp
      ·obtain⟨⟨g1,g2⟩,g3⟩:=hps p hp
       rwa[⟨n12 _ _ g1,n12 _ _ g2⟩,g3]
      ·have e:=Nz.mp hp
       subst e
       rwa[⟨e12,?_⟩,q,JB eq,6,6,6]
       rw[JO]
       exact n12 _ _ (s411 _ _ he2)
     ·rwa[si,ps,8,hps,Nat.le_succ_of_le lps,6]
    rintro σ ys H11 ⟨s11,ps,v0,rfl,hps,lps,rfl⟩ D1 fD1
    rw[Jv] at lps
    exists H11,D1,H12,n12,e12,fD1
    rwa[D1,ps,6,SqL.of e12,fun p hp=>⟨n12 _ _ (hps p hp).1.1,n12 _ _ (hps p hp).1.2⟩,by lia,fun D2 qs fD2 hqs lqs=>?_]
    exists H12,D2,H13,n13,e13,fD2
    rwa[8,D2,8,SqL.of e13,fun D3 fD3=>?_]
    rw[show cutV (qs.map fun q=>V.ref q.b) none (some 3)=(qs.take 3).map (fun q=>V.ref q.b) from by rw[Mx];exact knN _ 3]
    exists H13,D3,H14,n14,e14,fD3
    refine hB1 _ _ ?_
    clear hB1
    have s14:=(n12.trans n13).trans n14
    have hqs':∀p∈qs.take 3,TpAt H14 p/\∃q∈pq,p.z=q.2.1/\p.ns=q.1.map (fun(n:Nat)=>(n:Int))/\p.y=q.2.2:=fun p hp=>by
     obtain⟨⟨g1,g2⟩,g3⟩:=hps p (hqs p (M5 hp))
     rwa[⟨s14 _ _ g1,s14 _ _ g2⟩,g3]
    have l3:(qs.take 3).length<=3:=by rw[JV];lia
    generalize qs.take 3=rs at *
    have s1014:=s11.trans s14
    clear hqs lqs hps lps e12 e13 n12 n13 n14 fD1 fD2 fD3 s14 s11
    refine sN fun B2 hB2=>?_
    rwa[8,D3,6,⟨_,SqL.of e14⟩,kaY (xs:=rs.map fun p=>V.ref p.b) (fun i σ ys H'=>Same H14 H'/\∃(xa:List Addr)(xq:List (List Nat×Int×Int))(v0 v1 v2:Option V),ys=xa.map V.ref/\P2 (fun e q=>EntAt H' e q) xa xq/\(∀q∈xq,q∈fullE T B hand)/\xq.length=i/\σ=[v0,v1,v2]) ⟨Same.refl _,[],[],none,none,none,rfl, .nil,fun q h=>by simp at h,rfl,rfl⟩ (by rw[Jv];exact JJ (kas (by lia))) ?_ ?_ ?_]
    ·rintro i σ ys H' hi ⟨si,xa,xq,v0,v1,v2,rfl,hxa,hxf,lxq,rfl⟩
     rwa[SqL.of (si _ _ e14),by rw[Jv,hxa.len];exact lxq]
    ·rintro i y σ ys H15 hy ⟨si,xa,xq,v0,v1,v2,rfl,hxa,hxf,lxq,rfl⟩
     rw[JF] at hy
     obtain⟨p,ep,rfl⟩:=Option.map_eq_some_iff.mp hy
     obtain⟨⟨g1,g2⟩,q,hq,g3,g4,g5⟩:=hqs' p (JB ep)
     rwa[p.b,8,SqT.of (si _ _ g1),6,_,8,_,8,9,?_]
     rwa[8,8,8,(by show 3<=sizeLine;decide),fun tb ftb=>?_]
     exists H15,tb,H16,n16,e16,ftb
     rwa[si.trans n16,xa++[tb],xq++[q],_,_,_,by rw[JC];rfl,P2.snoc (hxa.mono fun e q h=>h.same n16) ⟨p.l,by rw[<-g3,<-g5];exact e16,?_⟩,fun q' h'=>?_,by rw[JN,lxq];rfl,6]
     ·have:=n16 _ _ (si _ _ g2)
      rw[g4,JO] at this
      exact this
     ·rcases Na.mp h' with h'|h'
      ·exact hxf q' h'
      ·rw[Nz.mp h']
       exact hpf q hq
    rintro σ ys H15 ⟨s15,xa,xq,v0,v1,v2,rfl,hxa,hxf,lxq,rfl⟩ D4 fD4
    rw[Jv] at lxq
    exists H15,D4,H16,n16,e16,fD4
    refine hB2 _ _ ?_
    clear hB2
    have s416:=((s410.trans s1014).trans s15).trans n16
    rwa[8,3,6,by decide,by decide,kja (n:=3) (fun i σ ys H'=>H'=H16/\∃(ya:List Addr)(yq:List (List Nat×Int×Int))(v0:Option V),ys=ya.map V.ref/\P2 (fun e q=>EntAt H4 e q) ya yq/\(∀q∈yq,q∈fullE T B hand)/\yq.length=i/\σ=[v0,some (.ref f)]) ⟨rfl,[],[],none,rfl, .nil,fun q h=>by simp at h,rfl,rfl⟩ (by decide) ?_ ?_ ?_]
    ·rintro i σ ys H' hi ⟨rfl,ya,yq,v0,rfl,hya,hyf,lyq,rfl⟩
     rw[Jv,hya.len]
     exact lyq
    ·rintro i σ ys H' hi ⟨rfl,ya,yq,v0,rfl,hya,hyf,lyq,rfl⟩
     obtain⟨n3,hn3,en3⟩:∃n3:Nat,n3<(fullE T B hand).length/\((0+(i:Int))*(((fa.map V.ref).length:Nat):Int))/3=(n3:Int):=by
      have hpos:0<(fullE T B hand).length:=EY (JT.mp hqm).1
      rw[Jv,lfa,Int.zero_add]
      generalize (fullE T B hand).length=L at *
      rwa[i*L/3,?_,by rw[<-Int.natCast_mul];rfl]
      rcases(by lia:i=0∨i=1∨i=2) with e|e|e <;> subst e <;> lia
     obtain⟨e,ee⟩:=at_of (xs:=fa) (i:=n3) (by lia)
     obtain⟨q,eq,he⟩:=hen.at ee
     rwa[8,8,8,f,8, .inl (SqL.of (s416 _ _ ef)),9, .inl ⟨by lia,by lia⟩,7,f,_,9,SqL.of (s416 _ _ ef),(by rw[en3];exact kaK (v:=V.ref e) (by rw[JF,ee];rfl)),6,ya++[e],yq++[q],_,by rw[JC];rfl,P2.snoc hya he,fun q' h'=>?_,by rw[JN,lyq];rfl,6]
     rcases Na.mp h' with h'|h'
     ·exact hyf q' h'
     ·rw[Nz.mp h']
      exact JB eq
    ·rintro σ ys H' ⟨rfl,ya,yq,v0,rfl,hya,hyf,lyq,rfl⟩ D5 fD5
     exists H',D5,H17,n17,e17,fD5
     rwa[D4,D5,9,n17 _ _ e16,e17,JJ (kas (by rw[Jv,Jv,hxa.len,hya.len];lia)),fun D6 fD6=>?_]
     rw[<-JC]
     exists H17,D6,H18,n18,e18,fD6
     have s1018:=(((s1014.trans s15).trans n16).trans n17).trans n18
     rwa[D6,xa++ya,xq++yq,_,s1018,e18,P2.cat (hya.mono fun e q h=>h.same (s410.trans s1018)) (hxa.mono fun e q h=>h.same ((n16.trans n17).trans n18)),fun q h=>(Na.mp h).elim (hxf q) (hyf q),by rw[JN];lia,6]
   ·rwa[f,fa,fullE T B hand,_,Same.refl _,s410 _ _ ef,hen.mono fun e q h=>h.same s410,fun q h=>h,lF,6]
  rintro σ H11 ⟨xl,xa,xq,v8,s11,exl,hxa,hxf,lxq,rfl⟩
  refine hA14 _ _ ?_
  clear hA14
  have s411:=s410.trans s11
  have epp11:=s11 _ _ epp10
  have etl11:=s11 _ _ e10
  have lxa:=hxa.len
  clear s410 s11 epp10 elb10 hla hen e10
  refine sN fun A15 hA15=>?_
  rwa[8,xl,6,⟨_,SqL.of exl⟩,ka9 (xs:=xa.map V.ref) (fun _ σ H'=>Same H11 H'/\∃v16 v17 v18 v19:Option V,σ=[some (.ref a),some (.ref t),some (.ref b),some (.ref h),some (.bl few),some (.ref f),some (iV sh),some (.ref pp),v8,v9,some (.bl whole),some (.ref lb),some (.int m),some (.ref ol),some (.ref tl),some (.ref xl),v16,v17,v18,v19]) ⟨Same.refl _,none,none,none,none,rfl⟩ (fun i σ H' _ h=>SqL.of (h.1 _ _ exl)) ?_ ?_]
  ·rintro i y σ H12 hy ⟨s12,v16,v17,v18,v19,rfl⟩
   obtain⟨e,ee,rfl⟩:=kba hy
   obtain⟨q,eq,le,he1,he2⟩:=hxa.at ee
   have hqf:=hxf q (JB eq)
   have s412:=s411.trans s12
   rwa[e,8,SqT.of (s12 _ _ he1),6,_,8,_,8,9,?_]
   refine sN fun C1 hC1=>?_
   rwa[8,8,8,h,8, .inl (SqL.of (s412 _ _ eh4)),fun h2 fh2=>?_]
   exists H12,h2,H13,n13,e13,fh2
   have s13:=s12.trans n13
   rwa[8,le,8, .inl (SqL.of (s13 _ _ he2)),fun o2 fo2=>?_]
   exists H13,o2,H14,n14,e14,fo2
   have s14:=s13.trans n14
   rwa[8,8,pp,8, .inl (SqL.of (s14 _ _ epp11)),fun p2 fp2=>?_]
   exists H14,p2,H15,n15,e15,fp2
   have s15:=s14.trans n15
   have s415:=s411.trans s15
   obtain⟨q1,q2⟩:=hFq q hqf
   rwa[t,b,h2,o2,p2,q.2.1,pa,T,B,hand,q.1,pq,6,hT4.same s415,tok,hB4.same s415,wf0,n15 _ _ (n14 _ _ e13),hl,hz,n15 _ _ e14,e15,hpa.mono fun e q h=>h.same s415,by lia,fun q' hq'=>hFq q' (hpf q' hq'),fun H16 c s16 hc=>?_]
   refine hC1 _ _ ?_
   clear hC1
   have s116:=s15.trans s16
   have s416:=s411.trans s116
   clear s12 n13 n14 n15 s13 s14 s15 s16 s412 s415 fh2 fo2 fp2 e13 e14 e15
   have he3:=s116 _ _ he2
   have hol6:=s416 _ _ hol
   have key:c=true->q.2.1=m/\(∃q'∈pq,q'.1=q.1)/\kb5 T B hand q.1=none:=fun e=>khO tok wf0 hl hnn (by lia) hpf (hc.mp e) hm1 ⟨qm,hqm,eqm⟩
   have keyw:whole=true->c=decide (q.1=fq.1):=fun e=>by
    have:c=true↔q.1=fq.1:=by rw[hc,hwhole e];exact ki7 hl (by lia) hm1 hhead hqf
    rw[Mh,this,decide_eq_true_iff]
   clear hc
   have last:∀H',Same H16 H'->Same H11 H'/\∃v16 v17 v18 v19:Option V,[some (.ref a),some (.ref t),some (.ref b),some (.ref h),some (.bl few),some (.ref f),some (iV sh),some (.ref pp),v8,v9,some (.bl whole),some (.ref lb),some (.int m),some (.ref ol),some (.ref tl),some (.ref xl),some (.ref le),some (.int q.2.1),some (.int q.2.2),some (.bl c)]=[some (.ref a),some (.ref t),some (.ref b),some (.ref h),some (.bl few),some (.ref f),some (iV sh),some (.ref pp),v8,v9,some (.bl whole),some (.ref lb),some (.int m),some (.ref ol),some (.ref tl),some (.ref xl),v16,v17,v18,v19]:=fun H' s'=>⟨s116.trans s',_,_,_,_,rfl⟩
   cases c with
   |false=>
    refine sN fun C2 hC2=>?_
    rwa[8,_,_,_,8, .inl ⟨_,rfl⟩,TyOf.bl _,kcJ _ _,8,?_]
    refine iteF ⟨_,rfl,_,rfl,?_⟩
    refine iteF (hC2 _ _ ?_)
    refine sN fun C3 hC3=>?_
    rwa[8,8,iteF (hC3 _ _ ?_)]
    rwa[8,8,ite2 (fun hw=>?_) (fun hw=>last _ (Same.refl _))]
    rwa[8,8,8,le,ol,9,SqL.of he3,SqL.of hol6,ka1 _,ka1 _,6,8,?_]
    rw[if_neg JD,kc3,<-keyw hw]
    exact iteF (last _ (Same.refl _))
   | true=>
    obtain⟨k1,k2,k3⟩:=key rfl
    refine sN fun C2 hC2=>?_
    rwa[8,_,_,_,8, .inl ⟨_,rfl⟩,TyOf.bl _,kcJ _ _,8,?_]
    refine iteF ⟨_,rfl,_,rfl,?_⟩
    refine iteT ⟨_,rfl,_,rfl,rfl,_,rfl,?_⟩
    rw[decide_eq_true (show V.int q.2.1=V.int m by rw[k1])]
    refine iteF ?_
    have hbs:((ta.zip pq).map fun x=>(x.1,x.2.1.map iV)).map (fun b=>V.ref b.1)=ta.map V.ref:=by
     rw[JO]
     have:ta=(ta.zip pq).map Prod.fst:=(List.map_fst_zip (by rw[hta.len];exact Jx _)).symm
     conv=>rhs;rw[this]
     rw[JO]
     rfl
    rwa[8,8,le,tl,_,(ta.zip pq).map fun x=>(x.1,x.2.1.map iV),6,6,by rw[hbs];exact SqL.of (s116 _ _ etl11),he3,ka1 _,fun z hz'=>?_,8,?_]
    ·obtain⟨x,hx,rfl⟩:=JP.mp hz'
     obtain⟨ix,hix⟩:=Ms hx
     obtain⟨g1,g2⟩:=Ep.mp hix
     rwa[s416 _ _ (hta.get g1 g2),ka1 _]
    have hany:((ta.zip pq).map fun x=>(x.1,x.2.1.map iV)).any (fun b=>eqVs b.2 (q.1.map iV))=true:=by
     obtain⟨q',hq',eq'⟩:=k2
     obtain⟨ix,hix⟩:=Ms hq'
     obtain⟨x,hx⟩:=at_of (xs:=ta) (i:=ix) (by rw[hta.len];exact at_lt hix)
     refine EE.mpr ⟨(x,q'.1.map iV),JP.mpr ⟨(x,q'),JB (Ep.mpr ⟨hx,hix⟩),rfl⟩,?_⟩
     show eqVs (q'.1.map iV) (q.1.map iV)=true
     rw[eq',kc3]
     exact decide_eq_true rfl
    rw[hany]
    refine iteF (hC2 _ _ ?_)
    clear hC2 hbs hany
    refine sN fun C3 hC3=>?_
    rwa[8,8,iteT ⟨_,rfl,_,rfl,_,rfl,h,_,rfl, .inl (SqL.of (s416 _ _ eh4)),fun h2 fh2=>?_⟩]
    exists H16,h2,H17,n17,e17,fh2
    rwa[8,le,8, .inl (SqL.of (n17 _ _ he3)),fun o2 fo2=>?_]
    exists H17,o2,H18,n18,e18,fo2
    have s18:=n17.trans n18
    have s418:=s416.trans s18
    rwa[t,b,h2,o2,T,B,hand,q.1,6,hT4.same s418,tok,hB4.same s418,wf0,n18 _ _ e17,e18,hl,q1,q2,fun H19 fv s19 hfv=>⟨rfl,_,rfl,?_⟩]
    rw[k3] at hfv
    have e1:fv=.non:=hfv
    subst e1
    refine iteF (hC3 _ _ ?_)
    clear hC3
    have s1619:=s18.trans s19
    rwa[8,8,ite2 (fun hw=>?_) (fun hw=>last _ s1619)]
    rwa[8,8,8,le,ol,9,SqL.of (s1619 _ _ he3),SqL.of (s1619 _ _ hol6),ka1 _,ka1 _,6,8,?_]
    rw[if_neg JD,kc3,<-keyw hw]
    exact iteF (last _ s1619)
  rintro σ H12 ⟨s12,v16,v17,v18,v19,rfl⟩
  refine hA15 _ _ ?_
  exact k _
end
end Vs
namespace Vs
open PySem L2
theorem ln0{C:List Value->Prop}(k:C []):∀us:List Value,us.length=0->C us:=fun us h=>by
 cases us with
 |nil=>exact k
 |cons a us=>cases h
theorem lnS{C:List Value->Prop}{n:Nat}(k:∀(a:Value)(us:List Value),us.length=n->C (a::us)):∀us:List Value,us.length=n+1->C us:=fun us h=>by
 cases us with
 |nil=>cases h
 |cons a us=>exact k a us (Nat.succ.inj h)
def nL1{C:List Value->Prop}(k:∀a0:Value,C [a0]):∀us:List Value,us.length=1->C us:=lnS fun a0=>ln0 (k a0)
def nL2{C:List Value->Prop}(k:∀a0 a1:Value,C [a0,a1]):∀us:List Value,us.length=2->C us:=lnS fun a0=>lnS fun a1=>ln0 (k a0 a1)
def nL3{C:List Value->Prop}(k:∀a0 a1 a2:Value,C [a0,a1,a2]):∀us:List Value,us.length=3->C us:=lnS fun a0=>lnS fun a1=>lnS fun a2=>ln0 (k a0 a1 a2)
def nL4{C:List Value->Prop}(k:∀a0 a1 a2 a3:Value,C [a0,a1,a2,a3]):∀us:List Value,us.length=4->C us:=lnS fun a0=>lnS fun a1=>lnS fun a2=>lnS fun a3=>ln0 (k a0 a1 a2 a3)
def nL5{C:List Value->Prop}(k:∀a0 a1 a2 a3 a4:Value,C [a0,a1,a2,a3,a4]):∀us:List Value,us.length=5->C us:=lnS fun a0=>lnS fun a1=>lnS fun a2=>lnS fun a3=>lnS fun a4=>ln0 (k a0 a1 a2 a3 a4)
def nL6{C:List Value->Prop}(k:∀a0 a1 a2 a3 a4 a5:Value,C [a0,a1,a2,a3,a4,a5]):∀us:List Value,us.length=6->C us:=lnS fun a0=>lnS fun a1=>lnS fun a2=>lnS fun a3=>lnS fun a4=>lnS fun a5=>ln0 (k a0 a1 a2 a3 a4 a5)
def nL7{C:List Value->Prop}(k:∀a0 a1 a2 a3 a4 a5 a6:Value,C [a0,a1,a2,a3,a4,a5,a6]):∀us:List Value,us.length=7->C us:=lnS fun a0=>lnS fun a1=>lnS fun a2=>lnS fun a3=>lnS fun a4=>lnS fun a5=>lnS fun a6=>ln0 (k a0 a1 a2 a3 a4 a5 a6)
def bd_mk{K:Jw}{fd:FuncData}{ps:List Str}{ds:List Value}{n:Nat}(hn:n+ds.length=ps.length)(k:∀s:Shared,K.In s.heap->∀us:List Value,us.length=n->BindsTo s fd ⟨us,[]⟩ (ps.zip (us++ds))):Binds K fd ps ds:=fun s us KX hl=>k s KX us (by rw[JN] at hl;lia)
def dn_mk{K:Jw}{st:Stmt}{ps:List Str}{f:Addr}{oc:Value}{od an:Option Addr}{osl:Array (Option Value)}{kV doc pm cdv ct:Value}{h:Heap}{mg:Str->Option Value}{x:Str}(X:K.In h)(G:h.Ns mainGlobals mg)(a:JX K mainGlobals x>>(some (.ref f)))(l:K.lookup f>>⟨oc,od, .func (JR x x (kaE st) (kaD st) (kah st) .none kV doc pm an cdv ct),osl⟩)(c:Nf K cdv x=true)(k:JU K (.ref f)=true)(b:∀(kV doc pm:Value)(an:Option Addr)(cdv ct:Value),∀us:List Value,us.length=ps.length->bindArgs (JR x x (kaE st) (kaD st) (kah st) .none kV doc pm an cdv ct) ⟨us,[]⟩=pure (ps.zip us)):Dn K mg x st ps f (JR x x (kaE st) (kaD st) (kah st) .none kV doc pm an cdv ct):=⟨kbD l c k,Binds.all (b _ _ _ _ _ _),Nd X G a⟩
def mt_mk{K:Jw}{st:Stmt}{ps:List Str}{f:Addr}{oc:Value}{od an:Option Addr}{osl:Array (Option Value)}{kV doc pm cdv ct:Value}{m qual:Str}{C:Addr}(a:Jz K (.ref C) m>>(some (.ref f)))(i:Nt K (.ref f)=true)(l:K.lookup f>>⟨oc,od, .func (JR m qual (kaE st) (kaD st) (kah st) .none kV doc pm an cdv ct),osl⟩)(c:Nf K cdv qual=true)(k:JU K (.ref f)=true)(b:∀(kV doc pm:Value)(an:Option Addr)(cdv ct:Value),∀us:List Value,us.length=ps.length->bindArgs (JR m qual (kaE st) (kaD st) (kah st) .none kV doc pm an cdv ct) ⟨us,[]⟩=pure (ps.zip us)):MthT K C m qual st ps f (JR m qual (kaE st) (kaD st) (kah st) .none kV doc pm an cdv ct):=⟨a,i,kbD l c k,Binds.all (b _ _ _ _ _ _)⟩
theorem all_mk{l:PySem.W.OpenLaw}{w:World}{K:Jw}{h:Heap}{mg:Str->Option Value}{fa zeu zez z3h ze5 zfp z8a zec ze9 z1i z3i z2a z5w z3d zu z3r z7v z3w zb1 zej zco z4d z4r z4w z2r z5j z5h zel z68 z2m z39 z1q z58 z9p z5a z4m z5n z3u z2g z2c z5d z43 z46 z6r z5m z6k z57 zas zj zy z3n zf zp z1u zk z1o z67 ze zx z3o za zr z1m zc zw z2d zb zs z1k zo z1f z4i zi zv z25 zd z3s z2y zl z9l z5b z6h z3y z4h zn z1h z4j zm zh:Addr}{z78 z2o zhb zfq zaz z62 zbg z8q z40 z8w ze0 z80 zdk zbf z5t zb4 z7h z3c z8e zaj z51 z9x z7z z30 z89 zce z6j zcf z9y z4t z9t zc8 z6g zcj z69:Option Addr}{z73 zhr zav zbi z96 z8v zdo zdj zay zax z8i z7x zao za7 z7p z8b zbs zcd za0 za3 zca zbp z6a:Array (Option Value)}{z79 z2e z2j z26 zt z2t zhi zfn zfs zfo zd9 zfm zau z5r z60 z5s z2i z5v zbh z8u z49 z3q z4c z1l z3x z94 zcy z7t z8d z7o z4k z8g zdg zbl z64 z66 z65 z1y z5u zbd z7r z38 z3e z33 z1c z3b z81 za2 z4y z4x z5l z1s z50 za9 z8j z3f z36 z2w z1e z35 z8h zcg z6c z6o z6q z3k z6p zcc zaf z4q z4u z5f z1t z4l zag zci z6l z6m z6d z3m z6n zcl z1v:Value}{zbm z31 z99 zdm zb6 z8k z9v z85 zbx za4 z2q zby z4g z2u z2s z23:Nat}{zf1 zee z2x ze3 zfr z7k zek zem z1j z2z z28 z5z z37 z48 z84 z3t zbb zea zcp z4a z5o z55 z2f z4v z4n zes z61 z2b z3j z1n z4p z9n z59 z4z z52 z3p z24 z2h z5g z42 z44 z6e z56 z6s z53 z47 z32 z9j z54 z6i z3v z4e:FuncData}{zg:Array Value}{z2k:Str}{z1x z29:Int}{z2n:Bool}{ts:List Addr}(X:K.In h)(G:h.Ns mainGlobals mg)(hfa:mg "law">>(.ref fa))
  (zgg:Dn K mg "dealt" khA ["cut","weights"] zeu zf1)
  (zgm:Dn K mg "under" khx ["parents","one","other"] zez zee)
  (z7j:Dn K mg "price_of_piece" kbU ["line","member"] z3h z2x)
  (zgl:Dn K mg "about" keM ["voucher","parents","basket","standing"] ze5 ze3)
  (zhp:Dn K mg "fits" kjN ["marks","parents","kind","marked"] zfp zfr)
  (zd7:Dn K mg "hindrance" kdn ["voucher","parents","basket","standing"] z8a z7k)
  (zgn:Dn K mg "after" khB ["voucher","parents","basket","standing"] zec zek)
  (zgj:Dn K mg "reach" khy ["voucher","parents","basket","standing"] ze9 zem)
  (z5q:Dn K mg "reach_without_most" kbn ["voucher","standing","together"] z1i z1j)
  (z7q:Dn K mg "cuts_of_pieces" kbX ["voucher","parents","basket","standing"] z3i z2z)
  (z71:Dn K mg "cut_of_carriage" kbI ["voucher","standing"] z2a z28)
  (zbo:Dn K mg "wanted_cuts" kbk ["voucher","standing","pieces"] z5w z5z)
  (z7y:Dn K mg "parted_by_line" kbV ["standing","pieces"] z3d z37)
  (z8l:JX K mainGlobals "falling_groups">>(some (.ref zu)))(z7n:K.lookup zu>>⟨z79,z78, .func (JR "falling_groups" "falling_groups" (kaE kaF) (kaD kaF) (kah kaF) .none z2e z2j z26 z2o zt z2t),z73⟩)(z8f:Nf K zt "falling_groups"=true)(z88:JU K (.ref zu)=true)
  (z8p:Dn K mg "marked_behind" kb9 ["voucher","standing","piece_cuts"] z3r z48)
  (zd4:Dn K mg "prices_of" kcH ["standing","pieces"] z7v z84)
  (z8m:Dn K mg "sum_of_prices" kb8 ["standing","pieces"] z3w z3t)
  (zfd:Dn K mg "at_most" keL ["most","number"] zb1 zbb)
  (zh2:Dn K mg "fault" khz ["till","basket","hand","order"] zej zea)
  (zg3:Dn K mg "way_by" kf1 ["till","basket","hand","order"] zco zcp)
  (z8s:Dn K mg "word_of_order" kb7 ["till","hand","used","number"] z4d z4a)
  (zai:Dn K mg "breaks_never" kct ["rules","used","number"] z4r z5o)
  (zam:Dn K mg "breaks_ahead" kcu ["rules","used","number"] z4w z55)
  (z75:Dn K mg "without_company" kbG ["rules","order"] z2r z2f)
  (zab:Dn K mg "least_behind" kcs ["way"] z5j z4v)
  (za6:Dn K mg "many_to_come" kcr ["way","number"] z5h z4n)
  (zgc:Dn K mg "holds" kf2 ["till","basket","hand","order","total","paper"] zel zes)
  (zb5:Dn K mg "is_entry_of" kcI ["way","entry"] z68 z61)
  (z7b:Dn K mg "leaves_none_out" kbH ["ways","paper","total"] z2m z2b)
  (z82:Dn K mg "goes_on_within" kbW ["way","entered"] z39 z3j)
  (z63:Dn K mg "first_of_cheapest" kbp ["ways"] z1q z1n)
  (z9s:Dn K mg "_law_cell_at" kcB ["_law_script","_law_k"] z58 z4p)
  (ze4:Dn K mg "_law_mix" kdU ["_law_cell","_law_factor","_law_prime"] z9p z9n)
  (z9w:Dn K mg "_law_coin_by" kcA ["_law_cell"] z5a z59)
  (z9u:Dn K mg "_law_coin_of" kcz ["_law_cell","_law_scale"] z4m z4z)
  (za1:Dn K mg "_law_line_by" kcv ["_law_cell","_law_kinds","_law_scale","_law_most"] z5n z52)
  (z8n:Dn K mg "_law_marks_by" kcc ["_law_cell","_law_kinds","_law_scale"] z3u z3p)
  (z6z:Dn K mg "_law_voucher_by" kbJ ["_law_cell","_law_kinds","_law_scale"] z2g z24)
  (z77:Dn K mg "_law_parents_by" kbK ["_law_cell"] z2c z2h)
  (zar:Dn K mg "_law_hand_by" kcw ["_law_more_held","_law_vouchers","_law_most_held","_law_first"] z5d z5g)
  (z95:Dn K mg "_law_world_by" kca ["_law_script","_law_most_vouchers","_law_most_held"] z43 z42)
  (z8y:Dn K mg "_law_standing" kcb ["_law_till","_law_basket","_law_order"] z46 z44)
  (zbu:Dn K mg "_law_least" kcT ["_law_till","_law_basket","_law_hand","_law_order"] z6r z6e)
  (z9r:Dn K mg "_law_goes_on" kcx ["_law_till","_law_basket","_law_hand","_law_order"] z5m z56)
  (zc0:Dn K mg "_law_lists" kcS ["_law_hand","_law_ahead","_law_out"] z6k z6s)
  (zad:Dn K mg "_law_entries" kcy ["_law_till","_law_basket","_law_hand"] z57 z53)
  (zgq:JX K mainGlobals "law">>(some (.ref zas)))(zhu:K.lookup zas>>⟨zhi,zhb, .func (JR "law" "law" (kaE s_law) (kaD s_law) (kah s_law) .none zfn zfs zfo zfq zd9 zfm),zhr⟩)(zhv:Nf K zd9 "law"=true)(zhw:JU K (.ref zas)=true)
  (zgh:JX K mainGlobals "Marks">>(some (.ref zj)))
  (zg8:JI K zj (.type "object")>>true)(zg5:JI K zj (.ref zj)>>true)(zfy:Nq K (.ref zj)>>(.type "type"))
  (inX:Mu K (.builtin "object.__class__") "__get__">>(some (.builtin "getset_descriptor.__get__")))(itX:Ej K (.builtin "object.__class__")>>true)
  (zfz:Np K zj Str.empty=true)(zfv:Nr K zj=true)(zft:Nx K zj=true)(zfx:Jz K (.ref zj) "__setattr__">>(some (.builtin "object.__setattr__")))(zga:Nu K zj=true)(zg7:JU K (.ref zj)=true)(zg6:Jz K (.ref zj) "__class__">>(some (.builtin "object.__class__")))
  (zck:Jz K (.ref zj) "kind">>none)
  (zbc:Jz K (.ref zj) "needs">>none)
  (zbr:Jz K (.ref zj) "most">>none)
  (za5:Jz K (.ref zj) "member">>none)
  (zc7:Jz K (.ref zj) "once">>none)
  (zc6:Jz K (.ref zj) "lone">>none)
  (zch:Jz K (.ref zj) "__init__">>(some (.ref zy)))(zc9:Nt K (.ref zy)=true)(zc1:K.lookup zy>>⟨zau,zaz, .func (JR "__init__" "Marks.__init__" (kaE ka6) (kaD ka6) (kah ka6) (.ref z3n) z5r z60 z5s z62 z2i z5v),zav⟩)(zc2:Nf K z2i "Marks.__init__"=true)(zbw:JU K (.ref zy)=true)(zq:K.lookup z3n>>⟨zbh,zbg, .seq #[.none, .int 0 z31, .none, .bool false, .bool false, .bool false] zbm,zbi⟩)
  (zff:JX K mainGlobals "Voucher">>(some (.ref zf)))
  (zeq:JI K zf (.type "object")>>true)(zex:JI K zf (.ref zf)>>true)(zei:Nq K (.ref zf)>>(.type "type"))
  (zeh:Np K zf Str.empty=true)(zer:Nr K zf=true)(zeb:Nx K zf=true)(zef:Jz K (.ref zf) "__setattr__">>(some (.builtin "object.__setattr__")))(zen:Nu K zf=true)(zep:JU K (.ref zf)=true)(zey:Jz K (.ref zf) "__class__">>(some (.builtin "object.__class__")))
  (z9q:Jz K (.ref zf) "__init__">>(some (.ref zp)))(z9z:Nt K (.ref zp)=true)(zap:K.lookup zp>>⟨z8u,z8q, .func (JR "__init__" "Voucher.__init__" (kaE kaP) (kaD kaP) (kah kaP) (.ref z1u) z49 z3q z4c z40 z1l z3x),z96⟩)(zal:Nf K z1l "Voucher.__init__"=true)(zaq:JU K (.ref zp)=true)(z5c:K.lookup z1u>>⟨z94,z8w, .seq #[.none] z99,z8v⟩)
  (zgs:JX K mainGlobals "Off">>(some (.ref zk)))
  (z87:JI K zk (.type "object")>>true)(z7i:JI K zk (.ref zk)>>true)(z86:Nq K (.ref zk)>>(.type "type"))
  (zhh:Np K zk Str.empty=true)(zh6:Nr K zk=true)(zho:Nx K zk=true)(zhd:Jz K (.ref zk) "__setattr__">>(some (.builtin "object.__setattr__")))(zhq:Nu K zk=true)(zhm:JU K (.ref zk)=true)(zhs:Jz K (.ref zk) "__class__">>(some (.builtin "object.__class__")))
  (zcn:Jz K (.ref zk) "amount">>none)
  (zdh:Jz K (.ref zk) "marks">>none)
  (zew:Jz K (.ref zk) "__init__">>(some (.ref z1o)))(zet:Nt K (.ref z1o)=true)(ze8:K.lookup z1o>>⟨zcy,ze0, .func (JR "__init__" "Off.__init__" (kaE kbr) (kaD kbr) (kah kbr) (.ref z67) z7t z8d z7o z80 z4k z8g),zdo⟩)(zed:Nf K z4k "Off.__init__"=true)(zf0:JU K (.ref z1o)=true)(z9k:K.lookup z67>>⟨zdg,zdk, .seq #[.none] zdm,zdj⟩)
  (ze7:JX K mainGlobals "Share">>(some (.ref ze)))
  (z4b:JI K ze (.type "object")>>true)(z4f:JI K ze (.ref ze)>>true)(z45:Nq K (.ref ze)>>(.type "type"))
  (zg4:Np K ze Str.empty=true)(zfu:Nr K ze=true)(zgb:Nx K ze=true)(zg2:Jz K (.ref ze) "__setattr__">>(some (.builtin "object.__setattr__")))(zfw:Nu K ze=true)(zg9:JU K (.ref ze)=true)(zg0:Jz K (.ref ze) "__class__">>(some (.builtin "object.__class__")))
  (zb2:Jz K (.ref ze) "share">>none)
  (z9f:Jz K (.ref ze) "by_line">>none)
  (zbj:Jz K (.ref ze) "marks">>none)
  (zc4:Jz K (.ref ze) "__init__">>(some (.ref zx)))(zc3:Nt K (.ref zx)=true)(zbz:K.lookup zx>>⟨zbl,zbf, .func (JR "__init__" "Share.__init__" (kaE ka5) (kaD ka5) (kah ka5) (.ref z3o) z64 z66 z65 z5t z1y z5u),zay⟩)(zcm:Nf K z1y "Share.__init__"=true)(zbt:JU K (.ref zx)=true)(z3l:K.lookup z3o>>⟨zbd,zb4, .seq #[.bool false, .none] zb6,zax⟩)
  (z9m:JX K mainGlobals "Cheapest">>(some (.ref za)))
  (z1d:JI K za (.type "object")>>true)(z1b:JI K za (.ref za)>>true)(zz:Nq K (.ref za)>>(.type "type"))
  (zdi:Np K za Str.empty=true)(zcw:Nr K za=true)(zde:Nx K za=true)(zdq:Jz K (.ref za) "__setattr__">>(some (.builtin "object.__setattr__")))(zdf:Nu K za=true)(zdz:JU K (.ref za)=true)(zds:Jz K (.ref za) "__class__">>(some (.builtin "object.__class__")))
  (z91:Jz K (.ref za) "many">>none)
  (z7s:Jz K (.ref za) "marks">>none)
  (z9g:Jz K (.ref za) "__init__">>(some (.ref zr)))(z9b:Nt K (.ref zr)=true)(z93:K.lookup zr>>⟨z7r,z7h, .func (JR "__init__" "Cheapest.__init__" (kaE kaL) (kaD kaL) (kah kaL) (.ref z1m) z38 z3e z33 z3c z1c z3b),z8i⟩)(z98:Nf K z1c "Cheapest.__init__"=true)(z8r:JU K (.ref zr)=true)(z3z:K.lookup z1m>>⟨z81,z8e, .seq #[.none] z8k,z7x⟩)
  (zcq:JX K mainGlobals "Bundle">>(some (.ref zc)))
  (z2p:JI K zc (.type "object")>>true)(z1z:JI K zc (.ref zc)>>true)(z20:Nq K (.ref zc)>>(.type "type"))
  (zfk:Np K zc Str.empty=true)(zfg:Nr K zc=true)(zfl:Nx K zc=true)(zf6:Jz K (.ref zc) "__setattr__">>(some (.builtin "object.__setattr__")))(zfa:Nu K zc=true)(zfi:JU K (.ref zc)=true)(zfj:Jz K (.ref zc) "__class__">>(some (.builtin "object.__class__")))
  (zba:Jz K (.ref zc) "many">>none)
  (zak:Jz K (.ref zc) "price">>none)
  (zaa:Jz K (.ref zc) "marks">>none)
  (zb7:Jz K (.ref zc) "__init__">>(some (.ref zw)))(zb3:Nt K (.ref zw)=true)(zbk:K.lookup zw>>⟨za2,zaj, .func (JR "__init__" "Bundle.__init__" (kaE kaV) (kaD kaV) (kah kaV) (.ref z2d) z4y z4x z5l z51 z1s z50),zao⟩)(zb9:Nf K z1s "Bundle.__init__"=true)(zbe:JU K (.ref zw)=true)(z5x:K.lookup z2d>>⟨za9,z9x, .seq #[.none] z9v,za7⟩)
  (z9o:JX K mainGlobals "Carriage">>(some (.ref zb)))
  (z1g:JI K zb (.type "object")>>true)(z19:JI K zb (.ref zb)>>true)(z1a:Nq K (.ref zb)>>(.type "type"))
  (ze2:Np K zb Str.empty=true)(zd2:Nr K zb=true)(zdv:Nx K zb=true)(zcs:Jz K (.ref zb) "__setattr__">>(some (.builtin "object.__setattr__")))(zdp:Nu K zb=true)(zd0:JU K (.ref zb)=true)(zdy:Jz K (.ref zb) "__class__">>(some (.builtin "object.__class__")))
  (z7l:Jz K (.ref zb) "marks">>none)
  (z8t:Jz K (.ref zb) "__init__">>(some (.ref zs)))(z97:Nt K (.ref zs)=true)(z9a:K.lookup zs>>⟨z8j,z7z, .func (JR "__init__" "Carriage.__init__" (kaE kaM) (kaD kaM) (kah kaM) (.ref z1k) z3f z36 z2w z30 z1e z35),z7p⟩)(z9i:Nf K z1e "Carriage.__init__"=true)(z9c:JU K (.ref zs)=true)(z41:K.lookup z1k>>⟨z8h,z89, .seq #[.none] z85,z8b⟩)
  (zha:JX K mainGlobals "Line">>(some (.ref zo)))
  (zgt:JI K zo (.type "object")>>true)(zgz:JI K zo (.ref zo)>>true)(zgv:Nq K (.ref zo)>>(.type "type"))
  (zgd:Np K zo Str.empty=true)(zgk:Nr K zo=true)(zgf:Nx K zo=true)(zgx:Jz K (.ref zo) "__setattr__">>(some (.builtin "object.__setattr__")))(zh5:Nu K zo=true)(zh3:JU K (.ref zo)=true)(zgo:Jz K (.ref zo) "__class__">>(some (.builtin "object.__class__")))
  (zdl:Jz K (.ref zo) "kind">>none)
  (zbv:Jz K (.ref zo) "price">>none)
  (zcr:Jz K (.ref zo) "many">>none)
  (zah:Jz K (.ref zo) "special">>none)
  (zdt:Jz K (.ref zo) "__init__">>(some (.ref z1f)))(zdc:Nt K (.ref z1f)=true)(zdn:K.lookup z1f>>⟨zcg,zce, .func (JR "__init__" "Line.__init__" (kaE kbe) (kaD kbe) (kah kbe) (.ref z4i) z6c z6o z6q z6j z3k z6p),zbs⟩)(zdd:Nf K z3k "Line.__init__"=true)(zd3:JU K (.ref z1f)=true)(z7w:K.lookup z4i>>⟨zcc,zcf, .seq #[.none] zbx,zcd⟩)
  (zg1:JX K mainGlobals "Basket">>(some (.ref zi)))
  (zf3:JI K zi (.type "object")>>true)(zfb:JI K zi (.ref zi)>>true)(zf9:Nq K (.ref zi)>>(.type "type"))
  (zfh:Np K zi Str.empty=true)(zf8:Nr K zi=true)(zf4:Nx K zi=true)(zf5:Jz K (.ref zi) "__setattr__">>(some (.builtin "object.__setattr__")))(zfe:Nu K zi=true)(zfc:JU K (.ref zi)=true)(zf7:Jz K (.ref zi) "__class__">>(some (.builtin "object.__class__")))
  (zan:Jz K (.ref zi) "lines">>none)
  (z7e:Jz K (.ref zi) "carriage">>none)
  (z9e:Jz K (.ref zi) "member">>none)
  (zb0:Jz K (.ref zi) "__init__">>(some (.ref zv)))(zbn:Nt K (.ref zv)=true)(zb8:K.lookup zv>>⟨zaf,z9y, .func (JR "__init__" "Basket.__init__" (kaE kaW) (kaD kaW) (kah kaW) (.ref z25) z4q z4u z5f z4t z1t z4l),za0⟩)(zaw:Nf K z1t "Basket.__init__"=true)(zat:JU K (.ref zv)=true)(z27:K.lookup z25>>⟨zag,z9t, .seq #[.int 0 z2q, .bool false] za4,za3⟩)
  (zeo:JX K mainGlobals "Standing">>(some (.ref zd)))
  (zcv:JI K zd (.type "object")>>true)(zdx:JI K zd (.ref zd)>>true)(zda:Nq K (.ref zd)>>(.type "type"))
  (zd6:Np K zd Str.empty=true)(zdu:Nr K zd=true)(zcu:Nx K zd=true)(zd8:Jz K (.ref zd) "__setattr__">>(some (.builtin "object.__setattr__")))(zdr:Nu K zd=true)(ze1:JU K (.ref zd)=true)(zd5:Jz K (.ref zd) "__class__">>(some (.builtin "object.__class__")))
  (z72:Jz K (.ref zd) "owners">>none)
  (z6t:Jz K (.ref zd) "prices">>none)
  (z5y:Jz K (.ref zd) "carriage">>none)
  (z6v:Jz K (.ref zd) "marked">>none)
  (z8z:MthT K zd "__init__" "Standing.__init__" kce ["self","basket"] z3s z47)
  (z83:MthT K zd "whole" "Standing.whole" kbY ["self"] z2y z32)
  (zht:JX K mainGlobals "Way">>(some (.ref zl)))
  (zhg:JI K zl (.type "object")>>true)(zhe:JI K zl (.ref zl)>>true)(zhk:Nq K (.ref zl)>>(.type "type"))
  (zh9:Np K zl Str.empty=true)(zhj:Nr K zl=true)(zhc:Nx K zl=true)(zh7:Jz K (.ref zl) "__setattr__">>(some (.builtin "object.__setattr__")))(zhl:Nu K zl=true)(zh8:JU K (.ref zl)=true)(zhn:Jz K (.ref zl) "__class__">>(some (.builtin "object.__class__")))
  (zeg:Jz K (.ref zl) "till">>none)
  (zbq:Jz K (.ref zl) "basket">>none)
  (zev:Jz K (.ref zl) "hand">>none)
  (zf2:Jz K (.ref zl) "used">>none)
  (zae:Jz K (.ref zl) "standing">>none)
  (ze6:MthT K zl "__init__" "Way.__init__" kdV ["self","till","basket","hand"] z9l z9j)
  (za8:MthT K zl "word_for" "Way.word_for" kcC ["self","number"] z5b z54)
  (zc5:MthT K zl "behind" "Way.behind" kcU ["self","number"] z6h z6i)
  (z92:MthT K zl "followers" "Way.followers" kbz ["self"] z3y z3v)
  (z9d:MthT K zl "is_let_by" "Way.is_let_by" kcd ["self"] z4h z4e)
  (zhf:JX K mainGlobals "Till">>(some (.ref zn)))
  (zge:JI K zn (.type "object")>>true)(zh0:JI K zn (.ref zn)>>true)(zgi:Nq K (.ref zn)>>(.type "type"))
  (zgr:Np K zn Str.empty=true)(zgp:Nr K zn=true)(zgw:Nx K zn=true)(zgy:Jz K (.ref zn) "__setattr__">>(some (.builtin "object.__setattr__")))(zh1:Nu K zn=true)(zh4:JU K (.ref zn)=true)(zgu:Jz K (.ref zn) "__class__">>(some (.builtin "object.__class__")))
  (zac:Jz K (.ref zn) "parents">>none)
  (z8x:Jz K (.ref zn) "vouchers">>none)
  (zcb:Jz K (.ref zn) "rules">>none)
  (zdb:Jz K (.ref zn) "back">>none)
  (zcz:Jz K (.ref zn) "__init__">>(some (.ref z1h)))(zct:Nt K (.ref z1h)=true)(zcx:K.lookup z1h>>⟨zci,zc8, .func (JR "__init__" "Till.__init__" (kaE kbd) (kaD kbd) (kah kbd) (.ref z4j) z6l z6m z6d z6g z3m z6n),zca⟩)(zdw:Nf K z3m "Till.__init__"=true)(zd1:JU K (.ref z1h)=true)(z7u:K.lookup z4j>>⟨zcl,zcj, .seq #[.str "again" z4g] zby,zbp⟩)
  (z8o:PySem.W.readsIn K zf (.type "type")=true)(z90:Mu K (.ref zf) "__getattribute__">>(some (.builtin "type.__getattribute__")))(z9h:PySem.W.findCls K (.ref zf) (.type "type") "__init__">>(.val (.ref zp)))
  (z7m:JI K ze (.ref zk)>>false)
  (z5i:JI K za (.ref zk)>>false)
  (z6b:JI K zc (.ref zk)>>false)
  (z5k:JI K zb (.ref zk)>>false)
  (z8c:JI K zk (.ref ze)>>false)
  (z3a:JI K za (.ref ze)>>false)
  (z5p:JI K zc (.ref ze)>>false)
  (z2v:JI K zb (.ref ze)>>false)
  (z4o:JI K zk (.ref za)>>false)
  (z34:JI K ze (.ref za)>>false)
  (z21:JI K zc (.ref za)>>false)
  (z1r:JI K zb (.ref za)>>false)
  (z6f:JI K zk (.ref zc)>>false)
  (z4s:JI K ze (.ref zc)>>false)
  (z22:JI K za (.ref zc)>>false)
  (z2l:JI K zb (.ref zc)>>false)
  (z5e:JI K zk (.ref zb)>>false)
  (z3g:JI K ze (.ref zb)>>false)
  (z1p:JI K za (.ref zb)>>false)
  (z1w:JI K zc (.ref zb)>>false)
  (z76:zt=.ref zm)
  (z7a:K.lookup zm>>⟨z1v,z69, .fields zg,z6a⟩)
  (z7d:z1v=.type "code")
  (z7f:zg[11]?>>(.ref zh))
  (z7g:zg.getD 11 .none=.ref zh)
  (z6y:zg.getD 18 .none=.str z2k z2u)
  (z74:zg.getD 7 .none=.int z1x z2s)
  (z70:zg.getD 9 .none=.bool z2n)
  (z6w:zg.getD 10 .none=.int z29 z23)
  (z7c:zm≠zh)
  (z6x:K.lookup zh=none)
  (z6u:zh∈ts)
  (z1:JX K mainGlobals "range">>none)
  (z2:JX K mainGlobals "len">>none)
  (z3:JX K mainGlobals "min">>none)
  (z4:JX K mainGlobals "max">>none)
  (z5:JX K mainGlobals "isinstance">>none)
  (z6:JX K mainGlobals "bool">>none)
  (z7:JX K mainGlobals "int">>none)
  (z8:JX K mainGlobals "list">>none)
  (z9:JX K mainGlobals "sum">>none)
  (z10:JX K mainGlobals "enumerate">>none)
  (z11:JX K mainGlobals "any">>none)
  (z12:JX K mainGlobals "all">>none)
  (z13:JX K mainGlobals "reversed">>none)
  (z14:JX K mainGlobals "zip">>none)
  (z15:JX K mainGlobals "abs">>none)
  (z16:JX K mainGlobals "sorted">>none)
  (z17:JX K mainGlobals "tuple">>none)
  (z18:JX K mainGlobals "str">>none)
  :∃(fd:FuncData)(tP c0:Addr),tP∈ts/\CodeK K c0 tP/\K.lookup tP=none/\(∀(s:Shared)(v:Value),BindsTo s fd ⟨[v],[]⟩ [("_law_script",v)])/\∀base:Heap,K.In base->base.Ns mainGlobals mg->BltM mg base->FnOk l.prog w K mg base CX0 12 fa fd ["_law_script"] (kgF K tP):=by
 have e:=hfa.symm.trans (Nd X G zgq)
 have hf:zas=fa:=by
  injection e with e
  injection e with e
  exact e.symm
 subst hf
 have B:TxtB mg:=⟨Ni X G z1,Ni X G z2,Ni X G z3,Ni X G z4,Ni X G z5,Ni X G z6,Ni X G z7,Ni X G z8,Ni X G z9,Ni X G z10,Ni X G z11,Ni X G z12,Ni X G z13,Ni X G z14,Ni X G z15,Ni X G z16,Ni X G z17,Ni X G z18⟩
 have W:Wld K mg ⟨(zeu),(zf1),(zez),(zee),(z3h),(z2x),(ze5),(ze3),(zfp),(zfr),(z8a),(z7k),(zec),(zek),(ze9),(zem),(z1i),(z1j),(z3i),(z2z),(z2a),(z28),(z5w),(z5z),(z3d),(z37),(zu),(JR "falling_groups" "falling_groups" (kaE kaF) (kaD kaF) (kah kaF) .none z2e z2j z26 z2o zt z2t),(z3r),(z48),(z7v),(z84),(z3w),(z3t),(zb1),(zbb),(zej),(zea),(zco),(zcp),(z4d),(z4a),(z4r),(z5o),(z4w),(z55),(z2r),(z2f),(z5j),(z4v),(z5h),(z4n),(zel),(zes),(z68),(z61),(z2m),(z2b),(z39),(z3j),(z1q),(z1n),(z58),(z4p),(z9p),(z9n),(z5a),(z59),(z4m),(z4z),(z5n),(z52),(z3u),(z3p),(z2g),(z24),(z2c),(z2h),(z5d),(z5g),(z43),(z42),(z46),(z44),(z6r),(z6e),(z5m),(z56),(z6k),(z6s),(z57),(z53),(zas),(JR "law" "law" (kaE s_law) (kaD s_law) (kah s_law) .none zfn zfs zfo zfq zd9 zfm),(zj),(zy),(JR "__init__" "Marks.__init__" (kaE ka6) (kaD ka6) (kah ka6) (.ref z3n) z5r z60 z5s z62 z2i z5v),(z31),(zf),(zp),(JR "__init__" "Voucher.__init__" (kaE kaP) (kaD kaP) (kah kaP) (.ref z1u) z49 z3q z4c z40 z1l z3x),(zk),(z1o),(JR "__init__" "Off.__init__" (kaE kbr) (kaD kbr) (kah kbr) (.ref z67) z7t z8d z7o z80 z4k z8g),(ze),(zx),(JR "__init__" "Share.__init__" (kaE ka5) (kaD ka5) (kah ka5) (.ref z3o) z64 z66 z65 z5t z1y z5u),(za),(zr),(JR "__init__" "Cheapest.__init__" (kaE kaL) (kaD kaL) (kah kaL) (.ref z1m) z38 z3e z33 z3c z1c z3b),(zc),(zw),(JR "__init__" "Bundle.__init__" (kaE kaV) (kaD kaV) (kah kaV) (.ref z2d) z4y z4x z5l z51 z1s z50),(zb),(zs),(JR "__init__" "Carriage.__init__" (kaE kaM) (kaD kaM) (kah kaM) (.ref z1k) z3f z36 z2w z30 z1e z35),(zo),(z1f),(JR "__init__" "Line.__init__" (kaE kbe) (kaD kbe) (kah kbe) (.ref z4i) z6c z6o z6q z6j z3k z6p),(zi),(zv),(JR "__init__" "Basket.__init__" (kaE kaW) (kaD kaW) (kah kaW) (.ref z25) z4q z4u z5f z4t z1t z4l),(z2q),(zd),(z3s),(z47),(z2y),(z32),(zl),(z9l),(z9j),(z5b),(z54),(z6h),(z6i),(z3y),(z3v),(z4h),(z4e),(zn),(z1h),(JR "__init__" "Till.__init__" (kaE kbd) (kaD kbd) (kah kbd) (.ref z4j) z6l z6m z6d z6g z3m z6n),(z4g),(zm),(zh)⟩:=⟨B,zgg,zgm,z7j,zgl,zhp,zd7,zgn,zgj,z5q,z7q,z71,zbo,z7y,⟨(kbD z7n z8f z88),(Binds.all (nL3 fun _ _ _=>rfl)),Nd X G z8l⟩,z8p,zd4,z8m,zfd,zh2,zg3,z8s,zai,zam,z75,zab,za6,zgc,zb5,z7b,z82,z63,z9s,ze4,z9w,z9u,za1,z8n,z6z,z77,zar,z95,z8y,zbu,z9r,zc0,zad,⟨(kbD zhu zhv zhw),(Binds.all (nL1 fun _=>rfl)),Nd X G zgq⟩,⟨⟨zfz,zfv,zft,zfx⟩,Nd X G zgh,⟨zg6,inX,itX,zg8⟩,zg5,zfy,zga,zg7⟩,zck,zbc,zbr,za5,zc7,zc6,⟨zch,zc9,(kbD zc1 zc2 zbw),(bd_mk (n:=7) rfl fun _ KX=>nL7 fun _ _ _ _ _ _ _=>BindsTo.of_defaults rfl (KX _ _ zq) rfl rfl rfl)⟩,(bd_mk (n:=6) rfl fun _ KX=>nL6 fun _ _ _ _ _ _=>BindsTo.of_defaults rfl (KX _ _ zq) rfl rfl rfl),(bd_mk (n:=5) rfl fun _ KX=>nL5 fun _ _ _ _ _=>BindsTo.of_defaults rfl (KX _ _ zq) rfl rfl rfl),(bd_mk (n:=4) rfl fun _ KX=>nL4 fun _ _ _ _=>BindsTo.of_defaults rfl (KX _ _ zq) rfl rfl rfl),(bd_mk (n:=3) rfl fun _ KX=>nL3 fun _ _ _=>BindsTo.of_defaults rfl (KX _ _ zq) rfl rfl rfl),(bd_mk (n:=2) rfl fun _ KX=>nL2 fun _ _=>BindsTo.of_defaults rfl (KX _ _ zq) rfl rfl rfl),(bd_mk (n:=1) rfl fun _ KX=>nL1 fun _=>BindsTo.of_defaults rfl (KX _ _ zq) rfl rfl rfl),⟨⟨zeh,zer,zeb,zef⟩,Nd X G zff,⟨zey,inX,itX,zeq⟩,zex,zei,zen,zep⟩,⟨z9q,z9z,(kbD zap zal zaq),(bd_mk (n:=2) rfl fun _ KX=>nL2 fun _ _=>BindsTo.of_defaults rfl (KX _ _ z5c) rfl rfl rfl)⟩,(bd_mk (n:=1) rfl fun _ KX=>nL1 fun _=>BindsTo.of_defaults rfl (KX _ _ z5c) rfl rfl rfl),Nd X G zgs,⟨⟨zhh,zh6,zho,zhd⟩,Nd X G zgs,⟨zhs,inX,itX,z87⟩,z7i,z86,zhq,zhm⟩,zcn,zdh,⟨zew,zet,(kbD ze8 zed zf0),(bd_mk (n:=3) rfl fun _ KX=>nL3 fun _ _ _=>BindsTo.of_defaults rfl (KX _ _ z9k) rfl rfl rfl)⟩,(bd_mk (n:=2) rfl fun _ KX=>nL2 fun _ _=>BindsTo.of_defaults rfl (KX _ _ z9k) rfl rfl rfl),Nd X G ze7,⟨⟨zg4,zfu,zgb,zg2⟩,Nd X G ze7,⟨zg0,inX,itX,z4b⟩,z4f,z45,zfw,zg9⟩,zb2,z9f,zbj,⟨zc4,zc3,(kbD zbz zcm zbt),(bd_mk (n:=4) rfl fun _ KX=>nL4 fun _ _ _ _=>BindsTo.of_defaults rfl (KX _ _ z3l) rfl rfl rfl)⟩,(bd_mk (n:=3) rfl fun _ KX=>nL3 fun _ _ _=>BindsTo.of_defaults rfl (KX _ _ z3l) rfl rfl rfl),(bd_mk (n:=2) rfl fun _ KX=>nL2 fun _ _=>BindsTo.of_defaults rfl (KX _ _ z3l) rfl rfl rfl),Nd X G z9m,⟨⟨zdi,zcw,zde,zdq⟩,Nd X G z9m,⟨zds,inX,itX,z1d⟩,z1b,zz,zdf,zdz⟩,z91,z7s,⟨z9g,z9b,(kbD z93 z98 z8r),(bd_mk (n:=3) rfl fun _ KX=>nL3 fun _ _ _=>BindsTo.of_defaults rfl (KX _ _ z3z) rfl rfl rfl)⟩,(bd_mk (n:=2) rfl fun _ KX=>nL2 fun _ _=>BindsTo.of_defaults rfl (KX _ _ z3z) rfl rfl rfl),Nd X G zcq,⟨⟨zfk,zfg,zfl,zf6⟩,Nd X G zcq,⟨zfj,inX,itX,z2p⟩,z1z,z20,zfa,zfi⟩,zba,zak,zaa,⟨zb7,zb3,(kbD zbk zb9 zbe),(bd_mk (n:=4) rfl fun _ KX=>nL4 fun _ _ _ _=>BindsTo.of_defaults rfl (KX _ _ z5x) rfl rfl rfl)⟩,(bd_mk (n:=3) rfl fun _ KX=>nL3 fun _ _ _=>BindsTo.of_defaults rfl (KX _ _ z5x) rfl rfl rfl),Nd X G z9o,⟨⟨ze2,zd2,zdv,zcs⟩,Nd X G z9o,⟨zdy,inX,itX,z1g⟩,z19,z1a,zdp,zd0⟩,z7l,⟨z8t,z97,(kbD z9a z9i z9c),(bd_mk (n:=2) rfl fun _ KX=>nL2 fun _ _=>BindsTo.of_defaults rfl (KX _ _ z41) rfl rfl rfl)⟩,(bd_mk (n:=1) rfl fun _ KX=>nL1 fun _=>BindsTo.of_defaults rfl (KX _ _ z41) rfl rfl rfl),⟨⟨zgd,zgk,zgf,zgx⟩,Nd X G zha,⟨zgo,inX,itX,zgt⟩,zgz,zgv,zh5,zh3⟩,zdl,zbv,zcr,zah,⟨zdt,zdc,(kbD zdn zdd zd3),(bd_mk (n:=5) rfl fun _ KX=>nL5 fun _ _ _ _ _=>BindsTo.of_defaults rfl (KX _ _ z7w) rfl rfl rfl)⟩,(bd_mk (n:=4) rfl fun _ KX=>nL4 fun _ _ _ _=>BindsTo.of_defaults rfl (KX _ _ z7w) rfl rfl rfl),⟨⟨zfh,zf8,zf4,zf5⟩,Nd X G zg1,⟨zf7,inX,itX,zf3⟩,zfb,zf9,zfe,zfc⟩,zan,z7e,z9e,⟨zb0,zbn,(kbD zb8 zaw zat),(bd_mk (n:=4) rfl fun _ KX=>nL4 fun _ _ _ _=>BindsTo.of_defaults rfl (KX _ _ z27) rfl rfl rfl)⟩,(bd_mk (n:=3) rfl fun _ KX=>nL3 fun _ _ _=>BindsTo.of_defaults rfl (KX _ _ z27) rfl rfl rfl),(bd_mk (n:=2) rfl fun _ KX=>nL2 fun _ _=>BindsTo.of_defaults rfl (KX _ _ z27) rfl rfl rfl),⟨⟨zd6,zdu,zcu,zd8⟩,Nd X G zeo,⟨zd5,inX,itX,zcv⟩,zdx,zda,zdr,ze1⟩,z72,z6t,z5y,z6v,z8z,z83,⟨⟨zh9,zhj,zhc,zh7⟩,Nd X G zht,⟨zhn,inX,itX,zhg⟩,zhe,zhk,zhl,zh8⟩,zeg,zbq,zev,zf2,zae,ze6,za8,zc5,z92,z9d,⟨⟨zgr,zgp,zgw,zgy⟩,Nd X G zhf,⟨zgu,inX,itX,zge⟩,zh0,zgi,zh1,zh4⟩,zac,z8x,zcb,zdb,⟨zcz,zct,(kbD zcx zdw zd1),(bd_mk (n:=5) rfl fun _ KX=>nL5 fun _ _ _ _ _=>BindsTo.of_defaults rfl (KX _ _ z7u) rfl rfl rfl)⟩,(bd_mk (n:=4) rfl fun _ KX=>nL4 fun _ _ _ _=>BindsTo.of_defaults rfl (KX _ _ z7u) rfl rfl rfl),⟨z8o,z90,z9h⟩,kaN z7m z87 z86 (kbv z7m z4f),kaN z5i z87 z86 (kbv z5i z1b),kaN z6b z87 z86 (kbv z6b z1z),kaN z5k z87 z86 (kbv z5k z19),kaN z8c z4b z45 (kbv z8c z7i),kaN z3a z4b z45 (kbv z3a z1b),kaN z5p z4b z45 (kbv z5p z1z),kaN z2v z4b z45 (kbv z2v z19),kaN z4o z1d zz (kbv z4o z7i),kaN z34 z1d zz (kbv z34 z4f),kaN z21 z1d zz (kbv z21 z1z),kaN z1r z1d zz (kbv z1r z19),kaN z6f z2p z20 (kbv z6f z7i),kaN z4s z2p z20 (kbv z4s z4f),kaN z22 z2p z20 (kbv z22 z1b),kaN z2l z2p z20 (kbv z2l z19),kaN z5e z1g z1a (kbv z5e z7i),kaN z3g z1g z1a (kbv z3g z4f),kaN z1p z1g z1a (kbv z1p z1b),kaN z1w z1g z1a (kbv z1w z1z),z76,⟨_,zg,z2k,z2u,z1x,z2s,z2n,z29,z23,z7a,z7d,rfl,z7f,z7g,z6y,z74,z70,z6w,z7c⟩⟩
 rwa[_,zh,zm,z6u,W.ck_falling_groups,z6x,fun s v=>.of_eq rfl,fun base hK _ hB=>knx ⟨W,hB⟩]
end Vs
end Lake
open Lake
namespace PySem.W.Fast
def tw10015460787775132384:=Nat
def tw17909752631507389857:=Nat
def tw15596518014438115394:=Nat
def tw15218403502055464739:=Nat
def tw7347087725277652931:=Nat
def tw18344400558005937636:=Nat
def tw15751401022008488997:=Nat
def tw12673876902060109541:=Nat
def tw3478561972297131941:=Nat
def tw15185522341316079718:=Nat
def tw17672475454938476710:=Nat
def tw4127553127175750374:=Nat
def tw7770177769757377767:=Nat
def tw1002886192314209703:=Nat
def tw5076918478816319624:=Nat
def tw12272606958841469064:=Nat
def tw13884310774025722504:=Nat
def tw12653133168597025544:=Nat
def tw2311108347976487883:=Nat
def tw15258486905179327724:=Nat
def tw5058096887523408300:=Nat
def tw146025891282185423:=Nat
def tw4468495774990582031:=Nat
def tw15287765868364552527:=Nat
def tw6383670560235698864:=Nat
def tw5160487375964926961:=Nat
def tw6220420898390883378:=Nat
def tw2742988250566150772:=Nat
def tw3964605411113849749:=Nat
def tw12479742209455161912:=Nat
def tw7126059153111622970:=Nat
def tw14811008905769333789:=Nat
def tw10444404564412668701:=Nat
def tw17382149340378725375:=Nat
def tw17553540342438476712:=Nat
def tw12378805340197552828:=Nat
def tw3891978292362328370:=Nat
def tw6978566665168477366:=Nat
def tw6357379383907871396:=Nat
def tw3759027745503028838:=Nat
def tw1138066083156593224:=Nat
def tw745842943361559838:=Nat
def tw10287557863628354329:=Nat
def tw11129637191707878299:=Nat
def tw9935924222192045434:=Nat
def tw704703314415663515:=Nat
def tw14426575330505998744:=Nat
def tw227979767194228876:=Nat
def tw6852250865125510706:=Nat
def tw5170368207361010510:=Nat
def tw10901949470953373312:=Nat
def tw12853472275713898651:=Nat
def tw10965819477696225034:=Nat
def tw15152802272031608439:=Nat
def tw7538767115245645473:=Nat
def tw13226118394399084820:=Nat
def tw12418132003953485984:=Nat
def tw13607417829103145636:=Nat
def tw18010345560612878508:=Nat
def tw17063620815981896295:=Nat
def tw17213762195369009458:=Nat
def tw6548682444183744440:=Nat
def tw17096994964423750044:=Nat
def tw10136605053559359918:=Nat
def tw662235348211966116:=Nat
def tw12350065759973103360:=Nat
def tw14428398804747803339:=Nat
def tw16540166364909237630:=Nat
def tw6923957743773229955:=Nat
def tw12653203128848472462:=Nat
def tw2936688898472853631:=Nat
def tw10577493742148285744:=Nat
def tw13001447037901380624:=Nat
def tw16907985058806255624:=Nat
def tw10876228242551519826:=Nat
def tw5292476888113662063:=Nat
def tw13788170675167866373:=Nat
def tw16854674414709664187:=Nat
def tw5874565350783721229:=Nat
def tw9196460855797271091:=Nat
def tw7814563118554795467:=Nat
def tw7748606194505368263:=Nat
def tw3880983373443903493:=Nat
def tw7879840975172078235:=Nat
def tw7248102213628358997:=Nat
def tw6814173443485378888:=Nat
def tw13579317761029846041:=Nat
def tw14107542003134634863:=Nat
def tw14757368678331469685:=Nat
def tw8571329275559001082:=Nat
def tw18235783530633534831:=Nat
def tw6088081806362135997:=Nat
def tw17111464731320003459:=Nat
def tw4935620278852737103:=Nat
def tw7730228496596153902:=Nat
def tw17326314936284556130:=Nat
def tw9030964973513750777:=Nat
def tw7453548647361769796:=Nat
def tw5237587064270637071:=Nat
def tw3577730466119916393:=Nat
def tw16751341077414726756:=Nat
def tw2215860378020806801:=Nat
def tw7356134854247864110:=Nat
def tw10950942261532370535:=Nat
def tw8999732044831382010:=Nat
def tw7212965512326042856:=Nat
def tw1930047464754078827:=Nat
def tw7044621128613443777:=Nat
def tw15765256735164947255:=Nat
def tw11628964831948009278:=Nat
def tw15316111558829967619:=Nat
def tw16431011307921556749:=Nat
def tw4413797329422893417:=Nat
def tw7891550632454652851:=Nat
def tw6679414238690375120:=Nat
def tw18224867627038451876:=Nat
def tw15641061533787482211:=Nat
def tw8299333240466401276:=Nat
def tw15462816853652924169:=Nat
def tw3292141030435598674:=Nat
def tw9822206385744750797:=Nat
def tw2793506338946077708:=Nat
def tw12939326513919209310:=Nat
def tw248247382641495876:=Nat
def tw2189998863334770934:=Nat
def tw15137922938812091434:=Nat
def tw11344912602302944651:=Nat
def tw6388493660529796572:=Nat
def tw29022358996933242:=Nat
def tw6938544456593187083:=Nat
def tw10322708225037285853:=Nat
def tw11266446499059381339:=Nat
def tw11684764289423982937:=Nat
def tw5233219677476617306:=Nat
def tw12362120587632366753:=Nat
def tw5710779425456669701:=Nat
def tw16306359914115360591:=Nat
def tw6936781668277032199:=Nat
def tw15789646848928998989:=Nat
def tw15463205937470215320:=Nat
def tw3716659286527148402:=Nat
def tw642381528815371229:=Nat
def tw6437375679310998162:=Nat
def tw7590462526559427255:=Nat
def tw11789162612827440779:=Nat
def tw4894147975408930737:=Nat
def tw1026490147367459985:=Nat
def tw8129650401876501295:=Nat
def tw4657309466191090607:=Nat
def tw9013484300474137876:=Nat
def tw4337226552518993305:=Nat
def tw17368414125727455849:=Nat
def tw11782036970019456210:=Nat
def tw9302103014555938469:=Nat
def tw8154411238369476410:=Nat
def tw15087730065981473036:=Nat
def tw9223986043819244789:=Nat
def tw14575530997282466521:=Nat
def tw5760807612662286442:=Nat
def tw11956969004117900142:=Nat
def tw7065732767915996605:=Nat
def tw11378678265808825096:=Nat
def tw9310292027701809584:=Nat
def tw17368656815443562228:=Nat
def tw15104721911403355480:=Nat
def tw12389800837116159321:=Nat
def tw18204398792721738409:=Nat
def tw7101875154276204293:=Nat
def tw16726920060419711234:=Nat
def tw4867868783353792230:=Nat
def tw9597050117272618976:=Nat
def tw16666272772446081274:=Nat
def tw929817974696737648:=Nat
def tw8842944903966528700:=Nat
def tw15063150050405804640:=Nat
def tw13012513844057896228:=Nat
def tw10737398688460418828:=Nat
def tw17791851954871282576:=Nat
def tw45819110386938793:=Nat
def tw3188442576422944395:=Nat
def tw4969010228886334805:=Nat
def tw3472447661875793100:=Nat
def tw16502630293462808235:=Nat
def tw4468162905449969819:=Nat
def tw7821636577393809687:=Nat
def tw17776001644783925864:=Nat
def tw13293868095081265789:=Nat
def tw3296869178944931625:=Nat
def tw6248344045578716767:=Nat
def tw16568100820369883604:=Nat
def tw16910765121629960524:=Nat
def tw15226445040924023702:=Nat
def tw8819189497914338489:=Nat
def tw12273837190088765777:=Nat
def tw14796250148812160270:=Nat
def tw17971949247853117712:=Nat
def tw14852171963453912363:=Nat
def tw15158304911329083888:=Nat
def tw3403754886064551419:=Nat
def tw13168797112432534565:=Nat
def tw10897433327668568591:=Nat
def tw6891292871066446648:=Nat
def tw16961573842609517557:=Nat
def tw7168415716165816592:=Nat
def tw8941045188869995487:=Nat
def tw9417821880101383234:=Nat
def tw10412291316421643745:=Nat
def tw17131943440454883893:=Nat
def tw14541993050804792661:=Nat
def tw10145878540186657134:=Nat
def tw8113553256579210411:=Nat
def tw10083236708789577612:=Nat
def tw17575232122680058342:=Nat
def tw2349536898948008305:=Nat
def tw13130641047336924263:=Nat
def tw16750769843205078859:=Nat
def tw1254904116827887562:=Nat
def tw11549430886942036722:=Nat
def tw11165186934038887030:=Nat
def tw13406464446923985805:=Nat
def tw11986500206036084505:=Nat
def tw11438229612911000558:=Nat
def tw2853241935775753447:=Nat
def tw12068163906427130497:=Nat
def tw12991882859486830598:=Nat
def tw13147761284188417901:=Nat
def tw5759198523092816852:=Nat
def tw6234115761346705937:=Nat
def tw12171238993483045867:=Nat
def tw16124170905053289693:=Nat
def tw17700905934524443795:=Nat
def tw9748716284276315525:=Nat
def tw8303698509884115958:=Nat
def tw5035933516109653127:=Nat
def tw11285639299455117308:=Nat
def tw11431601422505329123:=Nat
def tw14266791165248417141:=Nat
def tw14376347890337420249:=Nat
def tw9261514381987097334:=Nat
def tw13350429654567779122:=Nat
def tw11523341549664277722:=Nat
def tw10834698488303852011:=Nat
def tw17988040334674097351:=Nat
def tw4801633823750169775:=Nat
def tw6795992256834384240:=Nat
def tw2781693559282536230:=Nat
def tw11775578791946051942:=Nat
def tw6870843714792225562:=Nat
def tw6932547591605982530:=Nat
def tw10767463257531068153:=Nat
def tw10058874159586023703:=Nat
def tw68480950703694403:=Nat
def tw5675784284157265933:=Nat
def tw9221637611704530291:=Nat
def tw14814757715900336639:=Nat
def tw14787709819769601205:=Nat
def tw6929688858966381473:=Nat
def tw15773483423326712166:=Nat
def tw10185717226201409699:=Nat
def tw4925640371393406196:=Nat
def tw12913302466346706565:=Nat
def tw8534050894148549362:=Nat
def tw3294199418638149460:=Nat
def tw6512421238445991684:=Nat
def tw7847481094852305500:=Nat
def tw14259562411399178622:=Nat
def tw16108125326832301435:=Nat
def tw4824955854986785176:=Nat
def tw12348125183214006472:=Nat
def tw11684709959771377503:=Nat
def tw14097317659681806491:=Nat
def tw13483951438035748203:=Nat
def tw13994758988582575430:=Nat
def tw11526882050903301527:=Nat
def tw809413133126583177:=Nat
def tw15719194670824794643:=Nat
def tw8011881407618107505:=Nat
def tw6271423471527039639:=Nat
def tw2158299311713597301:=Nat
def tw11492444507557825974:=Nat
def tw8887032190535800183:=Nat
def tw17091816565024293244:=Nat
def tw2450686200006301793:=Nat
def tw11853781813021542559:=Nat
def tw7296379673971040855:=Nat
def tw3614374506415595449:=Nat
def tw10377516172454270801:=Nat
def tw3733573070051809283:=Nat
def tw7006622861134890402:=Nat
def tw4568749342658341876:=Nat
def tw5256900053774069150:=Nat
def tw10200752025269755656:=Nat
def tw12631695795432346421:=Nat
def tw11713602242762524327:=Nat
def tw17023508081602763857:=Nat
def tw2355998443085801815:=Nat
def tw5939952750497376643:=Nat
def tw2741546886396526951:=Nat
def tw6920318357396082948:=Nat
def tw9733609262547896500:=Nat
def tw1953128235186295394:=Nat
def tw1832568849009664667:=Nat
def tw7120357106617846213:=Nat
def tw6460554001024727014:=Nat
def tw8161395549427976190:=Nat
def tw2084262751591078500:=Nat
def tw6417447789735264496:=Nat
def tw4889768003773096492:=Nat
def tw2107460045449943665:=Nat
def tw17193523547061580811:=Nat
def tw8613731824938752640:=Nat
def tw9416247624656222497:=Nat
def tw1206138956690514828:=Nat
def tw16613654898182913834:=Nat
def tw12117307046891156525:=Nat
def tw9198228761113623214:=Nat
def tw14606411262976153586:=Nat
def tw2936823486703081341:=Nat
def tw6981578418709831178:=Nat
def tw4057299323105744105:=Nat
def tw4153426493572968228:=Nat
def tw17157854359068078641:=Nat
def tw10250684629332913487:=Nat
def tw16154967680562346737:=Nat
def tw6096071386326964105:=Nat
def tw17148799072481227269:=Nat
def tw13582373390123630533:=Nat
def tw12929326674433989577:=Nat
def tw17427590844623476170:=Nat
def tw6749246006214544560:=Nat
def tw4548616382969115025:=Nat
def tw12225934039907421779:=Nat
def tw7079746359471233745:=Nat
def tw8776928961502608384:=Nat
def tw15729667923178130124:=Nat
def tw5423862149893913485:=Nat
def tw11278564157598849013:=Nat
def tw16010570953305626834:=Nat
def tw9712952001034081370:=Nat
def tw1612516505006475770:=Nat
def tw7861954294601367340:=Nat
def tw13756188379159282368:=Nat
def tw12979567446656614990:=Nat
def tw16735953782589564647:=Nat
def tw18219343155703146050:=Nat
def tw5734277399562958644:=Nat
def tw10554319197301590875:=Nat
def tw1056660588532311868:=Nat
def tw7067687921594681486:=Nat
def tw5540982483338596129:=Nat
def tw11934060992253518463:=Nat
def tw18231619598378919500:=Nat
def tw1964239058144154598:=Nat
def tw7768051851727209755:=Nat
def tw8835255667765097008:=Nat
def tw15052706378126325185:=Nat
def tw8834928521072323213:=Nat
def tw1285088853077756554:=Nat
def tw1629717852927086841:=Nat
def tw3394124522747572856:=Nat
def tw12619910004141399486:=Nat
def tw10552101842237287198:=Nat
def tw9486909034603741996:=Nat
def tw11317209109752969382:=Nat
def tw17065578738503239192:=Nat
def tw6830873354357557003:=Nat
def tw3560112601220495666:=Nat
def tw6288810004684862401:=Nat
def tw2720258265963497620:=Nat
def tw9304108755762582507:=Nat
def tw2686247929178930972:=Nat
def tw10765120543491254074:=Nat
def tw14538051143207201884:=Nat
def tw6196414690600106128:=Nat
def tw3427574030584562132:=Nat
def tw1696954475971083683:=Nat
def tw17405047629625980687:=Nat
def tw17444316903700087906:=Nat
def tw17742856417792556572:=Nat
def tw14119145770301938211:=Nat
def tw8926770309066410679:=Nat
def tw12576575823968820282:=Nat
end PySem.W.Fast
open PySem PySem.W PyProof.Rows
set_option maxRecDepth 100000 in
set_option maxHeartbeats 0 in
theorem PySem.Challenge.cw_voucherstack_k53_whole_what_holds_is_bes_holds : PySem.Challenge.rw_voucherstack_k53_whole_what_holds_is_bes.Holds := by
 w_on;o_law;k_head;(case hw=>w_witness2)
 k_fill
 refine L2.walkT_of (l:=PySem.Challenge.rw_voucherstack_k53_whole_what_holds_is_bes) (k:=12) (x:="_law_script") rfl rfl ⟨rfl,by decide,by decide⟩ (fun w h Y=>PySem.W.km_in_of Y) (fun w h Y=>PySem.W.km_tabs_of Y) ?F
 case F=>
  intro w mg fa h KX G hmg
  refine' Vs.all_mk KX G hmg ?Jt ?Jo ?UN ?Jn ?Ju ?Jh ?Js ?Jq ?UF ?UO ?UK ?Jc ?UP ?afalling_groups ?lfalling_groups ?cfalling_groups ?kfalling_groups ?UR ?Ji ?UX ?Jl ?Jr ?Jm ?UY ?U6 ?U1 ?UL ?U0 ?U4 ?Jp ?Jd ?UI ?UQ ?UG ?U3 ?Jj ?U2 ?U8 ?U7 ?UZ ?UJ ?UH ?Ja ?UV ?UU ?Jf ?U9 ?Je ?Jb ?alaw ?llaw ?claw ?klaw ?aMarks ?imMarks ?isMarks ?iyMarks ?inX ?itX ?pgMarks ?hdMarks ?poMarks ?saMarks ?mkMarks ?kcMarks ?iaMarks ?nMarks_kind ?nMarks_needs ?nMarks_most ?nMarks_member ?nMarks_once ?nMarks_lone ?hMarks_init ?iMarks_init ?lMarks_init ?cMarks_init ?kMarks_init ?tMarks_init ?aVoucher ?imVoucher ?isVoucher ?iyVoucher ?pgVoucher ?hdVoucher ?poVoucher ?saVoucher ?mkVoucher ?kcVoucher ?iaVoucher ?hVoucher_init ?iVoucher_init ?lVoucher_init ?cVoucher_init ?kVoucher_init ?tVoucher_init ?aOff ?imOff ?isOff ?iyOff ?pgOff ?hdOff ?poOff ?saOff ?mkOff ?kcOff ?iaOff ?nOff_amount ?nOff_marks ?hOff_init ?iOff_init ?lOff_init ?cOff_init ?kOff_init ?tOff_init ?aShare ?imShare ?isShare ?iyShare ?pgShare ?hdShare ?poShare ?saShare ?mkShare ?kcShare ?iaShare ?nShare_share ?nShare_by_line ?nShare_marks ?hShare_init ?iShare_init ?lShare_init ?cShare_init ?kShare_init ?tShare_init ?aCheapest ?imCheapest ?isCheapest ?iyCheapest ?pgCheapest ?hdCheapest ?poCheapest ?saCheapest ?mkCheapest ?kcCheapest ?iaCheapest ?nCheapest_many ?nCheapest_marks ?hCheapest_init ?iCheapest_init ?lCheapest_init ?cCheapest_init ?kCheapest_init ?tCheapest_init ?aBundle ?imBundle ?isBundle ?iyBundle ?pgBundle ?hdBundle ?poBundle ?saBundle ?mkBundle ?kcBundle ?iaBundle ?nBundle_many ?nBundle_price ?nBundle_marks ?hBundle_init ?iBundle_init ?lBundle_init ?cBundle_init ?kBundle_init ?tBundle_init ?aCarriage ?imCarriage ?isCarriage ?iyCarriage ?pgCarriage ?hdCarriage ?poCarriage ?saCarriage ?mkCarriage ?kcCarriage ?iaCarriage ?nCarriage_marks ?hCarriage_init ?iCarriage_init ?lCarriage_init ?cCarriage_init ?kCarriage_init ?tCarriage_init ?aLine ?imLine ?isLine ?iyLine ?pgLine ?hdLine ?poLine ?saLine ?mkLine ?kcLine ?iaLine ?nLine_kind ?nLine_price ?nLine_many ?nLine_special ?hLine_init ?iLine_init ?lLine_init ?cLine_init ?kLine_init ?tLine_init ?aBasket ?imBasket ?isBasket ?iyBasket ?pgBasket ?hdBasket ?poBasket ?saBasket ?mkBasket ?kcBasket ?iaBasket ?nBasket_lines ?nBasket_carriage ?nBasket_member ?hBasket_init ?iBasket_init ?lBasket_init ?cBasket_init ?kBasket_init ?tBasket_init ?aStanding ?imStanding ?isStanding ?iyStanding ?pgStanding ?hdStanding ?poStanding ?saStanding ?mkStanding ?kcStanding ?iaStanding ?nStanding_owners ?nStanding_prices ?nStanding_carriage ?nStanding_marked ?UT ?UM ?aWay ?imWay ?isWay ?iyWay ?pgWay ?hdWay ?poWay ?saWay ?mkWay ?kcWay ?iaWay ?nWay_till ?nWay_basket ?nWay_hand ?nWay_used ?nWay_standing ?Jk ?U5 ?Jg ?UW ?US ?aTill ?imTill ?isTill ?iyTill ?pgTill ?hdTill ?poTill ?saTill ?mkTill ?kcTill ?iaTill ?nTill_parents ?nTill_vouchers ?nTill_rules ?nTill_back ?hTill_init ?iTill_init ?lTill_init ?cTill_init ?kTill_init ?tTill_init ?rdVoucher_init ?gaVoucher_init ?fcVoucher_init ?qShare_Off ?qCheapest_Off ?qBundle_Off ?qCarriage_Off ?qOff_Share ?qCheapest_Share ?qBundle_Share ?qCarriage_Share ?qOff_Cheapest ?qShare_Cheapest ?qBundle_Cheapest ?qCarriage_Cheapest ?qOff_Bundle ?qShare_Bundle ?qCheapest_Bundle ?qCarriage_Bundle ?qOff_Carriage ?qShare_Carriage ?qCheapest_Carriage ?qBundle_Carriage ?qafalling_groups ?qbfalling_groups ?qcfalling_groups ?qdfalling_groups ?qefalling_groups ?qffalling_groups ?qgfalling_groups ?qhfalling_groups ?qifalling_groups ?qjfalling_groups ?qkfalling_groups ?qlfalling_groups ?z1 ?z2 ?z3 ?z4 ?z5 ?z6 ?z7 ?z8 ?z9 ?z10 ?z11 ?z12 ?z13 ?z14 ?z15 ?z16 ?z17 ?z18
  any_goals k_is
  exists Jt,Vs.nL2 fun _ _=>rfl,0,0,0
  exists Jo,Vs.nL3 fun _ _ _=>rfl,0,0,0
  exists UN,Vs.nL2 fun _ _=>rfl,0,0,0
  exists Jn,Vs.nL4 fun _ _ _ _=>rfl,0,0,0
  exists Ju,Vs.nL4 fun _ _ _ _=>rfl,0,0,0
  exists Jh,Vs.nL4 fun _ _ _ _=>rfl,0,0,0
  exists Js,Vs.nL4 fun _ _ _ _=>rfl,0,0,0
  exists Jq,Vs.nL4 fun _ _ _ _=>rfl,0,0,0
  exists UF,Vs.nL3 fun _ _ _=>rfl,0,0,0
  exists UO,Vs.nL4 fun _ _ _ _=>rfl,0,0,0
  exists UK,Vs.nL2 fun _ _=>rfl,0,0,0
  exists Jc,Vs.nL3 fun _ _ _=>rfl,0,0,0
  exists UP,Vs.nL2 fun _ _=>rfl,0,0,0
  exists UR,Vs.nL3 fun _ _ _=>rfl,0,0,0
  exists Ji,Vs.nL2 fun _ _=>rfl,0,0,0
  exists UX,Vs.nL2 fun _ _=>rfl,0,0,0
  exists Jl,Vs.nL2 fun _ _=>rfl,0,0,0
  exists Jr,Vs.nL4 fun _ _ _ _=>rfl,0,0,0
  exists Jm,Vs.nL4 fun _ _ _ _=>rfl,0,0,0
  exists UY,Vs.nL4 fun _ _ _ _=>rfl,0,0,0
  exists U6,Vs.nL3 fun _ _ _=>rfl,0,0,0
  exists U1,Vs.nL3 fun _ _ _=>rfl,0,0,0
  exists UL,Vs.nL2 fun _ _=>rfl,0,0,0
  exists U0,Vs.nL1 fun _=>rfl,0,0,0
  exists U4,Vs.nL2 fun _ _=>rfl,0,0,0
  exists Jp,Vs.nL6 fun _ _ _ _ _ _=>rfl,0,0,0
  exists Jd,Vs.nL2 fun _ _=>rfl,0,0,0
  exists UI,Vs.nL3 fun _ _ _=>rfl,0,0,0
  exists UQ,Vs.nL2 fun _ _=>rfl,0,0,0
  exists UG,Vs.nL1 fun _=>rfl,0,0,0
  exists U3,Vs.nL2 fun _ _=>rfl,0,0,0
  exists Jj,Vs.nL3 fun _ _ _=>rfl,0,0,0
  exists U2,Vs.nL1 fun _=>rfl,0,0,0
  exists U8,Vs.nL2 fun _ _=>rfl,0,0,0
  exists U7,Vs.nL4 fun _ _ _ _=>rfl,0,0,0
  exists UZ,Vs.nL3 fun _ _ _=>rfl,0,0,0
  exists UJ,Vs.nL3 fun _ _ _=>rfl,0,0,0
  exists UH,Vs.nL1 fun _=>rfl,0,0,0
  exists Ja,Vs.nL4 fun _ _ _ _=>rfl,0,0,0
  exists UV,Vs.nL3 fun _ _ _=>rfl,0,0,0
  exists UU,Vs.nL3 fun _ _ _=>rfl,0,0,0
  exists Jf,Vs.nL4 fun _ _ _ _=>rfl,0,0,0
  exists U9,Vs.nL4 fun _ _ _ _=>rfl,0,0,0
  exists Je,Vs.nL3 fun _ _ _=>rfl,0,0,0
  exists Jb,Vs.nL3 fun _ _ _=>rfl,0,0,0
  (case UT=>refine' Vs.mt_mk ?_ ?_ ?_ ?_ ?_ (fun _ _ _ _ _ _=>Vs.nL2 fun _ _=>rfl);any_goals k_is)
  (case UM=>refine' Vs.mt_mk ?_ ?_ ?_ ?_ ?_ (fun _ _ _ _ _ _=>Vs.nL1 fun _=>rfl);any_goals k_is)
  (case Jk=>refine' Vs.mt_mk ?_ ?_ ?_ ?_ ?_ (fun _ _ _ _ _ _=>Vs.nL4 fun _ _ _ _=>rfl);any_goals k_is)
  (case U5=>refine' Vs.mt_mk ?_ ?_ ?_ ?_ ?_ (fun _ _ _ _ _ _=>Vs.nL2 fun _ _=>rfl);any_goals k_is)
  (case Jg=>refine' Vs.mt_mk ?_ ?_ ?_ ?_ ?_ (fun _ _ _ _ _ _=>Vs.nL2 fun _ _=>rfl);any_goals k_is)
  (case UW=>refine' Vs.mt_mk ?_ ?_ ?_ ?_ ?_ (fun _ _ _ _ _ _=>Vs.nL1 fun _=>rfl);any_goals k_is)
  (case US=>refine' Vs.mt_mk ?_ ?_ ?_ ?_ ?_ (fun _ _ _ _ _ _=>Vs.nL1 fun _=>rfl);any_goals k_is)
  (try case qafalling_groups=>first|rfl|decide|k_is)
  (try case qbfalling_groups=>k_is)
  (try case qcfalling_groups=>first|rfl|decide|k_is)
  (try case qdfalling_groups=>first|rfl|decide|k_is)
  (try case qefalling_groups=>first|rfl|decide|k_is)
  (try case qffalling_groups=>first|rfl|decide|k_is)
  (try case qgfalling_groups=>first|rfl|decide|k_is)
  (try case qhfalling_groups=>first|rfl|decide|k_is)
  (try case qifalling_groups=>first|rfl|decide|k_is)
  (try case qjfalling_groups=>first|rfl|decide|k_is)
  (try case qkfalling_groups=>first|k_is|rfl|decide|cutsat)
  (try case qlfalling_groups=>decide)
