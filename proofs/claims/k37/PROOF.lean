import PyProof.Rows.All
import Wide.All
import OpenK.AllK
import Wide.FinOn
import Lean
import PyProof.EqAt
import PyProof.EqKinds
import PyProof.TupleCall
import PySem.Challenge.RW_voucherstack_k37_paid_and_paid_back
set_option Elab.async false
set_option linter.all false
set_option maxRecDepth 100000
open Array renaming length_toList → MP, size_zip → Eo, getElem?_eq_getElem → ES, getElem?_toList → Da
open Bool renaming false_ne_true → Nu, false_eq_true → Md, and_eq_true → MF, eq_iff_iff → Ef, false_and → EE, or_eq_true → EO
open List renaming length_map → Nh, replicate → Nl, map_append → Np, range → Nq, mem_of_getElem? → Nt, getElem?_map → Nv, length_append → Nx, length_take → Ny, getElem?_eq_some_iff → Nz, map_cons → NC, mem_cons_of_mem → NF, getD_eq_getElem?_getD → NH, mem_cons → NI, mem_map → NJ, size_toArray → NK, mem_cons_self → NL, map_map → NM, length_cons → NQ, flatten_cons → NR, take_length → NS, zipWith → NT, mem_append → NU, mem_append_right → NV, lookup_cons → N5, Perm → N8, sum_cons → N9, append_assoc → Mb, mem_filter → Mc, map_congr_left → Me, take_of_length_le → Mf, sum_append → Mg, lookup → Mh, length_replicate → Mi, not_mem_nil → Mj, nodup_cons → Mp, replicate_succ → Mq, mem_iff_getElem? → Mr, getElem?_eq_getElem → Mv, mem_singleton → Mw, range_succ → Mx, take_add_one → Mz, ext_getElem → MA, mem_flatten → MB, length_nil → MC, of_mem_zip → ME, map_take → MH, any_cons → MJ, pairwise_iff_getElem → MK, length_zipWith → ML, mem_of_mem_take → MM, getElem?_set_self → MN, getElem?_set_ne → MO, append_nil → MQ, getElem?_append_right → MR, length_set → MS, Pairwise → MT, drop_zero → MU, getElem_map → MV, length_filter_le → MW, pairwise_cons → MX, getElem?_zipWith → MY, filter_append → MZ, length → M1, getElem?_append_left → M3, length_drop → M4, nil_append → M5, all_eq_true → M6, find?_cons → M7, count_cons → M9, getElem_range → Ea, getElem?_range → Eb, map_drop → Ec, filter_cons → Ed, sum_nil → Ee, map_nil → Ej, all_cons → Ek, reverse_cons → El, drop_of_length_le → Em, cons_append → Er, flatten_append → Et, zipIdx_cons → Eu, nodup_range → Ew, take_append_drop → Ex, mem_of_mem_drop → Ey, getElem?_take → Ez, getElem?_eq_none_iff → EA, filterMap_cons → EC, mem_append_left → ED, getElem?_replicate → EK, length_singleton → EM, length_dropLast → EN, nodup_nil → ER, getElem_set → ET, pairwise_lt_range → EU, getElem?_eq_none → EV, take_add → EW, nodup_append → EX, pairwise_map → EY, getLastD_eq_getLast? → EZ, replicate_succ' → E1, map_set → E2, drop_eq_getElem_cons → E3, drop_length → E4, perm_middle → E5, perm_append_comm → E6, getElem?_take_of_lt → E9, take_eq_take_iff → Dc, getElem_cons_drop → Dg, sublist_append_left → Dh, getLast?_eq_some_getLast → Dj
open Nat renaming le_refl → Nj, le_trans → Nm, le_of_lt → Nw, lt_of_lt_of_le → NN, ne_of_lt → NP, zero_le → N6, ne_of_gt → Mn, lt_irrefl → Ms, lt_of_le_of_lt → Mt, min_self → Mu, min_eq_left → MG, le_succ → MI, zero_add → M8, le_of_eq → Eh, lt_succ_self → EH
open Option renaming map_some → En, getD_none → EL
open PySem.F renaming plainAttrs_list → N1, slot_list_append → Ml, type_list_append → Mm, slot_dict_setdefault → Dd, plainAttrs_dict → De, slot_dict_values → Df, slot_list_extend → Dk, type_list_extend → Dl, slot_list_count → Dm, type_list_count → Do
open PySem.W renaming Frag → Ni, findIn → Nk, mroIn → Nr, fnOf → NA, keepIn → NB, nsIn → ND, kitOne → NG, mg_of → NO, plainGet → NW, typeIn → NY, codeIn → NZ, mg_none_of → N2, hasDictIn → N3, makesIn → N4, plainOver → N7, isFn → Ma, kia_one → Mo, emptyDict → My, instObj → MD, specialIn → M0, lookIn → Eg, callWith_K → Ei, kla_obj → Ep, tabObj → Es, methodObj → EB, plainGet_of → EF, takerIn → EG, takesIn → EI, methodCall_KW → EJ, callWith_K0 → E7, cellsFrom_some → E8
namespace L2
open PySem PySem.Spec PyProof.Rows
noncomputable abbrev Key:=Sum Int Str
noncomputable def keyIs:Key→Value→Bool
 | .inl k,v=>Value.isInt k v
 | .inr x,v=>Value.isStrOf x v
noncomputable def keyH(w:World):Key→Int
 | .inl k=>hashInt k
 | .inr x=>hashStr w x
theorem ka8:∀{k:Key} {v:Value},keyIs k v=true→(∃i t,k=Sum.inl i∧v=Value.int i t)∨(∃x t,k=Sum.inr x∧v=Value.str x t)
 | .inl i,v,h=>by
  obtain⟨t,e⟩:=Value.isInt_shape (k:=i) (v:=v) h
  exact .inl ⟨i,t,rfl,e⟩
 | .inr x,v,h=>by
  obtain⟨t,e⟩:=Value.isStrOf_shape (x:=x) (v:=v) h
  exact .inr ⟨x,t,rfl,e⟩
theorem kjF(i:Int)(t:Tok):keyIs (.inl i) (.int i t)=true:=by simp[keyIs,Value.isInt]
theorem kmr(a b:Int):decide ((Sum.inl a:Key)=Sum.inl b)=(a==b):=by
 by_cases e:a=b
 ·subst e;simp
 ·have h:¬(Sum.inl a:Key)=Sum.inl b:=fun q=>e (Sum.inl.inj q)
  rw[decide_eq_false h]
  exact(beq_eq_false_iff_ne.mpr e).symm
theorem kmo(a b:Str):decide ((Sum.inr a:Key)=Sum.inr b)=decide (a=b):=by
 by_cases e:a=b
 ·subst e;simp
 ·have h:¬(Sum.inr a:Key)=Sum.inr b:=fun q=>e (Sum.inr.inj q)
  rw[decide_eq_false h,decide_eq_false e]
theorem kmq(a:Int)(b:Str):decide ((Sum.inl a:Key)=Sum.inr b)=false:=decide_eq_false (fun q=>nomatch q)
theorem kmp(a:Str)(b:Int):decide ((Sum.inr a:Key)=Sum.inl b)=false:=decide_eq_false (fun q=>nomatch q)
noncomputable def kdr(prog:Program)(w:World):PySem.KeyKind prog w Key where
 is:=keyIs
 hash:=keyH w
 inj:=fun v a b ha hb=>by
  rcases ka8 ha with⟨i,t,rfl,rfl⟩|⟨x,t,rfl,rfl⟩
  ·rcases ka8 hb with⟨j,u,rfl,e⟩|⟨y,u,rfl,e⟩
   ·injection e with e1 _;rw[e1]
   ·exact nomatch e
  ·rcases ka8 hb with⟨j,u,rfl,e⟩|⟨y,u,rfl,e⟩
   ·exact nomatch e
   ·injection e with e1 _;rw[e1]
 byValue:=fun k v h=>by
  rcases ka8 h with⟨i,t,rfl,rfl⟩|⟨x,t,rfl,rfl⟩ <;> rfl
 pyHash:=fun hv h=>by
  rcases ka8 hv with⟨i,t,rfl,rfl⟩|⟨x,t,rfl,rfl⟩
  ·exact wpAny_pyHash_int h
  ·exact wpAny_pyHash_str h
 eqBool:=fun hu hv h=>by
  rcases ka8 hu with⟨i,t,rfl,rfl⟩|⟨x,t,rfl,rfl⟩
  ·rcases ka8 hv with⟨j,u,rfl,rfl⟩|⟨y,u,rfl,rfl⟩
   ·rw[kmr] at h;exact wpAny_eqBool_int h
   ·rw[kmq] at h;exact SeqAt.EqAt.int_str i t y u _ _ _ _ h
  ·rcases ka8 hv with⟨j,u,rfl,rfl⟩|⟨y,u,rfl,rfl⟩
   ·rw[kmp] at h;exact SeqAt.EqAt.str_int x t j u _ _ _ _ h
   ·rw[kmo] at h;exact wpAny_eqBool_str h
 «strs» :=fun k x t v h=>by
  rcases ka8 h with⟨i,u,rfl,e⟩|⟨y,u,rfl,e⟩
  ·exact nomatch e
  ·injection e with e1 _
   subst e1
   cases v <;> rfl
theorem khb(prog:Program)(w:World)(i:Int)(t:Tok):(kdr prog w).is (.inl i) (.int i t)=true:=kjF i t
end L2
namespace L2
open PySem PySem.Spec PyProof.Rows
inductive V where
 |non|bl (b:Bool)|int (i:Int)|str (x:Str)|byt (b:Array UInt8)|flt (b:UInt64)|ref (a:Addr)|ty (n:String)
 deriving DecidableEq
noncomputable def RelV:V→Value→Prop
 | .non,u=>u=Value.none
 | .bl b,u=>u=Value.bool b
 | .int i,u=>∃t,u=Value.int i t
 | .str x,u=>∃t,u=Value.str x t
 | .byt b,u=>∃t,u=Value.bytes b t
 | .flt b,u=>∃t,u=Value.float b t
 | .ref a,u=>u=Value.ref a
 | .ty n,u=>u=Value.type n
noncomputable abbrev Vals:List V→List Value→Prop:=Paired RelV
theorem Vals.length{xs:List V}{us:List Value}(r:Vals xs us):xs.length=us.length:=Paired.length r
theorem Vals.get:∀{xs:List V} {us:List Value} {i:Nat} {x:V},Vals xs us→xs[i]?=some x→∃u,us[i]?=some u∧RelV x u
 |_,_,_,_, .nil,e=>by simp at e
 |_,_,0,_, .cons r _,e=>by simp at e;subst e;exact⟨_,rfl,r⟩
 |_,_,i+1,x, .cons _ t,e=>by
  obtain⟨u,h1,h2⟩:=Vals.get (i:=i) (x:=x) t (by simpa using e)
  exact⟨u,by simpa using h1,h2⟩
theorem Vals.set{x:V}{u:Value}(r:RelV x u):∀{xs:List V} {us:List Value} (i:Nat),Vals xs us→Vals (xs.set i x) (us.set i u)
 |_,_,_, .nil=>.nil
 |_,_,0, .cons _ t=>.cons r t
 |_,_,i+1, .cons q t=>.cons q (Vals.set r i t)
theorem Vals.append:∀{xs ys:List V} {us ws:List Value},Vals xs us→Vals ys ws→Vals (xs++ys) (us++ws)
 |_,_,_,_, .nil,s=>s
 |_,_,_,_, .cons r t,s=>.cons r (Vals.append t s)
theorem Vals.take:∀{xs:List V} {us:List Value} (n:Nat),Vals xs us→Vals (xs.take n) (us.take n)
 |_,_,0,_=>.nil
 |_,_,_+1, .nil=>.nil
 |_,_,n+1, .cons r t=>.cons r (Vals.take n t)
theorem Vals.drop:∀{xs:List V} {us:List Value} (n:Nat),Vals xs us→Vals (xs.drop n) (us.drop n)
 |_,_,0,r=>r
 |_,_,_+1, .nil=>.nil
 |_,_,n+1, .cons _ t=>Vals.drop n t
theorem Vals.none_of:∀{xs:List V} {us:List Value} {i:Nat},Vals xs us→xs[i]?=none→us[i]?=none:=fun {xs us i} r e=>by
 have h1:=r.length
 have h2:xs.length≤i:=EA.mp e
 exact EA.mpr (by omega)
noncomputable def RelO:Option V→Option Value→Prop
 |some v,some u=>RelV v u
 |none,none=>True
 |_,_=>False
noncomputable def KV{κ:Type}:List (κ×V)→List (κ×Value)→Prop:=Paired fun(p: κ×V) (q: κ×Value)=>p.1=q.1∧RelV p.2 q.2
noncomputable def kV:Key→V
 | .inl i=>.int i
 | .inr x=>.str x
inductive HO where
 |lst (xs:List V)
 |tup (xs:List V)
 |dK (kvs:List (Key×V))|dT (kvs:List (List Key×V))
 |set (S:Int→Bool) (n:Nat)
 |ins (C dx:Addr) (fs:List (Str×V))
 |own (x:Addr)
 |xd (fs:List (Str×V))
 |met (f x:Addr)
 |rng (lo hi:Int)
 |frz (o:Obj) (u:HO)
 |tbl (ps:Array Value)
 |ext (φ:Heap→Prop)
noncomputable abbrev Hp:=Addr→Option HO
noncomputable def upd(H:Hp)(a:Addr)(o:HO):Hp:=fun b=>if b=a then some o else H b
theorem kad{H:Hp}{a:Addr}{o:HO}:upd H a o a=some o:=by unfold upd;rw[if_pos rfl]
theorem kam{H:Hp}{a b:Addr}{o:HO}(h:b≠a):upd H a o b=H b:=by unfold upd;rw[if_neg h]
theorem klv{H:Hp}{a:Addr}{o u:HO}:upd (upd H a o) a u=upd H a u:=by
 funext b;unfold upd;split <;> rfl
theorem ne_of{H:Hp}{a b:Addr}{o u:HO}(h:H a=some o)(h':H b=some u)(d:o≠u):a≠b:=by
 intro e;subst e;rw[h] at h';exact d (Option.some.inj h')
theorem kaj{H:Hp}{a b:Addr}{o:HO}(h:H a=some o)(h':H b=none):a≠b:=by
 intro e;subst e;rw[h] at h';cases h'
section
variable (P:Program) (w:World)
noncomputable def ObjOk(H:Hp)(h:Heap)(a:Addr):HO→Prop
 | .lst xs=>xs.length≤sizeLine∧∃(its:List Value) (n:Nat),Vals xs its∧h.get? a=some {cls:=.type "list",data:=.seq its.toArray n}
 | .tup xs=>xs.length≤sizeLine∧∃its:List Value,Vals xs its∧IsTup h a its.toArray
 | .dK kvs=>kvs.length≤sizeLine∧(a==sysModules)=false∧∃vs,KV kvs vs∧h.DictOf (kdr P w) a vs
 | .dT kvs=>kvs.length≤sizeLine∧(a==sysModules)=false∧∃xs:List (List Key×Addr×Value),
   Paired (fun(p:List Key×V) (q:List Key×Addr×Value)=>p.1=q.1∧H q.2.1=some (.tup (p.1.map kV))∧RelV p.2 q.2.2) kvs xs∧
   ∃o es ep,h.get? a=some o∧o.ExactDict∧o.data=.dict es ep∧es.toList=xs.map (entryOfKey (tupleKind (kdr P w)))∧(xs.map (·.1)).Nodup
 | .set S n=>h.SetOf (intKind P w) a S n
 | .ins C dx fs=>H dx=some (.own a)∧fs.length≤1000∧dx≠a∧h.get? a=some (MD C dx)∧
   ∃mA,h.Ns1 dx mA∧(∀f,RelO (fs.lookup f) (mA f))∧PySem.Within mA (fs.map (·.1))
 | .own _=>∃o,h.get? a=some o
 | .xd fs=>∃mA,h.Ns1 a mA∧∀f,RelO (fs.lookup f) (mA f)
 | .rng lo hi=>∃t u v,h.get? a=some {cls:=.type "range",data:=.fields #[.int lo t, .int hi u, .int 1 v]}
 | .frz o u=>h.get? a=some o∧ObjOk H h a u
 | .tbl ps=>h.get? a=some {cls:=.none,data:=.fields ps}
 | .met f x=>h.get? a=some (EB (.ref f) (.ref x))
 | .ext φ=>φ h∧(∃o,h.get? a=some o)∧∀h1 h2:Heap,φ h1→(∀o,h1.get? a=some o→h2.get? a=some o)→φ h2
noncomputable def HOk(H:Hp)(h:Heap):Prop:=∀a o,H a=some o→ObjOk P w H h a o
end
section
variable {P:Program} {w:World} {H H':Hp} {h h':Heap} {a:Addr} {o:HO}
theorem ObjOk.lt(x:ObjOk P w H h a o):a<h.objs.size:=by
 cases o with
 |lst xs=>obtain⟨_,_,_,_,e⟩:=x;exact Heap.lt_size e
 |tup xs=>obtain⟨_,_,_,p⟩:=x;exact p.lt
 |dK kvs=>obtain⟨_,_,_,_,o,_,_,e,_⟩:=x;exact Heap.lt_size e
 |dT kvs=>obtain⟨_,_,_,_,o,_,_,e,_⟩:=x;exact Heap.lt_size e
 |set S n=>obtain⟨o,_,_,_,e,_⟩:=x;exact Heap.lt_size e
 |ins C dx fs=>obtain⟨_,_,_,e,_⟩:=x;exact Heap.lt_size e
 |own y=>obtain⟨_,e⟩:=x;exact Heap.lt_size e
 |xd fs=>obtain⟨_,⟨_,_,_,e,_⟩,_⟩:=x;exact Heap.lt_size e
 |rng lo hi=>obtain⟨_,_,_,e⟩:=x;exact Heap.lt_size e
 |frz ob u=>obtain⟨e,_⟩:=x;exact Heap.lt_size e
 |tbl ps=>exact Heap.lt_size (show h.get? a=some _ from x)
 |met f y=>exact Heap.lt_size (show h.get? a=some _ from x)
 |ext φ=>obtain⟨_,⟨_,e⟩,_⟩:=x;exact Heap.lt_size e
theorem Paired.mapP{α β:Type}{F G: α→β→Prop}:∀{l₁:List α} {l₂:List β},Paired F l₁ l₂→(∀a b,F a b→G a b)→Paired G l₁ l₂
 |_,_, .nil,_=>.nil
 |_,_, .cons r t,f=>.cons (f _ _ r) (Paired.mapP t f)
theorem ObjOk.stay(x:ObjOk P w H h a o)(k:∀b u,(b=a∨H b=some (.own a))→h.get? b=some u→h'.get? b=some u)
  (ho:∀b,H b=some (.own a)→H' b=some (.own a)) (ht:∀b xs,H b=some (.tup xs)→H' b=some (.tup xs)):ObjOk P w H' h' a o:=by
 induction o with
 |lst xs=>obtain⟨z,its,n,r,e⟩:=x;exact⟨z,its,n,r,k _ _ (.inl rfl) e⟩
 |tup xs=>obtain⟨z,its,r,ob,e,c⟩:=x;exact⟨z,its,r,ob,k _ _ (.inl rfl) e,c⟩
 |dK kvs=>obtain⟨z,y,vs,r,ob,es,ep,e,c⟩:=x;exact⟨z,y,vs,r,ob,es,ep,k _ _ (.inl rfl) e,c⟩
 |dT kvs=>
  obtain⟨z,y,xs,r,ob,es,ep,e,c⟩:=x
  exact⟨z,y,xs,Paired.mapP r fun p q z=>⟨z.1,ht _ _ z.2.1,z.2.2⟩,ob,es,ep,k _ _ (.inl rfl) e,c⟩
 |set S n=>obtain⟨ob,es,ep,t,e,c⟩:=x;exact⟨ob,es,ep,t,k _ _ (.inl rfl) e,c⟩
 |ins C dx fs=>
  obtain⟨d,z,ne,e,mA,⟨od,es,ep,e2,c⟩,r⟩:=x
  exact⟨ho _ d,z,ne,k _ _ (.inl rfl) e,mA,⟨od,es,ep,k _ _ (.inr d) e2,c⟩,r⟩
 |own y=>obtain⟨ob,e⟩:=x;exact⟨ob,k _ _ (.inl rfl) e⟩
 |xd fs=>obtain⟨mA,⟨od,es,ep,e,c⟩,r⟩:=x;exact⟨mA,⟨od,es,ep,k _ _ (.inl rfl) e,c⟩,r⟩
 |rng lo hi=>obtain⟨t,u,v,e⟩:=x;exact⟨t,u,v,k _ _ (.inl rfl) e⟩
 |frz ob u ih=>obtain⟨e,q⟩:=x;exact⟨k _ _ (.inl rfl) e,ih q⟩
 |tbl ps=>
  have e:h.get? a=some {cls:=.none,data:=.fields ps}:=x
  show h'.get? a=some {cls:=.none,data:=.fields ps}
  exact k a _ (.inl rfl) e
 |met f y=>
  have e:h.get? a=some (EB (.ref f) (.ref y)):=x
  show h'.get? a=some (EB (.ref f) (.ref y))
  exact k a _ (.inl rfl) e
 |ext φ=>obtain⟨p,⟨o,e⟩,st⟩:=x;exact⟨st _ _ p fun o q=>k _ _ (.inl rfl) q,⟨o,k _ _ (.inl rfl) e⟩,st⟩
theorem HOk.lt(x:HOk P w H h)(e:H a=some o):a<h.objs.size:=(x a o e).lt
theorem HOk.fresh(x:HOk P w H h)(e:h.objs.size≤a):H a=none:=by
 cases q:H a with
 |none=>rfl
 |some u=>exact absurd (NN (x.lt q) e) (Ms _)
theorem HOk.kept(x:HOk P w H h)(k:∀b u,h.get? b=some u→h'.get? b=some u):HOk P w H h':=fun a o e=>
 (x a o e).stay (fun b u _ q=>k b u q) (fun _ q=>q) fun _ _ q=>q
theorem HOk.laid(x:HOk P w H h)(k:∀b u,h.get? b=some u→h'.get? b=some u)(hp:h.objs.size≤a)(new:ObjOk P w (upd H a o) h' a o):HOk P w (upd H a o) h':=fun b u e=>by
 have hn:=x.fresh hp
 by_cases hb:b=a
 ·subst hb;rw[kad] at e;cases e;exact new
 ·rw[kam hb] at e
  exact(x b u e).stay (fun c v _ q=>k c v q) (fun c q=>by rw[kam (kaj q hn)];exact q) fun c xs q=>by rw[kam (kaj q hn)];exact q
end
noncomputable def Rd(H:Hp)(a:Addr)(u:HO):Prop:=H a=some u∨∃o,H a=some (.frz o u)
theorem Rd.of{H:Hp}{a:Addr}{u:HO}(h:H a=some u):Rd H a u:=.inl h
theorem Rd.ok{P:Program}{w:World}{H:Hp}{h:Heap}{a:Addr}{u:HO}(r:Rd H a u)(x:HOk P w H h):ObjOk P w H h a u:=by
 rcases r with r|⟨o,r⟩
 ·exact x a u r
 ·obtain⟨_,q⟩:=x a _ r
  exact q
noncomputable def Mut:Option HO→Prop
 |some (.lst _)=>True
 |some (.dK _)=>True
 |some (.dT _)=>True
 |some (.set _ _)=>True
 |some (.ins _ _ _)=>True
 |some (.ext _)=>True
 |_=>False
section
variable {P:Program} {w:World} {H:Hp} {h h':Heap} {x e:Addr} {o':HO}
theorem HOk.write(ok:HOk P w H h)(mu:Mut (H x))(he:e=x∨H e=some (.own x))(k:∀b u,b≠e→h.get? b=some u→h'.get? b=some u)(heo:∃u,h'.get? e=some u)
  (new:ObjOk P w (upd H x o') h' x o'):HOk P w (upd H x o') h':=fun b u q=>by
 have nown:∀c y,H c=some (.own y)→c≠x:=fun c y r z=>by subst z;rw[r] at mu;exact mu
 have ntup:∀c xs,H c=some (.tup xs)→c≠x:=fun c xs r z=>by subst z;rw[r] at mu;exact mu
 by_cases hb:b=x
 ·subst hb;rw[kad] at q;cases q;exact new
 ·rw[kam hb] at q
  by_cases hbe:b=e
  ·have q':H b=some (.own x):=by
    rcases he with z|z
    ·exact absurd (hbe.trans z) hb
    ·rw[hbe];exact z
   rw[q] at q';cases q'
   obtain⟨v,hv⟩:=heo
   exact⟨v,by rw[hbe];exact hv⟩
  ·refine(ok b u q).stay (fun c v hc r=>k c v ?_ r) (fun c r=>by rw[kam (nown c b r)];exact r) fun c xs r=>by rw[kam (ntup c xs r)];exact r
   rcases hc with rfl|hc
   ·exact hbe
   ·rintro rfl
    rcases he with z|z
    ·exact nown c b hc z
    ·rw[hc] at z;cases z;exact hb rfl
end
structure Un (fs ex:List Addr) (H H':Hp) (h h':Heap):Prop where
 keep:∀b o,h.get? b=some o→H b=none→b∉fs→b∉ex→h'.get? b=some o
 slot:∀b o,h.get? b=some o→H b=none→b∈fs→b∉ex→∃sl,h'.get? b=some {o with slots:=sl}
 free:∀b o,h.get? b=some o→H b=none→b∉ex→H' b=none
 there:∀b o,h.get? b=some o→b∉ex→∃o',h'.get? b=some o'
 tups:∀b xs,H b=some (.tup xs)→H' b=some (.tup xs)
 frzs:∀b o u,H b=some (.frz o u)→H' b=some (.frz o u)
 tbls:∀b ps,H b=some (.tbl ps)→∃more,H' b=some (.tbl (ps++more))
section
variable {fs fs' ex ex':List Addr} {H H1 H2:Hp} {h h1 h2 h':Heap} {a x e:Addr} {o:HO}
theorem Un.any(u:Un fs ex H H1 h h1){b:Addr}{ob:Obj}(q:h.get? b=some ob)(n:H b=none)(hx:b∉ex):∃sl,h1.get? b=some {ob with slots:=sl}:=by
 by_cases hb:b∈fs
 ·exact u.slot b ob q n hb hx
 ·exact⟨ob.slots,u.keep b ob q n hb hx⟩
theorem Un.trans(a:Un fs ex H H1 h h1)(b:Un fs ex H1 H2 h1 h2):Un fs ex H H2 h h2 where
 keep:=fun c ob q n hc hx=>b.keep c ob (a.keep c ob q n hc hx) (a.free c ob q n hx) hc hx
 slot:=fun c ob q n hc hx=>by
  obtain⟨sl,e1⟩:=a.slot c ob q n hc hx
  obtain⟨sl',e2⟩:=b.slot c _ e1 (a.free c ob q n hx) hc hx
  exact⟨sl',e2⟩
 free:=fun c ob q n hx=>by
  obtain⟨o',e1⟩:=a.there c ob q hx
  exact b.free c o' e1 (a.free c ob q n hx) hx
 there:=fun c ob q hx=>by
  obtain⟨o',e1⟩:=a.there c ob q hx
  exact b.there c o' e1 hx
 tups:=fun c xs q=>b.tups c xs (a.tups c xs q)
 frzs:=fun c ob xs q=>b.frzs c ob xs (a.frzs c ob xs q)
 tbls:=fun c ps q=>by
  obtain⟨m1,e1⟩:=a.tbls c ps q
  obtain⟨m2,e2⟩:=b.tbls c _ e1
  exact⟨m1++m2,by rw[e2,Array.append_assoc]⟩
theorem Un.kept(k:∀b u,h.get? b=some u→h'.get? b=some u):Un fs ex H H h h':=
 ⟨fun b ob q _ _ _=>k b ob q,fun b ob q _ _ _=>⟨ob.slots,k b ob q⟩,fun _ _ _ n _=>n,fun b ob q _=>⟨ob,k b ob q⟩,fun _ _ q=>q,fun _ _ _ q=>q,fun _ ps q=>⟨#[],by rw[q];simp⟩⟩
theorem Un.refl:Un fs ex H H h h:=Un.kept fun _ _ q=>q
theorem Un.laid(k:∀b u,h.get? b=some u→h'.get? b=some u)(hp:h.objs.size≤a)(hn:H a=none):Un fs ex H (upd H a o) h h' where
 keep:=fun b u q _ _ _=>k b u q
 slot:=fun b u q _ _ _=>⟨u.slots,k b u q⟩
 free:=fun b u q n _=>by rw[kam (NP (NN (Heap.lt_size q) hp))];exact n
 there:=fun b u q _=>⟨u,k b u q⟩
 tups:=fun b xs q=>by rw[kam (kaj q hn)];exact q
 frzs:=fun b u xs q=>by rw[kam (kaj q hn)];exact q
 tbls:=fun b ps q=>⟨#[],by rw[kam (kaj q hn),q];simp⟩
theorem Un.write(mu:Mut (H x))(he:e=x∨H e=some (.own x))(k:∀b u,b≠e→h.get? b=some u→h'.get? b=some u)(heo:∃u,h'.get? e=some u):Un fs ex H (upd H x o) h h':=by
 have hx:∀b,H b=none→b≠x:=fun b n z=>by subst z;rw[n] at mu;exact mu
 have hb:∀b,H b=none→b≠e:=fun b n z=>by
  subst z
  rcases he with r|r
  ·exact hx b n r
  ·rw[n] at r;cases r
 have hm:∀b u,H b=some u→¬Mut (some u)→b≠x:=fun b u q nm z=>by subst z;rw[q] at mu;exact nm mu
 refine⟨fun b u q n _ _=>k b u (hb b n) q,fun b u q n _ _=>⟨u.slots,k b u (hb b n) q⟩,fun b u q n _=>by rw[kam (hx b n)];exact n,fun b u q _=>?_,
  fun b xs q=>by rw[kam (hm b _ q fun z=>z)];exact q,fun b u xs q=>by rw[kam (hm b _ q fun z=>z)];exact q,fun b ps q=>⟨#[],by rw[kam (hm b _ q fun z=>z),q];simp⟩⟩
 by_cases hbe:b=e
 ·subst hbe;exact heo
 ·exact⟨u,k b u hbe q⟩
theorem Un.mono(u:Un fs ex H H1 h h1)(hs:∀b∈fs,b∈fs')(hx:∀b∈ex,b∈ex'):Un fs' ex' H H1 h h1:=
 ⟨fun b ob q n hb he=>u.keep b ob q n (fun z=>hb (hs b z)) fun z=>he (hx b z),fun _ _ q n _ he=>u.any q n fun z=>he (hx _ z),fun b ob q n he=>u.free b ob q n fun z=>he (hx b z),fun b ob q he=>u.there b ob q fun z=>he (hx b z),u.tups,u.frzs,u.tbls⟩
end
noncomputable def trk(h:Heap)(H:Hp):List Addr:=(Nq h.objs.size).filter fun a=>(H a).isSome
noncomputable def hidT(h:Heap)(H:Hp):Heap:=PySem.W.hideAll h (trk h H)
theorem kjL(h:Heap)(H:Hp):(hidT h H).objs.size=h.objs.size:=PySem.W.hideAll_size _ _
theorem kkE{h:Heap}{H:Hp}{b:Addr}{o:Obj}(e:h.get? b=some o)(n:H b=none):(hidT h H).get? b=some o:=
 PySem.W.hideAll_get _ e fun hm=>by
  have q:(H b).isSome=true:=(Mc.mp hm).2
  rw[n] at q;simp at q
theorem klQ{h:Heap}{H:Hp}{b:Addr}{o:Obj}(e:(hidT h H).get? b=some o):h.get? b=some o∧H b=none:=by
 have e':h.get? b=some o:=PySem.W.of_hideAll (trk h H) e
 refine⟨e',?_⟩
 cases q:H b with
 |none=>rfl
 |some x=>
  have hm:b∈trk h H:=Mc.mpr ⟨List.mem_range.mpr (Heap.lt_size e'),by simp[q]⟩
  have z:(hidT h H).get? b=none:=PySem.W.hideAll_none (trk h H) hm
  rw[z] at e;cases e
noncomputable def kl7(g h:Heap)(L:Addr):List (Addr×Obj):=(Nq h.objs.size).filterMap fun a=>if a=L∨(g.get? a).isSome=true then none else(h.get? a).map fun o=>(a,o)
noncomputable def rest(g h:Heap)(L d:Addr):List (Addr×Obj):=(kl7 g h L).filter fun p=>decide (p.1≠d)
end L2
namespace L2
open PySem PySem.Spec PyProof.Rows
structure Mod (K:Ni) (mg:Str→Option Value) (base:Heap):Prop where
 kin:K.In base
 glob:base.Ns mainGlobals mg
 blt:∃mb,base.Ns builtinsNs mb∧∀x:Str,x≠"__name__"→mb x=bootBuiltins x
 nolimit:base.NoLimit
structure Cx where
 prog:Program
 w:World
 K:Ni
 mg:Str→Option Value
 base:Heap
 A:Around
 N:List Str
 s₀:Shared
 H₀:Hp
 env:Env
 outer:List Env
 stack:List Env
 ex:List Addr
 fn:Str→Bool
 calm:Bool
 pn:List (Addr×Obj)
 xe:Value→Shared→Prop
noncomputable def frs(l:List Env):List Addr:=l.filterMap (·.frame)
noncomputable abbrev Cx.fs(X:Cx):List Addr:=frs X.outer
noncomputable def Vis(sc:Scope)(x:Str):Prop:=sc.names.lookup x=some .local∨sc.names.lookup x=some .cell∨sc.names.lookup x=some .free
noncomputable def Loc(sc:Scope)(x:Str):Prop:=sc.names.lookup x=some .local∨sc.names.lookup x=some .cell
noncomputable def Look(env:Env)(h:Heap)(m:Str→Option Value)(x:Str)(u:Value):Prop:=
 (env.kindOf x=some .local∧m x=some u)∨((env.kindOf x=some .cell∨env.kindOf x=some .free)∧∃c,env.cells.lookup x=some c∧h.IsCell c (some u))
structure Cx.Ok (X:Cx):Prop where
 mod:Mod X.K X.mg X.base
 kind:X.env.scope.kind=.function
 glob:X.env.globals=mainGlobals
 blt:X.env.builtins=builtinsNs
 above:X.s₀.heap.objs.size≤X.env.locals
 inj:∀x y c,X.env.cells.lookup x=some c→X.env.cells.lookup y=some c→x=y
 has:∀x,(X.env.kindOf x=some .cell∨X.env.kindOf x=some .free)→∃c,X.env.cells.lookup x=some c
 cab:∀x c,X.fn x=true→X.env.cells.lookup x=some c→X.s₀.heap.objs.size≤c
 hd:X.calm=true→X.A.handled=none
 frames:X.A.frames=some X.stack
 stk:X.stack=X.outer∨(X.stack=X.env::X.outer∧X.env.frame=some X.env.locals)
 exf:∀b∈X.ex,b≠X.env.locals∧∀x c,X.env.cells.lookup x=some c→c≠b
 bs:∀b o,X.base.get? b=some o→X.s₀.heap.get? b=some o∧X.H₀ b=none
 bsz:X.base.objs.size≤X.s₀.heap.objs.size
 noex:∀b o,X.base.get? b=some o→b∉X.ex
 exfs:∀b∈X.ex,b∉X.fs
 funs:X.s₀.heap.FunFrames X.base X.outer
 frf:∀b∈X.fs,X.H₀ b=none
structure Inv (X:Cx) (pins:List (Addr×Obj)) (σ:List (Option V)) (H:Hp) (s:Shared):Prop where
 ok:X.Ok
 os:s.os=X.s₀.os
 bare:AllBare s.gens
 base:Un X.fs X.ex X.H₀ H X.s₀.heap s.heap
 loc:∃m,s.heap.Ns X.env.locals m∧∀(i:Nat) (x:Str) (v:V),X.N[i]?=some x→σ[i]?=some (some v)→Vis X.env.scope x→∃u,RelV v u∧Look X.env s.heap m x u
 cell:∀x c,X.env.cells.lookup x=some c→∃v,s.heap.IsCell c v
 free:H X.env.locals=none
 freeC:∀x c,X.env.cells.lookup x=some c→H c=none
 pin:∀p∈X.pn++pins,s.heap.get? p.1=some p.2∧H p.1=none∧p.1≠X.env.locals∧p.1∉X.fs∧∀v,p.2.data≠.cell v
 hok:HOk X.prog X.w H s.heap
 len: σ.length=X.N.length
section
variable {X:Cx} {pins:List (Addr×Obj)} {σ:List (Option V)} {H H':Hp} {s:Shared} {h':Heap}
theorem Cx.Ok.nofr(ok:X.Ok){b:Addr}{o:Obj}(e:X.base.get? b=some o):b∉X.fs:=fun hb=>by
 have:=(ok.funs.mem hb).1
 rw[e] at this;cases this
theorem Inv.bs(I:Inv X pins σ H s):∀b o,X.base.get? b=some o→s.heap.get? b=some o∧H b=none:=fun b o e=>
 ⟨I.base.keep b o (I.ok.bs b o e).1 (I.ok.bs b o e).2 (I.ok.nofr e) (I.ok.noex b o e),I.base.free b o (I.ok.bs b o e).1 (I.ok.bs b o e).2 (I.ok.noex b o e)⟩
theorem Inv.bk(I:Inv X pins σ H s):∀b o,X.base.get? b=some o→s.heap.get? b=some o:=fun b o e=>(I.bs b o e).1
theorem Inv.mod(I:Inv X pins σ H s):Mod X.K X.mg X.base:=I.ok.mod
theorem Inv.kIn(I:Inv X pins σ H s):X.K.In s.heap:=I.ok.mod.kin.keeps I.bk
theorem Inv.nolimit(I:Inv X pins σ H s):s.heap.NoLimit:=I.ok.mod.nolimit.keeps I.bk
theorem Inv.fr(I:Inv X pins σ H s):∃m,Fr X.base X.env.locals s.heap m:=
 let⟨m,hn,_⟩:=I.loc
 ⟨m,hn,I.bk,Nm I.ok.bsz I.ok.above⟩
theorem Inv.lt(I:Inv X pins σ H s):X.env.locals<s.heap.objs.size:=let⟨_,hn,_⟩:=I.loc;hn.lt
theorem Inv.sz(I:Inv X pins σ H s):X.s₀.heap.objs.size≤s.heap.objs.size:=Nm I.ok.above (Nw I.lt)
theorem Inv.nofs(I:Inv X pins σ H s){a:Addr}(h:s.heap.objs.size≤a):a∉X.fs:=fun hb=>by
 obtain⟨_,o,ho,_⟩:=I.ok.funs.mem hb
 exact absurd (NN (Heap.lt_size ho) (Nm I.sz h)) (Ms _)
theorem Inv.cne(I:Inv X pins σ H s):∀x c,X.env.cells.lookup x=some c→c≠X.env.locals:=fun x c e z=>by
 obtain⟨v,o,ho,hd⟩:=I.cell x c e
 obtain⟨m,⟨o',es,ep,ho',hd',_⟩,_⟩:=I.loc
 rw[z,ho'] at ho;cases ho;rw[hd'] at hd;cases hd
theorem Inv.funs(I:Inv X pins σ H s):s.heap.FunFrames X.base X.outer:=by
 have all:∀(l:List Env),(∀b∈frs l,b∈X.fs)→X.s₀.heap.FunFrames X.base l→s.heap.FunFrames X.base l:=by
  intro l
  induction l with
  |nil=>intro _ _;trivial
  |cons env r ih=>
   intro hs hl
   obtain⟨hk,⟨L,o,hf,hn,ho,hd⟩,hr⟩:=hl
   have hL:L∈X.fs:=hs L (by unfold frs;rw[EC,hf];exact NL)
   obtain⟨sl,e⟩:=I.base.slot L o ho (I.ok.frf L hL) hL fun z=>I.ok.exfs L z hL
   exact⟨hk,⟨L,_,hf,hn,e,hd⟩,ih (fun b hb=>hs b (by unfold frs;rw[EC,hf];exact NF _ hb)) hr⟩
 exact all X.outer (fun _ hb=>hb) I.ok.funs
theorem Inv.stack(I:Inv X pins σ H s):s.heap.FunFrames X.base X.stack:=by
 rcases I.ok.stk with e|⟨e,hf⟩
 ·rw[e];exact I.funs
 ·rw[e]
  obtain⟨m,hn,_⟩:=I.loc
  refine .cons (by rw[I.ok.kind];decide) hf hn ?_ I.funs
  exact Heap.get?_none_of_le (Nm I.ok.bsz I.ok.above)
theorem Inv.stkSub(I:Inv X pins σ H s):∀b∈frs X.stack,b∈X.env.locals::X.fs:=fun b hb=>by
 rcases I.ok.stk with e|⟨e,hf⟩
 ·rw[e] at hb;exact NF _ hb
 ·rw[e] at hb
  unfold frs at hb
  rw[EC,hf] at hb
  exact hb
theorem Inv.stkFree(I:Inv X pins σ H s):∀b∈frs X.stack,H b=none:=fun b hb=>by
 rcases NI.mp (I.stkSub b hb) with e|hb
 ·rw[e];exact I.free
 ·obtain⟨_,o,ho,_⟩:=I.ok.funs.mem hb
  exact I.base.free b o ho (I.ok.frf b hb) fun z=>I.ok.exfs b z hb
theorem Inv.step{g':Array GenState}{t':Nat}{d':Drawn}{ch:List Addr}(I:Inv X pins σ H s)
  (hch:∀b∈ch,(b∈X.ex∨X.s₀.heap.objs.size≤b)∧b≠X.env.locals∧(∀x c,X.env.cells.lookup x=some c→c≠b)∧∀p∈X.pn++pins,p.1≠b)
  (keep:∀b o,b≠X.env.locals→b∉X.fs→b∉ch→s.heap.get? b=some o→H b=none→h'.get? b=some o)
  (slot:∀b o,b≠X.env.locals→b∈X.fs→b∉ch→s.heap.get? b=some o→H b=none→∃sl,h'.get? b=some {o with slots:=sl}) (free:∀b o,b∉ch→s.heap.get? b=some o→H b=none→H' b=none)
  (there:∀b o,b∉ch→s.heap.get? b=some o→∃o',h'.get? b=some o')
  (tups:∀b xs,H b=some (.tup xs)→H' b=some (.tup xs)) (frzs:∀b o u,H b=some (.frz o u)→H' b=some (.frz o u)) (tbls:∀b ps,H b=some (.tbl ps)→∃more,H' b=some (.tbl (ps++more)))
  (ns:∀m,s.heap.Ns X.env.locals m→h'.Ns X.env.locals m) (hok:HOk X.prog X.w H' h') (hg:AllBare g'):
  Inv X pins σ H' {s with heap:=h',gens:=g',drawn:=d',toks:=t'}:=by
 have neL:∀b o,X.s₀.heap.get? b=some o→b≠X.env.locals:=fun b o e=>NP (NN (Heap.lt_size e) I.ok.above)
 have neC:∀b o,X.s₀.heap.get? b=some o→b∉X.ex→b∉ch:=fun b o e hx hb=>by
  rcases(hch b hb).1 with z|z
  ·exact hx z
  ·exact absurd (NN (Heap.lt_size e) z) (Ms _)
 have cellK:∀x c,X.env.cells.lookup x=some c→∀v,s.heap.IsCell c v→h'.IsCell c v:=fun x c e v ⟨o,ho,hd⟩=>by
  have nch:c∉ch:=fun z=>(hch c z).2.2.1 x c e rfl
  by_cases hc:c∈X.fs
  ·obtain⟨sl,q⟩:=slot c o (I.cne x c e) hc nch ho (I.freeC x c e)
   exact⟨_,q,hd⟩
  ·exact⟨o,keep c o (I.cne x c e) hc nch ho (I.freeC x c e),hd⟩
 refine⟨I.ok,I.os,hg,⟨fun b o e n hb hx=>?_,fun b o e n hb hx=>?_,fun b o e n hx=>?_,fun b o e hx=>?_,fun b xs e=>tups b xs (I.base.tups b xs e),fun b o xs e=>frzs b o xs (I.base.frzs b o xs e),fun b ps e=>?_⟩,?_,fun x c e=>?_,?_,fun x c e=>?_,fun p hp=>?_,hok,I.len⟩
 ·exact keep b o (neL b o e) hb (neC b o e hx) (I.base.keep b o e n hb hx) (I.base.free b o e n hx)
 ·obtain⟨sl,e1⟩:=I.base.slot b o e n hb hx
  obtain⟨sl',e2⟩:=slot b _ (neL b o e) hb (neC b o e hx) e1 (I.base.free b o e n hx)
  exact⟨sl',e2⟩
 ·obtain⟨o',e1⟩:=I.base.there b o e hx
  exact free b o' (neC b o e hx) e1 (I.base.free b o e n hx)
 ·obtain⟨o',e1⟩:=I.base.there b o e hx
  exact there b o' (neC b o e hx) e1
 ·obtain⟨m1,e1⟩:=I.base.tbls b ps e
  obtain⟨m2,e2⟩:=tbls b _ e1
  exact⟨m1++m2,by rw[e2,Array.append_assoc]⟩
 ·obtain⟨m,hn,hl⟩:=I.loc
  refine⟨m,ns m hn,fun i x v e1 e2 e3=>?_⟩
  obtain⟨u,r,l⟩:=hl i x v e1 e2 e3
  refine⟨u,r,?_⟩
  rcases l with l|⟨k,c,e,z⟩
  ·exact .inl l
  ·exact .inr ⟨k,c,e,cellK x c e _ z⟩
 ·obtain⟨v,z⟩:=I.cell x c e
  exact⟨v,cellK x c e v z⟩
 ·obtain⟨m,⟨o,_,_,ho,_⟩,_⟩:=I.loc
  exact free _ o (fun z=>(hch _ z).2.1 rfl) ho I.free
 ·obtain⟨v,o,ho,hd⟩:=I.cell x c e
  exact free c o (fun z=>(hch c z).2.2.1 x c e rfl) ho (I.freeC x c e)
 ·obtain⟨e,n,ne,nf,d⟩:=I.pin p hp
  have nch:p.1∉ch:=fun z=>(hch p.1 z).2.2.2 p hp rfl
  exact⟨keep p.1 p.2 ne nf nch e n,free p.1 p.2 nch e n,ne,nf,d⟩
theorem Inv.un{t':Nat}(I:Inv X pins σ H s)(u:Un X.fs [] H H' s.heap h')(hok:HOk X.prog X.w H' h'):Inv X pins σ H' {s with heap:=h',toks:=t'}:=by
 obtain⟨m,⟨o,es,ep,ho,r⟩,_⟩:=id I.loc
 obtain⟨sl,hL⟩:=u.any ho I.free (by simp)
 exact I.step (g':=s.gens) (d':=s.drawn) (ch:=[]) (fun _ z=>nomatch z) (fun b o _ hb _ e n=>u.keep b o e n hb (by simp)) (fun b o _ hb _ e n=>u.slot b o e n hb (by simp)) (fun b o _ e n=>u.free b o e n (by simp)) (fun b o _ e=>u.there b o e (by simp)) u.tups u.frzs u.tbls (fun m' hm=>by
  obtain⟨o',es',ep',ho',r'⟩:=hm
  rw[ho] at ho';cases ho'
  exact⟨_,es',ep',hL,r'⟩) hok I.bare
theorem Inv.call{g':Array GenState}{t':Nat}{d':Drawn}{ch:List Addr}(I:Inv X pins σ H s)(u:Un (frs X.stack) ch H H' s.heap h')(hok:HOk X.prog X.w H' h')(hg:AllBare g')
  (hch:∀b∈ch,(b∈X.ex∨X.s₀.heap.objs.size≤b)∧b≠X.env.locals∧(∀x c,X.env.cells.lookup x=some c→c≠b)∧∀p∈X.pn++pins,p.1≠b):
  Inv X pins σ H' {s with heap:=h',gens:=g',drawn:=d',toks:=t'}:=by
 obtain⟨m,⟨o,es,ep,ho,r⟩,_⟩:=id I.loc
 obtain⟨sl,hL⟩:=u.any ho I.free fun z=>(hch _ z).2.1 rfl
 exact I.step (ch:=ch) hch (fun b o hL hb hc e n=>u.keep b o e n (fun z=>(NI.mp (I.stkSub b z)).elim hL hb) hc) (fun b o _ _ hc e n=>u.any e n hc) (fun b o hc e n=>u.free b o e n hc) (fun b o hc e=>u.there b o e hc) u.tups u.frzs u.tbls (fun m' hm=>by
  obtain⟨o',es',ep',ho',r'⟩:=hm
  rw[ho] at ho';cases ho'
  exact⟨_,es',ep',hL,r'⟩) hok hg
theorem Inv.turned{t':Nat}{it:Addr}(I:Inv X pins σ H s)(k:∀b o,b≠it→s.heap.get? b=some o→h'.get? b=some o)(hn:H it=none)(hL:it≠X.env.locals)
  (h1:it∈X.ex∨X.s₀.heap.objs.size≤it) (h2:∀x c,X.env.cells.lookup x=some c→c≠it) (h3:∀p∈X.pn++pins,p.1≠it):Inv X pins σ H {s with heap:=h',toks:=t'}:=by
 have nit:∀b u,H b=some u→b≠it:=fun b u e z=>by rw[z,hn] at e;cases e
 refine I.step (g':=s.gens) (d':=s.drawn) (ch:=[it]) (fun b hb=>?_) (fun b o _ _ hc e _=>k b o (fun z=>hc (by simp[z])) e) (fun b o _ _ hc e _=>⟨o.slots,k b o (fun z=>hc (by simp[z])) e⟩) (fun _ _ _ _ n=>n)
  (fun b o hc e=>⟨o,k b o (fun z=>hc (by simp[z])) e⟩) (fun _ _ e=>e) (fun _ _ _ e=>e) (fun b ps e=>⟨#[],by rw[e];simp⟩) (fun m hm=>?_) (fun b u e=>?_) I.bare
 ·have e:b=it:=by simpa using hb
  subst e
  exact⟨h1,hL,h2,h3⟩
 ·obtain⟨o,es,ep,ho,r⟩:=hm
  exact⟨o,es,ep,k _ o (Ne.symm hL) ho,r⟩
 ·refine(I.hok b u e).stay (fun c v hc q=>k c v ?_ q) (fun _ q=>q) fun _ _ q=>q
  rcases hc with z|z
  ·rw[z];exact nit b u e
  ·exact nit c _ z
theorem Inv.tok(I:Inv X pins σ H s)(t:Nat):Inv X pins σ H {s with toks:=t}:=I.un (h':=s.heap) (t':=t) Un.refl I.hok
theorem Inv.kept{t':Nat}(I:Inv X pins σ H s)(k:∀b u,s.heap.get? b=some u→h'.get? b=some u):Inv X pins σ H {s with heap:=h',toks:=t'}:=I.un (Un.kept k) (I.hok.kept k)
theorem Inv.laid{a:Addr}{o:HO}{t':Nat}(I:Inv X pins σ H s)(k:∀b u,s.heap.get? b=some u→h'.get? b=some u)(hp:s.heap.objs.size≤a)(new:ObjOk X.prog X.w (upd H a o) h' a o):
  Inv X pins σ (upd H a o) {s with heap:=h',toks:=t'}:=I.un (Un.laid k hp (I.hok.fresh hp)) (I.hok.laid k hp new)
theorem Inv.write{x e:Addr}{o:HO}{t':Nat}(I:Inv X pins σ H s)(mu:Mut (H x))(he:e=x∨H e=some (.own x))(k:∀b u,b≠e→s.heap.get? b=some u→h'.get? b=some u)(heo:∃u,h'.get? e=some u)
  (new:ObjOk X.prog X.w (upd H x o) h' x o):Inv X pins σ (upd H x o) {s with heap:=h',toks:=t'}:=I.un (Un.write mu he k heo) (I.hok.write mu he k heo new)
theorem Inv.pins_of{pins':List (Addr×Obj)}(I:Inv X pins σ H s)(h:∀p∈pins',s.heap.get? p.1=some p.2∧H p.1=none∧p.1≠X.env.locals∧p.1∉X.fs∧∀v,p.2.data≠.cell v):Inv X pins' σ H s:=
 ⟨I.ok,I.os,I.bare,I.base,I.loc,I.cell,I.free,I.freeC,fun p hp=>(NU.mp hp).elim (fun z=>I.pin p (ED _ z)) (h p),I.hok,I.len⟩
theorem kh0{N:List Str}(hN:N.Nodup){i j:Nat}{x:Str}(a:N[i]?=some x)(b:N[j]?=some x):i=j:=by
 obtain⟨h1,e1⟩:=Nz.mp a
 obtain⟨h2,e2⟩:=Nz.mp b
 exact(List.getElem_inj hN).mp (e1.trans e2.symm)
theorem kiI{M:Model}{A:Around}{E:Value→Shared→Prop}{i:Nat}{x:Str}{v:V}{u:Value}{Q:Unit→Shared→Prop}(I:Inv X pins σ H s)(hN:X.N.Nodup)(hi:X.N[i]?=some x)(hx:Loc X.env.scope x)(r:RelV v u)
  (h:∀s',Inv X pins (σ.set i (some v)) H s'→(∃a,Heap.SameBut a s.heap s'.heap∧(a=X.env.locals∨X.env.cells.lookup x=some a))→Q () s') (hf:X.fn x=true∨X.env.scope.names.lookup x=some .local:=by first|exact .inl rfl|exact .inr rfl|assumption):wpAny M A (storeName X.env x u) Q E s:=by
 obtain⟨m,hn,hl⟩:=id I.loc
 have hcls:(X.env.scope.kind== .class||(X.env.scope.kind== .module&&X.env.locals !=X.env.globals))=false:=by rw[I.ok.kind];rfl
 have hiσ:i< σ.length:=by rw[I.len];exact(Nz.mp hi).1
 have cne:=I.cne
 have tracked:∀{a:Addr} {h':Heap},(∃o,s.heap.get? a=some o∧H a=none)→Heap.SameBut a s.heap h'→HOk X.prog X.w H h':=fun {a h'} ha hs b ob e=>by
  obtain⟨_,_,hfree⟩:=ha
  refine(I.hok b ob e).stay (fun c w' hc q=>(hs.2 c ?_).trans q) (fun _ q=>q) fun _ _ q=>q
  rintro rfl
  rcases hc with rfl|hc
  ·rw[hfree] at e;cases e
  ·rw[hfree] at hc;cases hc
 rcases hx with hk|hk
 ·refine wpAny_storeName_local hk hn (fun h' hn' hs=>?_) hcls
  obtain⟨oL,_,_,hoL,_⟩:=id hn
  refine h _ ⟨I.ok,I.os,I.bare,⟨fun b o e n hb hx=>?_,fun b o e n hb hx=>?_,I.base.free,fun b o e hx=>?_,I.base.tups,I.base.frzs,I.base.tbls⟩,⟨_,hn',fun j y v' e1 e2 e3=>?_⟩,fun y c e=>?_,I.free,I.freeC,fun p hp=>?_,tracked ⟨oL,hoL,I.free⟩ hs,by simpa using I.len⟩ ⟨_,hs, .inl rfl⟩
  ·exact(hs.2 b (NP (NN (Heap.lt_size e) I.ok.above))).trans (I.base.keep b o e n hb hx)
  ·obtain⟨sl,e1⟩:=I.base.slot b o e n hb hx
   exact⟨sl,(hs.2 b (NP (NN (Heap.lt_size e) I.ok.above))).trans e1⟩
  ·obtain⟨o',e1⟩:=I.base.there b o e hx
   exact⟨o',(hs.2 b (NP (NN (Heap.lt_size e) I.ok.above))).trans e1⟩
  ·by_cases hj:j=i
   ·subst hj
    rw[hi] at e1;cases e1
    rw[MN hiσ] at e2
    cases e2
    exact⟨u,r, .inl ⟨hk,by simp⟩⟩
   ·rw[MO (Ne.symm hj)] at e2
    obtain⟨u',r',q⟩:=hl j y v' e1 e2 e3
    refine⟨u',r',?_⟩
    rcases q with⟨k,e⟩|⟨k,c,e,z⟩
    ·refine .inl ⟨k,?_⟩
     have:y≠x:=fun e=>hj (kh0 hN e1 (e▸hi))
     simp[this,e]
    ·exact .inr ⟨k,c,e,z.sameBut hs (cne y c e)⟩
  ·obtain⟨w',z⟩:=I.cell y c e
   exact⟨w',z.sameBut hs (cne y c e)⟩
  ·obtain⟨e,n,ne,nf,d⟩:=I.pin p hp
   exact⟨(hs.2 p.1 ne).trans e,n,ne,nf,d⟩
 ·have hfn:X.fn x=true:=by
   rcases hf with z|z
   ·exact z
   ·rw[z] at hk;cases hk
  obtain⟨c,hc⟩:=I.ok.has x (.inl hk)
  obtain⟨w',z⟩:=I.cell x c hc
  refine wpAny_storeName_cell I.ok.kind hk hc z (fun h' hc' hs=>?_)
  obtain⟨oc,hoc,hocd⟩:=id z
  refine h {s with heap:=h'} ⟨I.ok,I.os,I.bare,⟨fun b o e n hb hx=>?_,fun b o e n hb hx=>?_,I.base.free,fun b o e hx=>?_,I.base.tups,I.base.frzs,I.base.tbls⟩,⟨m,hn.sameBut hs (Ne.symm (cne x c hc)),fun j y v' e1 e2 e3=>?_⟩,fun y c' e=>?_,I.free,I.freeC,fun p hp=>?_,tracked ⟨oc,hoc,I.freeC x c hc⟩ hs,by simpa using I.len⟩ ⟨c,hs, .inr hc⟩
  ·exact(hs.2 b (NP (NN (Heap.lt_size e) (I.ok.cab x c hfn hc)))).trans (I.base.keep b o e n hb hx)
  ·obtain⟨sl,e1⟩:=I.base.slot b o e n hb hx
   exact⟨sl,(hs.2 b (NP (NN (Heap.lt_size e) (I.ok.cab x c hfn hc)))).trans e1⟩
  ·obtain⟨o',e1⟩:=I.base.there b o e hx
   exact⟨o',(hs.2 b (NP (NN (Heap.lt_size e) (I.ok.cab x c hfn hc)))).trans e1⟩
  ·by_cases hj:j=i
   ·subst hj
    rw[hi] at e1;cases e1
    rw[MN hiσ] at e2
    cases e2
    exact⟨u,r, .inr ⟨.inl hk,c,hc,hc'⟩⟩
   ·rw[MO (Ne.symm hj)] at e2
    obtain⟨u',r',q⟩:=hl j y v' e1 e2 e3
    refine⟨u',r',?_⟩
    rcases q with q|⟨k,c',e,z'⟩
    ·exact .inl q
    ·refine .inr ⟨k,c',e,z'.sameBut hs ?_⟩
     rintro rfl
     exact hj (kh0 hN e1 (I.ok.inj _ _ _ e hc▸hi))
  ·by_cases hcc:c'=c
   ·subst hcc;exact⟨_,hc'⟩
   ·obtain⟨w2,z2⟩:=I.cell y c' e
    exact⟨w2,z2.sameBut hs hcc⟩
  ·obtain⟨e,n,ne,nf,d⟩:=I.pin p hp
   refine⟨(hs.2 p.1 ?_).trans e,n,ne,nf,d⟩
   intro q
   rw[q,hoc] at e
   have q':oc=p.2:=Option.some.inj e
   exact d w' (by rw[←q'];exact hocd)
theorem kfv{M:Model}{A:Around}{E:Value→Shared→Prop}{i:Nat}{x:Str}{v:V}{u:Value}{Q:Unit→Shared→Prop}(I:Inv X pins σ H s)(hN:X.N.Nodup)(hi:X.N[i]?=some x)(hx:Loc X.env.scope x)(r:RelV v u)
  (h:∀s',Inv X pins (σ.set i (some v)) H s'→Q () s') (hf:X.fn x=true∨X.env.scope.names.lookup x=some .local:=by first|exact .inl rfl|exact .inr rfl|assumption):wpAny M A (storeName X.env x u) Q E s:=
 kiI I hN hi hx r (fun s' I' _=>h s' I') hf
theorem Inv.call'{s':Shared}{ch:List Addr}(I:Inv X pins σ H s)(ho:s'.os=s.os)(u:Un (frs X.stack) ch H H' s.heap s'.heap)(hok:HOk X.prog X.w H' s'.heap)(hg:AllBare s'.gens)
  (hch:∀b∈ch,(b∈X.ex∨X.s₀.heap.objs.size≤b)∧b≠X.env.locals∧(∀x c,X.env.cells.lookup x=some c→c≠b)∧∀p∈X.pn++pins,p.1≠b):Inv X pins σ H' s':=by
 obtain⟨h',g',d',t',o'⟩:=s'
 have e:o'=s.os:=ho
 subst e
 exact I.call (g':=g') (t':=t') (d':=d') u hok hg hch
end
noncomputable abbrev XK:=Value→Option Addr→Hp→Prop
noncomputable abbrev St:=List (Option V)
noncomputable abbrev VK:=V→Hp→Prop
noncomputable abbrev TE:=St→Hp→VK→Prop
noncomputable abbrev TT:=St→Hp→(Bool→Hp→Prop)→Prop
noncomputable abbrev TA:=St→Hp→(List V→Hp→Prop)→Prop
structure Ends where
 nx:St→Hp→Prop
 rt:VK
 bk:St→Hp→Prop:=fun _ _=>False
 ct:St→Hp→Prop:=fun _ _=>False
noncomputable abbrev TS:=Ends→St→Hp→Prop
noncomputable def EP(X:Cx)(pins:List (Addr×Obj))(σ:St)(Q:VK)(u:Value)(s':Shared):Prop:=∃v H',Inv X pins σ H' s'∧RelV v u∧Q v H'
noncomputable def TP(X:Cx)(pins:List (Addr×Obj))(σ:St)(Q:Bool→Hp→Prop)(b:Bool)(s':Shared):Prop:=∃H',Inv X pins σ H' s'∧Q b H'
noncomputable def AP(X:Cx)(pins:List (Addr×Obj))(σ:St)(Q:List V→Hp→Prop)(us:List Value)(s':Shared):Prop:=∃vs H',Inv X pins σ H' s'∧Vals vs us∧Q vs H'
noncomputable def SP(X:Cx)(pins:List (Addr×Obj))(D:Ends)(f:Flow)(s':Shared):Prop:=
 match f with
 | .next=>∃σ' H',Inv X pins σ' H' s'∧D.nx σ' H'
 | .brk=>∃σ' H',Inv X pins σ' H' s'∧D.bk σ' H'
 | .cont=>∃σ' H',Inv X pins σ' H' s'∧D.ct σ' H'
 | .ret u=>∃v σ' H',Inv X pins σ' H' s'∧RelV v u∧D.rt v H'
noncomputable def PE(X:Cx)(e:Expr)(t:TE):Prop:=
 ∀(pins:List (Addr×Obj)) (s:Shared) (σ:St) (H:Hp) (Q:VK),Inv X pins σ H s→t σ H Q→wpAny (model X.prog X.w) X.A (eval e X.env) (EP X pins σ Q) X.xe s
noncomputable def PT(X:Cx)(e:Expr)(t:TT):Prop:=
 ∀(pins:List (Addr×Obj)) (s:Shared) (σ:St) (H:Hp) (Q:Bool→Hp→Prop),Inv X pins σ H s→t σ H Q→wpAny (model X.prog X.w) X.A (isTrue e X.env (eval e X.env)) (TP X pins σ Q) X.xe s
noncomputable def PW(X:Cx)(e:Expr)(t:TT):Prop:=
 ∀(whole:Sem Value) (pins:List (Addr×Obj)) (s:Shared) (σ:St) (H:Hp) (Q:Bool→Hp→Prop),Inv X pins σ H s→t σ H Q→wpAny (model X.prog X.w) X.A (isTrue e X.env whole) (TP X pins σ Q) X.xe s
theorem PW.pt{X:Cx}{e:Expr}{t:TT}(h:PW X e t):PT X e t:=h _
noncomputable def PA(X:Cx)(es:List Expr)(t:TA):Prop:=
 ∀(pos:Pos) (pins:List (Addr×Obj)) (s:Shared) (σ:St) (H:Hp) (Q:List V→Hp→Prop),Inv X pins σ H s→t σ H Q→wpAny (model X.prog X.w) X.A (spliced (backTo pos (starEach es X.env))) (AP X pins σ Q) X.xe s
noncomputable def PS(X:Cx)(st:Stmt)(t:TS):Prop:=
 ∀(pins:List (Addr×Obj)) (s:Shared) (σ:St) (H:Hp) (D:Ends),Inv X pins σ H s→t D σ H→wpAny (model X.prog X.w) X.A (exec st X.env) (SP X pins D) X.xe s
noncomputable def PSs(X:Cx)(st:List Stmt)(t:TS):Prop:=
 ∀(pins:List (Addr×Obj)) (s:Shared) (σ:St) (H:Hp) (D:Ends),Inv X pins σ H s→t D σ H→wpAny (model X.prog X.w) X.A (execs st X.env) (SP X pins D) X.xe s
theorem thn{α:Type}{t:Sem α}{Q Q': α→Shared→Prop}{M:Model}{A:Around}{E:Value→Shared→Prop}{s:Shared}(h:wpAny M A t Q E s)(hQ:∀a s,Q a s→Q' a s):wpAny M A t Q' E s:=wpAny_mono h hQ fun _ _ x=>x
end L2
namespace L2
open PySem PySem.Spec PyProof.Rows
section
variable {X:Cx}
noncomputable def tVar(i:Nat):TE:=fun σ H Q=>∃v,σ[i]?=some (some v)∧Q v H
noncomputable def tC(v:V):TE:=fun _ H Q=>Q v H
theorem kmg{i:Nat}{x:Str}{pos:Pos}(hN:X.N[i]?=some x)(hv:Vis X.env.scope x)(hd:(x==("__debug__" :Str))=false:=by decide)(hcd:(x==("__classdict__" :Str))=false:=by decide):PE X (.Name x pos) (tVar i):=by
 intro pins s σ H Q I h
 obtain⟨v,e,h⟩:=h
 obtain⟨m,hn,hl⟩:=I.loc
 obtain⟨u,r,l⟩:=hl i x v hN e hv
 have fin:EP X pins σ Q u s:=⟨v,H,I,r,h⟩
 rcases l with⟨hk,hm⟩|⟨hk,c,hc,hcell⟩
 ·exact wpAny_Name (wpAny_loadName_local I.ok.kind hk hn hm fin) hd
 ·rcases hk with hk|hk
  ·exact wpAny_Name (wpAny_loadName_cell I.ok.kind hk hc hcell fin) hd
  ·exact wpAny_Name (wpAny_loadName_free I.ok.kind hk hc hcell fin hcd) hd
theorem kaf{i j pos}:PE X (.Constant (.int i) j pos) (tC (.int i)):=fun _ _ _ H _ I h=>wpAny_Constant_int ⟨.int i,H,I.tok _,⟨_,rfl⟩,h⟩
theorem pe_bl{b j pos}:PE X (.Constant (.bool b) j pos) (tC (.bl b)):=fun _ _ _ H _ I h=>Constant_bool ⟨.bl b,H,I,rfl,h⟩
theorem ka5{j pos}:PE X (.Constant .none j pos) (tC .non):=fun _ _ _ H _ I h=>Constant_none ⟨.non,H,I,rfl,h⟩
theorem kbB{x j pos}:PE X (.Constant (.str x) j pos) (tC (.str x)):=fun _ _ _ H _ I h=>Calls.Constant_str ⟨.str x,H,I.tok _,⟨_,rfl⟩,h⟩
noncomputable def Gl(X:Cx)(x:Str):Prop:=X.env.kindOf x=some .globalImplicit
theorem kfZ{E:Value→Shared→Prop}{pins:List (Addr×Obj)}{s:Shared}{σ:St}{H:Hp}{x:Str}{u:Value}{pos:Pos}{Q:Value→Shared→Prop}(I:Inv X pins σ H s)(hg:Gl X x)(hm:X.mg x=some u)(h:Q u s)
  (hd:(x==("__debug__" :Str))=false:=by decide):wpAny (model X.prog X.w) X.A (eval (.Name x pos) X.env) Q E s:=
 Calls.Name_function_global I.ok.kind hg (Calls.loadGlobal_global (by rw[I.ok.glob];exact I.mod.glob.keeps I.bk) hm h) hd
theorem kdC{E:Value→Shared→Prop}{pins:List (Addr×Obj)}{s:Shared}{σ:St}{H:Hp}{x:Str}{u:Value}{pos:Pos}{Q:Value→Shared→Prop}(I:Inv X pins σ H s)(hg:Gl X x)(hm:X.mg x=none)(hv:bootBuiltins x=some u)(h:Q u s)
  (hn:x≠"__name__":=by decide) (hd:(x==("__debug__" :Str))=false:=by decide):wpAny (model X.prog X.w) X.A (eval (.Name x pos) X.env) Q E s:=by
 obtain⟨mb,h1,h2⟩:=I.mod.blt
 exact Calls.Name_function_global I.ok.kind hg (Calls.loadGlobal_builtin (by rw[I.ok.glob];exact I.mod.glob.keeps I.bk) hm (by rw[I.ok.blt];exact h1.keeps I.bk) ((h2 x hn).trans hv) h) hd
theorem kdT{x:Str}{v:V}{u:Value}{pos:Pos}(hg:Gl X x)(hm:X.mg x=some u)(r:RelV v u)(hd:(x==("__debug__" :Str))=false:=by decide):PE X (.Name x pos) (tC v):=
 fun _ _ _ H _ I h=>kfZ I hg hm ⟨v,H,I,r,h⟩ hd
variable {a b:Expr} {ta tb:TE} {pos:Pos}
noncomputable def tB(t:TE):TT:=fun σ H Q=>t σ H fun x H1=>∃c,x=.bl c∧Q c H1
theorem kbg{e:Expr}{t:TE}(h:PE X e t)(he:∀whole,isTrue e X.env whole=(do let v ←whole;standAt e.pos;holding [v] (truthy v)):=by intro _;rfl):PT X e (tB t):=by
 intro pins s σ H Q I hw
 refine isTrue_plain (thn (h pins s σ H _ I hw) fun v s1 ⟨x,H1,I1,r1,q1⟩=>?_) (he _)
 obtain⟨d,rfl,q⟩:=q1
 cases r1
 exact wpAny_truthy_bool ⟨H1,I1,q⟩
variable {tA tB':TT} {rest:List Expr}
noncomputable def tAnd(t u:TT):TT:=fun σ H Q=>t σ H fun c H1=>if c=true then u σ H1 Q else Q false H1
noncomputable def tOr(t u:TT):TT:=fun σ H Q=>t σ H fun c H1=>if c=true then Q true H1 else u σ H1 Q
noncomputable def tNot(t:TT):TT:=fun σ H Q=>t σ H fun c H1=>Q (!c) H1
theorem kbF(ha:PT X a tA):PW X (.BoolOp .And [a] pos) tA:=by
 intro wh pins s σ H Q I h
 refine isTrue_and (thn (ha pins s σ H Q I h) fun c s1 e=>?_)
 cases c with
 |true=>exact isTrue_and_nil e
 |false=>exact e
theorem khN(ha:PT X a tA):PW X (.BoolOp .Or [a] pos) tA:=by
 intro wh pins s σ H Q I h
 refine isTrue_or (thn (ha pins s σ H Q I h) fun c s1 e=>?_)
 cases c with
 |false=>exact isTrue_or_nil e
 |true=>exact e
theorem kbU(ha:PT X a tA)(hb:PW X (.BoolOp .And (b::rest) pos) tB'):PW X (.BoolOp .And (a::b::rest) pos) (tAnd tA tB'):=by
 intro wh pins s σ H Q I h
 refine isTrue_and (thn (ha pins s σ H _ I h) fun c s1 ⟨H1,I1,q1⟩=>?_)
 cases c with
 |true=>exact hb wh pins s1 σ H1 Q I1 q1
 |false=>exact⟨H1,I1,q1⟩
theorem pw_or(ha:PT X a tA)(hb:PW X (.BoolOp .Or (b::rest) pos) tB'):PW X (.BoolOp .Or (a::b::rest) pos) (tOr tA tB'):=by
 intro wh pins s σ H Q I h
 refine isTrue_or (thn (ha pins s σ H _ I h) fun c s1 ⟨H1,I1,q1⟩=>?_)
 cases c with
 |true=>exact⟨H1,I1,q1⟩
 |false=>exact hb wh pins s1 σ H1 Q I1 q1
theorem kgs(ha:PT X a tA):PT X (.UnaryOp .Not a pos) (tNot tA):=by
 intro pins s σ H Q I h
 exact isTrue_not (ha pins s σ H (fun c H1=>Q (!c) H1) I h)
noncomputable def tAndV(ta tb:TE):TE:=fun σ H Q=>ta σ H fun x H1=>∃c,x=.bl c∧if c=true then tb σ H1 Q else Q (.bl false) H1
noncomputable def tOrV(ta tb:TE):TE:=fun σ H Q=>ta σ H fun x H1=>∃c,x=.bl c∧if c=true then Q (.bl true) H1 else tb σ H1 Q
theorem kgt{op}{t:TE}(h:PE X a t):PE X (.BoolOp op [a] pos) t:=fun pins s σ H Q I hw=>BoolOp_one (h pins s σ H Q I hw)
theorem khV(ha:PE X a ta)(hb:PE X (.BoolOp .And (b::rest) pos) tb):PE X (.BoolOp .And (a::b::rest) pos) (tAndV ta tb):=by
 intro pins s σ H Q I h
 refine BoolOp_and (thn (ha pins s σ H _ I h) fun v s1 ⟨x,H1,I1,r1,q1⟩=>?_)
 obtain⟨c,rfl,q1⟩:=q1
 cases r1
 refine wpAny_truthy_bool ?_
 cases c with
 |true=>exact hb pins s1 σ H1 Q I1 q1
 |false=>exact⟨.bl false,H1,I1,rfl,q1⟩
theorem pe_or(ha:PE X a ta)(hb:PE X (.BoolOp .Or (b::rest) pos) tb):PE X (.BoolOp .Or (a::b::rest) pos) (tOrV ta tb):=by
 intro pins s σ H Q I h
 refine BoolOp_or (thn (ha pins s σ H _ I h) fun v s1 ⟨x,H1,I1,r1,q1⟩=>?_)
 obtain⟨c,rfl,q1⟩:=q1
 cases r1
 refine wpAny_truthy_bool ?_
 cases c with
 |false=>exact hb pins s1 σ H1 Q I1 q1
 |true=>exact⟨.bl true,H1,I1,rfl,q1⟩
noncomputable def tIf(t:TT)(ta tb:TE):TE:=fun σ H Q=>t σ H fun c H1=>if c=true then ta σ H1 Q else tb σ H1 Q
theorem khS{c:Expr}(hc:PT X c tA)(ha:PE X a ta)(hb:PE X b tb):PE X (.IfExp c a b pos) (tIf tA ta tb):=by
 intro pins s σ H Q I h
 refine wpAny_IfExp (thn (hc pins s σ H _ I h) fun d s1 ⟨H1,I1,q1⟩=>?_)
 cases d with
 |true=>exact ha pins s1 σ H1 Q I1 q1
 |false=>exact hb pins s1 σ H1 Q I1 q1
end
end L2
namespace L2
open PySem PySem.Spec PyProof.Rows
noncomputable def SqL(K:Ni)(H:Hp)(a:Addr)(xs:List V):Prop:=
 Rd H a (.lst xs)∨
  ∃(o:Obj) (its:Array Value) (n:Nat),K.lookup a=some o∧o.cls=.type "list"∧o.dict=none∧o.data=.seq its n∧its.size≤sizeLine∧Vals xs its.toList
noncomputable def SqT(K:Ni)(H:Hp)(a:Addr)(xs:List V):Prop:=
 Rd H a (.tup xs)∨
  ∃(o:Obj) (its:Array Value) (n:Nat),K.lookup a=some o∧o.cls=.type "tuple"∧o.data=.seq its n∧its.size≤sizeLine∧Vals xs its.toList
noncomputable def absV:Value→Option V
 | .none=>some .non
 | .bool b=>some (.bl b)
 | .int i _=>some (.int i)
 | .str x _=>some (.str x)
 | .bytes b _=>some (.byt b)
 | .float b _=>some (.flt b)
 | .ref a=>some (.ref a)
 | .type n=>some (.ty n)
 |_=>none
theorem RelV.abs{x:V}{u:Value}(r:RelV x u):absV u=some x:=by
 cases x with
 |non=>cases r;rfl
 |bl _=>cases r;rfl
 |int _=>obtain⟨t,rfl⟩:=r;rfl
 |str _=>obtain⟨t,rfl⟩:=r;rfl
 |byt _=>obtain⟨t,rfl⟩:=r;rfl
 |flt _=>obtain⟨t,rfl⟩:=r;rfl
 |ref _=>cases r;rfl
 |ty _=>cases r;rfl
theorem RelV.inj{x y:V}{u:Value}(r:RelV x u)(q:RelV y u):x=y:=Option.some.inj (r.abs.symm.trans q.abs)
theorem Vals.inj:∀{xs ys:List V} {us:List Value},Vals xs us→Vals ys us→xs=ys
 |_,_,_, .nil, .nil=>rfl
 |_,_,_, .cons r t, .cons r' t'=>by rw[r.inj r',Vals.inj t t']
section
variable {X:Cx} {pins:List (Addr×Obj)} {σ:St} {H:Hp} {s:Shared} {a:Addr} {xs ys:List V}
theorem SqL.of{K:Ni}(h:H a=some (.lst xs)):SqL K H a xs:=.inl (.inl h)
theorem SqT.of{K:Ni}(h:H a=some (.tup xs)):SqT K H a xs:=.inl (.inl h)
theorem Inv.list(I:Inv X pins σ H s)(h:SqL X.K H a xs):∃its:List Value,Vals xs its∧PlainL s.heap a its.toArray∧xs.length≤sizeLine:=by
 rcases h with h|⟨o,its,n,hk,hc,hd,hs,hz,r⟩
 ·obtain⟨z,its,n,r,e⟩:=h.ok I.hok
  exact⟨its,r,⟨_,n,e,rfl,rfl,rfl⟩,z⟩
 ·refine⟨its.toList,r,⟨o,n,I.kIn a o hk,hc,hd,by simpa using hs⟩,?_⟩
  have e:=r.length
  simp only[MP] at e
  omega
theorem Inv.tuple(I:Inv X pins σ H s)(h:SqT X.K H a xs):∃its:List Value,Vals xs its∧IsTup s.heap a its.toArray∧xs.length≤sizeLine:=by
 rcases h with h|⟨o,its,n,hk,hc,hs,hz,r⟩
 ·obtain⟨z,its,r,p⟩:=h.ok I.hok
  exact⟨its,r,p,z⟩
 ·refine⟨its.toList,r,⟨o,I.kIn a o hk,hc,n,by simpa using hs⟩,?_⟩
  have e:=r.length
  simp only[MP] at e
  omega
theorem Inv.list_inj(I:Inv X pins σ H s)(h:SqL X.K H a xs)(h':SqL X.K H a ys):xs=ys:=by
 obtain⟨its,r,⟨o,n,e,_,_,d⟩,_⟩:=I.list h
 obtain⟨its',r',⟨o',n',e',_,_,d'⟩,_⟩:=I.list h'
 rw[e] at e';cases e'
 rw[d] at d'
 injection d' with d1 _
 have:its=its':=by simpa using congrArg Array.toList d1
 subst this
 exact r.inj r'
end
noncomputable abbrev Cx.wish(X:Cx)(E:Value→Shared→Prop):Cx:={X with xe:=E}
noncomputable abbrev Cx.nox(X:Cx):Cx:=X.wish fun _ _=>False
theorem Cx.Ok.wish{X:Cx}(ok:X.Ok)(E:Value→Shared→Prop):(X.wish E).Ok:=
 ⟨ok.mod,ok.kind,ok.glob,ok.blt,ok.above,ok.inj,ok.has,ok.cab,ok.hd,ok.frames,ok.stk,ok.exf,ok.bs,ok.bsz,ok.noex,ok.exfs,ok.funs,ok.frf⟩
theorem Cx.Ok.unwish{X:Cx}{E:Value→Shared→Prop}(ok:(X.wish E).Ok):X.Ok:=
 ⟨ok.mod,ok.kind,ok.glob,ok.blt,ok.above,ok.inj,ok.has,ok.cab,ok.hd,ok.frames,ok.stk,ok.exf,ok.bs,ok.bsz,ok.noex,ok.exfs,ok.funs,ok.frf⟩
section
variable {X:Cx} {pins:List (Addr×Obj)} {σ:St} {H:Hp} {s:Shared} {E:Value→Shared→Prop}
theorem Inv.wish(I:Inv X pins σ H s)(E:Value→Shared→Prop):Inv (X.wish E) pins σ H s:=⟨I.ok.wish E,I.os,I.bare,I.base,I.loc,I.cell,I.free,I.freeC,I.pin,I.hok,I.len⟩
theorem Inv.unwish(I:Inv (X.wish E) pins σ H s):Inv X pins σ H s:=⟨I.ok.unwish,I.os,I.bare,I.base,I.loc,I.cell,I.free,I.freeC,I.pin,I.hok,I.len⟩
theorem SP.unwish{D:Ends}{f:Flow}{s':Shared}(h:SP (X.wish E) pins D f s'):SP X pins D f s':=by
 cases f with
 |next=>obtain⟨σ',H',I,q⟩:=h;exact⟨σ',H',I.unwish,q⟩
 |brk=>obtain⟨σ',H',I,q⟩:=h;exact⟨σ',H',I.unwish,q⟩
 |cont=>obtain⟨σ',H',I,q⟩:=h;exact⟨σ',H',I.unwish,q⟩
 |ret u=>obtain⟨v,σ',H',I,r,q⟩:=h;exact⟨v,σ',H',I.unwish,r,q⟩
theorem PE.nox{e:Expr}{t:TE}(h:PE X.nox e t):PE X e t:=fun pins s σ H Q I hw=>
 wpAny_mono (h pins s σ H Q (I.wish _) hw) (fun _ _ ⟨v,H',I',r,q⟩=>⟨v,H',I'.unwish,r,q⟩) fun _ _ z=>False.elim z
theorem PT.nox{e:Expr}{t:TT}(h:PT X.nox e t):PT X e t:=fun pins s σ H Q I hw=>
 wpAny_mono (h pins s σ H Q (I.wish _) hw) (fun _ _ ⟨H',I',q⟩=>⟨H',I'.unwish,q⟩) fun _ _ z=>False.elim z
theorem PSs.nox{st:List Stmt}{t:TS}(h:PSs X.nox st t):PSs X st t:=fun pins s σ H D I hw=>
 wpAny_mono (h pins s σ H D (I.wish _) hw) (fun _ _ q=>q.unwish) fun _ _ z=>False.elim z
end
section
variable {X:Cx} {st:Stmt} {rest:List Stmt} {t u:TS} {e:Expr} {te:TE} {pos:Pos}
noncomputable def tNext:TS:=fun D σ H=>D.nx σ H
noncomputable def tSeq(t u:TS):TS:=fun D σ H=>t {D with nx:=u D} σ H
theorem kaw:PSs X [] tNext:=fun _ _ σ H _ I h=>wpAny_execs_nil ⟨σ,H,I,h⟩
theorem kac(h1:PS X st t)(h2:PSs X rest u):PSs X (st::rest) (tSeq t u):=by
 intro pins s σ H D I h
 refine wpAny_execs_cons (thn (h1 pins s σ H {D with nx:=u D} I h) fun f s1 q=>?_)
 cases f with
 |next=>
  obtain⟨σ',H',I',q⟩:=q
  exact h2 pins s1 σ' H' D I' q
 |ret v=>exact q
 |brk=>exact q
 |cont=>exact q
theorem kai(h1:PS X st t):PSs X [st] t:=by
 intro pins s σ H D I h
 refine wpAny_execs_cons (thn (h1 pins s σ H D I h) fun f s1 q=>?_)
 cases f with
 |next=>exact wpAny_execs_nil q
 |ret v=>exact q
 |brk=>exact q
 |cont=>exact q
noncomputable def kma:TS:=fun D σ H=>D.bk σ H
theorem kkk:PS X (.Break pos) kma:=fun _ _ σ H _ I h=>wpAny_Break ⟨σ,H,I,h⟩
theorem Inv.quiet{pins:List (Addr×Obj)}{σ:St}{H:Hp}{s:Shared}(I:Inv X pins σ H s):interactive X.env=false:=by simp[interactive,I.ok.kind]
noncomputable def tDrop(te:TE):TS:=fun D σ H=>te σ H fun _ H1=>D.nx σ H1
theorem ka0(he:PE X e te)(hs:swapsWith e none pos.line X.env=pure false:=by rfl):PS X (.Expr e pos) (tDrop te):=by
 intro pins s σ H D I h
 exact wpAny_Expr_any (thn (he pins s σ H _ I h) fun v s1 ⟨x,H1,I1,r1,q1⟩=>⟨σ,H1,I1,q1⟩) I.quiet hs
noncomputable def tRet(te:TE):TS:=fun D σ H=>te σ H D.rt
theorem kaq(he:PE X e te):PS X (.Return (some e) pos) (tRet te):=by
 intro pins s σ H D I h
 exact wpAny_Return_some (thn (he pins s σ H _ I h) fun v s1 ⟨x,H1,I1,r1,q1⟩=>⟨x,σ,H1,I1,r1,q1⟩)
noncomputable def tIfS(c:TT)(t u:TS):TS:=fun D σ H=>c σ H fun b H1=>if b=true then t D σ H1 else u D σ H1
theorem ps_if{c:Expr}{a b:List Stmt}{tc:TT}(hc:PT X c tc)(ha:PSs X a t)(hb:PSs X b u):PS X (.If c a b pos) (tIfS tc t u):=by
 intro pins s σ H D I h
 refine wpAny_If (thn (hc pins s σ H _ I h) fun d s1 ⟨H1,I1,q1⟩=>?_)
 cases d with
 |true=>exact ha pins s1 σ H1 D I1 q1
 |false=>exact hb pins s1 σ H1 D I1 q1
end
noncomputable abbrev TG:=V→St→Hp→(St→Hp→Prop)→Prop
noncomputable abbrev TGs:=List V→St→Hp→(St→Hp→Prop)→Prop
noncomputable def PG(X:Cx)(target:Expr)(t:TG):Prop:=
 ∀(pins:List (Addr×Obj)) (s:Shared) (σ:St) (H:Hp) (v:V) (u:Value) (Q:St→Hp→Prop),Inv X pins σ H s→RelV v u→t v σ H Q→
  wpAny (model X.prog X.w) X.A (assign target X.env u) (fun _ s'=>∃σ' H',Inv X pins σ' H' s'∧Q σ' H') X.xe s
noncomputable def PGs(X:Cx)(ts:List Expr)(t:TGs):Prop:=
 ∀(pins:List (Addr×Obj)) (s:Shared) (σ:St) (H:Hp) (vs:List V) (us:List Value) (Q:St→Hp→Prop),Inv X pins σ H s→Vals vs us→t vs σ H Q→
  wpAny (model X.prog X.w) X.A (assignInOrder ((assignEach ts X.env).map (·.2)) us) (fun _ s'=>∃σ' H',Inv X pins σ' H' s'∧Q σ' H') X.xe s
noncomputable abbrev TSet:=V→V→V→Hp→(Hp→Prop)→Prop
noncomputable def PSet(X:Cx)(t:TSet):Prop:=
 ∀(pins:List (Addr×Obj)) (s:Shared) (σ:St) (H:Hp) (o i v:V) (ov iv u:Value) (Q:Hp→Prop),Inv X pins σ H s→RelV o ov→RelV i iv→RelV v u→t o i v H Q→
  wpAny (model X.prog X.w) X.A (setItem ov iv u) (fun _ s'=>∃H',Inv X pins σ H' s'∧Q H') X.xe s
noncomputable abbrev TIp:=V→V→Hp→VK→Prop
noncomputable def PIp(X:Cx)(op:Operator)(t:TIp):Prop:=
 ∀(pins:List (Addr×Obj)) (s:Shared) (σ:St) (H:Hp) (x y:V) (v u:Value) (Q:VK),Inv X pins σ H s→RelV x v→RelV y u→t x y H Q→
  wpAny (model X.prog X.w) X.A (inplaceOp op v u) (EP X pins σ Q) X.xe s
section
variable {X:Cx} {pos:Pos}
noncomputable def gName(i:Nat):TG:=fun v σ H Q=>Q (σ.set i (some v)) H
theorem kar{i:Nat}{x:Str}(hN:X.N.Nodup)(hi:X.N[i]?=some x)(hx:Loc X.env.scope x)(hf:X.fn x=true∨X.env.scope.names.lookup x=some .local:=by first|exact .inl rfl|exact .inr rfl|assumption):PG X (.Name x pos) (gName i):=by
 intro pins s σ H v u Q I r h
 exact wpAny_assign_Name (kfv I hN hi hx r (fun s' I'=>⟨_,H,I',h⟩) hf)
noncomputable def gNil:TGs:=fun vs σ H Q=>vs=[]∧Q σ H
noncomputable def gCons(t:TG)(u:TGs):TGs:=fun vs σ H Q=>∃v r,vs=v::r∧t v σ H fun σ' H'=>u r σ' H' Q
theorem kbn:PGs X [] gNil:=by
 intro pins s σ H vs us Q I r h
 obtain⟨e,h⟩:=h
 subst e
 cases r
 exact assignInOrder_nil ⟨σ,H,I,h⟩
theorem kaA{e:Expr}{es:List Expr}{t:TG}{u:TGs}(h1:PG X e t)(h2:PGs X es u)
  (hs:(assignEach (e::es) X.env).map (·.2)=assign e X.env::(assignEach es X.env).map (·.2):=by rfl):PGs X (e::es) (gCons t u):=by
 intro pins s σ H vs us Q I r h
 obtain⟨v,vr,e1,h⟩:=h
 subst e1
 cases r with
 |cons r rr=>
  rw[hs]
  refine assignInOrder_cons (thn (h1 pins s σ H _ _ _ I r h) fun _ s1 ⟨σ1,H1,I1,q1⟩=>?_)
  exact h2 pins s1 σ1 H1 _ _ Q I1 rr q1
noncomputable def gTup(K:Ni)(n:Nat)(t:TGs):TG:=fun v σ H Q=>∃a xs,v=.ref a∧SqT K H a xs∧xs.length=n∧t xs σ H Q
theorem kmf{es:List Expr}{k:Nat}{t:TGs}{n:Nat}(hc:X.calm=true)(h:PGs X es t)
  (hn:(assignEach es X.env).length=n:=by rfl) (hst:(assignEach es X.env).findIdx? (·.1)=none:=by rfl):PG X (.Tuple es k pos) (gTup X.K n t):=by
 intro pins s σ H v u Q I r hw
 obtain⟨a,xs,e1,hq,hl,hw⟩:=hw
 subst e1
 cases r
 obtain⟨its,rv,ht,hz⟩:=I.tuple hq
 refine assign_Tuple_tuple (I.ok.hd hc) ht (by simp[hn,←hl,rv.length]) hst fun h' hx=>?_
 have I1:Inv X pins σ H {s with heap:=h'}:=I.kept (t':=s.toks) fun b o e=>hx b o (NP (Heap.lt_size e)) e
 exact h pins _ σ H xs _ Q I1 (by simpa using rv) hw
noncomputable def gSub(to ti:TE)(t:TSet):TG:=fun v σ H Q=>to σ H fun o H1=>ti σ H1 fun i H2=>t o i v H2 fun H3=>Q σ H3
theorem kjn{o i:Expr}{to ti:TE}{t:TSet}(ho:PE X o to)(hi:PE X i ti)(hs:PSet X t)
  (ha:∀v,assign (.Subscript o i pos) X.env v=(do
   let ov ←holding [v] (eval o X.env)
   let iv ←holding [v,ov] (eval i X.env)
   standAt pos
   holding [v,ov,iv] (setItem ov iv v)
   release [v,ov,iv] []):=by intro _;rfl):PG X (.Subscript o i pos) (gSub to ti t):=by
 intro pins s σ H v u Q I r h
 rw[ha]
 refine wpAny_bind (wpAny_holding (thn (ho pins s σ H _ I h) fun ov s1 ⟨x,H1,I1,r1,q1⟩=>?_))
 refine wpAny_bind (wpAny_holding (thn (hi pins s1 σ H1 _ I1 q1) fun iv s2 ⟨y,H2,I2,r2,q2⟩=>?_))
 refine wpAny_bind (wpAny_standAt (wpAny_bind (wpAny_holding (thn (hs pins s2 σ H2 x y v ov iv u _ I2 r1 r2 r q2) fun _ s3 ⟨H3,I3,q3⟩=>?_))))
 exact wpAny_release ⟨σ,H3,I3,q3⟩
noncomputable def tAsg(te:TE)(g:TG):TS:=fun D σ H=>te σ H fun x H1=>g x σ H1 D.nx
theorem khP{tg e:Expr}{te:TE}{g:TG}(he:PE X e te)(hg:PG X tg g)(hs:swapsWithSole [tg] e pos.line X.env=pure false:=by rfl)(hw:swappedStores [tg] e X.env=pure none:=by rfl)
  (h1:(assignEach [tg] X.env).map (·.2)=[assign tg X.env]:=by rfl):PS X (.Assign [tg] e pos) (tAsg te g):=by
 intro pins s σ H D I h
 refine wpAny_Assign_stores (thn (he pins s σ H _ I h) fun v s1 ⟨x,H1,I1,r1,q1⟩=>?_) hs hw
 rw[h1]
 exact thn (hg pins s1 σ H1 x v _ I1 r1 q1) fun _ s2 q=>q
theorem kas{i:Nat}{x:Str}{e:Expr}{te:TE}{pos':Pos}(hN:X.N.Nodup)(hi:X.N[i]?=some x)(hx:Loc X.env.scope x)(he:PE X e te)(hs:swapsWith e (some (.Name x pos')) pos.line X.env=pure false:=by rfl)(hf:X.fn x=true∨X.env.scope.names.lookup x=some .local:=by first|exact .inl rfl|exact .inr rfl|assumption):
  PS X (.Assign [.Name x pos'] e pos) (tAsg te (gName i)):=by
 intro pins s σ H D I h
 refine wpAny_Assign_Name (thn (he pins s σ H _ I h) fun v s1 ⟨y,H1,I1,r1,q1⟩=>?_) hs
 exact kfv I1 hN hi hx r1 (fun s2 I2=>⟨_,H1,I2,q1⟩) hf
noncomputable def tAug(i:Nat)(te:TE)(ti:TIp):TS:=fun D σ H=>∃x,σ[i]?=some (some x)∧te σ H fun y H1=>ti x y H1 fun z H2=>D.nx (σ.set i (some z)) H2
theorem kme{i:Nat}{x:Str}{e:Expr}{te:TE}{op:Operator}{ti:TIp}{pos':Pos}(hN:X.N.Nodup)(hi:X.N[i]?=some x)(hx:Loc X.env.scope x)(he:PE X e te)(ho:PIp X op ti)(hf:X.fn x=true∨X.env.scope.names.lookup x=some .local:=by first|exact .inl rfl|exact .inr rfl|assumption):
  PS X (.AugAssign (.Name x pos') op e pos) (tAug i te ti):=by
 intro pins s σ H D I h
 obtain⟨v,e1,h⟩:=h
 obtain⟨m,hn,hl⟩:=I.loc
 have vis:Vis X.env.scope x:=by rcases hx with k|k;exact .inl k;exact .inr (.inl k)
 obtain⟨u,r,l⟩:=hl i x v hi e1 vis
 refine wpAny_AugAssign_Name ?_
 have go:wpAny (model X.prog X.w) X.A (eval e X.env) (fun w s₂=>wpAny (model X.prog X.w) X.A (inplaceOp op u w) (fun r s₃=>wpAny (model X.prog X.w) X.A (storeName X.env x r) (fun _=>SP X pins D .next) X.xe s₃) X.xe s₂) X.xe s:=by
  refine thn (he pins s σ H _ I h) fun w s1 ⟨y,H1,I1,r1,q1⟩=>?_
  refine thn (ho pins s1 σ H1 v y u w _ I1 r r1 q1) fun z s2 ⟨zv,H2,I2,r2,q2⟩=>?_
  exact kfv I2 hN hi hx r2 (fun s3 I3=>⟨_,H2,I3,q2⟩) hf
 rcases l with⟨hk,hm⟩|⟨hk,c,hc,hcell⟩
 ·exact wpAny_loadName_local I.ok.kind hk hn hm go
 ·rcases hk with hk|hk
  ·exact wpAny_loadName_cell I.ok.kind hk hc hcell go
  ·rcases hx with k|k
   ·have:X.env.scope.names.lookup x=some .free:=hk
    rw[k] at this;cases this
   ·have:X.env.scope.names.lookup x=some .free:=hk
    rw[k] at this;cases this
noncomputable def ipI(f:Int→Int→Int):TIp:=fun x y H Q=>∃i j,x=.int i∧y=.int j∧Q (.int (f i j)) H
theorem kmt:PIp X .Add (ipI fun i j=>i+j):=by
 intro pins s σ H x y v u Q I r1 r2 h
 obtain⟨i,j,e1,e2,q⟩:=h
 subst e1;subst e2
 obtain⟨t,rfl⟩:=r1
 obtain⟨t',rfl⟩:=r2
 exact iadd_int ⟨.int _,H,I.tok _,⟨_,rfl⟩,q⟩
end
section
variable {X:Cx} {pos:Pos}
noncomputable def kkV(c:TT)(tb:TS):TS:=fun D σ H=>∃W:Nat→St→Hp→Prop,(∃m,W m σ H)∧∀m σ H,W m σ H→
 c σ H fun b H1=>if b=true then ∃N:St→Hp→Prop,(∀σ' H',N σ' H'→∃m',m'<m∧W m' σ' H')∧tb {D with nx:=N,ct:=N,bk:=D.nx} σ H1 else D.nx σ H1
theorem khO{c:Expr}{body:List Stmt}{tc:TT}{tb:TS}(hp:PassesOwn (model X.prog X.w) X.A X.env X.xe)(hc:PT X c tc)(hb:PSs X body tb):PS X (.While c body [] pos) (kkV tc tb):=by
 intro pins s σ H D I h
 obtain⟨W,⟨m0,w0⟩,turn⟩:=h
 refine wpAny_While (codeAny_whileLoop (fun n s'=>∃σ' H',Inv X pins σ' H' s'∧W n σ' H') ?_ m0 ⟨σ,H,I,w0⟩)
 rintro n s1 ⟨σ1,H1,I1,w1⟩
 refine wpAny_passesOwn hp (thn (hc pins s1 σ1 H1 _ I1 (turn n σ1 H1 w1)) fun b s2 ⟨H2,I2,q2⟩=>?_)
 cases b with
 | true=>
  obtain⟨N,hN,q2⟩:=q2
  rw[if_pos rfl]
  refine wpAny_passesOwn hp (thn (hb pins s2 σ1 H2 _ I2 q2) fun f s3 q3=>?_)
  cases f with
  |next=>
   obtain⟨σ3,H3,I3,n3⟩:=q3
   obtain⟨m',hm,w3⟩:=hN σ3 H3 n3
   exact⟨m',hm,σ3,H3,I3,w3⟩
  |cont=>
   obtain⟨σ3,H3,I3,n3⟩:=q3
   obtain⟨m',hm,w3⟩:=hN σ3 H3 n3
   exact⟨m',hm,σ3,H3,I3,w3⟩
  |brk=>exact q3
  |ret v=>exact q3
 |false=>
  rw[if_neg Nu]
  exact wpAny_execs_nil ⟨σ1,H2,I2,q2⟩
end
structure It where
 go:Nat→Hp→Prop
 yld:Nat→Hp→V→Hp→Prop
 stop:Nat→Hp→Prop
noncomputable def FpOk(X:Cx)(pins:List (Addr×Obj))(H:Hp)(b:Addr):Prop:=
 H b=none∧b≠X.env.locals∧b∉X.fs∧(b∈X.ex∨X.s₀.heap.objs.size≤b)∧(∀x c,X.env.cells.lookup x=some c→c≠b)∧∀p∈X.pn++pins,p.1≠b
theorem Inv.fpOk{X:Cx}{pins:List (Addr×Obj)}{σ:St}{H H':Hp}{s:Shared}{b:Addr}(I:Inv X pins σ H s)(hb:s.heap.objs.size≤b)(hn:H' b=none):FpOk X pins H' b:=by
 refine⟨hn,Mn (NN I.lt hb),I.nofs hb, .inr (Nm I.sz hb),fun x c e z=>?_,fun p hp z=>?_⟩
 ·obtain⟨v,q⟩:=I.cell x c e
  exact absurd (NN q.lt (by rw[z];exact hb)) (Ms _)
 ·exact absurd (NN (Heap.lt_size (I.pin p hp).1) (by rw[z];exact hb)) (Ms _)
structure Turn (P:Program) (w:World) (K:Ni) (tg:Expr) (J:It) (fp:List Addr) (it:Addr) (tn:Nat→Heap→Prop):Prop where
 mem:it∈fp
 obj:∀i h,tn i h→∀b∈fp,∃o,h.get? b=some o∧∀v,o.data≠.cell v
 keep:∀i h h',tn i h→(∀b∈fp,∀o,h.get? b=some o→h'.get? b=some o)→tn i h'
 item:∀(X:Cx),X.prog=P→X.w=w→X.K=K→X.calm=true→∀(i:Nat) (pins:List (Addr×Obj)) (s:Shared) (σ:St) (H:Hp) (E:Value→Shared→Prop),Inv X pins σ H s→(∀b∈fp,FpOk X pins H b)→tn i s.heap→J.go i H→
  wpAny (model P w) X.A (pyNext (.ref it)) (fun r s1=>∃u,r=some u∧
   wpAny (model P w) X.A (letOwnedTupleGo tg (.ref it) u) (fun _ s2=>∃x H',Inv X pins σ H' s2∧RelV x u∧J.yld i H x H'∧tn (i+1) s2.heap∧∀b∈fp,H' b=none) E s1) E s
 done:∀(X:Cx),X.prog=P→X.w=w→X.K=K→X.calm=true→∀(i:Nat) (pins:List (Addr×Obj)) (s:Shared) (σ:St) (H:Hp) (E:Value→Shared→Prop),Inv X pins σ H s→(∀b∈fp,FpOk X pins H b)→tn i s.heap→J.stop i H→
  wpAny (model P w) X.A (pyNext (.ref it)) (fun r s1=>r=none∧Inv X pins σ H s1) E s
 self:∀(A:Around) (i:Nat) (s:Shared) (Q:Value→Shared→Prop) (E:Value→Shared→Prop),tn i s.heap→Q (.ref it) s→wpAny (model P w) A (pyIter (.ref it)) Q E s
noncomputable abbrev TI:=St→Hp→(It→Hp→Prop)→Prop
noncomputable def PIE(X:Cx)(pins:List (Addr×Obj))(σ:St)(tg:Expr)(R:It→Hp→Prop)(itv:Value)(s2:Shared):Prop:=
 ∃(it:Addr) (fp:List Addr) (tn:Nat→Heap→Prop) (J:It) (H':Hp),itv=.ref it∧Inv X pins σ H' s2∧Turn X.prog X.w X.K tg J fp it tn∧tn 0 s2.heap∧(∀b∈fp,FpOk X pins H' b)∧R J H'
noncomputable def PI(X:Cx)(tg iter:Expr)(wi:TI):Prop:=
 ∀(pins:List (Addr×Obj)) (s:Shared) (σ:St) (H:Hp) (R:It→Hp→Prop),Inv X pins σ H s→wi σ H R→
  wpAny (model X.prog X.w) X.A (eval iter X.env) (fun v s1=>wpAny (model X.prog X.w) X.A (pyIter v) (PIE X pins σ tg R) X.xe s1) X.xe s
theorem go_of{M:Model}{A:Around}{E:Value→Shared→Prop}{s:Shared}{tg:Expr}{it:Addr}{u:Value}{o:Obj}{n:String}{vs:Array Value}{Q:Unit→Shared→Prop}(ho:s.heap.get? it=some o)(hc:o.cls=.type n)(hd:o.data=.fields vs)
    (hn:["enumerate","zip","dict_itemiterator","dict_reverseitemiterator","odict_iterator","itertools.zip_longest","itertools.pairwise"].contains n=false) (hQ:Q () s):wpAny M A (letOwnedTupleGo tg (.ref it) u) Q E s:=by
  unfold letOwnedTupleGo
  cases tg <;> first
    |exact wpAny_pure hQ
    |(cases u <;> first
        |exact wpAny_pure hQ
        | (refine wpAny_bind (wpAny_load ho ?_)
           rw[hc,hd]
           show wpAny M A (if(["enumerate","zip","dict_itemiterator","dict_reverseitemiterator","odict_iterator","itertools.zip_longest","itertools.pairwise"].contains n&&vs[0]? ==some (rawInt _))=true then _ else _) Q E s
           rw[if_neg (by intro h;rw[hn,EE] at h;cases h)]
           exact wpAny_pure hQ))
noncomputable def Itl(K:Ni)(a:Addr):It:=
 ⟨fun i H=>∃xs x,SqL K H a xs∧xs[i]?=some x,fun i H x H'=>H'=H∧∀xs,SqL K H a xs→xs[i]?=some x,fun i H=>∃xs,SqL K H a xs∧xs.length≤i⟩
noncomputable def Itr(lo:Int)(n:Nat):It:=⟨fun i _=>i<n,fun i H x H'=>H'=H∧x=.int (lo+i),fun i _=>n≤i⟩
theorem kiD{P:Program}{w:World}{K:Ni}{tg:Expr}(a it:Addr):Turn P w K tg (Itl K a) [it] it (fun i h=>h.IsListIter it a i) where
 mem:=by simp
 obj:=fun i h st b hb=>by
  have e:b=it:=by simpa using hb
  subst e
  obtain⟨o,e,c,d⟩:=st
  exact⟨o,e,fun v z=>by rw[d] at z;cases z⟩
 keep:=fun i h h' st k=>st.at fun o e=>k it (by simp) o e
 item:=by
  intro X hP hw hK hc i pins s σ H E I hf st hg
  subst hP hw hK
  obtain⟨xs,x,hq,hx⟩:=hg
  obtain⟨its,rv,p,hz⟩:=I.list hq
  obtain⟨u,hu,ru⟩:=rv.get hx
  obtain⟨f0,f1,f2,f3,f4,f5⟩:=hf it (by simp)
  refine wpAny_pyNext_list_item st p.isList (x:=u) (by simpa using hu) fun h' st' sb=>?_
  have I1:Inv X pins σ H {s with heap:=h'}:=I.turned (t':=s.toks) (fun b o hb e=>(sb.2 b hb).trans e) f0 f1 f3 f4 f5
  obtain⟨o,e,c,d⟩:=id st'
  exact⟨u,rfl,go_of (s:={s with heap:=h'}) e c d (by decide) ⟨x,H,I1,ru,⟨rfl,fun ys hy=>by rw[I.list_inj hy hq];exact hx⟩,st',fun b hb=>(hf b hb).1⟩⟩
 done:=by
  intro X hP hw hK hc i pins s σ H E I hf st hg
  subst hP hw hK
  obtain⟨xs,hq,hx⟩:=hg
  obtain⟨its,rv,p,hz⟩:=I.list hq
  obtain⟨f0,f1,f2,f3,f4,f5⟩:=hf it (by simp)
  have hl:=rv.length
  exact wpAny_pyNext_list_end (I.ok.hd hc) st p.isList (by simp;omega) fun h' eb=>⟨rfl,I.turned (t':=s.toks) (fun b o hb e=>eb b o hb e) f0 f1 f3 f4 f5⟩
 self:=fun _ _ _ _ _ st h=>wpAny_pyIter_listiter st h
theorem kif{P:Program}{w:World}{K:Ni}{tg:Expr}(it:Addr)(lo:Int)(n:Nat):Turn P w K tg (Itr lo n) [it] it (fun i h=>IsRangeIter h it (lo+(i:Nat)*1) ((n:Int)-(i:Nat)) 1) where
 mem:=by simp
 obj:=fun i h st b hb=>by
  have e:b=it:=by simpa using hb
  subst e
  exact⟨_,st,fun v z=>by
   have z':Data.fields _=Data.cell v:=z
   cases z'⟩
 keep:=fun i h h' st k=>k it (by simp) _ st
 item:=by
  intro X hP hw hK hc i pins s σ H E I hf st hg
  subst hP hw hK
  obtain⟨f0,f1,f2,f3,f4,f5⟩:=hf it (by simp)
  have W:=Walks.range (prog:=X.prog) (w:=X.w) (I.ok.hd hc) it lo 1 n
  refine W.item i s _ _ hg st fun v h' tk hv st' kk=>?_
  obtain⟨t,rfl⟩:=hv
  have I1:Inv X pins σ H {s with heap:=h',toks:=tk}:=I.turned (fun b o hb e=>kk b o (by simpa using hb) e) f0 f1 f3 f4 f5
  refine⟨_,rfl,go_of (s:={s with heap:=h',toks:=tk}) (n:="range_iterator") st' rfl rfl (by decide) ⟨.int (lo+i),H,I1,⟨t,?_⟩,⟨rfl,rfl⟩,st',fun b hb=>(hf b hb).1⟩⟩
  rw[Int.mul_one]
 done:=by
  intro X hP hw hK hc i pins s σ H E I hf st hg
  subst hP hw hK
  obtain⟨f0,f1,f2,f3,f4,f5⟩:=hf it (by simp)
  exact wpAny_pyNext_range_end (I.ok.hd hc) st (by have:n≤i:=hg;omega) fun h' eb=>⟨rfl,I.turned (t':=s.toks) (fun b o hb e=>eb b o hb e) f0 f1 f3 f4 f5⟩
 self:=fun _ _ _ _ _ st h=>wpAny_pyIter_rangeiter st h
end L2
namespace L2
open PySem PySem.Spec PyProof.Rows
section
variable {X:Cx} {tg:Expr}
noncomputable def iList(K:Ni)(tl:TE):TI:=fun σ H R=>tl σ H fun x H1=>∃a,x=.ref a∧(∃xs,SqL K H1 a xs)∧R (Itl K a) H1
theorem klL{l:Expr}{tl:TE}(hl:PE X l tl):PI X tg l (iList X.K tl):=by
 intro pins s σ H R I h
 refine thn (hl pins s σ H _ I h) fun v s1 ⟨x,H1,I1,r1,q1⟩=>?_
 obtain⟨a,e,⟨xs,hq⟩,q⟩:=q1
 subst e
 cases r1
 obtain⟨its,rv,p,hz⟩:=I1.list hq
 refine wpAny_pyIter_list p.isList ?_
 refine⟨s1.heap.objs.size,[s1.heap.objs.size],_,_,H1,rfl,I1.kept (t':=s1.toks) fun b o e=>Heap.get?_push_of_some _ e,kiD a _,⟨_,Heap.get?_push_size _ rfl,rfl,rfl⟩,fun b hb=>?_,q⟩
 have e:b=s1.heap.objs.size:=by simpa using hb
 subst e
 exact I1.fpOk (Nj _) (I1.hok.fresh (Nj _))
theorem khM{pins:List (Addr×Obj)}{σ:St}{H:Hp}{s:Shared}{R:It→Hp→Prop}{E:Value→Shared→Prop}{lo hi:Int}{t u v:Tok}{tk:Nat}(I:Inv X pins σ H s)(h1: -(2 ^ 62)≤lo)(h2:lo<2 ^ 62)(h3: -(2 ^ 62)≤hi)(h4:hi<2 ^ 62)
  (q:R (Itr lo (hi-lo).toNat) H):wpAny (model X.prog X.w) X.A (pyIter (.ref s.heap.objs.size)) (PIE X pins σ tg R) E {s with heap:=s.heap.push {cls:=.type "range",data:=.fields #[.int lo t, .int hi u, .int 1 v]},toks:=tk}:=by
 refine wpAny_pyIter_range (IsRange.new ..) (small_one h1 h2 h3 h4) ?_
 have I1:Inv X pins σ H {s with heap:=s.heap.push {cls:=.type "range",data:=.fields #[.int lo t, .int hi u, .int 1 v]},toks:=tk}:=I.kept fun b o e=>Heap.get?_push_of_some _ e
 refine⟨(s.heap.push {cls:=.type "range",data:=.fields #[.int lo t, .int hi u, .int 1 v]}).objs.size,[(s.heap.push {cls:=.type "range",data:=.fields #[.int lo t, .int hi u, .int 1 v]}).objs.size],_,_,H,rfl,
  I1.kept (t':=tk) fun b o e=>Heap.get?_push_of_some _ e,kif _ lo (hi-lo).toNat,?_,fun b hb=>?_,q⟩
 ·have e1:lo+((0:Nat):Int)*1=lo:=by simp
  have e2:(((hi-lo).toNat:Nat):Int)-((0:Nat):Int)=Builtin.Range.rangeSize lo hi 1:=by rw[rangeSize_one];split <;> omega
  show IsRangeIter _ _ (lo+((0:Nat):Int)*1) ((((hi-lo).toNat:Nat):Int)-((0:Nat):Int)) 1
  rw[e1,e2]
  exact Heap.get?_push_size _ rfl
 ·have e:b=(s.heap.push {cls:=.type "range",data:=.fields #[.int lo t, .int hi u, .int 1 v]}).objs.size:=by simpa using hb
  subst e
  exact I1.fpOk (Nj _) (I1.hok.fresh (Nj _))
noncomputable def iRng1(ta:TA):TI:=fun σ H R=>ta σ H fun vs H1=>∃j:Int,vs=[.int j]∧-(2 ^ 62)≤j∧j<2 ^ 62∧R (Itr 0 j.toNat) H1
noncomputable def iRng2(ta:TA):TI:=fun σ H R=>ta σ H fun vs H1=>∃i j:Int,vs=[.int i, .int j]∧(-(2 ^ 62)≤i∧i<2 ^ 62∧-(2 ^ 62)≤j∧j<2 ^ 62)∧R (Itr i (j-i).toNat) H1
theorem kb3{a:Expr}{ta:TA}{p pos:Pos}(hg:Gl X "range")(hm:X.mg "range"=none)(ha:PA X [a] ta)(hs:starEach [a] X.env=[(false,eval a X.env)]:=by rfl):PI X tg (.Call (.Name "range" p) [a] [] pos) (iRng1 ta):=by
 intro pins s σ H R I h
 refine Call_ (kdC I hg hm boot_range (PyProof.Rows.callWith_type1 (thn (ha pos pins s σ H _ I h) fun us s1 ⟨vs,H1,I1,r1,q1⟩=>?_) hs rfl))
 obtain⟨j,e,q1,q2,q⟩:=q1
 subst e
 cases r1 with
 |cons r rr=>
  cases rr
  obtain⟨t,rfl⟩:=r
  exact call_range_1 (khM I1 (by omega) (by omega) q1 q2 (by simpa using q))
theorem kjl{a b:Expr}{ta:TA}{p pos:Pos}(hg:Gl X "range")(hm:X.mg "range"=none)(ha:PA X [a,b] ta)(hs:starEach [a,b] X.env=[(false,eval a X.env),(false,eval b X.env)]:=by rfl)(hs2:starEach [b] X.env=[(false,eval b X.env)]:=by rfl):
  PI X tg (.Call (.Name "range" p) [a,b] [] pos) (iRng2 ta):=by
 intro pins s σ H R I h
 refine Call_ (kdC I hg hm boot_range (PyProof.Rows.callWith_type1 (thn (ha pos pins s σ H _ I h) fun us s1 ⟨vs,H1,I1,r1,q1⟩=>?_) (by rw[hs,hs2]) (by rw[hs2];rfl)))
 obtain⟨i,j,e,⟨q1,q2,q3,q4⟩,q⟩:=q1
 subst e
 cases r1 with
 | cons r rr=>
  cases rr with
  |cons r' rr=>
   cases rr
   obtain⟨t,rfl⟩:=r
   obtain⟨t',rfl⟩:=r'
   exact call_range_2 (khM I1 q1 q2 q3 q4 q)
noncomputable def tFor(wi:TI)(g:TG)(tb:TS):TS:=fun D σ H=>wi σ H fun J H1=>∃W:Nat→Nat→St→Hp→Prop,(∃m,W 0 m σ H1)∧∀i m σ H,W i m σ H→
 (J.stop i H∧D.nx σ H)∨(J.go i H∧∃N:St→Hp→Prop,(∀σ' H',N σ' H'→∃m',m'<m∧W (i+1) m' σ' H')∧∀x H',J.yld i H x H'→g x σ H' fun σ2 H2=>tb {D with nx:=N,ct:=N,bk:=D.nx} σ2 H2)
noncomputable def khR(fp:List Addr)(h:Heap):List (Addr×Obj):=fp.filterMap fun b=>(h.get? b).map fun o=>(b,o)
theorem kc7{fp:List Addr}{h:Heap}{b:Addr}{o:Obj}(hb:b∈fp)(e:h.get? b=some o):(b,o)∈khR fp h:=List.mem_filterMap.mpr ⟨b,hb,by rw[e];rfl⟩
theorem kjt{fp:List Addr}{h:Heap}{p:Addr×Obj}(hp:p∈khR fp h):p.1∈fp∧h.get? p.1=some p.2:=by
 obtain⟨b,hb,e⟩:=List.mem_filterMap.mp hp
 cases q:h.get? b with
 |none=>rw[q] at e;cases e
 |some o=>
  rw[q] at e
  have e':(b,o)=p:=Option.some.inj e
  subst e'
  exact⟨hb,q⟩
theorem Inv.pinned{pins:List (Addr×Obj)}{σ:St}{H:Hp}{s:Shared}{fp:List Addr}(I:Inv X pins σ H s)(hf:∀b∈fp,FpOk X pins H b)(ho:∀b∈fp,∃o,s.heap.get? b=some o∧∀v,o.data≠.cell v):Inv X (pins++khR fp s.heap) σ H s:=
 I.pins_of fun p hp=>(NU.mp hp).elim (fun z=>I.pin p (NV _ z)) fun z=>by
  obtain⟨hb,e⟩:=kjt z
  obtain⟨f0,f1,f2,_⟩:=hf p.1 hb
  obtain⟨o,e',d⟩:=ho p.1 hb
  rw[e] at e';cases e'
  exact⟨e,f0,f1,f2,d⟩
theorem Inv.unpinned{pins pl:List (Addr×Obj)}{σ:St}{H:Hp}{s:Shared}(I:Inv X (pins++pl) σ H s):Inv X pins σ H s:=I.pins_of fun p hp=>I.pin p (NV _ (ED _ hp))
theorem kbA{iter:Expr}{body:List Stmt}{wi:TI}{g:TG}{tb:TS}{pos:Pos}(hp:PassesOwn (model X.prog X.w) X.A X.env X.xe)(hc:X.calm=true)(hi:PI X tg iter wi)(hg:PG X tg g)(hb:PSs X body tb)
  (hs:∀x,foldedSetIterable iter X.env x=pure x:=by intro _;rfl):PS X (.For tg iter body [] pos) (tFor wi g tb):=by
 intro pins s σ H D I h
 refine wpAny_For (thn (hi pins s σ H _ I h) fun v s1 h1=>thn h1 fun itv s2 h2=>?_) hs
 obtain⟨it,fp,tn,J,H2,e,I2,T,st2,f2,W,⟨m0,w0⟩,turn⟩:=h2
 subst e
 have stat:∀{H':Hp},(∀b∈fp,H' b=none)→∀b∈fp,FpOk X pins H' b:=fun hn b hb=>⟨hn b hb,(f2 b hb).2⟩
 refine codeAny_forLoop_any (fun n s'=>∃i σ' H',Inv X pins σ' H' s'∧tn i s'.heap∧(∀b∈fp,H' b=none)∧W i n σ' H') ?_ m0 ⟨0,σ,H2,I2,st2,fun b hb=>(f2 b hb).1,w0⟩
 rintro n s3 ⟨i,σ3,H3,I3,st3,fr3,w3⟩
 rcases turn i n σ3 H3 w3 with⟨stop,qn⟩|⟨go,N,hN,step⟩
 ·refine wpAny_passesOwn hp (thn (T.done X rfl rfl rfl hc i pins s3 σ3 H3 X.xe I3 (stat fr3) st3 stop) fun r s4 ⟨hr,I4⟩=>?_)
  subst hr
  exact wpAny_execs_nil ⟨σ3,H3,I4,qn⟩
 ·refine wpAny_passesOwn hp (thn (T.item X rfl rfl rfl hc i pins s3 σ3 H3 X.xe I3 (stat fr3) st3 go) fun r s4 ⟨u,hr,h4⟩=>?_)
  subst hr
  refine wpAny_passesOwn hp (thn h4 fun _ s5 ⟨x,H5,I5,r5,y5,st5,fr5⟩=>?_)
  have I5':=I5.pinned (stat fr5) (T.obj _ _ st5)
  refine wpAny_passesOwn hp (thn (hg _ s5 σ3 H5 x u _ I5' r5 (step x H5 y5)) fun _ s6 ⟨σ6,H6,I6,q6⟩=>?_)
  refine wpAny_passesOwn hp (thn (hb _ s6 σ6 H6 _ I6 q6) fun f s7 q7=>?_)
  have again:∀{σ7:St} {H7:Hp},Inv X (pins++khR fp s5.heap) σ7 H7 s7→N σ7 H7→∃m,m<n∧∃i σ' H',Inv X pins σ' H' s7∧tn i s7.heap∧(∀b∈fp,H' b=none)∧W i m σ' H':=fun {σ7 H7} I7 n7=>by
   obtain⟨m',hm,w7⟩:=hN σ7 H7 n7
   refine⟨m',hm,i+1,σ7,H7,I7.unpinned,T.keep _ _ _ st5 fun b hb o e=>(I7.pin (b,o) (NV _ (NV _ (kc7 hb e)))).1,fun b hb=>?_,w7⟩
   obtain⟨o,e,d⟩:=T.obj _ _ st5 b hb
   exact(I7.pin (b,o) (NV _ (NV _ (kc7 hb e)))).2.1
  cases f with
  |next=>obtain⟨σ7,H7,I7,n7⟩:=q7;exact again I7 n7
  |cont=>obtain⟨σ7,H7,I7,n7⟩:=q7;exact again I7 n7
  |brk=>obtain⟨σ7,H7,I7,q7⟩:=q7;exact⟨σ7,H7,I7.unpinned,q7⟩
  |ret v=>obtain⟨x7,σ7,H7,I7,r7,q7⟩:=q7;exact⟨x7,σ7,H7,I7.unpinned,r7,q7⟩
end
theorem kbV{K:Ni}{a:Addr}{xs:List V}{g:TG}{tb:TS}{D:Ends}{σ:St}{H:Hp}(Pv:Nat→St→Hp→Prop)(h0:Pv 0 σ H)(hl:∀i σ H,i≤xs.length→Pv i σ H→SqL K H a xs)
  (hs:∀i x σ H,xs[i]?=some x→Pv i σ H→g x σ H fun σ2 H2=>tb {D with nx:=Pv (i+1),ct:=Pv (i+1),bk:=D.nx} σ2 H2) (hd:∀σ H,Pv xs.length σ H→D.nx σ H):
  ∃W:Nat→Nat→St→Hp→Prop,(∃m,W 0 m σ H)∧∀i m σ H,W i m σ H→
   ((Itl K a).stop i H∧D.nx σ H)∨((Itl K a).go i H∧∃N:St→Hp→Prop,(∀σ' H',N σ' H'→∃m',m'<m∧W (i+1) m' σ' H')∧∀x H',(Itl K a).yld i H x H'→g x σ H' fun σ2 H2=>tb {D with nx:=N,ct:=N,bk:=D.nx} σ2 H2):=by
 refine⟨fun i m σ H=>m=xs.length-i∧i≤xs.length∧Pv i σ H,⟨xs.length,by simp,N6 _,h0⟩,?_⟩
 rintro i m σ H ⟨rfl,hi,p⟩
 have q:=hl i σ H hi p
 by_cases hlt:i<xs.length
 ·refine .inr ⟨⟨xs,xs[i],q,by simp[hlt]⟩,Pv (i+1),fun σ' H' p'=>⟨xs.length-(i+1),by omega,rfl,hlt,p'⟩,fun x H' y=>?_⟩
  obtain⟨e,y⟩:=y
  subst e
  exact hs i x σ _ (y xs q) p
 ·have e:i=xs.length:=by omega
  subst e
  exact .inl ⟨⟨xs,q,Nj _⟩,hd σ H p⟩
theorem kc1{lo:Int}{n:Nat}{g:TG}{tb:TS}{D:Ends}{σ:St}{H:Hp}(Pv:Nat→St→Hp→Prop)(h0:Pv 0 σ H)
  (hs:∀i σ H,i<n→Pv i σ H→g (.int (lo+i)) σ H fun σ2 H2=>tb {D with nx:=Pv (i+1),ct:=Pv (i+1),bk:=D.nx} σ2 H2) (hd:∀σ H,Pv n σ H→D.nx σ H):
  ∃W:Nat→Nat→St→Hp→Prop,(∃m,W 0 m σ H)∧∀i m σ H,W i m σ H→
   ((Itr lo n).stop i H∧D.nx σ H)∨((Itr lo n).go i H∧∃N:St→Hp→Prop,(∀σ' H',N σ' H'→∃m',m'<m∧W (i+1) m' σ' H')∧∀x H',(Itr lo n).yld i H x H'→g x σ H' fun σ2 H2=>tb {D with nx:=N,ct:=N,bk:=D.nx} σ2 H2):=by
 refine⟨fun i m σ H=>m=n-i∧i≤n∧Pv i σ H,⟨n,by simp,N6 _,h0⟩,?_⟩
 rintro i m σ H ⟨rfl,hi,p⟩
 by_cases hlt:i<n
 ·refine .inr ⟨hlt,Pv (i+1),fun σ' H' p'=>⟨n-(i+1),by omega,rfl,hlt,p'⟩,fun x H' y=>?_⟩
  obtain⟨e,y⟩:=y
  subst e y
  exact hs i σ _ hlt p
 ·have e:i=n:=by omega
  subst e
  exact .inl ⟨Nj _,hd σ H p⟩
theorem khr{c:TT}{tb:TS}{D:Ends}{σ:St}{H:Hp}(Pv:St→Hp→Prop)(μ:St→Hp→Nat)(h0:Pv σ H)
  (hs:∀σ H,Pv σ H→c σ H fun b H1=>if b=true then tb {D with nx:=fun σ' H'=>Pv σ' H'∧μ σ' H'< μ σ H,ct:=fun σ' H'=>Pv σ' H'∧μ σ' H'< μ σ H,bk:=D.nx} σ H1 else D.nx σ H1)
  (mono:∀σ H Q Q',(∀b H1,Q b H1→Q' b H1)→c σ H Q→c σ H Q'):kkV c tb D σ H:=by
 refine⟨fun m σ H=>m= μ σ H∧Pv σ H,⟨_,rfl,h0⟩,?_⟩
 rintro m σ H ⟨rfl,p⟩
 refine mono σ H _ _ (fun b H1 q=>?_) (hs σ H p)
 cases b with
 |true=>exact⟨_,fun σ' H' ⟨p',l⟩=>⟨_,l,rfl,p'⟩,q⟩
 |false=>exact q
end L2
namespace L2
open PySem PySem.Spec PyProof.Rows
noncomputable abbrev R2:=V→V→Hp→VK→Prop
noncomputable def OpR(X:Cx)(f:Value→Value→Sem Value)(r:R2):Prop:=
 ∀(pins:List (Addr×Obj)) (s:Shared) (σ:St) (H:Hp) (x y:V) (v u:Value) (Q:VK),Inv X pins σ H s→RelV x v→RelV y u→r x y H Q→
  wpAny (model X.prog X.w) X.A (f v u) (EP X pins σ Q) X.xe s
noncomputable def UnR(X:Cx)(f:Value→Sem Value)(r:V→Hp→VK→Prop):Prop:=
 ∀(pins:List (Addr×Obj)) (s:Shared) (σ:St) (H:Hp) (x:V) (v:Value) (Q:VK),Inv X pins σ H s→RelV x v→r x H Q→
  wpAny (model X.prog X.w) X.A (f v) (EP X pins σ Q) X.xe s
noncomputable def CallR(X:Cx)(f:Value)(r:List V→Hp→VK→Prop):Prop:=
 ∀(pins:List (Addr×Obj)) (s:Shared) (σ:St) (H:Hp) (xs:List V) (us:List Value) (Q:VK),Inv X pins σ H s→Vals xs us→r xs H Q→
  wpAny (model X.prog X.w) X.A (call f us) (EP X pins σ Q) X.xe s
noncomputable def tOp(r:R2)(ta tb:TE):TE:=fun σ H Q=>ta σ H fun x H1=>tb σ H1 fun y H2=>r x y H2 Q
noncomputable def tUn(r:V→Hp→VK→Prop)(ta:TE):TE:=fun σ H Q=>ta σ H fun x H1=>r x H1 Q
noncomputable def rI(C:Int→Int→Prop)(g:Int→Int→V):R2:=fun x y H Q=>∃i j,x=.int i∧y=.int j∧C i j∧Q (g i j) H
noncomputable def rI0(g:Int→Int→V):R2:=fun x y H Q=>∃i j,x=.int i∧y=.int j∧Q (g i j) H
noncomputable def rU(g:Int→V):V→Hp→VK→Prop:=fun x H Q=>∃i,x=.int i∧Q (g i) H
section
variable {X:Cx} {a b c:Expr} {ta tb tc:TE} {pos:Pos}
theorem binT(ha:PE X a ta)(hb:PE X b tb){pins:List (Addr×Obj)}{s:Shared}{σ:St}{H:Hp}{R:V→V→Hp→Prop}(I:Inv X pins σ H s)
  (h:ta σ H fun x H1=>tb σ H1 fun y H2=>R x y H2) {Q:Value→Shared→Prop} {f:Value→Value→Sem Value}
  (hf:∀v u s2 x y H2,Inv X pins σ H2 s2→RelV x v→RelV y u→R x y H2→wpAny (model X.prog X.w) X.A (f v u) Q X.xe s2):
  wpAny (model X.prog X.w) X.A (eval a X.env) (fun v s₁=>wpAny (model X.prog X.w) X.A (eval b X.env) (fun u s₂=>wpAny (model X.prog X.w) X.A (f v u) Q X.xe s₂) X.xe s₁) X.xe s:=by
 refine thn (ha pins s σ H _ I h) fun v s1 ⟨x,H1,I1,r1,q1⟩=>?_
 refine thn (hb pins s1 σ H1 _ I1 q1) fun u s2 ⟨y,H2,I2,r2,q2⟩=>?_
 exact hf v u s2 x y H2 I2 r1 r2 q2
theorem pe_op{op:Operator}{r:R2}(ho:OpR X (binaryOp op) r)(ha:PE X a ta)(hb:PE X b tb):PE X (.BinOp a op b pos) (tOp r ta tb):=by
 intro pins s σ H Q I h
 exact wpAny_BinOp (binT ha hb I h fun v u s2 x y H2 I2 rx ry q=>ho pins s2 σ H2 x y v u Q I2 rx ry q)
theorem pe_un{op:UnaryOp}{r:V→Hp→VK→Prop}(ho:UnR X (unaryOp op) r)(ha:PE X a ta):PE X (.UnaryOp op a pos) (tUn r ta):=by
 intro pins s σ H Q I h
 exact UnaryOp_ (thn (ha pins s σ H _ I h) fun v s1 ⟨x,H1,I1,r1,q1⟩=>ho pins s1 σ H1 x v Q I1 r1 q1)
theorem opI{f:Value→Value→Sem Value}{C:Int→Int→Prop}{g:Int→Int→Int}
  (rule:∀(i j:Int) (t u:Tok) (s:Shared) (Q:Value→Shared→Prop) (E:Value→Shared→Prop),C i j→Q (.int (g i j) s.toks) {s with toks:=s.toks+1}→wpAny (model X.prog X.w) X.A (f (.int i t) (.int j u)) Q E s):
  OpR X f (rI C fun i j=>.int (g i j)):=by
 intro pins s σ H x y v u Q I rx ry h
 obtain⟨i,j,rfl,rfl,hc,q⟩:=h
 obtain⟨t,rfl⟩:=rx
 obtain⟨t',rfl⟩:=ry
 exact rule i j t t' s _ _ hc ⟨.int (g i j),H,I.tok _,⟨_,rfl⟩,q⟩
theorem opI0{f:Value→Value→Sem Value}{g:Int→Int→Int}
  (rule:∀(i j:Int) (t u:Tok) (s:Shared) (Q:Value→Shared→Prop) (E:Value→Shared→Prop),Q (.int (g i j) s.toks) {s with toks:=s.toks+1}→wpAny (model X.prog X.w) X.A (f (.int i t) (.int j u)) Q E s):
  OpR X f (rI0 fun i j=>.int (g i j)):=by
 intro pins s σ H x y v u Q I rx ry h
 obtain⟨i,j,rfl,rfl,q⟩:=h
 obtain⟨t,rfl⟩:=rx
 obtain⟨t',rfl⟩:=ry
 exact rule i j t t' s _ _ ⟨.int (g i j),H,I.tok _,⟨_,rfl⟩,q⟩
theorem opB0{f:Value→Value→Sem Value}{g:Int→Int→Bool}
  (rule:∀(i j:Int) (t u:Tok) (s:Shared) (Q:Value→Shared→Prop) (E:Value→Shared→Prop),Q (.bool (g i j)) s→wpAny (model X.prog X.w) X.A (f (.int i t) (.int j u)) Q E s):
  OpR X f (rI0 fun i j=>.bl (g i j)):=by
 intro pins s σ H x y v u Q I rx ry h
 obtain⟨i,j,rfl,rfl,q⟩:=h
 obtain⟨t,rfl⟩:=rx
 obtain⟨t',rfl⟩:=ry
 exact rule i j t t' s _ _ ⟨.bl (g i j),H,I,rfl,q⟩
noncomputable def CDiv(i j:Int):Prop:=0<j∧j<1073741824
noncomputable def CMul(i j:Int):Prop:=(-(2 ^ 64)<i∧i<2 ^ 64)∨(-(2 ^ 64)<j∧j<2 ^ 64)
theorem CMul.ok{i j:Int}(h:CMul i j):IntMulOk i j:=by
 rcases h with⟨h1,h2⟩|⟨h1,h2⟩
 ·exact .of_left (intBits_le_64 h1 h2)
 ·exact .of_right (intBits_le_64 h1 h2)
theorem kaB:OpR X (binaryOp .Add) (rI0 fun i j=>.int (i+j)):=opI0 fun _ _ _ _ _ _ _ q=>add_int q
theorem kdd:OpR X (binaryOp .Sub) (rI0 fun i j=>.int (i-j)):=opI0 fun _ _ _ _ _ _ _ q=>sub_int q
theorem kcb:OpR X (binaryOp .Mult) (rI CMul fun i j=>.int (i*j)):=opI fun _ _ _ _ _ _ _ hc q=>mul_int q hc.ok
theorem kdU:OpR X (binaryOp .FloorDiv) (rI CDiv fun i j=>.int (i/j)):=opI fun i j _ _ _ _ _ hc q=>by
 have h1:(0:Int)<j:=hc.1
 have h2:j<1073741824:=hc.2
 exact floordiv_int (by omega) (by rw[Int.fdiv_eq_ediv_of_nonneg i (by omega)];exact q) (.inl (PyProof.noPylong_small (by omega)))
theorem keK:OpR X (binaryOp .Mod) (rI (fun _ j=>0<j) fun i j=>.int (i%j)):=opI fun i j _ _ _ _ _ hc q=>by
 have h1:(0:Int)<j:=hc
 exact mod_int' (by omega) (by rw[Int.fmod_eq_emod_of_nonneg i (by omega)];exact q)
theorem unI{f:Value→Sem Value}{g:Int→Int}
  (rule:∀(i:Int) (t:Tok) (s:Shared) (Q:Value→Shared→Prop) (E:Value→Shared→Prop),Q (.int (g i) s.toks) {s with toks:=s.toks+1}→wpAny (model X.prog X.w) X.A (f (.int i t)) Q E s):
  UnR X f (rU fun i=>.int (g i)):=by
 intro pins s σ H x v Q I rx h
 obtain⟨i,rfl,q⟩:=h
 obtain⟨t,rfl⟩:=rx
 exact rule i t s _ _ ⟨.int (g i),H,I.tok _,⟨_,rfl⟩,q⟩
theorem kkU:UnR X (unaryOp .USub) (rU fun i=>.int (-i)):=unI fun _ _ _ _ _ q=>neg_int q
end
noncomputable def scal:V→V→Bool
 | .non, .non=>true| .non, .int _=>true| .int _, .non=>true| .non, .bl _=>true| .bl _, .non=>true| .non, .str _=>true| .str _, .non=>true
 | .int _, .int _=>true| .bl _, .bl _=>true| .str _, .str _=>true| .byt _, .byt _=>true
 | .int _, .str _=>true| .str _, .int _=>true| .bl _, .str _=>true| .str _, .bl _=>true
 |_,_=>false
noncomputable def rEq:R2:=fun x y H Q=>scal x y=true∧Q (.bl (decide (x=y))) H
noncomputable def rNe:R2:=fun x y H Q=>scal x y=true∧Q (.bl (!decide (x=y))) H
theorem kjZ{i j:Int}:decide (V.int i=V.int j)=(i==j):=by
 rw[Ef]
 simp
theorem klo{i j:Bool}:decide (V.bl i=V.bl j)=(i==j):=by
 rw[Ef]
 simp
theorem kjY{i j:Str}:decide (V.str i=V.str j)=(i==j):=by
 rw[Ef]
 simp
theorem kj0{i j:Array UInt8}:decide (V.byt i=V.byt j)=(i.toList==j.toList):=by
 rw[Ef]
 cases i
 cases j
 simp
section
variable {X:Cx} {a b c:Expr} {ta tb tc:TE} {pos:Pos}
theorem kaU{pins:List (Addr×Obj)}{σ:St}{H:Hp}{s:Shared}{Q:VK}{k k':Bool}(I:Inv X pins σ H s)(q:Q (.bl k) H)(e:k=k'):EP X pins σ Q (.bool k') s:=by
 subst e
 exact⟨.bl k,H,I,rfl,q⟩
theorem op_eq:OpR X (compareOp .Eq) rEq:=by
 intro pins s σ H x y v u Q I rx ry h
 obtain⟨hs,q⟩:=h
 cases x with
 |non=>
  cases rx
  cases y with
  |non=>cases ry;exact PySem.EqNone.eq_none_none (kaU I q (by simp))
  |bl j=>cases ry;exact PySem.EqNone.eq_none_bool (kaU I q (by simp))
  |int j=>obtain⟨t',rfl⟩:=ry;exact PySem.EqNone.eq_none_int (kaU I q (by simp))
  |str j=>obtain⟨t',rfl⟩:=ry;exact PySem.EqNone.eq_none_str (kaU I q (by simp))
  |_=>exact absurd (show false=true from hs) Nu
 |bl i=>
  cases rx
  cases y with
  |non=>cases ry;exact PySem.EqNone.eq_bool_none (kaU I q (by simp))
  |bl j=>cases ry;exact eq_bool (kaU I q klo)
  |str j=>obtain⟨t',rfl⟩:=ry;exact PySem.EqMixed.eq_bool_str (kaU I q (by simp))
  |_=>exact absurd (show false=true from hs) Nu
 |int i=>
  obtain⟨t,rfl⟩:=rx
  cases y with
  |non=>cases ry;exact PySem.EqNone.eq_int_none (kaU I q (by simp))
  |int j=>obtain⟨t',rfl⟩:=ry;exact eq_int (kaU I q kjZ)
  |str j=>obtain⟨t',rfl⟩:=ry;exact PySem.EqMixed.eq_int_str (kaU I q (by simp))
  |_=>exact absurd (show false=true from hs) Nu
 |str i=>
  obtain⟨t,rfl⟩:=rx
  cases y with
  |non=>cases ry;exact PySem.EqNone.eq_str_none (kaU I q (by simp))
  |bl j=>cases ry;exact PySem.EqMixed.eq_str_bool (kaU I q (by simp))
  |int j=>obtain⟨t',rfl⟩:=ry;exact PySem.EqMixed.eq_str_int (kaU I q (by simp))
  |str j=>obtain⟨t',rfl⟩:=ry;exact eq_str (kaU I q kjY)
  |_=>exact absurd (show false=true from hs) Nu
 |byt i=>
  obtain⟨t,rfl⟩:=rx
  cases y with
  |byt j=>obtain⟨t',rfl⟩:=ry;exact PySem.W.eq_bytes (kaU I q kj0)
  |_=>exact absurd (show false=true from hs) Nu
 |_=>cases y <;> exact absurd (show false=true from hs) Nu
theorem op_ne:OpR X (compareOp .NotEq) rNe:=by
 intro pins s σ H x y v u Q I rx ry h
 obtain⟨hs,q⟩:=h
 cases x with
 |non=>
  cases rx
  cases y with
  |non=>cases ry;exact PySem.EqNone.ne_none_none (kaU I q (by simp))
  |bl j=>cases ry;exact PySem.EqNone.ne_none_bool (kaU I q (by simp))
  |int j=>obtain⟨t',rfl⟩:=ry;exact PySem.EqNone.ne_none_int (kaU I q (by simp))
  |str j=>obtain⟨t',rfl⟩:=ry;exact PySem.EqNone.ne_none_str (kaU I q (by simp))
  |_=>exact absurd (show false=true from hs) Nu
 |bl i=>
  cases rx
  cases y with
  |non=>cases ry;exact PySem.EqNone.ne_bool_none (kaU I q (by simp))
  |bl j=>cases ry;exact ne_bool (kaU I q (congrArg not klo))
  |str j=>obtain⟨t',rfl⟩:=ry;exact PySem.EqMixed.ne_bool_str (kaU I q (by simp))
  |_=>exact absurd (show false=true from hs) Nu
 |int i=>
  obtain⟨t,rfl⟩:=rx
  cases y with
  |non=>cases ry;exact PySem.EqNone.ne_int_none (kaU I q (by simp))
  |int j=>obtain⟨t',rfl⟩:=ry;exact ne_int (kaU I q (congrArg not kjZ))
  |str j=>obtain⟨t',rfl⟩:=ry;exact PySem.EqMixed.ne_int_str (kaU I q (by simp))
  |_=>exact absurd (show false=true from hs) Nu
 |str i=>
  obtain⟨t,rfl⟩:=rx
  cases y with
  |non=>cases ry;exact PySem.EqNone.ne_str_none (kaU I q (by simp))
  |bl j=>cases ry;exact PySem.EqMixed.ne_str_bool (kaU I q (by simp))
  |int j=>obtain⟨t',rfl⟩:=ry;exact PySem.EqMixed.ne_str_int (kaU I q (by simp))
  |str j=>obtain⟨t',rfl⟩:=ry;exact ne_str (kaU I q (congrArg not kjY))
  |_=>exact absurd (show false=true from hs) Nu
 |byt i=>
  obtain⟨t,rfl⟩:=rx
  cases y with
  |byt j=>obtain⟨t',rfl⟩:=ry;exact PySem.W.ne_bytes (kaU I q (congrArg not kj0))
  |_=>exact absurd (show false=true from hs) Nu
 |_=>cases y <;> exact absurd (show false=true from hs) Nu
theorem op_lt:OpR X (compareOp .Lt) (rI0 fun i j=>.bl (decide (i<j))):=opB0 fun _ _ _ _ _ _ _ q=>lt_int q
theorem op_le:OpR X (compareOp .LtE) (rI0 fun i j=>.bl (decide (i≤j))):=opB0 fun _ _ _ _ _ _ _ q=>le_int q
theorem op_gt:OpR X (compareOp .Gt) (rI0 fun i j=>.bl (decide (j<i))):=opB0 fun _ _ _ _ _ _ _ q=>gt_int q
theorem op_ge:OpR X (compareOp .GtE) (rI0 fun i j=>.bl (decide (j≤i))):=opB0 fun _ _ _ _ _ _ _ q=>ge_int q
theorem kd5:OpR X (compareOp .Is) (fun x y H Q=>y=.non∧Q (.bl (decide (x=.non))) H):=by
 intro pins s σ H x y v u Q I rx ry h
 obtain⟨rfl,q⟩:=h
 cases ry
 refine is_none_gen (kaU I q ?_)
 cases x <;> first
  |(cases rx;rfl)
  |(obtain⟨t,rfl⟩:=rx;rfl)
theorem kcS:OpR X (compareOp .IsNot) (fun x y H Q=>y=.non∧Q (.bl (!decide (x=.non))) H):=by
 intro pins s σ H x y v u Q I rx ry h
 obtain⟨rfl,q⟩:=h
 cases ry
 refine isnot_none_gen (kaU I q ?_)
 cases x <;> first
  |(cases rx;rfl)
  |(obtain⟨t,rfl⟩:=rx;rfl)
theorem OpR.or{f:Value→Value→Sem Value}{r r':R2}(h:OpR X f r)(h':OpR X f r'):OpR X f (fun x y H Q=>r x y H Q∨r' x y H Q):=by
 intro pins s σ H x y v u Q I rx ry q
 rcases q with q|q
 ·exact h pins s σ H x y v u Q I rx ry q
 ·exact h' pins s σ H x y v u Q I rx ry q
theorem kax(b:Expr){op:CmpOp}(h:op≠.In:=by decide)(h2:op≠.NotIn:=by decide):behindInMarks op b=false:=by
 have e1:(op==CmpOp.In)=false:=by cases op <;> first|rfl|exact absurd rfl h
 have e2:(op==CmpOp.NotIn)=false:=by cases op <;> first|rfl|exact absurd rfl h2
 cases b <;> simp[behindInMarks,e1,e2]
theorem ka7{op:CmpOp}{r:R2}(ho:OpR X (compareOp op) r)(ha:PE X a ta)(hb:PE X b tb)(hm:behindInMarks op b=false):PE X (.Compare a [op] [b] pos) (tOp r ta tb):=by
 intro pins s σ H Q I h
 exact wpAny_Compare1 (binT ha hb I h fun v u s2 x y H2 I2 rx ry q=>ho pins s2 σ H2 x y v u Q I2 rx ry q) hm
noncomputable def tTest(t:TE):TT:=fun σ H Q=>t σ H fun x H'=>∃k,x=.bl k∧Q k H'
theorem kat{op:CmpOp}{r:R2}(ho:OpR X (compareOp op) r)(ha:PE X a ta)(hb:PE X b tb)(hm:behindInMarks op b=false):PT X (.Compare a [op] [b] pos) (tTest (tOp r ta tb)):=by
 intro pins s σ H Q I h
 refine wpAny_isTrue_Compare1 (thn (ha pins s σ H _ I h) fun v s1 ⟨x,H1,I1,r1,q1⟩=>thn (hb pins s1 σ H1 _ I1 q1) fun u s2 ⟨y,H2,I2,r2,q2⟩=>
  thn (ho pins s2 σ H2 x y v u _ I2 r1 r2 q2) fun c s3 ⟨z,H3,I3,r3,k,e,q3⟩=>?_) hm
 subst e
 cases r3
 exact wpAny_truthy_bool ⟨H3,I3,q3⟩
noncomputable def kkX(r r':R2)(ta tb tc:TE):TE:=fun σ H Q=>ta σ H fun x H1=>tb σ H1 fun y H2=>r x y H2 fun z H3=>∃k,z=.bl k∧
 (if k=true then tc σ H3 fun w' H4=>r' y w' H4 Q else Q (.bl false) H3)
theorem khU{op op':CmpOp}{r r':R2}(ho:OpR X (compareOp op) r)(ho':OpR X (compareOp op') r')(ha:PE X a ta)(hb:PE X b tb)(hc:PE X c tc)
  (hm:lastMarks [op,op'] [b,c]=false:=by with_unfolding_all rfl):PE X (.Compare a [op,op'] [b,c] pos) (kkX r r' ta tb tc):=by
 intro pins s σ H Q I h
 refine Compare_chain (thn (ha pins s σ H _ I h) fun v s1 ⟨x,H1,I1,r1,q1⟩=>chain_link (thn (hb pins s1 σ H1 _ I1 q1) fun u s2 ⟨y,H2,I2,r2,q2⟩=>
  thn (ho pins s2 σ H2 x y v u _ I2 r1 r2 q2) fun d s3 ⟨z,H3,I3,r3,k,e,q3⟩=>?_)) hm
 subst e
 cases r3
 refine wpAny_truthy_bool ?_
 cases k with
 |false=>exact ite_ff ⟨.bl false,H3,I3,rfl,q3⟩
 |true=>exact ite_tt (chain_last (thn (hc pins s3 σ H3 _ I3 q3) fun w' s4 ⟨z',H4,I4,r4,q4⟩=>ho' pins s4 σ H4 y z' u w' Q I4 r2 r4 q4))
theorem kki{op op':CmpOp}{r r':R2}(ho:OpR X (compareOp op) r)(ho':OpR X (compareOp op') r')(ha:PE X a ta)(hb:PE X b tb)(hc:PE X c tc)
  (hm:lastMarks [op,op'] [b,c]=false:=by with_unfolding_all rfl):PT X (.Compare a [op,op'] [b,c] pos) (tTest (kkX r r' ta tb tc)):=by
 intro pins s σ H Q I h
 refine isTrue_chain (thn (ha pins s σ H _ I h) fun v s1 ⟨x,H1,I1,r1,q1⟩=>test_link (thn (hb pins s1 σ H1 _ I1 q1) fun u s2 ⟨y,H2,I2,r2,q2⟩=>
  thn (ho pins s2 σ H2 x y v u _ I2 r1 r2 q2) fun d s3 ⟨z,H3,I3,r3,k,e,q3⟩=>?_)) hm
 subst e
 cases r3
 refine wpAny_truthy_bool ?_
 cases k with
 |false=>
  obtain⟨k',e',q'⟩:=q3
  cases e'
  exact ite_ff ⟨H3,I3,q'⟩
 |true=>
  refine ite_tt (test_last (thn (hc pins s3 σ H3 _ I3 q3) fun w' s4 ⟨z',H4,I4,r4,q4⟩=>thn (ho' pins s4 σ H4 y z' u w' _ I4 r2 r4 q4) fun d' s5 ⟨z2,H5,I5,r5,k2,e2,q5⟩=>?_))
  subst e2
  cases r5
  exact wpAny_truthy_bool ⟨H5,I5,q5⟩
theorem kgE:(sizeLine:Nat)<2 ^ 63:=by rw[sizeLine_eq];decide
theorem vals1{x:V}{us:List Value}(r:Vals [x] us):∃u,us=[u]∧RelV x u:=by
 cases r with
 |cons r1 r2=>cases r2;exact⟨_,rfl,r1⟩
theorem vals2{x y:V}{us:List Value}(r:Vals [x,y] us):∃u w',us=[u,w']∧RelV x u∧RelV y w':=by
 cases r with
 |cons r1 r2=>
  cases r2 with
  |cons r3 r4=>cases r4;exact⟨_,_,rfl,r1,r3⟩
theorem ke2(hc:X.calm=true):CallR X (.builtin "max") (fun xs H Q=>∃i j,xs=[.int i, .int j]∧Q (.int (if j > i then j else i)) H):=by
 intro pins s σ H xs us Q I r h
 obtain⟨i,j,rfl,q⟩:=h
 obtain⟨u,w',rfl,⟨t,rfl⟩,⟨t',rfl⟩⟩:=vals2 r
 refine max_two_ints (I.ok.hd hc) fun h' tk k=>⟨_,H,I.kept k,?_,q⟩
 by_cases hj:j > i
 ·rw[if_pos hj,if_pos hj];exact⟨_,rfl⟩
 ·rw[if_neg hj,if_neg hj];exact⟨_,rfl⟩
theorem ke1(hc:X.calm=true):CallR X (.builtin "min") (fun xs H Q=>∃i j,xs=[.int i, .int j]∧Q (.int (if j<i then j else i)) H):=by
 intro pins s σ H xs us Q I r h
 obtain⟨i,j,rfl,q⟩:=h
 obtain⟨u,w',rfl,⟨t,rfl⟩,⟨t',rfl⟩⟩:=vals2 r
 refine min_two_ints (I.ok.hd hc) fun h' tk k=>⟨_,H,I.kept k,?_,q⟩
 by_cases hj:j<i
 ·rw[if_pos hj,if_pos hj];exact⟨_,rfl⟩
 ·rw[if_neg hj,if_neg hj];exact⟨_,rfl⟩
theorem kdI:CallR X (.type "int") (fun xs H Q=>(∃i,xs=[.int i]∧Q (.int i) H)∨∃k,xs=[.bl k]∧Q (.int (if k then 1 else 0)) H):=by
 intro pins s σ H xs us Q I r h
 rcases h with⟨i,rfl,q⟩|⟨k,rfl,q⟩
 ·obtain⟨u,rfl,t,rfl⟩:=vals1 r
  exact call_int_int ⟨.int i,H,I,⟨_,rfl⟩,q⟩
 ·obtain⟨u,rfl,r1⟩:=vals1 r
  cases r1
  exact call_int_bool ⟨.int (if k then 1 else 0),H,I.tok _,⟨_,rfl⟩,q⟩
end
end L2
namespace L2
open PySem PySem.Spec PyProof.Rows
structure ObjM (h:Heap) (x dx C:Addr) (mA:Str→Option Value):Prop where
 obj:h.get? x=some (MD C dx)
 ns:h.Ns1 dx mA
 ne:dx≠x
theorem kjA{h:Heap}{dx:Addr}{mA:Str→Option Value}(n:h.Ns1 dx mA):∃od,h.get? dx=some od∧∀name,Eg name od=some (mA name):=by
 obtain⟨o,es,ep,ho,hd,hk,_,hm⟩:=n
 refine⟨o,ho,fun name=>?_⟩
 have e:=hm name
 unfold nsFind findBy at e
 rw[←Array.find?_toList] at e
 unfold Eg
 rw[hd]
 dsimp only
 split
 ·rename_i y q
  rw[q] at e
  exact congrArg some e
 ·rename_i q
  rw[q] at e
  have a:es.toList.any (·.refKey)=false:=by
   rw[List.any_eq_false]
   intro y hy
   obtain⟨z,t,hkey⟩:=hk y (Array.mem_toList_iff.mp hy)
   simp[DictEntry.refKey,hkey]
  have a':¬es.toList.any (·.refKey)=true:=by rw[a];exact Nu
  rw[if_neg a']
  exact congrArg some e
theorem ObjM.look{h:Heap}{x dx C:Addr}{mA:Str→Option Value}(I:ObjM h x dx C mA):∃od,PySem.W.InstAt h x (MD C dx) C (some od)∧∀name,Eg name od=some (mA name):=
 let⟨od,ho,hl⟩:=kjA I.ns
 ⟨od,⟨I.obj,rfl,rfl,ho⟩,hl⟩
section
variable {prog:Program} {w:World} {A:Around} {E:Value→Shared→Prop} {s:Shared} {K:Ni} {x dx C f:Addr} {mA:Str→Option Value} {name:Str} {v:Value}
theorem get_map{expr:Bool}{Q:Value→Shared→Prop}(X:K.In s.heap)(I:ObjM s.heap x dx C mA)(hg:NW K C name=true)(hh:N3 K C=true)
  (ha:Nk K (.ref C) name=some none) (hv:mA name=some v) (hv':PySem.W.handedIn v=true) (h:Q v {s with toks:=s.toks+1}):
  wpAny (model prog w) A (getAttr (.ref x) name expr) Q E s:=by
 obtain⟨od,J,hl⟩:=I.look
 exact PySem.W.get_value X J (EF hg).1 (PySem.W.findObj_own hh ha rfl (by rw[hl,hv])) hv' h
theorem kkH{pl:Sem Bool}{Q:Value×List Value→Shared→Prop}(X:K.In s.heap)(I:ObjM s.heap x dx C mA)(hg:NW K C name=true)
  (hf:Nk K (.ref C) name=some (some (.ref f))) (ht:Ma K (.ref f)=true) (hv:mA name=none) (h:Q (.ref f,[.ref x]) s):
  wpAny (model prog w) A (getMethod (.ref x) name pl) Q E s:=by
 obtain⟨od,J,hl⟩:=I.look
 exact PySem.W.method_fn X J (EF hg).1 (EF hg).2 hf (beq_iff_eq.mp ht) (by show(Eg name od).map (·.isSome)=some false;rw[hl,hv];rfl) h
theorem klC{ns:List Str}{Q:Unit→Shared→Prop}(X:K.In s.heap)(I:ObjM s.heap x dx C mA)
  (hs:Nk K (.ref C) "__setattr__"=some (some (.builtin "object.__setattr__"))) (hp:N7 K C=true) (ht:EG K C name=some none) (hh:N3 K C=true)
  (hw:PySem.Within mA ns) (hsz:ns.length≤sizeLine)
  (h:∀h',ObjM h' x dx C (fun y=>if y=name then some v else mA y)→Heap.SameBut dx s.heap h'→Q () {s with heap:=h',toks:=s.toks+2}):
  wpAny (model prog w) A (setAttr (.ref x) name v) Q E s:=by
 obtain⟨od,J,hl⟩:=I.look
 refine PySem.W.set_plain X J hs (PySem.W.osa_open (s:={s with toks:=s.toks+1}) (r:=none) X J hp ht fun b=>?_)
 obtain⟨cd,hc,hd'⟩:=PySem.W.any_some hh
 have hx:s.heap.get? x=some ⟨.ref C,some dx, .plain,#[]⟩:=I.obj
 refine wpAny_bind (wpAny_pure (wpAny_bind (wpAny_bind (wpAny_loadPart hx (wpAny_bind (PySem.W.Looks.here (s:={s with toks:=s.toks+1}) (PySem.W.looks_clsIn X hc) ?_))))))
 rw[hd']
 refine wpAny_pure (a:=some dx) (wpAny_bind (wpAny_pure (wpAny_bind ?_)))
 refine wpAny_nsSet1 (s:={s with toks:=s.toks+1}) I.ns fun h' hn2 hs2=>?_
 obtain⟨oD,esD,epD,hoD,hdD,hcD⟩:=hn2.count (PySem.Within.cons name v hw)
 refine wpAny_bind (wpAny_lookBehind hoD (by rw[hdD];exact pastItsLine_dict (Nm hcD (by rw[NQ];omega))) ?_)
 exact wpAny_pure (h _ ⟨(hs2.2 _ (Ne.symm I.ne)).trans I.obj,hn2,I.ne⟩ hs2)
theorem kky{R:Result→Shared→Prop}{vs:List Value}{kw:List (Str×Value)}(X:K.In s.heap)(hm:N4 K C=true)
  (hi:Nk K (.ref C) "__init__"=some (some (.ref f))) (hf:NY K (.ref f)=some (.type "function"))
  (h:codeAny (model prog w) (A.under (.builtin "type.__call__" ⟨.ref C::vs,kw⟩)) (.call (.ref f) ⟨.ref (s.heap.objs.size+1)::vs,kw⟩) (PySem.W.InitBack (s.heap.objs.size+1) R)
   {s with heap:=(s.heap.push My).push (MD C s.heap.objs.size)}):
  codeAny (model prog w) A (.call (.ref C) ⟨vs,kw⟩) R s:=by
 obtain⟨hh,g,d,t,os⟩:=s
 exact PySem.W.make_core (PySem.W.makes_of X hm) (PySem.W.looks_findIn X hi) (fun self=>PySem.W.bind_fn X self hf) (.inl rfl) h
end
noncomputable def putF(f:Str)(v:V):List (Str×V)→List (Str×V)
 |[]=>[(f,v)]
 |(g,x)::r=>if g=f then(g,v)::r else(g,x)::putF f v r
theorem kab(f g:Str)(v:V):∀fs:List (Str×V),(putF f v fs).lookup g=if g=f then some v else fs.lookup g
 | []=>by
  show Mh g [(f,v)]=_
  by_cases h:g=f
  ·have hb:(g==f)=true:=beq_iff_eq.mpr h
   simp only[Mh,hb,if_pos h]
  ·have hb:(g==f)=false:=beq_eq_false_iff_ne.mpr h
   simp only[Mh,hb,if_neg h]
 | (k,x)::r=>by
  have ih:=kab f g v r
  rw[show putF f v ((k,x)::r)=(if k=f then(k,v)::r else(k,x)::putF f v r) from rfl]
  by_cases hk:k=f
  ·rw[if_pos hk]
   by_cases h:g=k
   ·have hb:(g==k)=true:=beq_iff_eq.mpr h
    simp only[Mh,hb,if_pos (h.trans hk)]
   ·have hb:(g==k)=false:=beq_eq_false_iff_ne.mpr h
    simp only[Mh,hb,if_neg (fun e:g=f=>h (e.trans hk.symm))]
  ·rw[if_neg hk]
   by_cases h:g=k
   ·have hb:(g==k)=true:=beq_iff_eq.mpr h
    simp only[Mh,hb,if_neg (fun e:g=f=>hk (h.symm.trans e))]
   ·have hb:(g==k)=false:=beq_eq_false_iff_ne.mpr h
    simp only[Mh,hb]
    exact ih
theorem keV(f:Str)(v:V):∀fs:List (Str×V),f∈(putF f v fs).map (·.1)∧∀g,g∈fs.map (·.1)→g∈(putF f v fs).map (·.1)
 |[]=>⟨by simp[putF],fun g h=>by simp at h⟩
 | (k,x)::r=>by
  obtain⟨i1,i2⟩:=keV f v r
  rw[show putF f v ((k,x)::r)=(if k=f then(k,v)::r else(k,x)::putF f v r) from rfl]
  by_cases hk:k=f
  ·rw[if_pos hk]
   subst hk
   exact⟨by simp,fun g h=>by simpa using h⟩
  ·rw[if_neg hk]
   refine⟨?_,fun g h=>?_⟩
   ·rw[NC]
    exact NF _ i1
   ·rw[NC] at h⊢
    rcases NI.mp h with e|e
    ·exact NI.mpr (.inl e)
    ·exact NF _ (i2 g e)
theorem keU(f:Str)(v:V):∀fs:List (Str×V),(putF f v fs).length≤fs.length+1
 |[]=>by simp[putF]
 |(k,x)::r=>by
  have ih:=keU f v r
  rw[show putF f v ((k,x)::r)=(if k=f then(k,v)::r else(k,x)::putF f v r) from rfl]
  by_cases hk:k=f
  ·rw[if_pos hk,NQ,NQ];omega
  ·rw[if_neg hk,NQ,NQ];omega
theorem RelO.some_of{v:V}{o:Option Value}(r:RelO (some v) o):∃u,o=some u∧RelV v u:=by
 cases o with
 |none=>exact(show False from r).elim
 |some u=>exact⟨u,rfl,r⟩
theorem RelO.none_of{o:Option Value}(r:RelO none o):o=none:=by
 cases o with
 |none=>rfl
 |some u=>exact(show False from r).elim
theorem kjM{v:V}{u:Value}(r:RelV v u):PySem.W.handedIn u=true:=by
 cases v with
 |non=>cases(show u=Value.none from r);rfl
 |bl b=>cases(show u=Value.bool b from r);rfl
 |int i=>obtain⟨t,e⟩:=(show ∃t,u=Value.int i t from r);cases e;rfl
 |str x=>obtain⟨t,e⟩:=(show ∃t,u=Value.str x t from r);cases e;rfl
 |byt b=>obtain⟨t,e⟩:=(show ∃t,u=Value.bytes b t from r);cases e;rfl
 |flt b=>obtain⟨t,e⟩:=(show ∃t,u=Value.float b t from r);cases e;rfl
 |ref a=>cases(show u=Value.ref a from r);rfl
 |ty n=>cases(show u=Value.type n from r);rfl
section
variable {P:Program} {w:World} {H H':Hp} {h h':Heap} {a C dx:Addr} {fs fs':List (Str×V)}
theorem kf2(hok:HOk P w H h)(e:H a=some (.ins C dx fs)):∃mA,ObjM h a dx C mA∧(∀f,RelO (fs.lookup f) (mA f))∧PySem.Within mA (fs.map (·.1))∧fs.length≤1000∧H dx=some (.own a):=by
 obtain⟨d,z,ne,ob,mA,n,r,q⟩:=(show ObjOk P w H h a (.ins C dx fs) from hok a _ e)
 exact⟨mA,⟨ob,n,ne⟩,r,q,z,d⟩
end
structure Cls (K:Ni) (C:Addr):Prop where
 pg:NW K C Str.empty=true
 hd:N3 K C=true
 po:N7 K C=true
 sa:Nk K (.ref C) "__setattr__"=some (some (.builtin "object.__setattr__"))
theorem Cls.get{K:Ni}{C:Addr}(c:Cls K C)(f:Str):NW K C f=true:=c.pg
noncomputable def NoAttr(K:Ni)(C:Addr)(f:Str):Prop:=Nk K (.ref C) f=some none
theorem NoAttr.taker{K:Ni}{C:Addr}{f:Str}(n:NoAttr K C f):EG K C f=some none:=by
 unfold EG
 rw[show Nk K (.ref C) f=some none from n]
 rfl
structure Meth (K:Ni) (C:Addr) (m:Str) (f:Addr):Prop where
 at_:Nk K (.ref C) m=some (some (.ref f))
 fn:Ma K (.ref f)=true
 kp:NB K (.ref f)=true
section
variable {X:Cx} {pins:List (Addr×Obj)} {σ:St} {H:Hp} {s:Shared} {a C dx:Addr} {fs:List (Str×V)} {f:Str} {v:V} {A:Around} {E:Value→Shared→Prop}
theorem kfl{b:Bool}{Q:Value→Shared→Prop}(I:Inv X pins σ H s)(e:H a=some (.ins C dx fs))(c:Cls X.K C)(n:NoAttr X.K C f)(l:fs.lookup f=some v)
  (h:∀u s',Inv X pins σ H s'→RelV v u→Q u s'):wpAny (model X.prog X.w) A (getAttr (.ref a) f b) Q E s:=by
 obtain⟨mA,O,r,_,_,_⟩:=kf2 I.hok e
 obtain⟨u,hu,ru⟩:=RelO.some_of (v:=v) (o:=mA f) (by rw[←l];exact r f)
 exact get_map I.kIn O (c.get f) c.hd n hu (kjM ru) (h u _ (I.tok _) ru)
theorem kfk{m:Str}{g:Addr}{pl:Sem Bool}{Q:Value×List Value→Shared→Prop}(I:Inv X pins σ H s)(e:H a=some (.ins C dx fs))(c:Cls X.K C)(k:Meth X.K C m g)(l:fs.lookup m=none)
  (h:Q (.ref g,[.ref a]) s):wpAny (model X.prog X.w) A (getMethod (.ref a) m pl) Q E s:=by
 obtain⟨mA,O,r,_,_,_⟩:=kf2 I.hok e
 have hn:mA m=none:=RelO.none_of (by rw[←l];exact r m)
 exact kkH I.kIn O (c.get m) k.at_ k.fn hn h
theorem kfe{y:V}{u:Value}{Q:Unit→Shared→Prop}(I:Inv X pins σ H s)(e:H a=some (.ins C dx fs))(c:Cls X.K C)(n:NoAttr X.K C f)(hl:fs.length<1000)(ry:RelV y u)
  (h:∀s',Inv X pins σ (upd H a (.ins C dx (putF f y fs))) s'→Q () s'):wpAny (model X.prog X.w) A (setAttr (.ref a) f u) Q E s:=by
 obtain⟨mA,O,r,wi,_,ho⟩:=kf2 I.hok e
 have hz:(fs.map (·.1)).length≤sizeLine:=by rw[Nh,sizeLine_eq];omega
 refine klC I.kIn O c.sa c.po n.taker c.hd wi hz fun h' O' sb=>h _ ?_
 have hd:∃o,h'.get? dx=some o:=let⟨o,_,_,e',_⟩:=O'.ns;⟨o,e'⟩
 refine I.write (x:=a) (e:=dx) (by rw[e];exact True.intro) (.inr ho) (fun b q hb z=>(sb.2 b hb).trans z) hd ?_
 refine⟨by rw[kam O.ne];exact ho,?_,O.ne,O'.obj,_,O'.ns,fun g=>?_,fun g hg=>?_⟩
 ·have:=keU f y fs;omega
 ·show RelO ((putF f y fs).lookup g) (if g=f then some u else mA g)
  rw[kab]
  by_cases q:g=f
  ·rw[if_pos q,if_pos q];exact ry
  ·rw[if_neg q,if_neg q];exact r g
 ·by_cases q:g=f
  ·rw[q];exact(keV f y fs).1
  ·refine(keV f y fs).2 g (wi g fun z=>hg ?_)
   show(if g=f then some u else mA g)=none
   rw[if_neg q];exact z
theorem Inv.made(I:Inv X pins σ H s):Inv X pins σ (upd (upd H s.heap.objs.size (.own (s.heap.objs.size+1))) (s.heap.objs.size+1) (.ins C s.heap.objs.size []))
  {s with heap:=(s.heap.push My).push (MD C s.heap.objs.size)}:=by
 have e1:(s.heap.push My).get? s.heap.objs.size=some My:=Heap.get?_push_size s.heap rfl
 have e2:((s.heap.push My).push (MD C s.heap.objs.size)).get? (s.heap.objs.size+1)=some (MD C s.heap.objs.size):=by
  have:=Heap.get?_push_size (s.heap.push My) (o:=MD C s.heap.objs.size) rfl
  rwa [Heap.size_push] at this
 have e3:(s.heap.push My).Ns s.heap.objs.size (fun _=>none):=⟨My,#[],_,e1,rfl,(fun e he=>absurd he (by simp)),fun _=>rfl⟩
 have I1:=I.laid (a:=s.heap.objs.size) (o:=.own (s.heap.objs.size+1)) (h':=s.heap.push My) (t':=s.toks) (fun b u q=>Heap.get?_push_of_some _ q) (Nj _) ⟨_,e1⟩
 refine I1.laid (a:=s.heap.objs.size+1) (o:=.ins C s.heap.objs.size []) (t':=s.toks) (fun b u q=>Heap.get?_push_of_some _ q) (Eh (Heap.size_push _ _)) ?_
 have ne:s.heap.objs.size≠s.heap.objs.size+1:=NP (EH _)
 refine⟨by rw[kam ne,kad],N6 _,ne,e2,fun _=>none,(Heap.Ns1.of_empty e3).at fun o q=>Heap.get?_push_of_some _ q,fun _=>True.intro,fun y hy=>absurd rfl hy⟩
theorem kl5{prog:Program}{w:World}{env:Env}{e:Expr}{f:Str}{pos:Pos}{s:Shared}{Q:Value→Shared→Prop}(hb:attributeBase e f env (eval e env)=eval e env)
  (h:wpAny (model prog w) A (eval e env) (fun o s₁=>wpAny (model prog w) A (getAttr o f true) Q E s₁) E s):wpAny (model prog w) A (eval (.Attribute e f pos) env) Q E s:=
 Attribute_any_ h (by rw[arm_eval_Attribute,hb])
end
noncomputable def tFld(K:Ni)(ta:TE)(f:Str):TE:=fun σ H Q=>ta σ H fun x H1=>∃a C dx fs v,x=.ref a∧H1 a=some (.ins C dx fs)∧Cls K C∧NoAttr K C f∧fs.lookup f=some v∧Q v H1
noncomputable def sFld(K:Ni)(ta tv:TE)(f:Str):TS:=fun D σ H=>tv σ H fun y H1=>ta σ H1 fun x H2=>∃a C dx fs,x=.ref a∧H2 a=some (.ins C dx fs)∧Cls K C∧NoAttr K C f∧fs.length<1000∧
 D.nx σ (upd H2 a (.ins C dx (putF f y fs)))
noncomputable def InOp(X:Cx)(op:Operator)(rd:V→V→Hp→VK→Prop):Prop:=
 ∀(pins:List (Addr×Obj)) (s:Shared) (σ:St) (H:Hp) (x y:V) (u v:Value) (Q:VK),Inv X pins σ H s→RelV x u→RelV y v→rd x y H Q→wpAny (model X.prog X.w) X.A (inplaceOp op u v) (EP X pins σ Q) X.xe s
noncomputable def klF(K:Ni)(ta tv:TE)(rd:V→V→Hp→VK→Prop)(f:Str):TS:=fun D σ H=>ta σ H fun x H1=>∃a C dx fs v,x=.ref a∧H1 a=some (.ins C dx fs)∧Cls K C∧NoAttr K C f∧fs.lookup f=some v∧
 tv σ H1 fun y H2=>rd v y H2 fun z H3=>∃dx' fs',H3 a=some (.ins C dx' fs')∧fs'.length<1000∧D.nx σ (upd H3 a (.ins C dx' (putF f z fs')))
section
variable {X:Cx} {o e value:Expr} {f:Str} {pos pos' tpos:Pos} {ta tv:TE}
theorem kmh(he:PE X e ta)(hb:attributeBase e f X.env (eval e X.env)=eval e X.env):PE X (.Attribute e f pos) (tFld X.K ta f):=by
 intro pins s σ H Q I h
 refine kl5 hb (thn (he pins s σ H _ I h) fun u s1 ⟨x,H1,I1,rx,a,C,dx,fs,v,ex,ea,c,n,l,q⟩=>?_)
 subst ex
 obtain rfl:u=Value.ref a:=rx
 exact kfl I1 ea c n l fun u' s2 I2 ru=>⟨v,H1,I2,ru,q⟩
theorem kaz(ha:PE X o ta)(hv:PE X value tv)(hs:swapsWith value (some (.Attribute o f pos')) pos.line X.env=pure false):PS X (.Assign [.Attribute o f pos'] value pos) (sFld X.K ta tv f):=by
 intro pins s σ H D I h
 refine plainObj_wpAny_Assign_Attribute (thn (hv pins s σ H _ I h) fun u s1 ⟨y,H1,I1,ry,q⟩=>thn (ha pins s1 σ H1 _ I1 q) fun ov s2 ⟨x,H2,I2,rx,a,C,dx,fs,ex,ea,c,n,l,q2⟩=>?_) hs
 subst ex
 obtain rfl:ov=Value.ref a:=rx
 exact kfe I2 ea c n l ry fun s3 I3=>⟨σ,_,I3,q2⟩
theorem kjg{op:Operator}{rd:V→V→Hp→VK→Prop}(ha:PE X o ta)(hv:PE X value tv)(hop:InOp X op rd):PS X (.AugAssign (.Attribute o f tpos) op value pos) (klF X.K ta tv rd f):=by
 intro pins s σ H D I h
 refine wpAny_AugAssign_AttributeAny (thn (ha pins s σ H _ I h) fun ov s1 ⟨x,H1,I1,rx,a,C,dx,fs,v,ex,ea,c,n,l,q⟩=>?_)
 subst ex
 obtain rfl:ov=Value.ref a:=rx
 refine kfl I1 ea c n l fun u s2 I2 ru=>thn (hv pins s2 σ H1 _ I2 q) fun w3 s3 ⟨y,H2,I3,ry,q3⟩=>thn (hop pins s3 σ H2 v y u w3 _ I3 ru ry q3) fun w4 s4 ⟨z,H3,I4,rz,dx',fs',ea',l',q4⟩=>?_
 exact kfe I4 ea' c n l' rz fun s5 I5=>⟨σ,_,I5,q4⟩
noncomputable def rSub:V→V→Hp→VK→Prop:=fun x y H Q=>∃i j,x=.int i∧y=.int j∧Q (.int (i-j)) H
theorem kmu:InOp X .Sub rSub:=by
 rintro pins s σ H x y u v Q I rx ry ⟨i,j,rfl,rfl,q⟩
 obtain⟨t,rfl⟩:=(show ∃t,u=Value.int i t from rx)
 obtain⟨t',rfl⟩:=(show ∃t',v=Value.int j t' from ry)
 exact PyProof.Rows.isub_int ⟨.int (i-j),H,I.tok _,⟨_,rfl⟩,q⟩
end
section
variable {X:Cx} {pins:List (Addr×Obj)} {σ:St} {H:Hp} {s:Shared} {A:Around} {E:Value→Shared→Prop} {Q:Value→Shared→Prop} {c:Value} {b:Bool}
inductive TyOf (K:Ni) (H:Hp):V→Value→Prop where
 |non:TyOf K H .non (.type "NoneType")
 |bl (x:Bool):TyOf K H (.bl x) (.type "bool")
 |int (i:Int):TyOf K H (.int i) (.type "int")
 |str (x:Str):TyOf K H (.str x) (.type "str")
 |flt (x:UInt64):TyOf K H (.flt x) (.type "float")
 |lst {a:Addr} {xs:List V} (e:H a=some (.lst xs)):TyOf K H (.ref a) (.type "list")
 |frz {a:Addr} {o:Obj} {xs:List V} (e:H a=some (.frz o (.lst xs))):TyOf K H (.ref a) (.type "list")
 |tup {a:Addr} {xs:List V} (e:H a=some (.tup xs)):TyOf K H (.ref a) (.type "tuple")
 |dK {a:Addr} {kvs:List (Key×V)} (e:H a=some (.dK kvs)):TyOf K H (.ref a) (.type "dict")
 |dT {a:Addr} {kvs:List (List Key×V)} (e:H a=some (.dT kvs)):TyOf K H (.ref a) (.type "dict")
 | ins {a C dx:Addr} {fs:List (Str×V)} (e:H a=some (.ins C dx fs)) (cl:Cls K C) (ha:Nk K (.ref C) "__class__"=some (some (.builtin "object.__class__")))
   (hn:M0 K (.builtin "object.__class__") "__get__"=some (some (.builtin "getset_descriptor.__get__"))) (htk:EI K (.builtin "object.__class__")=some true)
   (hm:Nr K C (.type "object")=some true):TyOf K H (.ref a) (.ref C)
theorem kjH{x:V}{u t:Value}(I:Inv X pins σ H s)(rx:RelV x u)(ty:TyOf X.K H x t)(e:NG X.K t c=some b)(h:∀tk,Q (.bool b) {s with toks:=tk}):
  wpAny (model X.prog X.w) A (call (.builtin "isinstance") [u,c]) Q E s:=by
 cases ty with
 |non=>cases(show u=Value.none from rx);exact Mo PySem.W.kitx_none I.kIn True.intro e (fun z=>nomatch z) h
 |bl y=>cases(show u=Value.bool y from rx);exact Mo PySem.W.kitx_bool I.kIn True.intro e (fun z=>nomatch z) h
 |int i=>obtain⟨t,q⟩:=(show ∃t,u=Value.int i t from rx);cases q;exact Mo PySem.W.kitx_int I.kIn True.intro e (fun z=>nomatch z) h
 |str y=>obtain⟨t,q⟩:=(show ∃t,u=Value.str y t from rx);cases q;exact Mo PySem.W.kitx_str I.kIn True.intro e (fun z=>nomatch z) h
 |flt y=>obtain⟨t,q⟩:=(show ∃t,u=Value.float y t from rx);cases q;exact Mo PySem.W.kitx_float I.kIn True.intro e (fun z=>nomatch z) h
 | @lst a xs ea=>
  cases(show u=Value.ref a from rx)
  obtain⟨_,_,n,_,h1⟩:=(show ObjOk X.prog X.w H s.heap a (.lst xs) from I.hok a _ ea)
  exact Mo PySem.W.kitx_list I.kIn ⟨_,h1,rfl⟩ e (fun z=>nomatch z) h
 | @frz a ob xs ea=>
  cases(show u=Value.ref a from rx)
  obtain⟨_,_,_,n,_,h1⟩:=(show ObjOk X.prog X.w H s.heap a (.frz ob (.lst xs)) from I.hok a _ ea)
  exact Mo PySem.W.kitx_list I.kIn ⟨_,h1,rfl⟩ e (fun z=>nomatch z) h
 | @tup a xs ea=>
  cases(show u=Value.ref a from rx)
  obtain⟨_,_,_,p⟩:=(show ObjOk X.prog X.w H s.heap a (.tup xs) from I.hok a _ ea)
  obtain⟨o,h1,h2,_⟩:=p
  exact Mo PySem.W.kitx_tuple I.kIn ⟨o,h1,h2⟩ e (fun z=>nomatch z) h
 | @dK a kvs ea=>
  cases(show u=Value.ref a from rx)
  obtain⟨_,_,vs,_,p⟩:=(show ObjOk X.prog X.w H s.heap a (.dK kvs) from I.hok a _ ea)
  obtain⟨o,es,ep,h1,h2,_⟩:=p
  exact Mo PySem.W.kitx_dict I.kIn ⟨o,h1,h2.1⟩ e (fun z=>nomatch z) h
 | @dT a kvs ea=>
  cases(show u=Value.ref a from rx)
  obtain⟨_,_,xs,_,o,es,ep,h1,h2,_⟩:=(show ObjOk X.prog X.w H s.heap a (.dT kvs) from I.hok a _ ea)
  exact Mo PySem.W.kitx_dict I.kIn ⟨o,h1,h2.1⟩ e (fun z=>nomatch z) h
 | @ins a C dx fs ea cl ha hn htk hm=>
  cases(show u=Value.ref a from rx)
  obtain⟨mA,O,_⟩:=kf2 I.hok ea
  obtain⟨od,J,_⟩:=O.look
  exact Mo (PySem.W.kitx_own (cl.get _) cl.hd ha hn htk hm) I.kIn J e (fun z=>nomatch z) h
end
end L2
namespace L2
open PySem PySem.Spec PyProof.Rows
structure Room (k:Nat) (A:Around):Prop where
 hd:A.handled=none
 dp:A.depth+3*k+5<recursionLimit
 un:A.units+16*k+200<cLine
theorem Room.mono{j k:Nat}{A:Around}(r:Room k A)(h:j≤k):Room j A:=⟨r.hd,by have:=r.dp;omega,by have:=r.un;omega⟩
theorem Room.deeper{k:Nat}{A:Around}(r:Room (k+1) A)(env:Env):Room k (A.deeper env):=
 ⟨r.hd,by have:=r.dp;show A.depth+1+3*k+5<_;omega,by have:=r.un;show A.units+3+16*k+200<_;omega⟩
theorem Room.in1{k:Nat}{A:Around}(r:Room (k+1) A):Room k A.in1:=
 ⟨r.hd,by have:=r.dp;show A.depth+3*k+5<_;omega,by have:=r.un;show A.units+1+16*k+200<_;omega⟩
theorem kiq{A:Around}{C:Addr}{us:List Value}{kw:List (Str×Value)}:(A.under (.builtin "type.__call__" ⟨.ref C::us,kw⟩)).depth=A.depth+1:=by
 first|rfl|simp[Around.under,Code.weight,Code.isCreation,Code.isGuard,Code.isCaller,Code.frames,Code.isFrame,guardIds]
theorem kip{A:Around}{C:Addr}{us:List Value}{kw:List (Str×Value)}:(A.under (.builtin "type.__call__" ⟨.ref C::us,kw⟩)).units=A.units+1:=by
 first|rfl|simp[Around.under,Code.cUnits,Code.frames,Code.isFrame]
theorem Room.make{k:Nat}{A:Around}(r:Room (k+1) A)(C:Addr)(us:List Value)(kw:List (Str×Value)):Room k (A.under (.builtin "type.__call__" ⟨.ref C::us,kw⟩)):=
 ⟨r.hd,by have:=r.dp;rw[kiq];omega,by have:=r.un;rw[kip];omega⟩
theorem Room.depth{k:Nat}{A:Around}(r:Room k A):A.depth<recursionLimit:=by have:=r.dp;omega
theorem Room.units{k:Nat}{A:Around}(r:Room k A):A.units+64<cLine:=by have:=r.un;omega
theorem Room.units0{k:Nat}{A:Around}(r:Room k A):A.units<cLine:=by have:=r.un;omega
noncomputable def tNil:TA:=fun _ H Q=>Q [] H
noncomputable def tCons(ta:TE)(tr:TA):TA:=fun σ H Q=>ta σ H fun x H1=>tr σ H1 fun xs H2=>Q (x::xs) H2
section
variable {X:Cx} {e:Expr} {es:List Expr} {te:TE} {t:TA} {pos:Pos}
theorem kae:PA X [] tNil:=fun _ _ _ _ H Q I h=>Calls.spliced_nil ⟨[],H,I, .nil,h⟩
theorem kaa(ha:PE X e te)(hr:PA X es t)(hs:starEach (e::es) X.env=(false,eval e X.env)::starEach es X.env:=by rfl):PA X (e::es) (tCons te t):=by
 intro pos pins s σ H Q I h
 rw[hs]
 show wpAny _ _ (spliced ((false,eval e X.env)::backTo pos (starEach es X.env))) _ _ s
 refine Calls.spliced_cons (thn (ha pins s σ H _ I h) fun u s1 ⟨x,H1,I1,r1,q1⟩=>?_)
 exact thn (hr pos pins s1 σ H1 _ I1 q1) fun us s2 ⟨xs,H2,I2,r2,q2⟩=>⟨x::xs,H2,I2, .cons r1 r2,q2⟩
noncomputable def tTup(t:TA):TE:=fun σ H Q=>t σ H fun xs H1=>xs.length≤sizeLine∧∀p,H1 p=none→Q (.ref p) (upd H1 p (.tup xs))
noncomputable def tLst(t:TA):TE:=fun σ H Q=>t σ H fun xs H1=>xs.length≤sizeLine∧∀p,H1 p=none→Q (.ref p) (upd H1 p (.lst xs))
theorem kca{x1}(h:PA X es t):PE X (.Tuple es x1 pos) (tTup t):=by
 intro pins s σ H Q I hq
 refine wpAny_Tuple_spliced (thn (h pos pins s σ H _ I hq) fun us s1 ⟨xs,H1,I1,r,z,q⟩=>⟨by rw[←r.length];exact z,?_⟩)
 have hf:H1 s1.heap.objs.size=none:=I1.hok.fresh (Nj _)
 refine⟨.ref s1.heap.objs.size,upd H1 s1.heap.objs.size (.tup xs),I1.laid (t':=s1.toks) (fun b u e=>Heap.get?_push_of_some _ e) (Nj _) ?_,rfl,q _ hf⟩
 exact⟨z,us,r,⟨_,Heap.get?_push_size _ rfl,rfl,_,rfl⟩⟩
theorem kaL(h:PA X es t):PE X (.List es pos) (tLst t):=by
 intro pins s σ H Q I hq
 refine wpAny_List_spliced (thn (h pos pins s σ H _ I hq) fun us s1 ⟨xs,H1,I1,r,z,q⟩=>⟨by rw[←r.length];exact z,?_⟩)
 have hf:H1 s1.heap.objs.size=none:=I1.hok.fresh (Nj _)
 refine⟨.ref s1.heap.objs.size,upd H1 s1.heap.objs.size (.lst xs),I1.laid (t':=s1.toks) (fun b u e=>Heap.get?_push_of_some _ e) (Nj _) ?_,rfl,q _ hf⟩
 exact⟨z,us,0,r,Heap.get?_push_size _ rfl⟩
end
noncomputable abbrev Sp:=List V→Hp→VK→XK→Prop
noncomputable abbrev CXT:=List Env→Hp→Shared→XK→Value→Shared→Prop
structure Env0 (P:Program) (w:World) (K:Ni) (mg:Str→Option Value) (base:Heap) (A:Around) (outer:List Env) (s:Shared) (H:Hp):Prop where
 frames:A.frames=some outer
 mod:Mod K mg base
 bs:∀b o,base.get? b=some o→s.heap.get? b=some o∧H b=none
 bsz:base.objs.size≤s.heap.objs.size
 funs:s.heap.FunFrames base outer
 frf:∀b∈frs outer,H b=none
 hok:HOk P w H s.heap
 bare:AllBare s.gens
noncomputable def CE(outer:List Env)(P:Program)(w:World)(H:Hp)(s:Shared)(Q:VK)(u:Value)(s':Shared):Prop:=
 ∃v H',s'.os=s.os∧AllBare s'.gens∧Un (frs outer) [] H H' s.heap s'.heap∧HOk P w H' s'.heap∧RelV v u∧Q v H'
noncomputable def CR(CX:CXT)(outer:List Env)(P:Program)(w:World)(H:Hp)(s:Shared)(Q:VK)(E:XK)(r:Result)(s':Shared):Prop:=
 match r with
 | .ok (.ret u)=>CE outer P w H s Q u s'
 | .ok _=>False
 | .error e=>CX outer H s E e s'
structure FnOk (P:Program) (w:World) (K:Ni) (mg:Str→Option Value) (base:Heap) (CX:CXT) (k:Nat) (f:Addr) (fd:FuncData) (ps:List Str) (sp:Sp):Prop where
 len:∀vs H Q E,sp vs H Q E→vs.length=ps.length
 run:∀(A:Around) (outer:List Env) (s:Shared) (H:Hp) (args:Args) (us:List Value) (vs:List V) (Q:VK) (E:XK),Room k A→Env0 P w K mg base A outer s H→BindsTo s fd args (ps.zip us)→Vals vs us→sp vs H Q E→
  codeAny (model P w) A (.call (.ref f) args) (CR CX outer P w H s Q E) s
theorem FnOk.mono{P:Program}{w:World}{K:Ni}{mg:Str→Option Value}{base:Heap}{CX:CXT}{j k:Nat}{f:Addr}{fd:FuncData}{ps:List Str}{sp:Sp}(F:FnOk P w K mg base CX j f fd ps sp)(h:j≤k):
  FnOk P w K mg base CX k f fd ps sp:=⟨F.len,fun A outer s H args us vs Q E hr=>F.run A outer s H args us vs Q E (hr.mono h)⟩
theorem FnOk.imp{P:Program}{w:World}{K:Ni}{mg:Str→Option Value}{base:Heap}{CX:CXT}{k:Nat}{f:Addr}{fd:FuncData}{ps:List Str}{sp sp':Sp}(F:FnOk P w K mg base CX k f fd ps sp)
  (h:∀vs H Q E,sp' vs H Q E→sp vs H Q E):FnOk P w K mg base CX k f fd ps sp':=
 ⟨fun vs H Q E q=>F.len vs H Q E (h _ _ _ _ q),fun A outer s H args us vs Q E hr he hb hv hs=>F.run A outer s H args us vs Q E hr he hb hv (h _ _ _ _ hs)⟩
theorem Env0.make{P:Program}{w:World}{K:Ni}{mg:Str→Option Value}{base:Heap}{A:Around}{outer:List Env}{s:Shared}{H:Hp}(e:Env0 P w K mg base A outer s H)(C:Addr)(us:List Value)(kw:List (Str×Value)):
  Env0 P w K mg base (A.under (.builtin "type.__call__" ⟨.ref C::us,kw⟩)) outer s H:=⟨by first|exact e.frames|(simpa[Around.under,Code.envs,Code.isFrame,pushEnvs] using e.frames),e.mod,e.bs,e.bsz,e.funs,e.frf,e.hok,e.bare⟩
theorem Env0.in1{P:Program}{w:World}{K:Ni}{mg:Str→Option Value}{base:Heap}{A:Around}{outer:List Env}{s:Shared}{H:Hp}(e:Env0 P w K mg base A outer s H):
  Env0 P w K mg base A.in1 outer s H:=⟨e.frames,e.mod,e.bs,e.bsz,e.funs,e.frf,e.hok,e.bare⟩
section
variable {X:Cx} {pins:List (Addr×Obj)} {σ:St} {H:Hp} {s s':Shared}
theorem Inv.env0(I:Inv X pins σ H s):Env0 X.prog X.w X.K X.mg X.base X.A X.stack s H:=
 ⟨I.ok.frames,I.ok.mod,I.bs,Nm I.ok.bsz I.sz,I.stack,I.stkFree,I.hok,I.bare⟩
theorem Inv.after{Q:VK}{u:Value}(I:Inv X pins σ H s)(h:CE X.stack X.prog X.w H s Q u s'):EP X pins σ Q u s':=by
 obtain⟨v,H',os,bare,un,hok,r,q⟩:=h
 obtain⟨hh,g,d,t,os'⟩:=s'
 obtain rfl:os'=s.os:=os
 exact⟨v,H',I.call (h':=hh) (g':=g) (d':=d) (t':=t) (ch:=[]) un hok bare (fun b z=>absurd z (by simp)),r,q⟩
end
noncomputable def tCall(sp:Sp)(dvs:List V)(E:XK)(t:TA):TE:=fun σ H Q=>t σ H fun vs H1=>sp (vs++dvs) H1 Q E
noncomputable def tMeth(C:Addr)(m:Str)(sp:Sp)(dvs:List V)(E:XK)(ta:TE)(t:TA):TE:=fun σ H Q=>ta σ H fun x H1=>∃a dx fs,x=.ref a∧H1 a=some (.ins C dx fs)∧fs.lookup m=none∧
 t σ H1 fun vs H2=>sp (x::(vs++dvs)) H2 Q E
noncomputable def tMake(C:Addr)(sp:Sp)(dvs:List V)(E:XK)(t:TA):TE:=fun σ H Q=>t σ H fun vs H1=>∀x dx,H1 x=none→H1 dx=none→dx≠x→
 sp (.ref x::(vs++dvs)) (upd (upd H1 dx (.own x)) x (.ins C dx [])) (fun v H2=>v=.non∧Q (.ref x) H2) E
noncomputable def Binds(K:Ni)(fd:FuncData)(ps:List Str)(ds:List Value):Prop:=
 ∀(s:Shared) (us:List Value),K.In s.heap→(us++ds).length=ps.length→BindsTo s fd ⟨us,[]⟩ (ps.zip (us++ds))
theorem Binds.all{K:Ni}{fd:FuncData}{ps:List Str}(h:∀us:List Value,us.length=ps.length→bindArgs fd ⟨us,[]⟩=pure (ps.zip us)):Binds K fd ps []:=fun s us _ hl=>by
 rw[MQ] at hl⊢
 exact .of_eq (h us hl)
noncomputable def kdJ(CX:CXT)(X:Cx)(E:XK):Prop:=∀(pins:List (Addr×Obj)) (σ:St) (H:Hp) (s:Shared) (e:Value) (s':Shared),Inv X pins σ H s→CX X.stack H s E e s'→X.xe e s'
section
variable {X:Cx} {CX:CXT} {k:Nat} {f C:Addr} {fd:FuncData} {ps:List Str} {sp:Sp} {dvs:List V} {ds:List Value} {E:XK} {x m:Str} {p pos apos:Pos} {e o:Expr} {es:List Expr} {ta:TE} {t:TA}
theorem khJ{pins:List (Addr×Obj)}{σ:St}{H:Hp}{s:Shared}{Q:VK}{us:List Value}{vs:List V}(F:FnOk X.prog X.w X.K X.mg X.base CX k f fd ps sp)(hr:Room k X.A)(hb:Binds X.K fd ps ds)(hd:Vals dvs ds)(hx:kdJ CX X E)
  (I:Inv X pins σ H s) (r:Vals vs us) (h:sp (vs++dvs) H Q E):wpAny (model X.prog X.w) X.A (call (.ref f) us) (EP X pins σ Q) X.xe s:=by
 have r2:Vals (vs++dvs) (us++ds):=r.append hd
 have hl:(us++ds).length=ps.length:=by rw[←r2.length];exact F.len _ _ _ _ h
 refine wpAny_call (codeAny_mono (F.run X.A X.stack s H ⟨us,[]⟩ (us++ds) (vs++dvs) Q E hr I.env0 (hb s us I.kIn hl) r2 h) fun r s' hq=>?_)
 cases r with
 |error e=>exact hx pins σ H s e s' I hq
 |ok fl=>
  cases fl with
  |ret u=>exact I.after hq
  |next=>exact False.elim hq
  |brk=>exact False.elim hq
  |cont=>exact False.elim hq
theorem kan(F:FnOk X.prog X.w X.K X.mg X.base CX k f fd ps sp)(hr:Room k X.A)(hg:Gl X x)(hm:X.mg x=some (.ref f))(hk:NB X.K (.ref f)=true)(hb:Binds X.K fd ps ds)(hd:Vals dvs ds)(hx:kdJ CX X E)
  (ha:PA X (e::es) t) (hdb:(x==("__debug__" :Str))=false:=by decide) (he:starEach (e::es) X.env=(false,eval e X.env)::starEach es X.env:=by rfl) (hpl:(backTo pos (starEach es X.env)).any (·.1)=false:=by rfl):
  PE X (.Call (.Name x p) (e::es) [] pos) (tCall sp dvs E t):=by
 intro pins s σ H Q I h
 refine wpAny_Call_Name_kw (kfZ I hg hm ?_ hdb)
 refine Ei (h₀:=X.base) I.ok.mod.kin hk (thn (ha pos pins s σ H _ I h) fun us s1 ⟨vs,H1,I1,r,q⟩=>⟨I1.kIn,?_⟩) he hpl
 exact khJ F hr hb hd hx I1 r q
theorem kbw{pl:Sem Bool}(he:PE X o ta)(c:Cls X.K C)(hm:Meth X.K C m f)(F:FnOk X.prog X.w X.K X.mg X.base CX k f fd ps sp)(hr:Room k X.A)(hb:Binds X.K fd ps ds)(hd:Vals dvs ds)(hx:kdJ CX X E)(ha:PA X (e::es) t)
  (hst:starEach (e::es) X.env=(false,eval e X.env)::starEach es X.env:=by rfl) (hpl:(backTo pos (starEach es X.env)).any (·.1)=false:=by rfl)
  (ht:eval (.Call (.Attribute o m apos) (e::es) [] pos) X.env=(do
   let ov ←eval o X.env
   standAt apos.atName
   let(f,first) ←holding [ov] (getMethod ov m pl)
   callWith pos f first (backTo pos (starEach (e::es) X.env)) (backToKw pos (keywordEach [] X.env))):=by rfl):
  PE X (.Call (.Attribute o m apos) (e::es) [] pos) (tMeth C m sp dvs E ta t):=by
 intro pins s σ H Q I h
 refine EJ (pl:=pl) (thn (he pins s σ H _ I h) fun u s1 ⟨x,H1,I1,rx,a,dx,fs,ex,ea,l,q⟩=>?_) ht
 subst ex
 obtain rfl:u=Value.ref a:=rx
 refine kfk I1 ea c hm l ?_
 refine Ei (first:=[.ref a]) (h₀:=X.base) I.ok.mod.kin hm.kp (thn (ha pos pins s1 σ H1 _ I1 q) fun us s2 ⟨vs,H2,I2,r,q2⟩=>⟨I2.kIn,?_⟩) hst hpl
 exact khJ (us:=.ref a::us) (vs:=.ref a::vs) F hr hb hd hx I2 (.cons rfl r) q2
theorem keo{pl:Sem Bool}(he:PE X o ta)(c:Cls X.K C)(hm:Meth X.K C m f)(F:FnOk X.prog X.w X.K X.mg X.base CX k f fd ps sp)(hr:Room k X.A)(hb:Binds X.K fd ps ds)(hd:Vals dvs ds)(hx:kdJ CX X E)
  (ht:eval (.Call (.Attribute o m apos) [] [] pos) X.env=(do
   let ov ←eval o X.env
   standAt apos.atName
   let(f,first) ←holding [ov] (getMethod ov m pl)
   callWith pos f first (backTo pos (starEach [] X.env)) (backToKw pos (keywordEach [] X.env))):=by rfl):
  PE X (.Call (.Attribute o m apos) [] [] pos) (tMeth C m sp dvs E ta tNil):=by
 intro pins s σ H Q I h
 refine EJ (pl:=pl) (thn (he pins s σ H _ I h) fun u s1 ⟨x,H1,I1,rx,a,dx,fs,ex,ea,l,q⟩=>?_) ht
 subst ex
 obtain rfl:u=Value.ref a:=rx
 refine kfk I1 ea c hm l ?_
 exact E7 (first:=[.ref a]) I1.kIn hm.kp (khJ (us:=[.ref a]) (vs:=[.ref a]) F hr hb hd hx I1 (.cons rfl .nil) q)
structure Mk (K:Ni) (C f:Addr):Prop where
 makes:N4 K C=true
 init:Nk K (.ref C) "__init__"=some (some (.ref f))
 fn:Ma K (.ref f)=true
 kp:NB K (.ref C)=true
theorem khI{pins:List (Addr×Obj)}{σ:St}{H:Hp}{s:Shared}{Q:VK}{us:List Value}{vs:List V}(M:Mk X.K C f)(F:FnOk X.prog X.w X.K X.mg X.base CX k f fd ps sp)(hr:Room (k+1) X.A)(hb:Binds X.K fd ps ds)(hd:Vals dvs ds)
  (hx:kdJ CX X E) (I:Inv X pins σ H s) (r:Vals vs us)
  (h:∀x dx,H x=none→H dx=none→dx≠x→sp (.ref x::(vs++dvs)) (upd (upd H dx (.own x)) x (.ins C dx [])) (fun v H2=>v=.non∧Q (.ref x) H2) E):
  wpAny (model X.prog X.w) X.A (call (.ref C) us) (EP X pins σ Q) X.xe s:=by
 have hq:=h (s.heap.objs.size+1) s.heap.objs.size (I.hok.fresh (MI _)) (I.hok.fresh (Nj _)) (NP (EH _))
 have I2:=Inv.made (C:=C) I
 have r2:Vals (V.ref (s.heap.objs.size+1)::(vs++dvs)) (Value.ref (s.heap.objs.size+1)::(us++ds)):=.cons rfl (r.append hd)
 have hl:(Value.ref (s.heap.objs.size+1)::us++ds).length=ps.length:=by
  have e:=r2.length
  rw[F.len _ _ _ _ hq] at e
  exact e.symm
 refine wpAny_call (kky (f:=f) I.kIn M.makes M.init (beq_iff_eq.mp M.fn) (codeAny_mono (F.run _ X.stack _ _ ⟨Value.ref (s.heap.objs.size+1)::us,[]⟩ (Value.ref (s.heap.objs.size+1)::(us++ds)) _ _ E (hr.make C us [])
  (I2.env0.make C us []) (hb _ (Value.ref (s.heap.objs.size+1)::us) I2.kIn hl) r2 hq) fun r s' hq'=>?_))
 cases r with
 |error e=>exact hx pins σ _ _ e s' I2 hq'
 | ok fl=>
  cases fl with
  |ret u=>
   obtain⟨v,H',I3,rv,ev,q3⟩:=I2.after hq'
   subst ev
   exact⟨rv,⟨V.ref (s.heap.objs.size+1),H',I3,rfl,q3⟩⟩
  |next=>exact False.elim hq'
  |brk=>exact False.elim hq'
  |cont=>exact False.elim hq'
theorem kaS(M:Mk X.K C f)(F:FnOk X.prog X.w X.K X.mg X.base CX k f fd ps sp)(hr:Room (k+1) X.A)(hg:Gl X x)(hm:X.mg x=some (.ref C))(hb:Binds X.K fd ps ds)(hd:Vals dvs ds)(hx:kdJ CX X E)
  (ha:PA X (e::es) t) (hdb:(x==("__debug__" :Str))=false:=by decide) (he:starEach (e::es) X.env=(false,eval e X.env)::starEach es X.env:=by rfl) (hpl:(backTo pos (starEach es X.env)).any (·.1)=false:=by rfl):
  PE X (.Call (.Name x p) (e::es) [] pos) (tMake C sp dvs E t):=by
 intro pins s σ H Q I h
 refine wpAny_Call_Name_kw (kfZ I hg hm ?_ hdb)
 refine Ei (h₀:=X.base) I.ok.mod.kin M.kp (thn (ha pos pins s σ H _ I h) fun us s1 ⟨vs,H1,I1,r,q⟩=>⟨I1.kIn,?_⟩) he hpl
 exact khI M F hr hb hd hx I1 r q
theorem kkn(M:Mk X.K C f)(F:FnOk X.prog X.w X.K X.mg X.base CX k f fd ps sp)(hr:Room (k+1) X.A)(hg:Gl X x)(hm:X.mg x=some (.ref C))(hb:Binds X.K fd ps ds)(hd:Vals dvs ds)(hx:kdJ CX X E)
  (hdb:(x==("__debug__" :Str))=false:=by decide):PE X (.Call (.Name x p) [] [] pos) (tMake C sp dvs E tNil):=by
 intro pins s σ H Q I h
 refine wpAny_Call_Name_kw (kfZ I hg hm ?_ hdb)
 exact E7 I.kIn M.kp (khI (us:=[]) M F hr hb hd hx I .nil h)
end
section
variable {X:Cx} {CX:CXT} {k:Nat} {f C:Addr} {fd:FuncData} {ps ks:List Str} {sp:Sp} {E:XK} {x m:Str} {p pos apos kpos:Pos} {e o:Expr} {es:List Expr} {kws:List Keyword} {te ta:TE} {t tk:TA} {nm:Option Str}
variable {g:List Value→List Value→List Value} {gV:List V→List V→List V}
end
structure kap (N P:List Str) (sc:Scope):Prop where
 kind:sc.kind=.function
 co:sc.isCoroutine=false
 gen:sc.isGenerator=false
 nd:N.Nodup
 pre:N.take P.length=P
 par:∀x∈P,sc.names.lookup x=some .local∨sc.names.lookup x=some .cell
 nofree:∀y∈sc.names,y.2≠.free
theorem kgL{kindOf:Str→Option NameKind}{x:Str}:∀{binds:List (Str×Value)} {m:Str→Option Value},(∀v,(x,v)∉binds)→bindL kindOf binds m x=m x
 |[],_,_=>rfl
 | (n,v)::r,m,h=>by
  unfold bindL
  rw[kgL fun w hw=>h w (NF _ hw)]
  split
  ·have:x≠n:=by rintro rfl;exact h v NL
   simp[this]
  ·rfl
theorem kgN{kindOf:Str→Option NameKind}{x:Str}:∀{binds:List (Str×Value)} {m:Str→Option Value},(∀v,(x,v)∉binds)→bindC kindOf binds m x=m x
 |[],_,_=>rfl
 | (n,v)::r,m,h=>by
  unfold bindC
  rw[kgN fun w hw=>h w (NF _ hw)]
  split
  ·rfl
  ·have:x≠n:=by rintro rfl;exact h v NL
   simp[this]
theorem kgM{kindOf:Str→Option NameKind}{x:Str}{v:Value}:∀{P:List Str} {vs:List Value} {i:Nat} {m:Str→Option Value},P.Nodup→P[i]?=some x→vs[i]?=some v→kindOf x=some .local→
  bindL kindOf (P.zip vs) m x=some v
 |[],_,_,_,_,h,_,_=>by simp at h
 |_::_,[],_,_,_,_,h,_=>by simp at h
 |p::P,w::vs,0,m,nd,h1,h2,hk=>by
  simp at h1 h2;subst h1;subst h2
  show bindL kindOf ((p,w)::P.zip vs) m p=_
  unfold bindL
  rw[kgL fun v hv=>(Mp.mp nd).1 (ME hv).1,if_pos hk]
  simp
 |p::P,w::vs,i+1,m,nd,h1,h2,hk=>by
  show bindL kindOf ((p,w)::P.zip vs) m x=_
  unfold bindL
  exact kgM (i:=i) (Mp.mp nd).2 (by simpa using h1) (by simpa using h2) hk
theorem kgO{kindOf:Str→Option NameKind}{x:Str}{v:Value}:∀{P:List Str} {vs:List Value} {i:Nat} {m:Str→Option Value},P.Nodup→P[i]?=some x→vs[i]?=some v→kindOf x≠some .local→
  bindC kindOf (P.zip vs) m x=some v
 |[],_,_,_,_,h,_,_=>by simp at h
 |_::_,[],_,_,_,_,h,_=>by simp at h
 |p::P,w::vs,0,m,nd,h1,h2,hk=>by
  simp at h1 h2;subst h1;subst h2
  show bindC kindOf ((p,w)::P.zip vs) m p=_
  unfold bindC
  rw[kgN fun v hv=>(Mp.mp nd).1 (ME hv).1,if_neg hk]
  simp
 |p::P,w::vs,i+1,m,nd,h1,h2,hk=>by
  show bindC kindOf ((p,w)::P.zip vs) m x=_
  unfold bindC
  exact kgO (i:=i) (Mp.mp nd).2 (by simpa using h1) (by simpa using h2) hk
noncomputable def start(N:List Str)(vs:List V):St:=vs.map some++Nl (N.length-vs.length) none
noncomputable def cxOf(CX:CXT)(P:Program)(w:World)(K:Ni)(mg:Str→Option Value)(base:Heap)(N:List Str)(qual:Str)(scope:Scope)(f:Addr)(cd:Value)(A:Around)(outer:List Env)(s:Shared)(H:Hp)(E:XK):Cx where
 prog:=P
 w:=w
 K:=K
 mg:=mg
 base:=base
 A:=A.deeper (envOfC qual scope s.heap.objs.size f cd)
 N:=N
 s₀:=s
 H₀:=H
 env:=envOfC qual scope s.heap.objs.size f cd
 outer:=outer
 stack:=envOfC qual scope s.heap.objs.size f cd::outer
 ex:=[]
 calm:=true
 fn:=fun _=>true
 pn:=[]
 xe:=fun e s'=>wpAny (model P w) (A.deeper (envOfC qual scope s.heap.objs.size f cd)) (leaving (envOfC qual scope s.heap.objs.size f cd) e) (fun _ s''=>CX outer H s E e s'') (fun e' s''=>CX outer H s E e' s'') s'
theorem ket{sc:Scope}{n:Nat}{x:Str}(h:sc.names.lookup x=some .cell):∃c,(cellsFrom n sc.names []).lookup x=some c:=by
 have q:=E8 sc.names n [] (.inl h)
 exact Option.isSome_iff_exists.mp q
theorem kjI{CX:CXT}{P:Program}{w:World}{K:Ni}{mg:Str→Option Value}{base:Heap}{N ps:List Str}{qual:Str}{scope:Scope}{f:Addr}{cd:Value}{A:Around}{outer:List Env}{s s1:Shared}{H:Hp}{E:XK}{us:List Value}{vs:List V}
  (S:kap N ps scope) (hd:A.handled=none) (e0:Env0 P w K mg base A outer s H) (hl:vs.length=ps.length) (r:Vals vs us)
  (x:InCallC s s.heap.objs.size (bindL (envOfC qual scope s.heap.objs.size f cd).kindOf (ps.zip us) fun _=>none) (cellsFrom (s.heap.objs.size+1) scope.names []) (bindC (envOfC qual scope s.heap.objs.size f cd).kindOf (ps.zip us) fun _=>none) s1):
  Inv (cxOf CX P w K mg base N qual scope f cd A outer s H E) [] (start N vs) H s1:=by
 have hpl:ps.length≤N.length:=by have:=congrArg M1 S.pre;rw[Ny] at this;omega
 obtain⟨h1,tk,rfl,hk⟩:=x.done
 have noA:∀b:Addr,b∉(cxOf CX P w K mg base N qual scope f cd A outer s H E).ex:=fun b z=>absurd (show b∈([]:List Addr) from z) (by simp)
 refine⟨⟨e0.mod,S.kind,rfl,rfl,Nj _,fun y z c h1 h2=>?_,fun y hy=>?_,fun y c _ h=>?_,fun _=>hd,Around.frames_deeper e0.frames, .inr ⟨rfl,rfl⟩,fun b z=>absurd z (noA b),e0.bs,e0.bsz,fun b _ _=>noA b,fun b z=>absurd z (noA b),e0.funs,e0.frf⟩,
  rfl,e0.bare,Un.kept hk,⟨_,x.toInCall.ns,fun i y v h1 h2 h3=>?_⟩,fun y c h=>⟨_,x.cell y c h⟩,e0.hok.fresh (Nj _),fun y c h=>?_,fun p hp=>absurd (show p∈([]:List (Addr×Obj)) from hp) (by simp),e0.hok.kept hk,?_⟩
 ·exact name_of_addr x.apart (PySem.mem_of_lookup h1) (PySem.mem_of_lookup h2)
 ·have hy:scope.names.lookup y=some .cell∨scope.names.lookup y=some .free:=hy
  rcases hy with hy|hy
  ·exact ket hy
  ·exact absurd rfl (S.nofree _ (PySem.mem_of_lookup hy))
 ·exact Nw (x.above y c (PySem.mem_of_lookup h))
 ·have hi:i<vs.length:=by
   unfold start at h2
   by_cases hi:i<vs.length
   ·exact hi
   ·rw[MR (by simpa using hi)] at h2
    rw[EK] at h2
    split at h2 <;> cases h2
  have ha:vs[i]?=some v:=by
   unfold start at h2
   rw[M3 (by simpa using hi),Nv] at h2
   cases e:vs[i]? with
   |none=>rw[e] at h2;cases h2
   |some a=>rw[e] at h2;cases h2;rfl
  obtain⟨u,hu,rv⟩:=r.get ha
  have hp:ps[i]?=some y:=by
   rw[←S.pre,E9 (by omega)];exact h1
  have ndP:ps.Nodup:=by rw[←S.pre];exact S.nd.sublist (List.take_sublist _ _)
  refine⟨u,rv,?_⟩
  rcases S.par y (Nt hp) with k|k
  ·exact .inl ⟨k,kgM ndP hp hu k⟩
  ·obtain⟨c,e⟩:=ket (n:=s.heap.objs.size+1) k
   refine .inr ⟨.inl k,c,e,?_⟩
   have q:=x.cell y c e
   rw[kgO ndP hp hu (by show scope.names.lookup y≠_;rw[k];decide)] at q
   exact q
 ·exact e0.hok.fresh (Nw (x.above y c (PySem.mem_of_lookup h)))
 ·unfold start
  show _=N.length
  rw[Nx,Nh,Mi]
  omega
theorem fn_of{CX:CXT}{P:Program}{w:World}{K:Ni}{mg:Str→Option Value}{base:Heap}{k:Nat}{f:Addr}{name qual:Str}{params:Arguments}{body:List Stmt}{scope:Scope}{dV kV doc pm cdv ct oc:Value}{an od:Option Addr}
  {osl:Array (Option Value)} {N ps:List Str} {sp:Sp} (lk:K.lookup f=some ⟨oc,od, .func (NA name qual params body scope dV kV doc pm an cdv ct),osl⟩) (hcd:NZ K cdv qual=true) (S:kap N ps scope)
  (len:∀vs H Q E,sp vs H Q E→vs.length=ps.length)
  (hbody:∀(A:Around) (outer:List Env) (s:Shared) (H:Hp) (vs:List V) (Q:VK) (E:XK),Room k (A.deeper (envOfC qual scope s.heap.objs.size f cdv))→sp vs H Q E→
   ∃t,PSs (cxOf CX P w K mg base N qual scope f cdv A outer s H E) body t∧t {nx:=fun _ H'=>Q .non H',rt:=Q} (start N vs) H):
  FnOk P w K mg base CX (k+1) f (NA name qual params body scope dV kV doc pm an cdv ct) ps sp:=by
 refine⟨len,fun A outer s H args us vs Q E hr e0 hb r hsp=>?_⟩
 have hl:=len _ _ _ _ hsp
 have KX:K.In s.heap:=e0.mod.kin.keeps fun b o e=>(e0.bs b o e).1
 have lim:s.heap.NoLimit:=e0.mod.nolimit.keeps fun b o e=>(e0.bs b o e).1
 have hkind:∀y∈ps.zip us,scope.names.lookup y.1=some .local∨(scope.names.lookup y.1=some .cell∧((cellsFrom (s.heap.objs.size+1) scope.names []).lookup y.1).isSome=true):=fun⟨n,v⟩ hy=>by
  rcases S.par n (ME hy).1 with q|q
  ·exact .inl q
  ·exact .inr ⟨q,E8 _ _ _ (.inl q)⟩
 refine codeAny_call_function hr.depth (KX _ _ lk) rfl S.co S.gen rfl (PySem.W.codeRec_of KX hcd) (hb _ _ _ _ ?_)
 refine wpAny_newFunctionEnv_cells S.kind hkind fun env he s1 x=>?_
 subst he
 refine⟨lim.keeps x.toInCall.keep,codeAny_func ?_⟩
 obtain⟨t,ht,hq⟩:=hbody A outer s H vs Q E (hr.deeper _) hsp
 have I:Inv (cxOf CX P w K mg base N qual scope f cdv A outer s H E) [] (start N vs) H s1:=kjI S hr.hd e0 hl r x
 refine wpAny_mono (ht [] s1 (start N vs) H _ I hq) (fun fl s' hs=>?_) fun e s' hs=>hs
 have fin:∀{σ':St} {H':Hp} {v:V} {u:Value},Inv (cxOf CX P w K mg base N qual scope f cdv A outer s H E) [] σ' H' s'→RelV v u→Q v H'→CE outer P w H s Q u s':=
  fun {σ' H' v u} J rv q=>⟨v,H',J.os,J.bare,J.base,J.hok,rv,q⟩
 cases fl with
 |ret u=>
  obtain⟨v,σ',H',J,rv,q⟩:=hs
  exact fin J rv q
 |next=>
  obtain⟨σ',H',J,q⟩:=hs
  exact fin (v:=V.non) (u:=Value.none) J rfl q
 |brk=>
  obtain⟨_,_,_,q⟩:=hs
  exact False.elim q
 |cont=>
  obtain⟨_,_,_,q⟩:=hs
  exact False.elim q
end L2
namespace L2
open PySem PySem.Spec PyProof.Rows
section
variable {X:Cx} {x:Str} {p pos:Pos} {e:Expr} {es:List Expr} {t:TA} {id T:String} {r:List V→Hp→VK→Prop}
noncomputable def tCB(r:List V→Hp→VK→Prop)(t:TA):TE:=fun σ H Q=>t σ H fun vs H1=>r vs H1 Q
theorem kay(hc:CallR X (.builtin id) r)(hg:Gl X x)(hm:X.mg x=none)(hv:bootBuiltins x=some (.builtin id))(ha:PA X (e::es) t)(hn:x≠"__name__":=by decide)(hdb:(x==("__debug__" :Str))=false:=by decide)
  (he:starEach (e::es) X.env=(false,eval e X.env)::starEach es X.env:=by rfl) (hpl:(backTo pos (starEach es X.env)).any (·.1)=false:=by rfl):PE X (.Call (.Name x p) (e::es) [] pos) (tCB r t):=by
 intro pins s σ H Q I h
 refine wpAny_Call_Name_kw (kdC I hg hm hv ?_ hn hdb)
 exact PyProof.Rows.callWith_builtin1 (thn (ha pos pins s σ H _ I h) fun us s1 ⟨vs,H1,I1,r1,q1⟩=>hc pins s1 σ H1 vs us Q I1 r1 q1) he hpl
theorem kaO(hc:CallR X (.type T) r)(hg:Gl X x)(hm:X.mg x=none)(hv:bootBuiltins x=some (.type T))(ha:PA X (e::es) t)(hn:x≠"__name__":=by decide)(hdb:(x==("__debug__" :Str))=false:=by decide)
  (he:starEach (e::es) X.env=(false,eval e X.env)::starEach es X.env:=by rfl) (hpl:(backTo pos (starEach es X.env)).any (·.1)=false:=by rfl):PE X (.Call (.Name x p) (e::es) [] pos) (tCB r t):=by
 intro pins s σ H Q I h
 refine wpAny_Call_Name_kw (kdC I hg hm hv ?_ hn hdb)
 exact PyProof.Rows.callWith_type1 (thn (ha pos pins s σ H _ I h) fun us s1 ⟨vs,H1,I1,r1,q1⟩=>hc pins s1 σ H1 vs us Q I1 r1 q1) he hpl
end
end L2
namespace HT
open PySem PyProof.Rows
section
open PySem.SeqAt
open PySem.AutoSeq1 (wpAny_loadPart')
open PySem.MeetsSeq PySem.MeetsSeq2 PySem.MeetsSeq3
end
section
variable {prog:Program} {w:World} {A:Around} {E:Value→Shared→Prop} {s:Shared}
noncomputable def sIx(n d:Nat):Option Int→Nat
 |none=>d
 |some v=>if v<0 then(v+(n:Int)).toNat else min v.toNat n
theorem sIx_none(n d:Nat):sIx n d none=d:=rfl
theorem sIx_nat(n d k:Nat):sIx n d (some (k:Int))=min k n:=by
 show(if(k:Int)<0 then((k:Int)+(n:Int)).toNat else min (k:Int).toNat n)=min k n
 rw[if_neg (by omega),Int.toNat_natCast]
end
end HT
namespace L2
open PySem PySem.Spec PyProof.Rows
noncomputable abbrev TO:=St→Hp→(Option Int→Hp→Prop)→Prop
noncomputable def PO(X:Cx)(e:Option Expr)(t:TO):Prop:=
 ∀(pins:List (Addr×Obj)) (s:Shared) (σ:St) (H:Hp) (Q:Option Int→Hp→Prop),Inv X pins σ H s→t σ H Q→
  wpAny (model X.prog X.w) X.A (evalPart e X.env) (fun u s'=>∃o H',Inv X pins σ H' s'∧IsPart u o∧Q o H') X.xe s
noncomputable def kly:TO:=fun _ H Q=>Q none H
noncomputable def tPart(t:TE):TO:=fun σ H Q=>t σ H fun x H1=>∃i,x=.int i∧Q (some i) H1
theorem intsAre_of{ns:List Int}:∀{us:List Value},Vals (ns.map V.int) us→IntsAre us ns:=by
 induction ns with
 |nil=>intro us r;rw[Ej] at r;cases r;exact .nil
 | cons n ns ih=>
  intro us r
  rw[NC] at r
  cases r with
  |cons r1 r2=>
   obtain⟨t,e⟩:=r1
   subst e
   exact .cons n t (ih r2)
section
variable {X:Cx} {e:Expr} {te:TE} {lo hi:Option Expr} {tl th:TO} {pos p2:Pos}
theorem kfI:PO X none kly:=by
 intro pins s σ H Q I h
 rw[evalPart_none]
 exact wpAny_pure ⟨none,H,I, .none,h⟩
theorem kcQ(h:PE X e te):PO X (some e) (tPart te):=by
 intro pins s σ H Q I hw
 rw[evalPart_some]
 refine thn (h pins s σ H _ I hw) fun u s1 ⟨x,H1,I1,r1,q1⟩=>?_
 obtain⟨i,rfl,q⟩:=q1
 obtain⟨t,rfl⟩:=r1
 exact⟨some i,H1,I1, .int i t,q⟩
noncomputable def SlR(X:Cx)(r:V→Option Int→Option Int→Hp→VK→Prop):Prop:=
 ∀(pins:List (Addr×Obj)) (s:Shared) (σ:St) (H:Hp) (x:V) (v vl vu:Value) (lo hi:Option Int) (sl:Addr) (Q:VK),Inv X pins σ H s→RelV x v→s.heap.IsSliceOf sl vl vu .none→IsPart vl lo→IsPart vu hi→r x lo hi H Q→
  ∃T id,typeLookup (.type T) "__getitem__"=pure (some (.builtin id))∧s.TypeIs v T∧wpAny (model X.prog X.w) X.A (getItem v (.ref sl)) (EP X pins σ Q) X.xe s
theorem SlR.or{r r':V→Option Int→Option Int→Hp→VK→Prop}(h:SlR X r)(h':SlR X r'):SlR X (fun x lo hi H Q=>r x lo hi H Q∨r' x lo hi H Q):=by
 intro pins s σ H x v vl vu lo hi sl Q I rx hs pl pu q
 rcases q with q|q
 ·exact h pins s σ H x v vl vu lo hi sl Q I rx hs pl pu q
 ·exact h' pins s σ H x v vl vu lo hi sl Q I rx hs pl pu q
noncomputable def tSl(r:V→Option Int→Option Int→Hp→VK→Prop)(te:TE)(tl th:TO):TE:=fun σ H Q=>te σ H fun x H1=>tl σ H1 fun l H2=>th σ H2 fun u H3=>r x l u H3 Q
theorem kc6{r:V→Option Int→Option Int→Hp→VK→Prop}(hr:SlR X r)(he:PE X e te)(hl:PO X lo tl)(hu:PO X hi th):PE X (.Subscript e (.Slice lo hi none p2) pos) (tSl r te tl th):=by
 intro pins s σ H Q I h
 refine Subscript_ (thn (he pins s σ H _ I h) fun v s1 ⟨x,H1,I1,r1,q1⟩=>?_)
 refine wpAny_Slice (thn (hl pins s1 σ H1 _ I1 q1) fun vl s2 ⟨l,H2,I2,pl,q2⟩=>thn (hu pins s2 σ H2 _ I2 q2) fun vu s3 ⟨u,H3,I3,pu,q3⟩=>?_)
 rw[evalPart_none]
 refine wpAny_pure ?_
 have I4:Inv X pins σ H3 {s3 with heap:=s3.heap.push {cls:=.type "slice",data:=.fields #[vl,vu, .none]}}:=I3.kept (t':=s3.toks) fun b ob q=>Heap.get?_push_of_some _ q
 obtain⟨T,id,hT,ht,hg⟩:=hr pins {s3 with heap:=s3.heap.push {cls:=.type "slice",data:=.fields #[vl,vu, .none]}} σ H3 x v vl vu l u s3.heap.objs.size Q I4 r1 (Heap.IsSliceOf.new ..) pl pu q3
 show wpAny (model X.prog X.w) X.A (subscriptTail e (.Slice lo hi none p2) v (.ref s3.heap.objs.size)) (EP X pins σ Q) X.xe {s3 with heap:=s3.heap.push {cls:=.type "slice",data:=.fields #[vl,vu, .none]}}
 exact tail_any (ops:=[.ref s3.heap.objs.size,v]) ht hT hg (by with_unfolding_all rfl)
noncomputable def cutV(xs:List V)(lo hi:Option Int):List V:=(xs.drop (HT.sIx xs.length 0 lo)).take (HT.sIx xs.length xs.length hi-HT.sIx xs.length 0 lo)
theorem khl(xs:List V)(lo hi:Option Int):(cutV xs lo hi).length≤xs.length:=by
 unfold cutV
 rw[Ny,M4]
 omega
end
end L2
namespace L2
open PySem PySem.Spec PyProof.Rows
noncomputable def ixN(n:Nat)(i:Int):Option Nat:=if 0≤i then(if i<n then some i.toNat else none) else if -(n:Int)≤i then some (i+n).toNat else none
noncomputable def atI{α:Type}(xs:List α)(i:Int):Option α:=(ixN xs.length i).bind fun j=>xs[j]?
theorem kjG{n:Nat}{i:Int}{j:Nat}(h:ixN n i=some j):seqIndex? i n=some j∧j<n∧-(n:Int)≤i∧i<n:=by
 unfold ixN at h
 by_cases h0:0≤i
 ·rw[if_pos h0] at h
  by_cases h1:i<n
  ·rw[if_pos h1] at h
   have e:i.toNat=j:=Option.some.inj h
   exact⟨by rw[seqIndex_of h0 h1,e],by omega,by omega,h1⟩
  ·rw[if_neg h1] at h;cases h
 ·rw[if_neg h0] at h
  by_cases h1: -(n:Int)≤i
  ·rw[if_pos h1] at h
   have e:(i+n).toNat=j:=Option.some.inj h
   exact⟨by rw[seqIndex_neg (by omega) h1,e],by omega,h1,by omega⟩
  ·rw[if_neg h1] at h;cases h
theorem kka{α:Type}{xs:List α}{i:Int}{v: α}(h:atI xs i=some v):∃j,seqIndex? i xs.length=some j∧xs[j]?=some v∧j<xs.length∧-(xs.length:Int)≤i∧i<xs.length:=by
 unfold atI at h
 cases e:ixN xs.length i with
 |none=>rw[e] at h;cases h
 |some j=>
  rw[e] at h
  obtain⟨h1,h2,h3,h4⟩:=kjG e
  exact⟨j,h1,h,h2,h3,h4⟩
theorem ka1{α:Type}{xs:List α}{j:Nat}{v: α}(h:xs[j]?=some v):atI xs (j:Int)=some v:=by
 have hj:j<xs.length:=(Nz.mp h).1
 have e:ixN xs.length (j:Int)=some j:=by
  unfold ixN
  rw[if_pos (by omega),if_pos (by omega)];simp
 unfold atI;rw[e];exact h
noncomputable def kl8(b:Expr):Prop:=∀o i,subscripted b false o i=operate [o,i] (getItem o i)
noncomputable def IxR(X:Cx)(r:R2):Prop:=
 ∀(value slice:Expr) (pins:List (Addr×Obj)) (s:Shared) (σ:St) (H:Hp) (x y:V) (v u:Value) (Q:VK),Inv X pins σ H s→RelV x v→RelV y u→r x y H Q→
  subscripted slice false v u=operate [v,u] (getItem v u)→wpAny (model X.prog X.w) X.A (subscriptTail value slice v u) (EP X pins σ Q) X.xe s
noncomputable def MtR(X:Cx)(id:String)(r:V→List V→Hp→VK→Prop):Prop:=
 ∀(pins:List (Addr×Obj)) (s:Shared) (σ:St) (H:Hp) (x:V) (xs:List V) (v:Value) (us:List Value) (Q:VK),Inv X pins σ H s→RelV x v→Vals xs us→r x xs H Q→
  wpAny (model X.prog X.w) X.A (call (.builtin id) (v::us)) (EP X pins σ Q) X.xe s
section
variable {X:Cx} {a b:Expr} {ta tb:TE} {pos:Pos}
theorem IxR.or{r r':R2}(h:IxR X r)(h':IxR X r'):IxR X (fun x y H Q=>r x y H Q∨r' x y H Q):=by
 intro value slice pins s σ H x y v u Q I rx ry q hs
 rcases q with q|q
 ·exact h value slice pins s σ H x y v u Q I rx ry q hs
 ·exact h' value slice pins s σ H x y v u Q I rx ry q hs
theorem MtR.or{id:String}{r r':V→List V→Hp→VK→Prop}(h:MtR X id r)(h':MtR X id r'):MtR X id (fun x xs H Q=>r x xs H Q∨r' x xs H Q):=by
 intro pins s σ H x xs v us Q I rx rs q
 rcases q with q|q
 ·exact h pins s σ H x xs v us Q I rx rs q
 ·exact h' pins s σ H x xs v us Q I rx rs q
theorem pe_ix{r:R2}(hr:IxR X r)(ha:PE X a ta)(hb:PE X b tb)(hs:kl8 b):PE X (.Subscript a b pos) (tOp r ta tb):=by
 intro pins s σ H Q I h
 exact Subscript_ (binT ha hb I h fun v u s2 x y H2 I2 rx ry q=>hr a b pins s2 σ H2 x y v u Q I2 rx ry q (hs _ _))
noncomputable def rIxL(K:Ni):R2:=fun x y H Q=>∃p xs i v,x=.ref p∧y=.int i∧SqL K H p xs∧atI xs i=some v∧Q v H
noncomputable def rIxT(K:Ni):R2:=fun x y H Q=>∃p xs i v,x=.ref p∧y=.int i∧SqT K H p xs∧atI xs i=some v∧Q v H
theorem kaD:IxR X (rIxL X.K):=by
 intro value slice pins s σ H x y v u Q I rx ry h hs
 obtain⟨p,xs,i,z,rfl,rfl,hq,he,q⟩:=h
 cases rx
 obtain⟨t,rfl⟩:=ry
 obtain⟨its,r,pl,hz⟩:=I.list hq
 obtain⟨j,h1,h2,h3,h4,h5⟩:=kka he
 obtain⟨w,ew,rw'⟩:=r.get h2
 have hl:=r.length
 have hn:=kgE
 have fin:EP X pins σ Q w s:=⟨z,H,I,rw',q⟩
 by_cases h0:0≤i
 ·have hj:i.toNat=j:=by
   rw[seqIndex_of h0 h5] at h1
   exact Option.some.inj h1
  exact item_listR pl.isList h0 (by omega) (by rw[hj];simpa using ew) fin hs
 ·have hj:(i+(its.toArray.size:Int)).toNat=j:=by
   rw[seqIndex_neg (by omega) h4] at h1
   rw[NK,←hl]
   exact Option.some.inj h1
  exact subscriptTail_builtinR (x:=w) pl.isList.typeIs slot_list_getitem.lookup
   (wpAny_getItem_list_neg (Q:=fun r s'=>r=w∧EP X pins σ Q r s') pl.isList (by omega) (by rw[NK] <;> omega) (by omega) (by rw[hj];simpa using ew) ⟨rfl,fin⟩) hs
theorem kd9:IxR X (rIxT X.K):=by
 intro value slice pins s σ H x y v u Q I rx ry h hs
 obtain⟨p,xs,i,z,rfl,rfl,hq,he,q⟩:=h
 cases rx
 obtain⟨t,rfl⟩:=ry
 obtain⟨its,r,pl,hz⟩:=I.tuple hq
 obtain⟨j,h1,h2,h3,h4,h5⟩:=kka he
 obtain⟨w,ew,rw'⟩:=r.get h2
 have hl:=r.length
 have hn:=kgE
 have fin:EP X pins σ Q w s:=⟨z,H,I,rw',q⟩
 exact subscriptTail_builtinR (x:=w) pl.typeIs slot_tuple_getitem.lookup
  (getItem_tuple (j:=j) (Q:=fun r s'=>r=w∧EP X pins σ Q r s') pl (by omega) (by omega) (by rw[NK,←hl];exact h1) (by simpa using ew) ⟨rfl,fin⟩) hs
theorem kio(its:List Value)(n j:Nat)(u:Value):Obj.mapSeq (·.setIfInBounds j u) {cls:=.type "list",data:=.seq its.toArray n}= {cls:=.type "list",data:=.seq (its.set j u).toArray n}:=by
 simp[Obj.mapSeq]
theorem Inv.lst{pins:List (Addr×Obj)}{σ:St}{H:Hp}{s:Shared}{p:Addr}{xs:List V}(I:Inv X pins σ H s)(h:H p=some (.lst xs)):
  ∃(its:List Value) (n:Nat),Vals xs its∧s.heap.get? p=some {cls:=.type "list",data:=.seq its.toArray n}∧xs.length≤sizeLine:=by
 obtain⟨z,its,n,r,e⟩:=I.hok p _ h
 exact⟨its,n,r,e,z⟩
theorem Inv.lstUpd{pins:List (Addr×Obj)}{σ:St}{H:Hp}{s:Shared}{p:Addr}{xs ys:List V}{its its':List Value}{n n':Nat}{f:Obj→Obj}(I:Inv X pins σ H s)(h:H p=some (.lst xs))
  (ho:s.heap.get? p=some {cls:=.type "list",data:=.seq its.toArray n}) (hf:f {cls:=.type "list",data:=.seq its.toArray n}= {cls:=.type "list",data:=.seq its'.toArray n'}) (r:Vals ys its') (hz:ys.length≤sizeLine) (t:Nat):
  Inv X pins σ (upd H p (.lst ys)) {s with heap:=s.heap.update p f,toks:=t}:=by
 have e:(s.heap.update p f).get? p=some {cls:=.type "list",data:=.seq its'.toArray n'}:=by
  rw[Heap.get?_update_self f ho (by rw[hf] <;> rfl),hf]
 refine I.write (x:=p) (e:=p) (by rw[h];trivial) (.inl rfl) (fun b u hb q=>(Heap.get?_update_other _ _ (Ne.symm hb)).trans q) ⟨_,e⟩ ?_
 exact⟨hz,its',n',r,e⟩
noncomputable def rSetL:V→V→V→Hp→(Hp→Prop)→Prop:=fun o i v H Q=>∃p xs k j,o=.ref p∧i=.int k∧H p=some (.lst xs)∧ixN xs.length k=some j∧Q (upd H p (.lst (xs.set j v)))
theorem set_list:PSet X rSetL:=by
 intro pins s σ H o i v ov iv u Q I ro ri rv h
 obtain⟨p,xs,k,j,rfl,rfl,hp,hj,q⟩:=h
 cases ro
 obtain⟨t,rfl⟩:=ri
 obtain⟨its,n,r,ho,hz⟩:=I.lst hp
 obtain⟨h1,h2,h3,h4⟩:=kjG hj
 have hl:=r.length
 have hn:=kgE
 have I':Inv X pins σ (upd H p (.lst (xs.set j v))) {s with heap:=s.heap.update p (Obj.mapSeq (·.setIfInBounds j u))}:=
  I.lstUpd hp ho (kio its n j u) (r.set rv j) (by rw[MS];exact hz) s.toks
 by_cases h0:0≤k
 ·have hk:k.toNat=j:=by
   rw[seqIndex_of h0 h4] at h1
   exact Option.some.inj h1
  exact PySem.W.ki_setAt ho h0 (by omega) (by rw[NK,←hl];exact h4) (by rw[hk];exact⟨_,I',q⟩)
 ·have hk:(k+(its.toArray.size:Int)).toNat=j:=by
   rw[seqIndex_neg (by omega) h3] at h1
   rw[NK,←hl]
   exact Option.some.inj h1
  exact PySem.W.ki_setBack ho (by omega) (by rw[NK,←hl];exact h3) (by omega) (by rw[hk];exact⟨_,I',q⟩)
theorem kgl(lo hi:Option Int)(n:Nat):(sliceBounds lo hi none n).1=((HT.sIx n 0 lo:Nat):Int)∧(sliceBounds lo hi none n).2.1=((HT.sIx n n hi:Nat):Int)∧(sliceBounds lo hi none n).2.2=1:=by
 refine⟨?_,?_,rfl⟩
 ·cases lo with
  |none=>simp[sliceBounds,HT.sIx]
  |some i=>
   simp only[sliceBounds,HT.sIx,EL,show(1:Int) > 0 by decide,if_true]
   by_cases h:i<0
   ·simp only[h,if_true] <;> omega
   ·simp only[h,if_false] <;> omega
 ·cases hi with
  |none=>simp[sliceBounds,HT.sIx]
  |some i=>
   simp only[sliceBounds,HT.sIx,EL,show(1:Int) > 0 by decide,if_true]
   by_cases h:i<0
   ·simp only[h,if_true] <;> omega
   ·simp only[h,if_false] <;> omega
theorem kfz(its:List Value)(lo hi:Option Int):slicePick its.toArray lo hi none=((its.drop (HT.sIx its.length 0 lo)).take (HT.sIx its.length its.length hi-HT.sIx its.length 0 lo)).toArray:=by
 obtain⟨h1,h2,h3⟩:=kgl lo hi its.toArray.size
 unfold slicePick
 rw[h1,h2,h3]
 simp only[sliceRange_one,pick_run,NK] <;> rfl
noncomputable def rSlL(K:Ni):V→Option Int→Option Int→Hp→VK→Prop:=fun x lo hi H Q=>∃a xs,x=.ref a∧SqL K H a xs∧∀p,H p=none→Q (.ref p) (upd H p (.lst (cutV xs lo hi)))
theorem kdM:SlR X (rSlL X.K):=by
 intro pins s σ H x v vl vu lo hi sl Q I rx hs pl pu h
 obtain⟨a,xs,rfl,hx,q⟩:=h
 cases rx
 obtain⟨its,r,ht,hz⟩:=I.list hx
 have hlen:=r.length
 refine⟨"list",_,slot_list_getitem.lookup,ht.isList.typeIs,?_⟩
 refine wpAny_getItem_list_slice ht.isList hs pl pu .none (by simp) ?_ (by rw[NK] <;> omega)
 rw[kfz,←hlen]
 refine⟨.ref s.heap.objs.size,_,I.laid (t':=s.toks) (o:=.lst (cutV xs lo hi)) (fun b ob q=>Heap.get?_push_of_some _ q) (Nj _) ?_,rfl,q _ (I.hok.fresh (Nj _))⟩
 exact⟨Nm (khl xs lo hi) hz,_,0,(r.drop (HT.sIx xs.length 0 lo)).take (HT.sIx xs.length xs.length hi-HT.sIx xs.length 0 lo),Heap.get?_push_size _ rfl⟩
noncomputable def flatV:V→Bool
 | .non=>true
 | .bl _=>true
 | .int _=>true
 | .str _=>true
 |_=>false
noncomputable def eqV:V→V→Bool
 | .non, .non=>true
 | .bl a, .bl b=>a==b
 | .bl a, .int b=>(if a then 1 else 0)==b
 | .int a, .bl b=>a==(if b then 1 else 0)
 | .int a, .int b=>a==b
 | .str a, .str b=>a==b
 |_,_=>false
theorem klm{A:Around}{s:Shared}{y x:V}{u v:Value}(ry:RelV y u)(rx:RelV x v)(fy:flatV y=true)(fx:flatV x=true):SeqAt.EqAt A s u v (eqV y x):=by
 cases y with
 |non=>
  cases ry
  cases x with
  |non=>cases rx;exact SeqAt.EqAt.same _
  |bl b=>cases rx;exact SeqAt.EqAt.none_bool b
  |int b=>obtain⟨t,rfl⟩:=rx;exact SeqAt.EqAt.none_int b t
  |str b=>obtain⟨t,rfl⟩:=rx;exact SeqAt.EqAt.none_str b t
  |_=>exact absurd (show false=true from fx) Nu
 |bl a=>
  cases ry
  cases x with
  |non=>cases rx;exact SeqAt.EqAt.bool_none a
  |bl b=>cases rx;exact SeqAt.EqAt.bool_bool a b
  |int b=>obtain⟨t,rfl⟩:=rx;exact SeqAt.EqAt.bool_int a b t
  |str b=>obtain⟨t,rfl⟩:=rx;exact SeqAt.EqAt.bool_str a b t
  |_=>exact absurd (show false=true from fx) Nu
 |int a=>
  obtain⟨t',rfl⟩:=ry
  cases x with
  |non=>cases rx;exact SeqAt.EqAt.int_none a t'
  |bl b=>cases rx;exact SeqAt.EqAt.int_bool a t' b
  |int b=>obtain⟨t,rfl⟩:=rx;exact SeqAt.EqAt.int_int a t' b t
  |str b=>obtain⟨t,rfl⟩:=rx;exact SeqAt.EqAt.int_str a t' b t
  |_=>exact absurd (show false=true from fx) Nu
 |str a=>
  obtain⟨t',rfl⟩:=ry
  cases x with
  |non=>cases rx;exact SeqAt.EqAt.str_none a t'
  |bl b=>cases rx;exact SeqAt.EqAt.str_bool a t' b
  |int b=>obtain⟨t,rfl⟩:=rx;exact SeqAt.EqAt.str_int a t' b t
  |str b=>obtain⟨t,rfl⟩:=rx;exact SeqAt.EqAt.str_str a t' b t
  |_=>exact absurd (show false=true from fx) Nu
 |_=>exact absurd (show false=true from fy) Nu
noncomputable def eqU(x:V)(u:Value):Bool:=match u with
 | .none=>eqV .non x
 | .bool b=>eqV (.bl b) x
 | .int i _=>eqV (.int i) x
 | .str z _=>eqV (.str z) x
 |_=>false
theorem kll{x y:V}{u:Value}(r:RelV y u)(f:flatV y=true):eqU x u=eqV y x:=by
 cases y with
 |non=>cases r;rfl
 |bl b=>cases r;rfl
 |int i=>obtain⟨t,rfl⟩:=r;rfl
 |str z=>obtain⟨t,rfl⟩:=r;rfl
 |_=>exact absurd (show false=true from f) Nu
theorem ke5{x:V}:∀{xs:List V} {us:List Value},Vals xs us→xs.all flatV=true→us.any (eqU x)=xs.any fun y=>eqV y x
 |_,_, .nil,_=>rfl
 |y::xs,u::us, .cons r t,f=>by
  rw[Ek,MF] at f
  rw[MJ,MJ,kll r f.1,ke5 t f.2]
theorem kdA{A:Around}{s:Shared}{x:V}{v:Value}(rx:RelV x v)(fx:flatV x=true):∀{xs:List V} {us:List Value},Vals xs us→xs.all flatV=true→∀u∈us,SeqAt.EqAt A s u v (eqU x u)
 |_,_, .nil,_=>fun u hu=>by cases hu
 |y::xs,u::us, .cons r t,f=>fun u' hu=>by
  rw[Ek,MF] at f
  rcases NI.mp hu with rfl|hu
  ·rw[kll r f.1];exact klm r rx f.1 fx
  ·exact kdA rx fx t f.2 u' hu
noncomputable def inV(x:V)(xs:List V):Bool:=xs.any fun y=>eqV y x
noncomputable def rIn(K:Ni)(neg:Bool):R2:=fun x y H Q=>∃p xs,y=.ref p∧(SqL K H p xs∨SqT K H p xs)∧flatV x=true∧xs.all flatV=true∧Q (.bl (if neg then !inV x xs else inV x xs)) H
theorem kcT:OpR X (compareOp .In) (rIn X.K false):=by
 intro pins s σ H x y v u Q I rx ry h
 obtain⟨p,xs,rfl,hq,fx,fs,q⟩:=h
 cases ry
 rcases hq with hq|hq
 ·obtain⟨its,r,pl,hz⟩:=I.list hq
  refine SeqAt.in_listAt (eqU x) pl.isList (fun w hw=>kdA rx fx r fs w (by simpa using hw)) ⟨.bl _,H,I,rfl,?_⟩
  rw[show its.toArray.any (eqU x)=its.any (eqU x) by simp,ke5 r fs]
  exact q
 ·obtain⟨its,r,pl,hz⟩:=I.tuple hq
  refine SeqAt.in_tupleAt (eqU x) pl (fun w hw=>kdA rx fx r fs w (by simpa using hw)) ⟨.bl _,H,I,rfl,?_⟩
  rw[show its.toArray.any (eqU x)=its.any (eqU x) by simp,ke5 r fs]
  exact q
theorem kgv:OpR X (compareOp .NotIn) (rIn X.K true):=by
 intro pins s σ H x y v u Q I rx ry h
 obtain⟨p,xs,rfl,hq,fx,fs,q⟩:=h
 cases ry
 rcases hq with hq|hq
 ·obtain⟨its,r,pl,hz⟩:=I.list hq
  refine SeqAt.notIn_listAt (eqU x) pl.isList (fun w hw=>kdA rx fx r fs w (by simpa using hw)) ⟨.bl _,H,I,rfl,?_⟩
  rw[show its.toArray.any (eqU x)=its.any (eqU x) by simp,ke5 r fs]
  exact q
 ·obtain⟨its,r,pl,hz⟩:=I.tuple hq
  refine SeqAt.notIn_tupleAt (eqU x) pl (fun w hw=>kdA rx fx r fs w (by simpa using hw)) ⟨.bl _,H,I,rfl,?_⟩
  rw[show its.toArray.any (eqU x)=its.any (eqU x) by simp,ke5 r fs]
  exact q
theorem kaF:CallR X (.builtin "len") (fun xs H Q=>∃p ys,xs=[.ref p]∧(SqL X.K H p ys∨SqT X.K H p ys)∧Q (.int ys.length) H):=by
 intro pins s σ H xs us Q I r h
 obtain⟨p,ys,rfl,hq,q⟩:=h
 obtain⟨u,rfl,rx⟩:=vals1 r
 cases rx
 have hn:=kgE
 rcases hq with hq|hq
 ·obtain⟨its,r',pl,hz⟩:=I.list hq
  have hlen:=r'.length
  exact Calls.call_len_list pl.isList (by simp only[NK] <;> omega) ⟨.int ys.length,H,I.tok _,⟨s.toks+1,by rw[NK,hlen]⟩,q⟩
 ·obtain⟨its,r',pl,hz⟩:=I.tuple hq
  have hlen:=r'.length
  exact len_tuple pl (by simp only[NK] <;> omega) ⟨.int ys.length,H,I.tok _,⟨s.toks+1,by rw[NK,hlen]⟩,q⟩
theorem CallR.or{f:Value}{r r':List V→Hp→VK→Prop}(h:CallR X f r)(h':CallR X f r'):CallR X f (fun xs H Q=>r xs H Q∨r' xs H Q):=by
 intro pins s σ H xs us Q I rs q
 rcases q with q|q
 ·exact h pins s σ H xs us Q I rs q
 ·exact h' pins s σ H xs us Q I rs q
theorem kaI:CallR X (.type "list") (fun xs H Q=>∃p ys,xs=[.ref p]∧(SqL X.K H p ys∨SqT X.K H p ys)∧∀l,H l=none→Q (.ref l) (upd H l (.lst ys))):=by
 intro pins s σ H xs us Q I r h
 obtain⟨p,ys,rfl,hq,q⟩:=h
 obtain⟨u,rfl,rx⟩:=vals1 r
 cases rx
 have fin:∀(its:List Value),Vals ys its→ys.length≤sizeLine→∀(h':Heap) (c':Nat),(∀b o',s.heap.get? b=some o'→h'.get? b=some o')→
   h'.get? s.heap.objs.size=some {cls:=.type "list",dict:=none,data:=.seq its.toArray c',slots:=#[]}→EP X pins σ Q (.ref s.heap.objs.size) {s with heap:=h'}:=fun its r' hz h' c' kp e=>
  ⟨.ref s.heap.objs.size,_,I.laid (t':=s.toks) kp (Nj _) (show ObjOk X.prog X.w _ h' _ (.lst ys) from⟨hz,its,c',r',e⟩),rfl,q _ (I.hok.fresh (Nj _))⟩
 rcases hq with hq|hq
 ·obtain⟨its,r',pl,hz⟩:=I.list hq
  have hlen:=r'.length
  obtain⟨o,ho,hc,n,hd⟩:=pl.isList
  exact call_list_seq p (.inl rfl) ho hc hd (fun h' c' kp e=>fin its r' hz h' c' kp e) (by simp only[NK] <;> omega)
 ·obtain⟨its,r',pl,hz⟩:=I.tuple hq
  have hlen:=r'.length
  obtain⟨o,ho,hc,n,hd⟩:=pl
  exact call_list_seq p (.inr rfl) ho hc hd (fun h' c' kp e=>fin its r' hz h' c' kp e) (by simp only[NK] <;> omega)
noncomputable def tyV(K:Ni)(T:String)(x:V)(H:Hp):Prop:=match x with
 | .str _=>T="str"
 | .int _=>T="int"
 | .ref p=>(T="list"∧∃xs,SqL K H p xs)∨(T="tuple"∧∃o,K.lookup p=some o∧o.cls=.type "tuple"∧o.dict=none)∨
   (T="dict"∧((∃kvs,H p=some (.dK kvs))∨∃kvs,H p=some (.dT kvs)))∨(T="set"∧∃S n,H p=some (.set S n))
 |_=>False
theorem kiB{pins:List (Addr×Obj)}{σ:St}{H:Hp}{s:Shared}{T:String}{x:V}{v:Value}(I:Inv X pins σ H s)(r:RelV x v)(ty:tyV X.K T x H):
  s.TypeIs v T∧∀a,v=.ref a→∃ob,s.heap.get? a=some ob∧ob.dict=none:=by
 cases x with
 |str z=>
  obtain⟨t,rfl⟩:=r
  cases(show T="str" from ty)
  exact⟨typeIs_str s z t,fun _ e=>nomatch e⟩
 |int i=>
  obtain⟨t,rfl⟩:=r
  cases(show T="int" from ty)
  exact⟨typeIs_int s i t,fun _ e=>nomatch e⟩
 | ref p=>
  cases r
  rcases ty with⟨rfl,xs,hq⟩|⟨rfl,o,hk,hc,hd⟩|⟨rfl,hk⟩|⟨rfl,S,n,hk⟩
  ·obtain⟨its,_,pl,_⟩:=I.list hq
   refine⟨pl.isList.typeIs,fun a e=>?_⟩
   cases e
   obtain⟨o,n,e,c,hd,_⟩:=pl
   exact⟨o,e,hd⟩
  ·refine⟨⟨o,I.kIn p o hk,hc⟩,fun a e=>?_⟩
   cases e
   exact⟨o,I.kIn _ o hk,hd⟩
  ·have z:∃o,s.heap.get? p=some o∧o.ExactDict:=by
    rcases hk with⟨kvs,hk⟩|⟨kvs,hk⟩
    ·obtain⟨_,_,_,_,o,_,_,e,ex,_⟩:=I.hok p _ hk
     exact⟨o,e,ex⟩
    ·obtain⟨_,_,_,_,o,_,_,e,ex,_⟩:=I.hok p _ hk
     exact⟨o,e,ex⟩
   obtain⟨o,e,ex⟩:=z
   refine⟨⟨o,e,ex.1⟩,fun a e2=>?_⟩
   cases e2
   exact⟨o,e,ex.2.1⟩
  ·obtain⟨o,_,_,_,e,ex,_⟩:=I.hok p _ hk
   refine⟨⟨o,e,ex.1⟩,fun a e2=>?_⟩
   cases e2
   exact⟨o,e,ex.2.1⟩
 |_=>exact False.elim ty
noncomputable def tBM0(K:Ni)(T:String)(r:V→List V→Hp→VK→Prop)(to:TE):TE:=fun σ H Q=>to σ H fun x H1=>tyV K T x H1∧r x [] H1 Q
noncomputable def tBM(K:Ni)(T:String)(r:V→List V→Hp→VK→Prop)(to:TE)(t:TA):TE:=fun σ H Q=>to σ H fun x H1=>tyV K T x H1∧t σ H1 fun xs H2=>r x xs H2 Q
variable {o e:Expr} {es:List Expr} {to:TE} {t:TA} {name:Str} {apos cpos:Pos} {T id:String} {r:V→List V→Hp→VK→Prop}
theorem kmj(pa:PlainAttrs T)(slot:Slot T name id)(hty:typeOf (.builtin id)=pure (.type "method_descriptor"))(hm:MtR X id r)(ho:PE X o to)
  (hbase:attributeBase o name X.env (eval o X.env)=eval o X.env:=by rfl) (hline:(apos.endLine==cpos.line)=true:=by rfl):PE X (.Call (.Attribute o name apos) [] [] cpos) (tBM0 X.K T r to):=by
 intro pins s σ H Q I h
 refine wpAny_Call_method0_late hbase hline (thn (ho pins s σ H _ I h) fun v s1 ⟨x,H1,I1,r1,ty,q1⟩=>?_)
 obtain⟨h1,h2⟩:=kiB I1 r1 ty
 exact⟨T,id,pa,slot,hty,h1,h2,Calls.callWith_builtin rfl (PySem.evalArgs_none (hm pins s1 σ H1 x [] v [] Q I1 r1 .nil q1))⟩
theorem pe_bm(pa:PlainAttrs T)(slot:Slot T name id)(hty:typeOf (.builtin id)=pure (.type "method_descriptor"))(hm:MtR X id r)(ho:PE X o to)(ha:PA X (e::es) t)
  (hbase:attributeBase o name X.env (eval o X.env)=eval o X.env:=by rfl)
  (hfew:((backTo cpos (starEach (e::es) X.env)).all (fun x=>!x.1)&&(backToKw cpos (keywordEach [] X.env)).all (fun x=>x.1.isSome)
   &&decide ((e::es).length+([]:List Keyword).length+(if([]:List Keyword).isEmpty then 0 else 1)<30))=true:=by rfl)
  (hline:(apos.endLine==cpos.line)=true:=by rfl) (hs:starEach (e::es) X.env=(false,eval e X.env)::starEach es X.env:=by rfl) (hplain:(backTo cpos (starEach es X.env)).any (·.1)=false:=by rfl):
  PE X (.Call (.Attribute o name apos) (e::es) [] cpos) (tBM X.K T r to t):=by
 intro pins s σ H Q I h
 refine wpAny_Call_method_late hbase hfew hline rfl (thn (ho pins s σ H _ I h) fun v s1 ⟨x,H1,I1,r1,ty,q1⟩=>?_)
 obtain⟨h1,h2⟩:=kiB I1 r1 ty
 refine⟨T,id,pa,slot,hty,h1,h2,?_⟩
 have hA:=ha cpos pins s1 σ H1 _ I1 q1
 rw[hs] at hA⊢
 refine Calls.callWith_builtin (by show(false||(backTo cpos (starEach es X.env)).any (·.1))=false;rw[hplain] <;> rfl) (Calls.evalArgs_plain ?_)
 exact thn hA fun us s2 ⟨vs,H2,I2,r2,q2⟩=>hm pins s2 σ H2 x vs v us Q I2 r1 r2 q2
end
end L2
namespace L2
open PySem PySem.Spec PyProof.Rows
noncomputable def MtM(X:Cx)(id:String)(r:V→List V→Hp→VK→Prop):Prop:=
 ∀(pins:List (Addr×Obj)) (s:Shared) (σ:St) (H:Hp) (x:V) (xs:List V) (v:Value) (us:List Value) (Q:VK),Inv X pins σ H s→RelV x v→Vals xs us→r x xs H Q→
  wpAny (model X.prog X.w) X.A (call (.builtin id) (v::us)) (EP X pins σ Q) X.xe s
theorem Vals.one:∀{x:V} {us:List Value},Vals [x] us→∃u,us=[u]∧RelV x u
 |_,_, .cons r .nil=>⟨_,rfl,r⟩
theorem Vals.two:∀{x y:V} {us:List Value},Vals [x,y] us→∃u v,us=[u,v]∧RelV x u∧RelV y v
 |_,_,_, .cons r (.cons q .nil)=>⟨_,_,rfl,r,q⟩
theorem Vals.zero:∀{us:List Value},Vals [] us→us=[]
 |_, .nil=>rfl
theorem Vals.dropLast{xs:List V}{us:List Value}(h:Vals xs us):Vals xs.dropLast us.dropLast:=by
 induction h with
 |nil=>exact .nil
 |cons r t ih=>
  cases t with
  |nil=>exact .nil
  |cons q t'=>exact .cons r ih
theorem Vals.eraseIdx:∀{xs:List V} {us:List Value} (i:Nat),Vals xs us→Vals (xs.eraseIdx i) (us.eraseIdx i)
 |_,_,_, .nil=>.nil
 |_,_,0, .cons _ t=>t
 |_,_,i+1, .cons r t=>.cons r (Vals.eraseIdx i t)
theorem Vals.reverse{xs:List V}{us:List Value}(h:Vals xs us):Vals xs.reverse us.reverse:=by
 induction h with
 |nil=>exact .nil
 |cons r t ih=>rw[El,El];exact Vals.append ih (.cons r .nil)
theorem Vals.rep{xs:List V}{us:List Value}(h:Vals xs us):∀k:Nat,Vals (Nl k xs).flatten (Nl k us).flatten
 |0=>.nil
 |k+1=>by
  rw[Mq,Mq,NR,NR]
  exact Vals.append h (Vals.rep h k)
theorem kit{α:Type}(l:List α):l.eraseIdx (l.length-1)=l.dropLast:=by
 induction l with
 |nil=>rfl
 | cons a r ih=>
  cases r with
  |nil=>rfl
  | cons b r=>
   have e:(a::b::r).length-1=((b::r).length-1)+1:=by
    have h1:(a::b::r).length=r.length+2:=rfl
    have h2:(b::r).length=r.length+1:=rfl
    omega
   rw[e,List.eraseIdx_cons_succ,ih]
   all_goals rfl
theorem foldl_rep(its:List Value):∀(k:Nat) (acc:List Value),
  List.foldl (fun x1 x2=>x1++x2) acc.toArray (Nl k its.toArray)=(acc++(Nl k its).flatten).toArray
 |0,acc=>by simp
 | k+1,acc=>by
  have e:acc.toArray++its.toArray=(acc++its).toArray:=by simp
  have e2:(acc++its)++(Nl k its).flatten=acc++(Nl (k+1) its).flatten:=by
   rw[Mq,NR,Mb]
  rw[←e2,←foldl_rep its k (acc++its),←e,Mq,List.foldl_cons]
section
variable {X:Cx} {pins:List (Addr×Obj)} {σ:St} {H:Hp} {s:Shared} {l b:Addr} {xs ys zs:List V}
theorem Inv.lset{its its':List Value}{n:Nat}{f:Array Value→Array Value}{t':Nat}(I:Inv X pins σ H s)(hH:H l=some (.lst xs))
  (e:s.heap.get? l=some {cls:=.type "list",data:=.seq its.toArray n}) (hf:f its.toArray=its'.toArray) (hv:Vals ys its') (hz:ys.length≤sizeLine):
  Inv X pins σ (upd H l (.lst ys)) {s with heap:=s.heap.update l (Obj.mapSeq f),toks:=t'}:=by
 have q:=PySem.IsL.update e f
 rw[hf] at q
 refine I.write (x:=l) (e:=l) (by rw[hH];exact trivial) (.inl rfl) (fun b' u hb hu=>(Heap.get?_update_other s.heap (Obj.mapSeq f) (Ne.symm hb)).trans hu) ⟨_,q⟩ ?_
 exact⟨hz,its',_,hv,q⟩
theorem Inv.lnew{its:List Value}{t':Nat}(I:Inv X pins σ H s)(hv:Vals ys its)(hz:ys.length≤sizeLine):
  Inv X pins σ (upd H s.heap.objs.size (.lst ys)) {s with heap:=s.heap.push {cls:=.type "list",data:=.seq its.toArray},toks:=t'}:=
 I.laid (fun _ _ q=>Heap.get?_push_of_some _ q) (Nj _) ⟨hz,its,0,hv,Heap.get?_push_size _ rfl⟩
theorem Inv.fresh(I:Inv X pins σ H s):H s.heap.objs.size=none:=I.hok.fresh (Nj _)
theorem Inv.lstM(I:Inv X pins σ H s)(hH:H l=some (.lst xs)):xs.length≤sizeLine∧∃(its:List Value) (n:Nat),Vals xs its∧xs.length=its.length∧s.heap.get? l=some {cls:=.type "list",data:=.seq its.toArray n}:=by
 obtain⟨z,its,n,r,e⟩:=I.hok l _ hH
 exact⟨z,its,n,r,r.length,e⟩
theorem khZ{n:Nat}(h:n≤sizeLine):Builtin.List.listTooLong n=false:=by
 unfold Builtin.List.listTooLong
 exact decide_eq_false (by omega)
end
section
variable {X:Cx}
noncomputable def kjd:V→List V→Hp→VK→Prop:=fun x vs H Q=>∃l xs y,x=.ref l∧vs=[y]∧H l=some (.lst xs)∧xs.length<sizeLine∧Q .non (upd H l (.lst (xs++[y])))
theorem ka9:MtM X "list.append" kjd:=by
 intro pins s σ H x vs v us Q I rx rv h
 obtain⟨l,xs,y,rfl,rfl,hH,hz,q⟩:=h
 cases rx
 obtain⟨u,rfl,ru⟩:=rv.one
 obtain⟨z,its,n,r,hl,e⟩:=I.lstM hH
 refine call_meets F.slot_list_append ⟨_,e,rfl⟩ F.entry_list_append (F.args_list_append_2 _ _) (PySem.list_append l its.toArray n u (by rw[NK];omega)) ⟨e,?_⟩
 refine⟨.non,_,I.lset (its':=its++[u]) hH e (by simp) (r.append (.cons ru .nil)) ?_,rfl,q⟩
 rw[Nx,EM]
 omega
noncomputable def klJ:V→List V→Hp→VK→Prop:=fun x vs H Q=>∃l b xs zs,x=.ref l∧vs=[.ref b]∧H l=some (.lst xs)∧H b=some (.lst zs)∧xs.length+zs.length≤sizeLine∧Q .non (upd H l (.lst (xs++zs)))
theorem kgB:MtM X "list.extend" klJ:=by
 intro pins s σ H x vs v us Q I rx rv h
 obtain⟨l,b,xs,zs,rfl,rfl,hH,hB,hz,q⟩:=h
 cases rx
 obtain⟨u,rfl,ru⟩:=rv.one
 cases ru
 obtain⟨z,its,n,r,hl,e⟩:=I.lstM hH
 obtain⟨z2,its2,n2,r2,hl2,e2⟩:=I.lstM hB
 have hsz:its.toArray.size+its2.toArray.size≤sizeLine:=by rw[NK,NK];omega
 have hlong:¬(!its.toArray.isEmpty&&Builtin.List.listTooLong (its.toArray.size+its2.toArray.size))=true:=by
  rw[khZ hsz,Bool.and_false]
  exact Nu
 refine call_meets F.slot_list_extend ⟨_,e,rfl⟩ F.entry_list_extend (F.args_list_extend_2 _ _)
  (AutoSeq1.list_extend_list_list_0 l its.toArray n b its2.toArray n2 hlong (by rw[NK];omega) (by omega)) ⟨e,e2,?_⟩
 refine⟨.non,_,I.lset (its':=its++its2) hH e (by simp) (r.append r2) ?_,rfl,q⟩
 rw[Nx]
 omega
noncomputable def rPop:V→List V→Hp→VK→Prop:=fun x vs H Q=>∃l xs y,x=.ref l∧vs=[]∧H l=some (.lst xs)∧xs[xs.length-1]?=some y∧Q y (upd H l (.lst xs.dropLast))
theorem kmm:MtM X "list.pop" rPop:=by
 intro pins s σ H x vs v us Q I rx rv h
 obtain⟨l,xs,y,rfl,rfl,hH,hy,q⟩:=h
 cases rx
 have hus:=rv.zero
 subst hus
 obtain⟨z,its,n,r,hl,e⟩:=I.lstM hH
 obtain⟨u,hu,ru⟩:=r.get hy
 have hy':its.toArray[its.toArray.size-1]?=some u:=by
  show its.toArray[its.length-1]?=some u
  rw[←Da,←hl]
  exact hu
 refine call_meets F.slot_list_pop ⟨_,e,rfl⟩ F.entry_list_pop (F.args_list_pop_1 _) (MeetsSeq.list_pop_last l its.toArray n u hy' (by rw[NK];omega)) ⟨e,?_⟩
 refine⟨y,_,I.lset (its':=its.dropLast) hH e ?_ r.dropLast ?_,ru,q⟩
 ·show its.toArray.eraseIdxIfInBounds (its.toArray.size-1)=its.dropLast.toArray
  rw[NK,List.eraseIdxIfInBounds_toArray,kit]
 ·rw[EN]
  omega
noncomputable def rCat:R2:=fun x y H Q=>∃l b xs zs,x=.ref l∧y=.ref b∧H l=some (.lst xs)∧H b=some (.lst zs)∧xs.length+zs.length≤sizeLine∧∀p,H p=none→Q (.ref p) (upd H p (.lst (xs++zs)))
theorem kd6:OpR X (binaryOp .Add) rCat:=by
 intro pins s σ H x y v u Q I rx ry h
 obtain⟨l,b,xs,zs,rfl,rfl,hH,hB,hz,q⟩:=h
 cases rx
 cases ry
 obtain⟨z,its,n,r,hl,e⟩:=I.lstM hH
 obtain⟨z2,its2,n2,r2,hl2,e2⟩:=I.lstM hB
 refine PySem.P.add_list e e2 ?_ (by rw[NK,NK];omega)
 have ea:its.toArray++its2.toArray=(its++its2).toArray:=by simp
 rw[ea]
 exact⟨.ref _,_,I.lnew (t':=s.toks) (r.append r2) (by rw[Nx];omega),rfl,q _ I.fresh⟩
noncomputable def rRep:R2:=fun x y H Q=>∃l k xs,x=.ref l∧y=.int k∧H l=some (.lst xs)∧-(2 ^ 63)≤k∧k<2 ^ 63∧xs.length*k.toNat≤sizeLine∧
 ∀p,H p=none→Q (.ref p) (upd H p (.lst (Nl k.toNat xs).flatten))
theorem len_rep{α:Type}(xs:List α)(k:Nat):(Nl k xs).flatten.length=k*xs.length:=by
 induction k with
 |zero=>simp
 |succ k ih=>rw[Mq,NR,Nx,ih,Nat.succ_mul,Nat.add_comm]
theorem kjr:OpR X (binaryOp .Mult) rRep:=by
 intro pins s σ H x y v u Q I rx ry h
 obtain⟨l,k,xs,rfl,rfl,hH,h1,h2,hz,q⟩:=h
 cases rx
 obtain⟨t,rfl⟩:=ry
 obtain⟨z,its,n,r,hl,e⟩:=I.lstM hH
 have hlen:its.toArray.size*k.toNat≤sizeLine:=by rw[NK,←hl];exact hz
 have hcap:¬its.toArray.size*k.toNat > (2 ^ 63-1)/8:=by
  have:(sizeLine:Nat)≤(2 ^ 63-1)/8:=by decide
  omega
 have hfit:¬(!Builtin.List.listFitsIndex k)=true:=by
  rw[fitsIndex_both h1 h2]
  exact Nu
 have hlong:¬Builtin.List.listTooLong (its.toArray.size*k.toNat)=true:=by
  rw[khZ hlen]
  exact Nu
 have hnew:List.foldl (fun x1 x2=>x1++x2) #[] (Nl (if its.toArray.isEmpty=true then 0 else k.toNat) its.toArray)=(Nl k.toNat its).flatten.toArray:=by
  have f0:∀m:Nat,List.foldl (fun x1 x2=>x1++x2) #[] (Nl m its.toArray)=(Nl m its).flatten.toArray:=fun m=>by
   have:=foldl_rep its m []
   rw[M5] at this
   exact this
  rw[f0]
  cases its with
  |nil=>simp
  |cons a r'=>rw[if_neg (by simp)]
 refine wpAny_binaryOp_repeat_ref (T:="list") (U:="int") (by decide) ⟨_,e,rfl⟩ (fun s'=>typeIs_int s' k t) noFill_list_mul F.fills_int_mul F.slot_int_rmul repeat_list F.slot_int_index.lookup
  (call_meets F.slot_int_rmul (typeIs_int s k t) F.entry_int_rmul (F.args_int_rmul_2 _ _) (int___rmul___int_list k t l its.toArray n)
   ⟨e,rfl,⟨_,e,rfl⟩,call_meets F.slot_list_mul ⟨_,e,rfl⟩ F.entry_list_mul (F.args_list_mul_2 _ _) (AutoListH.list___mul___list_int_3 l its.toArray n k t hfit hcap hlong) ⟨e,?_⟩⟩)
 rw[hnew]
 exact⟨.ref _,_,I.lnew (t':=s.toks) (r.rep k.toNat) (by rw[len_rep,Nat.mul_comm];exact hz),rfl,q _ I.fresh⟩
end
section
variable {prog:Program} {w:World} {A:Around} {E:Value→Shared→Prop} {s:Shared}
set_option maxRecDepth 100000 in
end
section
variable {X:Cx}
end
end L2
namespace Att
open PySem PySem.W PySem.Calls PyProof.Rows
theorem keW{P:Params}{h:Heap}:∀(ns:List Int) (vs:List Value),WellAll P h vs (ns.map WData.int)→IntsAre vs ns:=by
 intro ns
 induction ns with
 |nil=>
  intro vs w
  rw[Ej] at w
  cases w
  exact .nil
 | cons n ns ih=>
  intro vs w
  rw[NC] at w
  cases w with
  |cons a b=>
   cases a
   exact .cons _ _ (ih _ b)
theorem ki5{l:OpenLaw}{n:Nat}(hn:l.most=some n){P:Params}{h:Heap}{args:List WData}{vals:List Value}
  (hpre:l.row.toRowW.claim.pre args=true) (hwl:WellAll P h vals args):
  ∃a vs ns,vals=[Value.ref a]∧args=[WData.list (ns.map WData.int)]∧h.get? a=some {cls:=.type "list",data:=.seq vs.toArray}∧IntsAre vs ns∧ns.length≤n:=by
 have hsh:WShape.hasAll [] args [.list .int]=true:=(pre_splitW hpre).1
 have hc:l.pre.holds [] {args:=args}=true:=(pre_splitW hpre).2
 obtain⟨d,r,rfl,h1,h2⟩:=hasAllW_cons hsh
 obtain rfl:=hasAllW_nil h2
 obtain⟨xs,rfl,h3⟩:=hasW_list h1
 obtain⟨ns,rfl⟩:=items_int h3
 have hlen:ns.length≤n:=by
  unfold OpenLaw.pre at hc
  have h4:(WTm.not (.lt (.lit (.int (n:Int))) (.len (.arg 0)))).holds [] {args:=[.list (ns.map .int)]}=true:=by
   have h4:=(holds_andW hc).1
   rw[hn] at h4
   exact h4
  have h5:=condW_of h4 (w_not (w_lt w_lit (w_len_list (w_arg rfl))))
  rw[Nh] at h5
  refine Nat.le_of_not_lt fun q=>?_
  have q':(n:Int)<((ns.length:Nat):Int):=by omega
  first
   |(rw[decide_eq_true q'] at h5;exact absurd h5 (by decide))
   |(simp at h5;omega)
 cases hwl with
 |cons w1 w2=>
  cases w2
  cases w1 with
  |list ho hall=>exact⟨_,_,ns,rfl,rfl,ho,keW ns _ hall,hlen⟩
theorem kjj(l:OpenLaw)(args:List WData):l.row.toRowW.claim.post args (.bool true) args=true:=
 postW_of (r:=l.row.toRowW) (X:=(true==true))
  (show WShape.has [] (.bool true) .bool=true by first|rfl|decide|simp[WShape.has,WShape.arms,WShape.armsAll])
  (show(WTm.eq .res (.lit (.bool true))).value [] {args:=args,res:=some (.bool true),after:=args}=some (.bool (true==true)) from w_eq_bool (w_res rfl) w_lit) rfl
theorem attach_call{l:OpenLaw}{n:Nat}{q:Program}{loose:List Str}{XP:(Str→Option Value)→Heap→Prop}{YP:World→Heap→Prop}{d:DefRec}
  (hn:l.most=some n) (hdf:d.params.defaults=[])
  (call:∀(w:World) (s₀ s₁:Shared) (mg mb:Str→Option Value) (fa:Addr) (o:Obj) (pm cd doc:Value) (a:Addr) (vs:List Value) (ns:List Int),
   Ground q loose [] XP w s₀ mg mb s₁.heap→YP w s₁.heap→
   s₁.heap.get? fa=some o→o.data=.func (docDef d.name d.params d.body d.scope pm cd doc)→s₁.heap.CodeRec cd d.name→mg d.name=some (.ref fa)→
   s₁.heap.get? a=some {cls:=.type "list",data:=.seq vs.toArray}→IntsAre vs ns→ns.length≤n→s₁.gens= #[]→
   codeAny (model l.prog w) callerA (.call (.ref fa) ⟨[.ref a],[]⟩) (fun r s'=>r=.ok (.ret (.bool true))∧OldK s₁.heap s'.heap∧s'.os=s₁.os∧AllBare s'.gens) s₁):
  WalkO q loose XP YP l.row.toRowW d [] (fun f vs=>PySem.call f vs):=by
 intro w s₀ s₁ mg mb G Y fa o pm cd doc dV kV ho hd hcd hD hmg hg args vals as hpre hlay hrd hwl hlo
 obtain rfl:dV=.none:=Dflts.none hD hdf
 obtain rfl:kV=.none:=Dflts.noKw hD
 obtain⟨a,vs,ns,rfl,rfl,hobj,hints,hlen⟩:=ki5 hn hpre hwl
 refine enter_call (codeAny_mono (call w s₀ s₁ mg mb fa o pm cd doc a vs ns G Y ho (fd_plain hd) hcd hmg hobj hints hlen hg) fun r s' hq=>?_)
 obtain⟨rfl,h2,h3,h4⟩:=hq
 exact⟨.inl ⟨.bool true, .bool true,[],rfl,fun _=>rfl, .bool true,kjj l _,fun _=>⟨MT.nil,fun _ hm=>(nomatch hm)⟩⟩,h2,h3,h4⟩
section
variable {prog:Program} {w:World} {A:Around} {E:Value→Shared→Prop} {s:Shared} {K:Frag}
end
end Att
namespace L2
open PySem PySem.Spec PyProof.Rows
theorem kgb:∀{vs:List Value} {ns:List Int},IntsAre vs ns→Vals (ns.map V.int) vs
 |_,_, .nil=>.nil
 |_,_, .cons n t h=>.cons ⟨t,rfl⟩ (kgb h)
end L2
namespace L2
open PySem PySem.Spec PyProof.Rows
end L2
namespace L2
open PySem PySem.Spec PyProof.Rows
noncomputable def inClass(s:Stmt)(j:Nat):Stmt:=match s with
 | .ClassDef _ _ _ body _ _ _ _ _ _ _=>body.getD j (.Pass ⟨0,0,0,0⟩)
 |_=>.Pass ⟨0,0,0,0⟩
noncomputable def kaE(s:Stmt):Arguments:=match s with
 | .FunctionDef _ a _ _ _ _ _ _ _ _=>a
 |_=>{posonlyargs:=[],args:=[],vararg:=none,kwonlyargs:=[],kw_defaults:=[],kwarg:=none,defaults:=[]}
noncomputable def kaC(s:Stmt):List Stmt:=match s with
 | .FunctionDef _ _ b _ _ _ _ _ _ _=>b
 |_=>[]
noncomputable def kah(s:Stmt):Scope:=match s with
 | .FunctionDef _ _ _ _ _ _ sc _ _ _=>sc
 |_=>{kind:=.function,names:=[],isGenerator:=false,isCoroutine:=false}
noncomputable abbrev CX0:CXT:=fun _ _ _ _ _ _=>False
noncomputable abbrev E0:XK:=fun _ _ _=>False
theorem pass0{X:Cx}:kdJ CX0 X E0:=fun _ _ _ _ _ _ _ h=>h.elim
structure Fun (K:Ni) (x qual:Str) (st:Stmt) (f:Addr) (fd:FuncData):Prop where
 ex:∃(oc:Value) (od:Option Addr) (kV doc pm:Value) (an:Option Addr) (cdv ct:Value) (osl:Array (Option Value)),
  fd=NA x qual (kaE st) (kaC st) (kah st) .none kV doc pm an cdv ct∧K.lookup f=some ⟨oc,od, .func fd,osl⟩∧NZ K cdv qual=true
 kp:NB K (.ref f)=true
section
variable {P:Program} {w:World} {K:Ni} {mg:Str→Option Value} {base:Heap}
theorem Fun.ok{x qual:Str}{st:Stmt}{f:Addr}{fd:FuncData}{N ps:List Str}{k:Nat}{sp:Sp}(F:Fun K x qual st f fd)(S:kap N ps (kah st))(len:∀vs H Q E,sp vs H Q E→vs.length=ps.length)
  (hbody:∀(cdv:Value) (A:Around) (outer:List Env) (s:Shared) (H:Hp) (vs:List V) (Q:VK) (E:XK),Room k (A.deeper (envOfC qual (kah st) s.heap.objs.size f cdv))→sp vs H Q E→
   ∃t,PSs (cxOf CX0 P w K mg base N qual (kah st) f cdv A outer s H E).nox (kaC st) t∧t {nx:=fun _ H'=>Q .non H',rt:=Q} (start N vs) H):FnOk P w K mg base CX0 (k+1) f fd ps sp:=by
 obtain⟨oc,od,kV,doc,pm,an,cdv,ct,osl,rfl,lk,hcd⟩:=F.ex
 refine fn_of lk hcd S len fun A outer s H vs Q E hr hsp=>?_
 obtain⟨t,h,q⟩:=hbody cdv A outer s H vs Q E hr hsp
 exact⟨t,h.nox,q⟩
theorem Fun.binds{x qual:Str}{st:Stmt}{f:Addr}{fd:FuncData}{ps:List Str}(F:Fun K x qual st f fd)
  (h:∀(kV doc pm:Value) (an:Option Addr) (cdv ct:Value) (us:List Value),us.length=ps.length→bindArgs (NA x qual (kaE st) (kaC st) (kah st) .none kV doc pm an cdv ct) ⟨us,[]⟩=pure (ps.zip us)):Binds K fd ps []:=by
 obtain⟨oc,od,kV,doc,pm,an,cdv,ct,osl,rfl,lk,hcd⟩:=F.ex
 exact .all (h kV doc pm an cdv ct)
end
theorem kao{n:Nat}(h:n≤1000):n<sizeLine:=Mt h (by decide)
section
variable {X:Cx}
theorem pv(i:Nat){x:Str}{pos:Pos}(hN:X.N[i]?=some x:=by rfl)(hv:Vis X.env.scope x:=by first|exact Or.inl rfl|exact Or.inr (Or.inl rfl)|exact Or.inr (Or.inr rfl))(hd:(x==("__debug__" :Str))=false:=by decide)
  (hcd:(x==("__classdict__" :Str))=false:=by decide):PE X (.Name x pos) (tVar i):=kmg hN hv hd hcd
end
theorem iteF{A B:Prop}(h:B):if false=true then A else B:=by
 rw[if_neg Nu]
 exact h
theorem iteT{A B:Prop}(h:A):if true=true then A else B:=by
 rw[if_pos rfl]
 exact h
theorem ite2{c A B:Prop} [Decidable c] (h1:c→A) (h2:¬c→B):if c then A else B:=by
 by_cases h:c
 ·rw[if_pos h]
  exact h1 h
 ·rw[if_neg h]
  exact h2 h
end L2
set_option maxHeartbeats 4000000
namespace L3
end L3
namespace L2
open PySem PySem.Spec PyProof.Rows
section
variable {X:Cx}
theorem log2_small{n:Nat}(h:n<2 ^ 200):n.log2<9000:=by
 by_cases h0:n=0
 ·subst h0
  decide
 ·have h1:n.log2<200:=(Nat.log2_lt h0).mpr h
  omega
noncomputable def CDivB(_ j:Int):Prop:=0<j∧j<2 ^ 199
theorem kkr:OpR X (binaryOp .FloorDiv) (rI CDivB fun i j=>.int (i/j)):=opI fun i j _ _ _ _ _ hc q=>by
 have h1:(0:Int)<j:=hc.1
 have h2:j<2 ^ 199:=hc.2
 have h3:j.natAbs<2 ^ 200:=by omega
 exact floordiv_int (by omega) (by rw[Int.fdiv_eq_ediv_of_nonneg i (by omega)];exact q) (.inl (PyProof.noPylong_of_log2 (log2_small h3)))
theorem kbz(hc:X.calm=true):CallR X (.builtin "sum") (fun xs H Q=>∃(p:Addr) (ns:List Int),xs=[.ref p]∧SqL X.K H p (ns.map V.int)∧Q (.int ns.sum) H):=by
 intro pins s σ H xs us Q I r h
 obtain⟨p,ns,rfl,hq,q⟩:=h
 obtain⟨u,rfl,rx⟩:=vals1 r
 cases rx
 obtain⟨its,r',pl,hz⟩:=I.list hq
 have hi:IntsAre its ns:=intsAre_of r'
 have ha:=hi.allInts
 obtain⟨zs,hx⟩:=ha.items
 have hl:=pl.isList
 rw[hx] at hl
 refine sum_intListG (I.ok.hd hc) hl fun h' tk t' hk=>⟨.int ns.sum,H,I.kept hk,⟨t',?_⟩,q⟩
 have e2:preSum (numAt zs) zs.size=(numsOf (intItems zs).toList).sum:=by
  rw[nums_intItems,preSum_eq,Mf (by simp)]
 have e3:numsOf its.toArray.toList=ns:=hi.numsOf
 rw[e2,←hx,e3]
noncomputable def eqVs:List V→List V→Bool
 |[],[]=>true
 |x::xs,y::ys=>eqV x y&&eqVs xs ys
 |_,_=>false
theorem kf4:∀{xs ys:List V},xs.length≠ys.length→eqVs xs ys=false
 |[],[],h=>absurd rfl h
 |[],_::_,_=>rfl
 |_::_,[],_=>rfl
 |x::xs,y::ys,h=>by
  show(eqV x y&&eqVs xs ys)=false
  rw[kf4 (fun e=>h (by simp[e])),Bool.and_false]
theorem kdR:∀(xs ys:List V),xs.length=ys.length→(Nq xs.length).all (fun j=>eqV (xs.getD j .non) (ys.getD j .non))=eqVs xs ys
 |[],[],_=>rfl
 |[],_::_,h=>by simp at h
 |_::_,[],h=>by simp at h
 |x::xs,y::ys,h=>by
  have ih:=kdR xs ys (by simpa using h)
  show(Nq (xs.length+1)).all _=(eqV x y&&eqVs xs ys)
  rw[List.range_succ_eq_map,Ek,List.all_map]
  show(eqV x y&&_)=_
  rw[←ih]
  rfl
theorem kh8:∀{x:V},flatV x=true→eqV x x=true
 | .non,_=>rfl
 | .bl b,_=>by simp[eqV]
 | .int i,_=>by simp[eqV]
 | .str z,_=>by simp[eqV]
theorem kdG:∀{xs:List V},xs.all flatV=true→eqVs xs xs=true
 |[],_=>rfl
 |x::xs,h=>by
  rw[Ek,MF] at h
  show(eqV x x&&eqVs xs xs)=true
  rw[kh8 h.1,kdG h.2]
  rfl
theorem kby(ns:List Int):(ns.map V.int).all flatV=true:=by
 rw[M6]
 intro x hx
 obtain⟨n,_,rfl⟩:=NJ.mp hx
 rfl
noncomputable def rEqL(K:Ni)(neg:Bool):R2:=fun x y H Q=>∃a b xs ys,x=.ref a∧y=.ref b∧SqL K H a xs∧SqL K H b ys∧xs.all flatV=true∧ys.all flatV=true∧Q (.bl (if neg then !eqVs xs ys else eqVs xs ys)) H
theorem kjS{xs:List V}(h:xs.all flatV=true){j:Nat}(hj:j<xs.length):flatV xs[j]=true:=by
 rw[M6] at h
 exact h _ (List.getElem_mem hj)
theorem kjW{A:Around}{s:Shared}{xs ys:List V}{us ws:List Value}(r:Vals xs us)(q:Vals ys ws)(fx:xs.all flatV=true)(fy:ys.all flatV=true):
  ∀j (h1:j<us.toArray.size) (h2:j<ws.toArray.size),SeqAt.EqAt A s us.toArray[j] ws.toArray[j] (eqV (xs.getD j .non) (ys.getD j .non)):=by
 intro j h1 h2
 have l1:=r.length
 have l2:=q.length
 have h1':j<us.length:=by simpa using h1
 have h2':j<ws.length:=by simpa using h2
 have k1:j<xs.length:=by omega
 have k2:j<ys.length:=by omega
 obtain⟨u,e1,r1⟩:=r.get (i:=j) (x:=xs[j]) (by simp[k1])
 obtain⟨w,e2,r2⟩:=q.get (i:=j) (x:=ys[j]) (by simp[k2])
 have g1:us.toArray[j]=u:=by
  have:=Nz.mp e1
  obtain⟨_,e⟩:=this
  simpa using e
 have g2:ws.toArray[j]=w:=by
  have:=Nz.mp e2
  obtain⟨_,e⟩:=this
  simpa using e
 have d1:xs.getD j .non=xs[j]:=by simp[k1]
 have d2:ys.getD j .non=ys[j]:=by simp[k2]
 rw[g1,g2,d1,d2]
 exact klm r1 r2 (kjS fx k1) (kjS fy k2)
theorem klb(hu:X.A.units<cLine):OpR X (compareOp .Eq) (rEqL X.K false):=by
 intro pins s σ H x y v u Q I rx ry h
 obtain⟨a,b,xs,ys,rfl,rfl,hx,hy,fx,fy,q⟩:=h
 cases rx
 cases ry
 obtain⟨us,r1,p1,z1⟩:=I.list hx
 obtain⟨ws,r2,p2,z2⟩:=I.list hy
 have l1:=r1.length
 have l2:=r2.length
 by_cases hl:xs.length=ys.length
 ·refine SeqAt.eq_listAt p1.isList p2.isList (by simp;omega) hu (kjW r1 r2 fx fy) ⟨.bl (eqVs xs ys),H,I,?_,q⟩
  have e:us.toArray.size=xs.length:=by simp[l1]
  rw[e,kdR xs ys hl]
  rfl
 ·refine SeqAt.eq_list_lengthsAt p1.isList p2.isList (by simp;omega) hu ⟨.bl (eqVs xs ys),H,I,?_,q⟩
  rw[kf4 hl]
  rfl
theorem kmk(hu:X.A.units<cLine):OpR X (compareOp .NotEq) (rEqL X.K true):=by
 intro pins s σ H x y v u Q I rx ry h
 obtain⟨a,b,xs,ys,rfl,rfl,hx,hy,fx,fy,q⟩:=h
 cases rx
 cases ry
 obtain⟨us,r1,p1,z1⟩:=I.list hx
 obtain⟨ws,r2,p2,z2⟩:=I.list hy
 have l1:=r1.length
 have l2:=r2.length
 show wpAny _ _ (richCompare .NotEq (.ref a) (.ref b)) _ _ s
 by_cases hl:xs.length=ys.length
 ·refine SeqAt.RcNeAt.lists p1.isList p2.isList (by simp;omega) hu (kjW r1 r2 fx fy) _ _ _ _ ⟨.bl (!eqVs xs ys),H,I,?_,q⟩
  have e:us.toArray.size=xs.length:=by simp[l1]
  rw[e,kdR xs ys hl]
  rfl
 ·refine SeqAt.RcNeAt.lists_lengths p1.isList p2.isList (by simp;omega) hu _ _ _ _ ⟨.bl (!eqVs xs ys),H,I,?_,q⟩
  rw[kf4 hl]
  rfl
noncomputable def cV:V→Value
 | .ty n=>.type n
 | .ref a=>.ref a
 |_=>.none
theorem kb7:CallR X (.builtin "isinstance") (fun xs H Q=>∃x c t b,xs=[x,c]∧((∃n,c=.ty n)∨∃a,c=.ref a)∧TyOf X.K H x t∧NG X.K t (cV c)=some b∧Q (.bl b) H):=by
 intro pins s σ H xs us Q I r h
 obtain⟨x,c,t,b,rfl,hc,ty,e,q⟩:=h
 obtain⟨u,w',rfl,r1,r2⟩:=vals2 r
 have ew:w'=cV c:=by
  rcases hc with⟨n,rfl⟩|⟨a,rfl⟩
  ·exact r2
  ·exact r2
 subst ew
 exact kjH I r1 ty e fun tk=>⟨.bl b,H,I.tok tk,rfl,q⟩
theorem b_isi:bootBuiltins "isinstance"=some (.builtin "isinstance"):=by decide +kernel
theorem b_int:bootBuiltins "int"=some (.type "int"):=by decide +kernel
theorem kcf:bootBuiltins "list"=some (.type "list"):=by decide +kernel
theorem b_sum:bootBuiltins "sum"=some (.builtin "sum"):=by decide +kernel
theorem b_min:bootBuiltins "min"=some (.builtin "min"):=by decide +kernel
theorem b_max:bootBuiltins "max"=some (.builtin "max"):=by decide +kernel
theorem b_len:bootBuiltins "len"=some (.builtin "len"):=by decide +kernel
theorem kdE(K:Ni)(t:Value):NG K t t=some true:=by
 unfold NG
 rw[if_pos (by simp)]
noncomputable def tCut(t:TS):TS:=fun D σ H=>∃P:St→Hp→Prop,t {D with nx:=P} σ H∧∀σ' H',P σ' H'→D.nx σ' H'
theorem kdc{st:Stmt}{t:TS}(h:PS X st t):PS X st (tCut t):=by
 intro pins s σ H D I hw
 obtain⟨P,h1,h2⟩:=hw
 refine thn (h pins s σ H {D with nx:=P} I h1) fun f s' q=>?_
 cases f with
 |next=>
  obtain⟨σ',H',I',q'⟩:=q
  exact⟨σ',H',I',h2 σ' H' q'⟩
 |brk=>exact q
 |cont=>exact q
 |ret u=>exact q
noncomputable def tCutE(t:TE):TE:=fun σ H Q=>∃P:V→Hp→Prop,t σ H P∧∀v H',P v H'→Q v H'
theorem kmi{e:Expr}{t:TE}(h:PE X e t):PE X e (tCutE t):=by
 intro pins s σ H Q I hw
 obtain⟨P,h1,h2⟩:=hw
 exact thn (h pins s σ H P I h1) fun u s' ⟨v,H',I',r,q⟩=>⟨v,H',I',r,h2 v H' q⟩
noncomputable def Its(lo st:Int)(n:Nat):It:=⟨fun i _=>i<n,fun i H x H'=>H'=H∧x=.int (lo+i*st),fun i _=>n≤i⟩
theorem kiC{P:Program}{w:World}{K:Ni}{tg:Expr}(it:Addr)(lo st:Int)(n:Nat):Turn P w K tg (Its lo st n) [it] it (fun i h=>IsRangeIter h it (lo+(i:Nat)*st) ((n:Int)-(i:Nat)) st) where
 mem:=by simp
 obj:=fun i h st b hb=>by
  have e:b=it:=by simpa using hb
  subst e
  exact⟨_,st,fun v z=>by
   have z':Data.fields _=Data.cell v:=z
   cases z'⟩
 keep:=fun i h h' st k=>k it (by simp) _ st
 item:=by
  intro X hP hw hK hc i pins s σ H E I hf st' hg
  subst hP hw hK
  obtain⟨f0,f1,f2,f3,f4,f5⟩:=hf it (by simp)
  have W:=Walks.range (prog:=X.prog) (w:=X.w) (I.ok.hd hc) it lo st n
  refine W.item i s _ _ hg st' fun v h' tk hv st'' kk=>?_
  obtain⟨t,rfl⟩:=hv
  have I1:Inv X pins σ H {s with heap:=h',toks:=tk}:=I.turned (fun b o hb e=>kk b o (by simpa using hb) e) f0 f1 f3 f4 f5
  exact⟨_,rfl,go_of (s:={s with heap:=h',toks:=tk}) (n:="range_iterator") st'' rfl rfl (by decide) ⟨.int (lo+i*st),H,I1,⟨t,rfl⟩,⟨rfl,rfl⟩,st'',fun b hb=>(hf b hb).1⟩⟩
 done:=by
  intro X hP hw hK hc i pins s σ H E I hf st hg
  subst hP hw hK
  obtain⟨f0,f1,f2,f3,f4,f5⟩:=hf it (by simp)
  exact wpAny_pyNext_range_end (I.ok.hd hc) st (by have:n≤i:=hg;omega) fun h' eb=>⟨rfl,I.turned (t':=s.toks) (fun b o hb e=>eb b o hb e) f0 f1 f3 f4 f5⟩
 self:=fun _ _ _ _ _ st h=>wpAny_pyIter_rangeiter st h
theorem kgm{a b c:Int}(hc:0<c)(ha: -(2 ^ 31)≤a∧a<2 ^ 31)(hb: -(2 ^ 31)≤b∧b<2 ^ 31):0≤Builtin.Range.rangeSize a b c∧Builtin.Range.rangeSize a b c<2 ^ 33:=by
 unfold Builtin.Range.rangeSize
 rw[if_pos hc]
 split
 ·have h1:0≤(b-a-1)/c:=Int.ediv_nonneg (by omega) (by omega)
  have h2:(b-a-1)/c≤b-a-1:=Int.ediv_le_self _ (by omega)
  omega
 ·omega
theorem kig{a b c:Int}(hc:0<c)(hc2:c<2 ^ 30)(ha: -(2 ^ 31)≤a∧a<2 ^ 31)(hb: -(2 ^ 31)≤b∧b<2 ^ 31):Builtin.Range.small a b c=true:=by
 have h:=kgm hc ha hb
 unfold Builtin.Range.small
 generalize Builtin.Range.rangeSize a b c=n at h
 simp only[Builtin.Range.rangeFitsLong,MF,EO,decide_eq_true_eq,beq_iff_eq,show c > 0 from hc,if_true]
 omega
end
theorem kj1(xs:List V)(k:Nat):cutV xs none (some (k:Int))=xs.take k:=by
 unfold cutV
 rw[HT.sIx_none,HT.sIx_nat,MU,Nat.sub_zero,Dc]
 omega
theorem kkO(xs:List V)(k:Nat):cutV xs (some (k:Int)) none=xs.drop k:=by
 unfold cutV
 rw[HT.sIx_none,HT.sIx_nat]
 by_cases h:k≤xs.length
 ·rw[MG h,Mf (by simp)]
 ·rw[Nat.min_eq_right (by omega),Em (Nj _),Em (by omega)]
  simp
end L2
namespace L2
open PySem PySem.Spec PyProof.Rows
theorem Inv.adopt{X:Cx}{pins:List (Addr×Obj)}{σ:St}{H:Hp}{s:Shared}{a:Addr}{o:HO}(I:Inv X pins σ H s)(f:FpOk X pins H a)(h0:X.s₀.heap.objs.size≤a)(new:ObjOk X.prog X.w (upd H a o) s.heap a o):Inv X pins σ (upd H a o) s:=by
 obtain⟨hn,hL,_,_,hC,hp⟩:=f
 have nt:∀b u,H b=some u→b≠a:=fun b u e=>kaj e hn
 refine⟨I.ok,I.os,I.bare,⟨I.base.keep,I.base.slot,fun b ob e n hx=>?_,I.base.there,fun b xs e=>?_,fun b ob u e=>?_,fun b ps e=>?_⟩,I.loc,I.cell,?_,fun x c e=>?_,fun p hp'=>?_,fun b u e=>?_,I.len⟩
 ·rw[kam (NP (NN (Heap.lt_size e) h0))]
  exact I.base.free b ob e n hx
 ·have q:=I.base.tups b xs e
  rw[kam (nt _ _ q)]
  exact q
 ·have q:=I.base.frzs b ob u e
  rw[kam (nt _ _ q)]
  exact q
 ·obtain⟨m,q⟩:=I.base.tbls b ps e
  exact⟨m,by rw[kam (nt _ _ q)];exact q⟩
 ·rw[kam (Ne.symm hL)]
  exact I.free
 ·rw[kam (hC x c e)]
  exact I.freeC x c e
 ·obtain⟨e,n,r⟩:=I.pin p hp'
  exact⟨e,by rw[kam (hp p hp')];exact n,r⟩
 ·by_cases hb:b=a
  ·subst hb
   rw[kad] at e
   cases e
   exact new
  ·rw[kam hb] at e
   exact(I.hok b u e).stay (fun c v _ q=>q) (fun c q=>by rw[kam (nt _ _ q)];exact q) fun c xs q=>by rw[kam (nt _ _ q)];exact q
noncomputable def capσ(cap:List (Option Nat))(σ:St):St:=cap.map fun o=>match o with
 |some i=>(σ[i]?).getD none
 |none=>none
noncomputable def closL(cells:List (Str×Addr))(names:List (Str×NameKind)):List (Str×Addr)→List (Str×Addr):=fun acc=>names.foldl (fun acc p=>if p.2== .free then(p.1,(cells.lookup p.1).getD 0)::acc else acc) acc
theorem keX{α β:Type}{f: α→β→Sem (ForInStep β)}{g: β→α→β}:∀(l:List α) (b: β),(∀x∈l,∀b,f x b=pure (.yield (g b x)))→forIn l b f=pure (l.foldl g b)
 |[],b,_=>by rw[List.forIn_nil];rfl
 |x::l,b,h=>by
  rw[List.forIn_cons,h x NL]
  show forIn l (g b x) f=_
  rw[keX l (g b x) fun y hy=>h y (NF _ hy)]
  rfl
theorem kf7{scope:Scope}{env:Env}(h:∀x∈scope.names,x.2=.free→∃c,env.cells.lookup x.1=some c):closureFor scope env=pure (closL env.cells scope.names []):=by
 unfold closureFor
 dsimp only
 rw[keX (g:=fun acc p=>if p.2== .free then(p.1,(env.cells.lookup p.1).getD 0)::acc else acc) scope.names [] fun x hx b=>?_]
 ·rfl
 ·obtain⟨n,k⟩:=x
  by_cases hk:k=.free
  ·subst hk
   obtain⟨c,ec⟩:=h _ hx rfl
   have ec':env.cells.lookup n=some c:=ec
   have e1:cellOf env n=pure c:=by unfold cellOf;rw[ec']
   simp only[beq_self_eq_true,if_true,e1,ec',Option.getD_some]
   rfl
  ·have:(k==NameKind.free)=false:=by simpa using hk
   simp only[this,Md,if_false]
theorem kfo(cells:List (Str×Addr))(p:Str×NameKind)(r:List (Str×NameKind))(acc:List (Str×Addr)):closL cells (p::r) acc=closL cells r (if p.2== .free then(p.1,(cells.lookup p.1).getD 0)::acc else acc):=rfl
theorem kes{cells:List (Str×Addr)}{x:Str}{c:Addr}:∀(names:List (Str×NameKind)) (acc:List (Str×Addr)),(closL cells names acc).lookup x=some c→(((x,NameKind.free)∈names∧c=(cells.lookup x).getD 0)∨acc.lookup x=some c)
 |[],acc,h=>.inr h
 | (n,k)::r,acc,h=>by
  rw[kfo] at h
  rcases kes r _ h with⟨h1,h2⟩|h1
  ·exact .inl ⟨NF _ h1,h2⟩
  ·by_cases hk:k=.free
   ·subst hk
    simp only[beq_self_eq_true,if_true] at h1
    rw[N5] at h1
    by_cases hx:x=n
    ·subst hx
     simp only[beq_self_eq_true] at h1
     exact .inl ⟨NL,(Option.some.inj h1).symm⟩
    ·have hb:(x==n)=false:=beq_eq_false_iff_ne.mpr hx
     rw[hb] at h1
     exact .inr h1
   ·have:(k==NameKind.free)=false:=by simpa using hk
    simp only[this,Md,if_false] at h1
    exact .inr h1
theorem kc4{cells:List (Str×Addr)}{x:Str}:∀(names:List (Str×NameKind)) (acc:List (Str×Addr)),((x,NameKind.free)∈names∨∃c,acc.lookup x=some c)→∃c,(closL cells names acc).lookup x=some c
 |[],acc,h=>by
  rcases h with h|h
  ·cases h
  ·exact h
 | (n,k)::r,acc,h=>by
  rw[kfo]
  refine kc4 r _ ?_
  by_cases hm:(x,NameKind.free)∈r
  ·exact .inl hm
  ·refine .inr ?_
   rcases h with h|⟨c,h⟩
   ·rcases NI.mp h with e|h
    ·cases e
     simp[N5]
    ·exact absurd h hm
   ·split
    ·rw[N5]
     by_cases hx:x=n
     ·subst hx
      simp
     ·have hb:(x==n)=false:=beq_eq_false_iff_ne.mpr hx
      rw[hb]
      exact⟨c,h⟩
    ·exact⟨c,h⟩
theorem kcA:∀(names:List (Str×NameKind)) (n:Nat) (acc acc':List (Str×Addr)),cellsFrom n names (acc++acc')=cellsFrom n names acc++acc'
 |[],_,_,_=>rfl
 |(m,k)::r,n,acc,acc'=>by
  unfold cellsFrom
  split
  ·exact kcA r (n+1) ((m,n)::acc) acc'
  ·exact kcA r n acc acc'
theorem kb6(names:List (Str×NameKind))(n:Nat)(acc:List (Str×Addr))(x:Str):(cellsFrom n names acc).lookup x=((cellsFrom n names []).lookup x).or (acc.lookup x):=by
 rw[←List.lookup_append,←kcA,M5]
theorem kcz{x:Str}:∀(names:List (Str×NameKind)) (n:Nat) (acc:List (Str×Addr)),(x,NameKind.cell)∉names→(cellsFrom n names acc).lookup x=acc.lookup x
 |[],_,_,_=>rfl
 | (m,k)::r,n,acc,h=>by
  unfold cellsFrom
  by_cases hk:k=.cell
  ·subst hk
   simp only[beq_self_eq_true,if_true]
   rw[kcz r _ _ fun z=>h (NF _ z),N5]
   have hx:x≠m:=fun e=>h (by rw[e];exact NL)
   have hb:(x==m)=false:=beq_eq_false_iff_ne.mpr hx
   rw[hb]
  ·have:(k==NameKind.cell)=false:=by simpa using hk
   simp only[this,Md,if_false]
   exact kcz r _ _ fun z=>h (NF _ z)
noncomputable def relN(names ns:List (Str×NameKind)):List (Str×NameKind):=names.map fun(n,k)=>if(k== .free&&ns.lookup n==some .cell) then(n, .cell) else(n,k)
theorem kdx{scope:Scope}{env:Env}(hk:env.scope.kind=.function):(relabel scope env).names=relN scope.names env.scope.names:=by
 unfold relabel relN
 have e:(ScopeKind.function==ScopeKind.function)=true:=by decide
 simp only[hk,e,Bool.and_true]
 rfl
theorem kdn{ns:List (Str×NameKind)}{x:Str}:∀(names:List (Str×NameKind)),(relN names ns).lookup x=(names.lookup x).map fun k=>if(k== .free&&ns.lookup x==some .cell) then .cell else k
 |[]=>rfl
 | (n,k)::r=>by
  have ih:=kdn (ns:=ns) (x:=x) r
  show Mh x ((if(k== .free&&ns.lookup n==some .cell)=true then(n,NameKind.cell) else(n,k))::relN r ns)=_
  by_cases hx:x=n
  ·subst hx
   by_cases hc:(k== .free&&ns.lookup x==some .cell)=true
   ·rw[if_pos hc]
    simp only[N5,beq_self_eq_true,En]
    rw[if_pos hc]
   ·rw[if_neg hc]
    simp only[N5,beq_self_eq_true,En]
    rw[if_neg hc]
  ·have hb:(x==n)=false:=beq_eq_false_iff_ne.mpr hx
   by_cases hc:(k== .free&&ns.lookup n==some .cell)=true
   ·rw[if_pos hc]
    simp only[N5,hb]
    exact ih
   ·rw[if_neg hc]
    simp only[N5,hb]
    exact ih
theorem klH{names ns:List (Str×NameKind)}{x:Str}(h:(relN names ns).lookup x=some .cell∨(relN names ns).lookup x=some .free):names.lookup x=some .cell∨names.lookup x=some .free:=by
 rw[kdn] at h
 cases e:names.lookup x with
 |none=>rw[e] at h;simp at h
 |some k=>
  rw[e] at h
  cases k <;> simp_all
theorem kjb{names ns:List (Str×NameKind)}{x:Str}(h:names.lookup x=some .free):(relN names ns).lookup x=some .cell∨(relN names ns).lookup x=some .free:=by
 rw[kdn,h]
 by_cases hc:ns.lookup x==some .cell
 ·left;simp[hc]
 ·right;simp[hc]
structure CompScope (X:Cx) (scope:Scope) (N:List Str) (cap:List (Option Nat)):Prop where
 kind:scope.kind=.function
 names:∀x∈scope.names,x.2=.local→scope.names.lookup x.1=some .local
 free:∀x∈scope.names,x.2=.free→X.env.scope.names.lookup x.1=some .cell∨X.env.scope.names.lookup x.1=some .free
 nd:N.Nodup
 len:cap.length=N.length
 cap:∀(j i:Nat) (x:Str),cap[j]?=some (some i)→N[j]?=some x→X.N[i]?=some x∧scope.names.lookup x=some .free∧(x,NameKind.cell)∉scope.names
noncomputable def kec(X:Cx)(scope:Scope)(C:Addr):List (Str×Addr):=cellsFrom (C+1) scope.names (closL X.env.cells scope.names [])
noncomputable def cxC(X:Cx)(scope:Scope)(N:List Str)(fp:List Addr)(s:Shared)(H:Hp)(C:Addr):Cx:=
 {X with N:=N,s₀:=s,H₀:=H,env:=compEnvC scope (kec X scope C) C X.env,outer:=X.stack,ex:=fp,fn:=fun x=>scope.names.lookup x==some .cell,pn:=[],xe:=fun _ _=>False}
theorem kfW{M:Model}{A:Around}{E:Value→Shared→Prop}{s:Shared}{scope:Scope}{globals:Addr}{cl:List (Str×Addr)}{qual:Str}{func:Option Addr}{code:Value}{outer:Env}{builtins:Addr}{Q:Env→Shared→Prop}
  (hQ:Q (newEnv scope s.heap.objs.size globals (cellsFrom (s.heap.objs.size+1) scope.names cl) qual func code (some outer) builtins) {s with heap:=pushCells (s.heap.push {cls:=.type "dict",data:=.dict #[]}) scope.names}):
  wpAny M A (newFunctionEnv scope globals cl [] qual func code (some outer) builtins) Q E s:=by
 simp only[newFunctionEnv,Option.isSome_some,if_true]
 refine wpAny_bind (wpAny_alloc ?_)
 refine wpAny_bind (wpAny_layCells _ (fun name kind cells=>by cases hkc:kind==NameKind.cell <;> simp[hkc]) _ _ _ _ ?_)
 rw[show({s with heap:=s.heap.push {cls:=.type "dict",data:=.dict #[]}}:Shared).heap.objs.size=s.heap.objs.size+1 from Heap.size_push ..]
 exact wpAny_bind (wpAny_pure (wpAny_pure hQ))
section
variable {X:Cx} {scope:Scope} {N:List Str} {cap:List (Option Nat)} {pins:List (Addr×Obj)} {σ:St} {H:Hp} {s:Shared}
theorem kiJ(I:Inv X pins σ H s){b:Addr}(hb:b∈frs X.stack):b<s.heap.objs.size:=by
 obtain⟨_,o,ho,_⟩:=I.stack.mem hb
 exact Heap.lt_size ho
theorem kcq(S:CompScope X scope N cap)(I:Inv X pins σ H s):closureFor scope X.env=pure (closL X.env.cells scope.names []):=
 kf7 fun x hx hf=>I.ok.has x.1 (S.free x hx hf)
theorem kb8{C:Addr}{x:Str}{c:Addr}(S:CompScope X scope N cap)(I:Inv X pins σ H s)(h:(kec X scope C).lookup x=some c):(cellsFrom (C+1) scope.names []).lookup x=some c∨X.env.cells.lookup x=some c:=by
 unfold kec at h
 rw[kb6] at h
 cases e:(cellsFrom (C+1) scope.names []).lookup x with
 |some c'=>
  rw[e] at h
  exact .inl h
 | none=>
  rw[e] at h
  have h':(closL X.env.cells scope.names []).lookup x=some c:=h
  rcases kes _ _ h' with⟨h1,h2⟩|h1
  ·obtain⟨c',ec⟩:=I.ok.has x (S.free _ h1 rfl)
   rw[ec] at h2
   rw[h2]
   exact .inr ec
  ·cases h1
theorem kkC{fp:List Addr}{C D:Addr}{o:Obj}{s4:Shared}{m:Str→Option Value}(S:CompScope X scope N cap)(I:Inv X pins σ H s)(f:∀b∈fp,FpOk X pins H b)(hfp:∀b∈fp,b<s.heap.objs.size)
  (hk:∀b u,s.heap.get? b=some u→s4.heap.get? b=some u) (hns:s4.heap.Ns C m) (hC:s.heap.objs.size≤C) (hD:s.heap.objs.size≤D) (hDC:D≠C) (eD:s4.heap.get? D=some o) (hcell:∀v,o.data≠.cell v)
  (hnew:CellsOk s4.heap (C+1) (cellsFrom (C+1) scope.names [])) (hos:s4.os=s.os) (hg:s4.gens=s.gens):Inv (cxC X scope N fp s H C) [(D,o)] (capσ cap σ) H s4:=by
 have stkne:∀b∈fp,b∉frs X.stack:=fun b hb hz=>by
  obtain⟨_,h1,h2,_⟩:=f b hb
  rcases NI.mp (I.stkSub b hz) with e|e
  ·exact h1 e
  ·exact h2 e
 have nw:∀{x:Str} {c:Addr},(cellsFrom (C+1) scope.names []).lookup x=some c→s4.heap.IsCell c none∧Nat.lt C c:=fun {x c} h=>hnew.empty x c (PySem.mem_of_lookup h)
 have od:∀{x:Str} {c:Addr},X.env.cells.lookup x=some c→c<s.heap.objs.size:=fun {x c} h=>let⟨_,q⟩:=I.cell x c h;q.lt
 refine⟨⟨I.ok.mod,S.kind,I.ok.glob,I.ok.blt,hC,fun x y c h1 h2=>?_,fun x h=>?_,fun x c h1 h2=>?_,I.ok.hd,I.ok.frames, .inl rfl,fun b hb=>⟨?_,fun x c e=>?_⟩,I.bs,Nm I.ok.bsz I.sz,fun b ob e hb=>?_,stkne,I.stack,I.stkFree⟩,
  hos,by rw[hg];exact I.bare,Un.kept hk,⟨m,hns,fun j x v e1 e2 e3=>?_⟩,fun x c e=>?_,I.hok.fresh hC,fun x c e=>?_,fun p hp=>?_,I.hok.kept hk,?_⟩
 ·rcases kb8 S I h1 with q1|q1 <;> rcases kb8 S I h2 with q2|q2
  ·exact name_of_addr hnew.apart (PySem.mem_of_lookup q1) (PySem.mem_of_lookup q2)
  ·exact absurd (Mt hC (nw q1).2) (Nat.not_lt_of_lt (od q2))
  ·exact absurd (Mt hC (nw q2).2) (Nat.not_lt_of_lt (od q1))
  ·exact I.ok.inj x y c q1 q2
 ·have h':(relabel scope X.env).names.lookup x=some .cell∨(relabel scope X.env).names.lookup x=some .free:=h
  rw[kdx I.ok.kind] at h'
  show ∃c,(cellsFrom (C+1) scope.names (closL X.env.cells scope.names [])).lookup x=some c
  rw[kb6]
  rcases klH h' with q|q
  ·obtain⟨c,e⟩:=ket (n:=C+1) q
   exact⟨c,by rw[e];rfl⟩
  ·obtain⟨c,e⟩:=kc4 (cells:=X.env.cells) scope.names [] (.inl (PySem.mem_of_lookup q))
   cases e2:(cellsFrom (C+1) scope.names []).lookup x with
   |some c'=>exact⟨c',rfl⟩
   |none=>exact⟨c,e⟩
 ·have h1':(scope.names.lookup x==some .cell)=true:=h1
  have q:scope.names.lookup x=some .cell:=by simpa using h1'
  obtain⟨c',e⟩:=ket (n:=C+1) q
  have h2':(cellsFrom (C+1) scope.names (closL X.env.cells scope.names [])).lookup x=some c:=h2
  rw[kb6,e] at h2'
  have h3:c'=c:=Option.some.inj h2'
  rw[←h3]
  exact Nw (Mt hC (nw e).2)
 ·exact NP (NN (hfp b hb) hC)
 ·rcases kb8 S I e with q|q
  ·exact Mn (Nat.lt_trans (NN (hfp b hb) hC) (nw q).2)
  ·exact(f b hb).2.2.2.2.1 x c q
 ·obtain⟨_,_,_,h4,_⟩:=f b hb
  rcases h4 with h4|h4
  ·exact I.ok.noex b ob e h4
  ·exact absurd (NN (Heap.lt_size e) (Nm I.ok.bsz h4)) (Ms _)
 ·
  have e2':(cap.map fun o=>match o with|some i=>(σ[i]?).getD none|none=>none)[j]?=some (some v):=e2
  rw[Nv] at e2'
  cases ec:cap[j]? with
  |none=>rw[ec] at e2';cases e2'
  | some oi=>
   rw[ec] at e2'
   cases oi with
   |none=>cases e2'
   | some i=>
    have e4:(σ[i]?).getD none=some v:=Option.some.inj e2'
    have e5: σ[i]?=some (some v):=by
     cases q: σ[i]? with
     |none=>rw[q] at e4;cases e4
     |some w=>rw[q] at e4;exact congrArg some e4
    obtain⟨h1,hf,hnc⟩:=S.cap j i x ec e1
    have hm:=PySem.mem_of_lookup hf
    have h2:=S.free _ hm rfl
    obtain⟨mo,_,hl⟩:=I.loc
    obtain⟨u,ru,lk⟩:=hl i x v h1 e5 (.inr h2)
    have h3:(relabel scope X.env).names.lookup x=some .cell∨(relabel scope X.env).names.lookup x=some .free:=by
     rw[kdx I.ok.kind]
     exact kjb hf
    refine⟨u,ru, .inr ⟨h3,?_⟩⟩
    rcases lk with⟨k1,_⟩|⟨_,c,ec',z⟩
    ·have k1':X.env.scope.names.lookup x=some .local:=k1
     rcases h2 with h2|h2 <;> rw[h2] at k1' <;> cases k1'
    ·obtain⟨c',ec2⟩:=kc4 (cells:=X.env.cells) scope.names [] (.inl hm)
     have ec3:(kec X scope C).lookup x=some c':=by
      unfold kec
      rw[kcz _ _ _ hnc]
      exact ec2
     rcases kes _ _ ec2 with⟨_,q2⟩|q2
     ·rw[ec'] at q2
      have q3:c'=c:=q2
      subst q3
      obtain⟨oc,ho,hd⟩:=z
      exact⟨c',ec3,oc,hk _ _ ho,hd⟩
     ·cases q2
 ·rcases kb8 S I e with q|q
  ·exact⟨none,(nw q).1⟩
  ·obtain⟨v,oc,ho,hd⟩:=I.cell x c q
   exact⟨v,oc,hk _ _ ho,hd⟩
 ·rcases kb8 S I e with q|q
  ·exact I.hok.fresh (Nm hC (Nw (nw q).2))
  ·exact I.freeC x c q
 ·have e:p=(D,o):=by simpa[cxC] using hp
  subst e
  exact⟨eD,I.hok.fresh hD,hDC,fun hz=>absurd (kiJ I hz) (Nat.not_lt.mpr hD),hcell⟩
 ·show(cap.map _).length=N.length
  rw[Nh,S.len]
theorem comp_back{fp:List Addr}{C:Addr}{σ':St}{H':Hp}{s':Shared}(I:Inv X pins σ H s)(f:∀b∈fp,FpOk X pins H b)(J:Inv (cxC X scope N fp s H C) [] σ' H' s'):Inv X pins σ H' s':=
 I.call' (ch:=fp) J.os J.base J.hok J.bare fun b hb=>let⟨_,h1,_,h3,h4,h5⟩:=f b hb;⟨h3,h1,h4,h5⟩
end
noncomputable def PIf(X:Cx)(ifs:List Expr)(t:TT):Prop:=∀(pins:List (Addr×Obj)) (s:Shared) (σ:St) (H:Hp) (Q:Bool→Hp→Prop),Inv X pins σ H s→t σ H Q→
 wpAny (model X.prog X.w) X.A (forIn ifs true fun c r=>if r=true then do let ok ←isTrue c X.env (eval c X.env);pure (ForInStep.yield ok) else pure (ForInStep.yield r)) (TP X pins σ Q) X.xe s
noncomputable def tYes:TT:=fun _ H Q=>Q true H
theorem kjk{X:Cx}:PIf X [] tYes:=fun _ _ _ H _ I h=>wpAny_tests_nil ⟨H,I,h⟩
theorem kg7{X:Cx}{c:Expr}{t:TT}(h:PT X c t):PIf X [c] t:=fun pins s σ H Q I hw=>wpAny_tests_one (h pins s σ H Q I hw)
theorem kgJ{prog:Program}{w:World}{A:Around}{R:Result→Shared→Prop}{s:Shared}{elt target iter:Expr}{ifs:List Expr}{scope:Scope}{pos:Pos}{it acc:Value}{env:Env}(I:Nat→Shared→Prop)
  (turn:∀n s,I n s→wpAny (model prog w) A (pyNext it) (fun r s₁=>match r with
   |none=>R (.ok .next) s₁
   | some v=>wpAny (model prog w) A (letOwnedTupleGo target it v) (fun _ s₁'=>wpAny (model prog w) A (assign target env v) (fun _ s₂=>
     wpAny (model prog w) A (forIn ifs true fun c r=>if r=true then do let ok ←isTrue c env (eval c env);pure (ForInStep.yield ok) else pure (ForInStep.yield r)) (fun ok s₂'=>
      if ok=true then wpAny (model prog w) A (eval elt env) (fun x s₃=>
       wpAny (model prog w) A (call (.builtin "list.append") [acc,x]) (fun _ s₄=>∃m,m<n∧I m s₄) (fun _ _=>False) s₃) (fun _ _=>False) s₂'
      else ∃m,m<n∧I m s₂') (fun _ _=>False) s₂) (fun _ _=>False) s₁') (fun _ _=>False) s₁) (fun _ _=>False) s)
  (n:Nat) (h:I n s):codeAny (model prog w) A (.compLoop (.ListComp elt [⟨target,iter,ifs,0⟩] scope pos) 0 it acc env) R s:=by
 refine codeAny_loop rfl I (fun n s hI=>?_) n h
 show wpAny _ _ ((compTurn (.ListComp elt [⟨target,iter,ifs,0⟩] scope pos) 0 it acc env).onRaise (fun x=>do noteFrame x env;theTreesLotGoes x)) _ _ s
 refine wpAny_noted ?_
 rw[compTurn_list]
 refine wpAny_bind (wpAny_standAt (wpAny_bind (wpAny_mono (turn n s hI) (fun r s₁ h₁=>?_) fun _ _ h'=>h'.elim)))
 cases r with
 |none=>exact wpAny_pure h₁
 | some v=>
  refine wpAny_bind (wpAny_mono h₁ (fun _ s₁' h₁'=>?_) fun _ _ h'=>h'.elim)
  refine wpAny_bind (wpAny_mono h₁' (fun _ s₂ h₂=>wpAny_bind (wpAny_mono h₂ (fun ok s₂' h₂'=>?_) fun _ _ h'=>h'.elim)) fun _ _ h'=>h'.elim)
  cases ok with
  |false=>exact wpAny_pure ⟨rfl,h₂'⟩
  |true=>
   exact wpAny_bind (wpAny_bind (wpAny_mono h₂' (fun x s₃ h₃=>wpAny_bind (wpAny_mono h₃ (fun _ s₄ h₄=>wpAny_pure (wpAny_pure ⟨rfl,h₄⟩)) fun _ _ h'=>h'.elim)) fun _ _ h'=>h'.elim))
noncomputable def kkW(wi:TI)(cap:List (Option Nat))(g:TG)(tt:TT)(te:TE):TE:=fun σ H Q=>wi σ H fun J H1=>∃W:Nat→Nat→St→List V→Hp→Prop,(∃m,W 0 m (capσ cap σ) [] H1)∧∀i m σ' ys H',W i m σ' ys H'→
 (J.stop i H'∧∀D,H' D=none→Q (.ref D) (upd H' D (.lst ys)))∨(J.go i H'∧ys.length<sizeLine∧∃(N:St→V→Hp→Prop) (N0:St→Hp→Prop),(∀σ2 y H4,N σ2 y H4→∃m',m'<m∧W (i+1) m' σ2 (ys++[y]) H4)∧(∀σ2 H4,N0 σ2 H4→∃m',m'<m∧W (i+1) m' σ2 ys H4)∧
  ∀x H2,J.yld i H' x H2→g x σ' H2 fun σ2 H3=>tt σ2 H3 fun b H4=>if b=true then te σ2 H4 (N σ2) else N0 σ2 H4)
noncomputable def tComp(wi:TI)(cap:List (Option Nat))(g:TG)(te:TE):TE:=fun σ H Q=>wi σ H fun J H1=>∃W:Nat→Nat→St→List V→Hp→Prop,(∃m,W 0 m (capσ cap σ) [] H1)∧∀i m σ' ys H',W i m σ' ys H'→
 (J.stop i H'∧∀D,H' D=none→Q (.ref D) (upd H' D (.lst ys)))∨(J.go i H'∧ys.length<sizeLine∧∃N:St→V→Hp→Prop,(∀σ2 y H4,N σ2 y H4→∃m',m'<m∧W (i+1) m' σ2 (ys++[y]) H4)∧
  ∀x H2,J.yld i H' x H2→g x σ' H2 fun σ2 H3=>te σ2 H3 (N σ2))
section
variable {X:Cx} {scope:Scope} {N:List Str} {cap:List (Option Nat)} {pins:List (Addr×Obj)} {σ:St} {H2:Hp} {s2:Shared} {tg elt iter:Expr} {ifs:List Expr} {pos:Pos} {g:TG} {tt:TT} {te:TE}
theorem kc8{fp:List Addr}{it:Addr}{tn:Nat→Heap→Prop}{J:It}{Q:VK}{RR:Value→Addr→Result→Shared→Prop}{E:Value→Shared→Prop}(S:CompScope X scope N cap)(hc:X.calm=true)
  (hg:∀fp s H C,PG (cxC X scope N fp s H C) tg g) (ht:∀fp s H C,PIf (cxC X scope N fp s H C) ifs tt) (he:∀fp s H C,PE (cxC X scope N fp s H C) elt te)
  (I2:Inv X pins σ H2 s2) (T:Turn X.prog X.w X.K tg J fp it tn) (st2:tn 0 s2.heap) (f2:∀b∈fp,FpOk X pins H2 b)
  (W:Nat→Nat→St→List V→Hp→Prop) {m0:Nat} (w0:W 0 m0 (capσ cap σ) [] H2)
  (turn:∀i m σ' ys H',W i m σ' ys H'→(J.stop i H'∧∀D,H' D=none→Q (.ref D) (upd H' D (.lst ys)))∨(J.go i H'∧ys.length<sizeLine∧∃(N:St→V→Hp→Prop) (N0:St→Hp→Prop),(∀σ2 y H4,N σ2 y H4→∃m',m'<m∧W (i+1) m' σ2 (ys++[y]) H4)∧(∀σ2 H4,N0 σ2 H4→∃m',m'<m∧W (i+1) m' σ2 ys H4)∧
   ∀x H2,J.yld i H' x H2→g x σ' H2 fun σ2 H3=>tt σ2 H3 fun b H4=>if b=true then te σ2 H4 (N σ2) else N0 σ2 H4))
  (hRR:∀(D C:Addr) (H':Hp) (s':Shared) (m:Str→Option Value),Inv X pins σ H' s'→FpOk X pins H' C→C≠D→s'.heap.Ns C m→Q (.ref D) H'→RR (.ref D) C (.ok .next) s'):
  wpAny (model X.prog X.w) X.A (newList []) (fun acc s₃=>wpAny (model X.prog X.w) X.A (newFunctionEnv scope X.env.globals (closL X.env.cells scope.names []) [] X.env.qual none .none (some X.env)) (fun cenv s₄=>
   codeAny (model X.prog X.w) X.A (.compStart (.ListComp elt [⟨tg,iter,ifs,0⟩] scope pos) 0 (.ref it) acc {cenv with scope:=relabel scope X.env}) (RR acc cenv.locals) s₄) E s₃) E s2:=by
 refine wpAny_newObj_type (kfW ?_)
 dsimp only
 generalize hP:s2.heap.push {cls:=.type "list",dict:=none,data:=.seq ([]:List Value).toArray}=P
 have hnew:CellsOk (pushCells (P.push {cls:=.type "dict",data:=.dict #[]}) scope.names) (P.objs.size+1) (cellsFrom (P.objs.size+1) scope.names []):=by
  have q:=cellsFrom_ok scope.names (P.push {cls:=.type "dict",data:=.dict #[]}) (P.objs.size+1) [] ⟨fun _ _ hm=>(nomatch hm),MT.nil⟩ (by rw[Heap.size_push];exact Nj _)
  rwa [Heap.size_push] at q
 have hns₁:(pushCells (P.push {cls:=.type "dict",data:=.dict #[]}) scope.names).Ns P.objs.size (fun _=>none):=(Heap.Ns.new P (.type "dict")).keeps (pushCells_keeps _ _)
 have keep₁:∀b o,P.get? b=some o→(pushCells (P.push {cls:=.type "dict",data:=.dict #[]}) scope.names).get? b=some o:=fun b o e=>pushCells_keeps _ _ b o (Heap.get?_push_of_some _ e)
 generalize pushCells (P.push {cls:=.type "dict",data:=.dict #[]}) scope.names=h₁ at hnew hns₁ keep₁⊢
 have hC:P.objs.size=s2.heap.objs.size+1:=by rw[←hP,Heap.size_push]
 have hDC:s2.heap.objs.size≠P.objs.size:=by rw[hC];exact NP (EH _)
 have hCle:s2.heap.objs.size≤P.objs.size:=by rw[hC];exact MI _
 have hDle:s2.heap.objs.size≤s2.heap.objs.size:=Nj _
 have old:∀b o,s2.heap.get? b=some o→h₁.get? b=some o:=fun b o e=>keep₁ b o (hP▸Heap.get?_push_of_some _ e)
 have hacc:h₁.get? s2.heap.objs.size=some {cls:=.type "list",data:=.seq ([]:List Value).toArray}:=keep₁ _ _ (hP▸Heap.get?_push_size _ rfl)
 have hfp:∀b∈fp,b<s2.heap.objs.size:=fun b hb=>let⟨_,e,_⟩:=T.obj 0 _ st2 b hb;Heap.lt_size e
 generalize hDd:s2.heap.objs.size=D at hacc hDC hDle⊢
 rw[hDd] at hCle hC
 generalize P.objs.size=C at hnew hns₁ hC hDC hCle⊢
 have dne:∀b∈fp,D≠b:=fun b hb=>Mn (hDd▸hfp b hb)
 have cne:∀b∈fp,b≠C:=fun b hb=>NP (NN (hDd▸hfp b hb) hCle)
 have stkne:∀b∈fp,b∉frs X.stack:=fun b hb hz=>by
  obtain⟨_,h1,h2,_⟩:=f2 b hb
  rcases NI.mp (I2.stkSub b hz) with e|e
  ·exact h1 e
  ·exact h2 e
 have dfs:D∉frs X.stack:=fun hz=>absurd (kiJ I2 hz) (by rw[hDd];exact Ms _)
 have dcell:∀x c,(kec X scope C).lookup x=some c→c≠D:=fun x c e z=>by
  rcases kb8 S I2 e with e|e
  ·have q:Nat.lt C c:=(hnew.empty x c (PySem.mem_of_lookup e)).2
   rw[z] at q
   exact absurd (Mt hCle q) (Ms _)
  ·obtain⟨v,q⟩:=I2.cell x c e
   have:=q.lt
   rw[z,hDd] at this
   exact absurd this (Ms _)
 have bcell:∀b∈fp,∀x c,(kec X scope C).lookup x=some c→c≠b:=fun b hb x c e=>by
  rcases kb8 S I2 e with e|e
  ·have q:Nat.lt C c:=(hnew.empty x c (PySem.mem_of_lookup e)).2
   exact Mn (Nat.lt_trans (NN (hDd▸hfp b hb) hCle) q)
  ·exact(f2 b hb).2.2.2.2.1 x c e
 have stat:∀{o:Obj} {H':Hp},(∀b∈fp,H' b=none)→∀b∈fp,FpOk (cxC X scope N fp s2 H2 C) [(D,o)] H' b:=fun {o H'} hn b hb=>
  ⟨hn b hb,cne b hb,stkne b hb, .inl hb,bcell b hb,fun p hp=>by
   have e:p=(D,o):=by simpa[cxC] using hp
   subst e
   exact dne b hb⟩
 have loop:∀s₃:Shared,s₃= {s2 with heap:=h₁}→
   codeAny (model X.prog X.w) X.A (.compLoop (.ListComp elt [⟨tg,iter,ifs,0⟩] scope pos) 0 (.ref it) (.ref D) (compEnvC scope (kec X scope C) C X.env)) (RR (.ref D) C) s₃:=by
  rintro s₃ rfl
  have I3:Inv (cxC X scope N fp s2 H2 C) [(D,_)] (capσ cap σ) H2 {s2 with heap:=h₁}:=
   kkC S I2 f2 hfp old hns₁ (by rw[hDd];exact hCle) (by rw[hDd];exact Nj _) hDC hacc (fun v z=>by cases z) hnew rfl rfl
  refine kgJ (fun n s'=>∃i σ' ys H' its k,Inv (cxC X scope N fp s2 H2 C) [] σ' H' s'∧tn i s'.heap∧(∀b∈fp,H' b=none)∧H' D=none∧s'.heap.get? D=some {cls:=.type "list",data:=.seq (its:List Value).toArray k}∧Vals ys its∧ys.length≤sizeLine∧W i n σ' ys H') ?_ m0
   ⟨0,_,[],H2,[],_,I3.pins_of (fun p hp=>nomatch hp),T.keep _ _ _ st2 (fun b hb o e=>old b o e),fun b hb=>(f2 b hb).1,I2.hok.fresh (by rw[hDd];exact Nj _),hacc, .nil,N6 _,w0⟩
  rintro n s3 ⟨i,σ3,ys,H3,its,k,J3,st3,fr3,hD3,e3,r3,z3,w3⟩
  have J3':Inv (cxC X scope N fp s2 H2 C) [(D,{cls:=.type "list",data:=.seq its.toArray k})] σ3 H3 s3:=J3.pins_of fun p hp=>by
   have e:p=(D,{cls:=.type "list",data:=.seq its.toArray k}):=by simpa using hp
   subst e
   exact⟨e3,hD3,hDC,dfs,fun v z=>by cases z⟩
  rcases turn i n σ3 ys H3 w3 with⟨stop,qn⟩|⟨go,hlt,N',N0',hN,hN0,step⟩
  ·refine thn (T.done (cxC X scope N fp s2 H2 C) rfl rfl rfl hc i _ s3 σ3 H3 (fun _ _=>False) J3' (stat fr3) st3 stop) fun r s4 ⟨hr,I4⟩=>?_
   subst hr
   have e4:=(I4.pin (D,{cls:=.type "list",data:=.seq its.toArray k}) (by simp[cxC])).1
   have B:Inv X pins σ H3 s4:=comp_back I2 f2 (I4.pins_of fun p hp=>nomatch hp)
   obtain⟨m,hm,_⟩:=I4.loc
   have fD:FpOk X pins H3 D:=I2.fpOk (by rw[hDd];exact Nj _) hD3
   have B':Inv X pins σ (upd H3 D (.lst ys)) s4:=B.adopt fD (by rw[←hDd];exact I2.sz) ⟨z3,its,k,r3,e4⟩
   refine hRR D C _ s4 m B' (I2.fpOk (by rw[hDd];exact hCle) ?_) hDC.symm hm (qn D hD3)
   rw[kam hDC.symm]
   exact I4.free
  ·refine thn (T.item (cxC X scope N fp s2 H2 C) rfl rfl rfl hc i _ s3 σ3 H3 (fun _ _=>False) J3' (stat fr3) st3 go) fun r s4 ⟨u,hr,h4⟩=>?_
   subst hr
   refine thn h4 fun _ s5 ⟨x,H5,I5,r5,y5,st5,fr5⟩=>?_
   have I5':=I5.pinned (stat fr5) (T.obj _ _ st5)
   refine thn (hg fp s2 H2 C _ s5 σ3 H5 x u _ I5' r5 (step x H5 y5)) fun _ s6 ⟨σ6,H6,I6,q6⟩=>?_
   refine thn (ht fp s2 H2 C _ s6 σ6 H6 _ I6 q6) fun ok s6' ⟨H6',I6',q6'⟩=>?_
   cases ok with
   | false=>
    have q6':N0' σ6 H6':=by simpa using q6'
    obtain⟨m',hm',w7⟩:=hN0 σ6 H6' q6'
    have p7:=I6'.pin (D,{cls:=.type "list",data:=.seq its.toArray k}) (by simp[cxC])
    have e7:s6'.heap.get? D=some {cls:=.type "list",data:=.seq its.toArray k}:=p7.1
    have pf:∀b∈fp,∀o,s5.heap.get? b=some o→s6'.heap.get? b=some o∧H6' b=none:=fun b hb o e=>
     let z:=I6'.pin (b,o) (NV _ (NV _ (kc7 hb e)))
     ⟨z.1,z.2.1⟩
    refine⟨m',hm',i+1,σ6,ys,H6',its,_,I6'.pins_of (fun p hp=>nomatch hp),T.keep _ _ _ st5 (fun b hb o e=>(pf b hb o e).1),fun b hb=>?_,p7.2.1,e7,r3,z3,w7⟩
    obtain⟨o,e,_⟩:=T.obj _ _ st5 b hb
    exact(pf b hb o e).2
   |true=>
   have q6':te σ6 H6' (N' σ6):=by simpa using q6'
   refine thn (he fp s2 H2 C _ s6' σ6 H6' _ I6' q6') fun v s7 ⟨y,H7,I7,r7,q7⟩=>?_
   obtain⟨m',hm',w7⟩:=hN σ6 y H7 q7
   have p7:=I7.pin (D,{cls:=.type "list",data:=.seq its.toArray k}) (by simp[cxC])
   have e7:s7.heap.get? D=some {cls:=.type "list",data:=.seq its.toArray k}:=p7.1
   have hl7:=r3.length
   refine call_meets F.slot_list_append ⟨_,e7,rfl⟩ F.entry_list_append (F.args_list_append_2 _ _) (PySem.list_append D its.toArray k v (by rw[NK];omega)) ⟨e7,?_⟩
   have q8:=PySem.IsL.update e7 (·.push v)
   have ex8:its.toArray.push v=(its++[v]).toArray:=by simp
   rw[ex8] at q8
   have pf:∀b∈fp,∀o,s5.heap.get? b=some o→s7.heap.get? b=some o∧H7 b=none:=fun b hb o e=>
    let z:=I7.pin (b,o) (NV _ (NV _ (kc7 hb e)))
    ⟨z.1,z.2.1⟩
   have I7':Inv (cxC X scope N fp s2 H2 C) [] σ6 H7 s7:=I7.pins_of fun p hp=>nomatch hp
   refine⟨m',hm',i+1,σ6,ys++[y],H7,its++[v],_,I7'.turned (it:=D) (fun b o hb e=>(Heap.get?_update_other _ _ (Ne.symm hb)).trans e) p7.2.1 hDC (.inr (by show s2.heap.objs.size≤D;rw[hDd];exact Nj _)) dcell (fun p hp=>nomatch hp),
    T.keep _ _ _ st5 (fun b hb o e=>(Heap.get?_update_other _ _ (dne b hb)).trans (pf b hb o e).1),fun b hb=>?_,p7.2.1,q8,r3.append (.cons r7 .nil),by rw[Nx,EM];omega,w7⟩
   obtain⟨o,e,_⟩:=T.obj _ _ st5 b hb
   exact(pf b hb o e).2
 have st1:tn 0 h₁:=T.keep _ _ _ st2 (fun b hb o e=>old b o e)
 exact codeAny_compStart_list (loop _ rfl) (T.self X.A 0 _ _ _ st1 (loop _ rfl))
theorem khT{wi:TI}(S:CompScope X scope N cap)(hc:X.calm=true)(hi:PI X tg iter wi)(hg:∀fp s H C,PG (cxC X scope N fp s H C) tg g)(ht:∀fp s H C,PIf (cxC X scope N fp s H C) ifs tt)(he:∀fp s H C,PE (cxC X scope N fp s H C) elt te)
  (hs:∀x,foldedSetIterable iter X.env x=pure x:=by intro _;rfl):PE X (.ListComp elt [⟨tg,iter,ifs,0⟩] scope pos) (kkW wi cap g tt te):=by
 intro pins s σ H Q I h
 rw[eval_ListComp]
 refine wpAny_comprehension_free (use:=none) rfl hs (kcq S I) S.kind S.names (thn (hi pins s σ H _ I h) fun v s1 h1=>thn h1 fun itv s2 h2=>?_)
 obtain⟨it,fp,tn,J,H2,e,I2,T,st2,f2,W,⟨m0,w0⟩,turn⟩:=h2
 subst e
 refine kc8 (RR:=fun acc C=>compPost (model X.prog X.w) X.A X.xe none (EP X pins σ Q) acc C) S hc hg ht he I2 T st2 f2 W w0 turn fun D C H' s' m B fC hCD hm q=>?_
 obtain⟨c0,c1,c2,c3,c4,c5⟩:=fC
 exact⟨m,hm,fun h' hs'=>⟨.ref D,H',B.turned (t':=s'.toks) (fun b o hb e=>(hs'.2 b hb).trans e) c0 c1 c3 c4 c5,rfl,q⟩⟩
theorem kkj{wi:TI}{i:Nat}{y:Str}{py spos:Pos}(S:CompScope X scope N cap)(hc:X.calm=true)(hi:PI X tg iter wi)(hg:∀fp s H C,PG (cxC X scope N fp s H C) tg g)(ht:∀fp s H C,PIf (cxC X scope N fp s H C) ifs tt)(he:∀fp s H C,PE (cxC X scope N fp s H C) elt te)
  (hA:PG X (.Name y py) (gName i)) (hsw:swapsWith (.ListComp elt [⟨tg,iter,ifs,0⟩] scope pos) (some (.Name y py)) spos.line X.env=pure true:=by rfl)
  (hs:∀x,foldedSetIterable iter X.env x=pure x:=by intro _;rfl):PS X (.Assign [.Name y py] (.ListComp elt [⟨tg,iter,ifs,0⟩] scope pos) spos) (tAsg (kkW wi cap g tt te) (gName i)):=by
 intro pins s σ H D I h
 rw[exec_Assign_Name_used _ _ _ _ hsw]
 refine wpAny_bind (wpAny_standAt (wpAny_bind ?_))
 show wpAny _ X.A (do let _ ←comprehension (.ListComp elt [⟨tg,iter,ifs,0⟩] scope pos) scope X.env _ (newList []) false (eval iter X.env) (some (assign (.Name y py) X.env))) _ _ s
 refine wpAny_bind (wpAny_mono (wpAny_comprehension_free (use:=some (assign (.Name y py) X.env)) (Q:=fun _ s'=>SP X pins D .next s') rfl hs (kcq S I) S.kind S.names
  (thn (hi pins s σ H _ I h) fun v s1 h1=>thn h1 fun itv s2 h2=>?_)) (fun _ s' hq=>wpAny_pure (wpAny_pure hq)) fun _ _ e=>e)
 obtain⟨it,fp,tn,J,H2,e,I2,T,st2,f2,W,⟨m0,w0⟩,turn⟩:=h2
 subst e
 refine kc8 (Q:=fun v H'=>gName i v σ H' D.nx) (RR:=fun acc C=>compPost (model X.prog X.w) X.A X.xe (some (assign (.Name y py) X.env)) (fun _ s'=>SP X pins D .next s') acc C) S hc hg ht he I2 T st2 f2 W w0 turn fun D' C H' s' m B fC hCD hm q=>?_
 obtain⟨c0,c1,c2,c3,c4,c5⟩:=fC
 obtain⟨oC,es,ep,eC,dC,kC⟩:=hm
 have B':Inv X (pins++[(C,oC)]) σ H' s':=B.pins_of fun p hp=>by
  rcases NU.mp hp with hp|hp
  ·exact B.pin p (NV _ hp)
  ·have e:p=(C,oC):=by simpa using hp
   subst e
   exact⟨eC,c0,c1,c2,fun v z=>by rw[dC] at z;cases z⟩
 refine thn (hA _ s' σ H' (.ref D') (.ref D') _ B' rfl q) fun _ s'' ⟨σ2,H3,I3,q3⟩=>?_
 obtain⟨e3,n3,_⟩:=I3.pin (C,oC) (NV _ (NV _ (by simp)))
 exact⟨m,⟨oC,es,ep,e3,dC,kC⟩,fun h' hs'=>⟨σ2,H3,I3.unpinned.turned (t':=s''.toks) (fun b o hb e=>(hs'.2 b hb).trans e) n3 c1 c3 c4 c5,q3⟩⟩
theorem kgI{J:It}{Q:VK}{W:Nat→Nat→St→List V→Hp→Prop}(h:∀i m σ' ys H',W i m σ' ys H'→(J.stop i H'∧∀D,H' D=none→Q (.ref D) (upd H' D (.lst ys)))∨(J.go i H'∧ys.length<sizeLine∧∃N:St→V→Hp→Prop,(∀σ2 y H4,N σ2 y H4→∃m',m'<m∧W (i+1) m' σ2 (ys++[y]) H4)∧
   ∀x H2,J.yld i H' x H2→g x σ' H2 fun σ2 H3=>te σ2 H3 (N σ2))):∀i m σ' ys H',W i m σ' ys H'→(J.stop i H'∧∀D,H' D=none→Q (.ref D) (upd H' D (.lst ys)))∨(J.go i H'∧ys.length<sizeLine∧∃(N:St→V→Hp→Prop) (N0:St→Hp→Prop),(∀σ2 y H4,N σ2 y H4→∃m',m'<m∧W (i+1) m' σ2 (ys++[y]) H4)∧(∀σ2 H4,N0 σ2 H4→∃m',m'<m∧W (i+1) m' σ2 ys H4)∧
   ∀x H2,J.yld i H' x H2→g x σ' H2 fun σ2 H3=>tYes σ2 H3 fun b H4=>if b=true then te σ2 H4 (N σ2) else N0 σ2 H4):=by
 intro i m σ' ys H' w
 rcases h i m σ' ys H' w with h|⟨go,hl,N,hN,st⟩
 ·exact .inl h
 ·refine .inr ⟨go,hl,N,fun _ _=>False,hN,(fun _ _ z=>z.elim),fun x H2 y=>?_⟩
  have e:(fun(σ2:St) (H3:Hp)=>tYes σ2 H3 fun b H4=>if b=true then te σ2 H4 (N σ2) else False)=fun σ2 H3=>te σ2 H3 (N σ2):=by
   funext σ2 H3
   show(if true=true then te σ2 H3 (N σ2) else False)=te σ2 H3 (N σ2)
   rw[if_pos rfl]
  rw[e]
  exact st x H2 y
theorem kbp{wi:TI}(S:CompScope X scope N cap)(hc:X.calm=true)(hi:PI X tg iter wi)(hg:∀fp s H C,PG (cxC X scope N fp s H C) tg g)(he:∀fp s H C,PE (cxC X scope N fp s H C) elt te)
  (hs:∀x,foldedSetIterable iter X.env x=pure x:=by intro _;rfl):PE X (.ListComp elt [⟨tg,iter,[],0⟩] scope pos) (tComp wi cap g te):=by
 intro pins s σ H Q I h
 rw[eval_ListComp]
 refine wpAny_comprehension_free (use:=none) rfl hs (kcq S I) S.kind S.names (thn (hi pins s σ H _ I h) fun v s1 h1=>thn h1 fun itv s2 h2=>?_)
 obtain⟨it,fp,tn,J,H2,e,I2,T,st2,f2,W,⟨m0,w0⟩,turn⟩:=h2
 subst e
 refine kc8 (RR:=fun acc C=>compPost (model X.prog X.w) X.A X.xe none (EP X pins σ Q) acc C) S hc hg (fun _ _ _ _=>kjk) he I2 T st2 f2 W w0 (kgI turn) fun D C H' s' m B fC hCD hm q=>?_
 obtain⟨c0,c1,c2,c3,c4,c5⟩:=fC
 exact⟨m,hm,fun h' hs'=>⟨.ref D,H',B.turned (t':=s'.toks) (fun b o hb e=>(hs'.2 b hb).trans e) c0 c1 c3 c4 c5,rfl,q⟩⟩
theorem kdS{wi:TI}{i:Nat}{y:Str}{py spos:Pos}(S:CompScope X scope N cap)(hc:X.calm=true)(hi:PI X tg iter wi)(hg:∀fp s H C,PG (cxC X scope N fp s H C) tg g)(he:∀fp s H C,PE (cxC X scope N fp s H C) elt te)
  (hA:PG X (.Name y py) (gName i)) (hsw:swapsWith (.ListComp elt [⟨tg,iter,[],0⟩] scope pos) (some (.Name y py)) spos.line X.env=pure true:=by rfl)
  (hs:∀x,foldedSetIterable iter X.env x=pure x:=by intro _;rfl):PS X (.Assign [.Name y py] (.ListComp elt [⟨tg,iter,[],0⟩] scope pos) spos) (tAsg (tComp wi cap g te) (gName i)):=by
 intro pins s σ H D I h
 rw[exec_Assign_Name_used _ _ _ _ hsw]
 refine wpAny_bind (wpAny_standAt (wpAny_bind ?_))
 show wpAny _ X.A (do let _ ←comprehension (.ListComp elt [⟨tg,iter,[],0⟩] scope pos) scope X.env _ (newList []) false (eval iter X.env) (some (assign (.Name y py) X.env))) _ _ s
 refine wpAny_bind (wpAny_mono (wpAny_comprehension_free (use:=some (assign (.Name y py) X.env)) (Q:=fun _ s'=>SP X pins D .next s') rfl hs (kcq S I) S.kind S.names
  (thn (hi pins s σ H _ I h) fun v s1 h1=>thn h1 fun itv s2 h2=>?_)) (fun _ s' hq=>wpAny_pure (wpAny_pure hq)) fun _ _ e=>e)
 obtain⟨it,fp,tn,J,H2,e,I2,T,st2,f2,W,⟨m0,w0⟩,turn⟩:=h2
 subst e
 refine kc8 (Q:=fun v H'=>gName i v σ H' D.nx) (RR:=fun acc C=>compPost (model X.prog X.w) X.A X.xe (some (assign (.Name y py) X.env)) (fun _ s'=>SP X pins D .next s') acc C) S hc hg (fun _ _ _ _=>kjk) he I2 T st2 f2 W w0 (kgI (Q:=fun v H'=>gName i v σ H' D.nx) turn) fun D' C H' s' m B fC hCD hm q=>?_
 obtain⟨c0,c1,c2,c3,c4,c5⟩:=fC
 obtain⟨oC,es,ep,eC,dC,kC⟩:=hm
 have B':Inv X (pins++[(C,oC)]) σ H' s':=B.pins_of fun p hp=>by
  rcases NU.mp hp with hp|hp
  ·exact B.pin p (NV _ hp)
  ·have e:p=(C,oC):=by simpa using hp
   subst e
   exact⟨eC,c0,c1,c2,fun v z=>by rw[dC] at z;cases z⟩
 refine thn (hA _ s' σ H' (.ref D') (.ref D') _ B' rfl q) fun _ s'' ⟨σ2,H3,I3,q3⟩=>?_
 obtain⟨e3,n3,_⟩:=I3.pin (C,oC) (NV _ (NV _ (by simp)))
 exact⟨m,⟨oC,es,ep,e3,dC,kC⟩,fun h' hs'=>⟨σ2,H3,I3.unpinned.turned (t':=s''.toks) (fun b o hb e=>(hs'.2 b hb).trans e) n3 c1 c3 c4 c5,q3⟩⟩
end
section
variable {g:TG} {te:TE} {σ:St} {H:Hp} {R:List V→Hp→Addr→Prop}
theorem kaZ{K:Ni}{a:Addr}{xs:List V}(Pv:Nat→St→List V→Hp→Prop)(h0:Pv 0 σ [] H)(hz:xs.length≤sizeLine)(hl:∀i σ ys H,i≤xs.length→Pv i σ ys H→SqL K H a xs∧ys.length=i)
  (hs:∀i x σ ys H,xs[i]?=some x→Pv i σ ys H→g x σ H fun σ2 H2=>te σ2 H2 fun y H3=>Pv (i+1) σ2 (ys++[y]) H3) (hd:∀σ ys H,Pv xs.length σ ys H→∀D,H D=none→R ys H D):
  ∃ W:Nat→Nat→St→List V→Hp→Prop,(∃m,W 0 m σ [] H)∧∀i m σ' ys H',W i m σ' ys H'→
   ((Itl K a).stop i H'∧∀D,H' D=none→R ys H' D)∨((Itl K a).go i H'∧ys.length<sizeLine∧∃N:St→V→Hp→Prop,(∀σ2 y H4,N σ2 y H4→∃m',m'<m∧W (i+1) m' σ2 (ys++[y]) H4)∧
    ∀x H2,(Itl K a).yld i H' x H2→g x σ' H2 fun σ2 H3=>te σ2 H3 (N σ2)):=by
 refine⟨fun i m σ ys H=>m=xs.length-i∧i≤xs.length∧Pv i σ ys H,⟨xs.length,by simp,N6 _,h0⟩,?_⟩
 rintro i m σ ys H ⟨rfl,hi,p⟩
 obtain⟨q,el⟩:=hl i σ ys H hi p
 by_cases hlt:i<xs.length
 ·refine .inr ⟨⟨xs,xs[i],q,by simp[hlt]⟩,by omega,fun σ2 y H3=>Pv (i+1) σ2 (ys++[y]) H3,fun σ' y H' p'=>⟨xs.length-(i+1),by omega,rfl,hlt,p'⟩,fun x H' yl=>?_⟩
  obtain⟨e,yl⟩:=yl
  subst e
  exact hs i x σ ys _ (yl xs q) p
 ·have e:i=xs.length:=by omega
  subst e
  exact .inl ⟨⟨xs,q,Nj _⟩,hd σ ys H p⟩
theorem kfn{lo:Int}{n:Nat}(Pv:Nat→St→List V→Hp→Prop)(h0:Pv 0 σ [] H)(hz:n≤sizeLine)(hl:∀i σ ys H,i≤n→Pv i σ ys H→ys.length=i)
  (hs:∀i σ ys H,i<n→Pv i σ ys H→g (.int (lo+i)) σ H fun σ2 H2=>te σ2 H2 fun y H3=>Pv (i+1) σ2 (ys++[y]) H3) (hd:∀σ ys H,Pv n σ ys H→∀D,H D=none→R ys H D):
  ∃ W:Nat→Nat→St→List V→Hp→Prop,(∃m,W 0 m σ [] H)∧∀i m σ' ys H',W i m σ' ys H'→
   ((Itr lo n).stop i H'∧∀D,H' D=none→R ys H' D)∨((Itr lo n).go i H'∧ys.length<sizeLine∧∃N:St→V→Hp→Prop,(∀σ2 y H4,N σ2 y H4→∃m',m'<m∧W (i+1) m' σ2 (ys++[y]) H4)∧
    ∀x H2,(Itr lo n).yld i H' x H2→g x σ' H2 fun σ2 H3=>te σ2 H3 (N σ2)):=by
 refine⟨fun i m σ ys H=>m=n-i∧i≤n∧Pv i σ ys H,⟨n,by simp,N6 _,h0⟩,?_⟩
 rintro i m σ ys H ⟨rfl,hi,p⟩
 have el:=hl i σ ys H hi p
 by_cases hlt:i<n
 ·refine .inr ⟨hlt,by omega,fun σ2 y H3=>Pv (i+1) σ2 (ys++[y]) H3,fun σ' y H' p'=>⟨n-(i+1),by omega,rfl,hlt,p'⟩,fun x H' yl=>?_⟩
  obtain⟨e,yl⟩:=yl
  subst e yl
  exact hs i σ ys _ hlt p
 ·have e:i=n:=by omega
  subst e
  exact .inl ⟨Nj _,hd σ ys H p⟩
end
theorem CompScope.plain{X:Cx}{scope:Scope}{N:List Str}(kind:scope.kind=.function)(names:∀x∈scope.names,x.2=.local→scope.names.lookup x.1=some .local)(_:∀x∈scope.names,x.2≠.cell)(nf:∀x∈scope.names,x.2≠.free)(nd:N.Nodup):
  CompScope X scope N (Nl N.length none):=by
 refine⟨kind,names,fun x hx hf=>absurd hf (nf x hx),nd,by simp,fun j i x e _=>?_⟩
 rw[EK] at e
 split at e
 ·cases e
 ·cases e
noncomputable def klq(scope:Scope)(ns:List (Str×NameKind))(XN N:List Str)(cap:List (Option Nat)):Bool:=
 scope.kind== .function&&scope.names.all (fun x=>!(x.2== .local)||scope.names.lookup x.1==some .local)&&scope.names.all (fun x=>!(x.2== .free)||(ns.lookup x.1==some .cell||ns.lookup x.1==some .free))&&decide N.Nodup&&decide (cap.length=N.length) &&
  (cap.zip N).all fun p=>match p.1 with
   |none=>true
   |some i=>XN[i]? ==some p.2&&scope.names.lookup p.2==some .free&&scope.names.all fun y=>!(y.1==p.2&&y.2== .cell)
theorem CompScope.of{X:Cx}{scope:Scope}{N:List Str}{cap:List (Option Nat)}(ns:List (Str×NameKind))(XN:List Str)(hn:X.env.scope.names=ns)(hN:X.N=XN)(h:klq scope ns XN N cap=true):CompScope X scope N cap:=by
 unfold klq at h
 simp only[MF,decide_eq_true_eq,M6,EO,Bool.not_eq_true',beq_iff_eq,beq_eq_false_iff_ne] at h
 obtain⟨⟨⟨⟨⟨h1,h2⟩,h3⟩,h4⟩,h5⟩,h6⟩:=h
 refine⟨h1,fun x hx hl=>?_,fun x hx hf=>?_,h4,h5,fun j i x e1 e2=>?_⟩
 ·rcases h2 x hx with q|q
  ·exact absurd hl q
  ·exact q
 ·rw[hn]
  rcases h3 x hx with q|q
  ·exact absurd hf q
  ·exact q
 ·have hz:(cap.zip N)[j]?=some (some i,x):=by
   rw[List.getElem?_zip_eq_some]
   exact⟨e1,e2⟩
  have q:=h6 _ (Nt hz)
  simp only[MF,beq_iff_eq,M6,Bool.not_eq_true',Bool.and_eq_false_iff,beq_eq_false_iff_ne] at q
  obtain⟨⟨q1,q2⟩,q3⟩:=q
  refine⟨by rw[hN];exact q1,q2,fun z=>?_⟩
  rcases q3 _ z with q|q
  ·exact q rfl
  ·exact q rfl
end L2
namespace L2
open PySem PySem.Spec PyProof.Rows
theorem Inv.turnedL{X:Cx}{pins:List (Addr×Obj)}{σ:St}{H:Hp}{s:Shared}{h':Heap}{t':Nat}{ch:List Addr}(I:Inv X pins σ H s)(k:∀b o,b∉ch→s.heap.get? b=some o→h'.get? b=some o)(hf:∀b∈ch,FpOk X pins H b):
  Inv X pins σ H {s with heap:=h',toks:=t'}:=by
 have nch:∀b u,H b=some u→b∉ch:=fun b u e z=>by
  have:=(hf b z).1
  rw[this] at e
  cases e
 refine I.step (g':=s.gens) (d':=s.drawn) (ch:=ch) (fun b hb=>let⟨_,h1,_,h3,h4,h5⟩:=hf b hb;⟨h3,h1,h4,h5⟩) (fun b o _ _ hc e _=>k b o hc e) (fun b o _ _ hc e _=>⟨o.slots,k b o hc e⟩) (fun _ _ _ _ n=>n)
  (fun b o hc e=>⟨o,k b o hc e⟩) (fun _ _ e=>e) (fun _ _ _ e=>e) (fun b ps e=>⟨#[],by rw[e];simp⟩) (fun m hm=>?_) (fun b u e=>?_) I.bare
 ·obtain⟨o,es,ep,ho,r⟩:=hm
  exact⟨o,es,ep,k _ o (fun z=>(hf _ z).2.1 rfl) ho,r⟩
 ·refine(I.hok b u e).stay (fun c v hc q=>k c v ?_ q) (fun _ q=>q) fun _ _ q=>q
  rcases hc with z|z
  ·rw[z];exact nch b u e
  ·exact nch c _ z
noncomputable def Ite(a:Addr):It:=⟨fun i H=>∃xs x,H a=some (.lst xs)∧xs[i]?=some x,fun i H x H'=>∃t y,H t=none∧x=.ref t∧H'=upd H t (.tup [.int i,y])∧∀xs,H a=some (.lst xs)→xs[i]?=some y,fun i H=>∃xs,H a=some (.lst xs)∧xs.length≤i⟩
theorem kiE{P:Program}{w:World}{K:Ni}{es:List Expr}{k:Nat}{pos:Pos}(a e it:Addr)(hne:e≠it):Turn P w K (.Tuple es k pos) (Ite a) [e,it] e (fun i h=>(∃old,IsEnum h e it ((i:Nat):Int) old)∧h.IsListIter it a i) where
 mem:=by simp
 obj:=fun i h st b hb=>by
  obtain⟨⟨old,he⟩,o,eo,c,d⟩:=st
  have hb':b=e∨b=it:=by simpa using hb
  rcases hb' with rfl|rfl
  ·exact⟨_,he,fun v z=>by
    have z':Data.fields _=Data.cell v:=z
    cases z'⟩
  ·exact⟨o,eo,fun v z=>by rw[d] at z;cases z⟩
 keep:=fun i h h' st k=>⟨let⟨old,he⟩:=st.1;⟨old,k e (by simp) _ he⟩,st.2.at fun o eo=>k it (by simp) o eo⟩
 item:=by
  intro X hP hw hK hc i pins s σ H E I hf st hg
  subst hP hw hK
  obtain⟨⟨old,he⟩,hit⟩:=st
  obtain⟨xs,x,hq,hx⟩:=hg
  obtain⟨its,n,r,ho,hz⟩:=I.lst hq
  obtain⟨u,hu,ru⟩:=r.get hx
  have hl:s.heap.IsList a its.toArray:=⟨_,ho,rfl,n,rfl⟩
  refine wpAny_pyNext_enum_item he hit hl (x:=u) (by simpa using hu) hne fun h1 heo hit1 ht1 hz1 hk1=>?_
  refine⟨.ref s.heap.objs.size,rfl,wpAny_letOwnedTupleGo_enum heo fun h2 he2 hs2=>?_⟩
  have hs2':Heap.SameBut e h1 h2:=hs2
  have el:e<s.heap.objs.size:=Heap.lt_size he
  have kk:∀b o,b∉[e,it]→s.heap.get? b=some o→h2.get? b=some o:=fun b o hb eo=>by
   have hb':b≠e∧b≠it:=by simpa using hb
   exact(hs2'.2 b hb'.1).trans (hk1 b o hb'.1 hb'.2 eo)
  have I1:Inv X pins σ H {s with heap:=h2,toks:=s.toks+1}:=I.turnedL (ch:=[e,it]) kk hf
  have fr:H s.heap.objs.size=none:=I.hok.fresh (Nj _)
  have ft:FpOk X pins H s.heap.objs.size:=I.fpOk (Nj _) fr
  have ht2:h2.get? s.heap.objs.size=some {cls:=.type "tuple",data:=.seq #[.int i s.toks,u]}:=(hs2'.2 _ (Mn el)).trans ht1
  have I2:Inv X pins σ (upd H s.heap.objs.size (.tup [.int i,x])) {s with heap:=h2,toks:=s.toks+1}:=
   I1.adopt ft I.sz ⟨by show 2≤sizeLine;decide,[.int i s.toks,u], .cons ⟨_,rfl⟩ (.cons ru .nil),_,ht2,rfl,_,rfl⟩
  have hit2:h2.IsListIter it a (i+1):=hit1.extBut hs2'.extBut (Ne.symm hne)
  refine⟨.ref s.heap.objs.size,_,I2,rfl,⟨s.heap.objs.size,x,fr,rfl,rfl,fun ys hy=>by rw[hq] at hy;cases hy;exact hx⟩,⟨⟨u,?_⟩,hit2⟩,fun b hb=>?_⟩
  ·have e1:((i+1:Nat):Int)=(i:Int)+1:=rfl
   rw[e1]
   exact he2
  ·have hbl:b<s.heap.objs.size:=by
    have hb':b=e∨b=it:=by simpa using hb
    rcases hb' with rfl|rfl
    ·exact el
    ·obtain⟨o,eo,_⟩:=hit
     exact Heap.lt_size eo
   rw[kam (NP hbl)]
   exact(hf b hb).1
 done:=by
  intro X hP hw hK hc i pins s σ H E I hf st hg
  subst hP hw hK
  obtain⟨⟨old,he⟩,hit⟩:=st
  obtain⟨xs,hq,hx⟩:=hg
  obtain⟨its,n,r,ho,hz⟩:=I.lst hq
  have hl:s.heap.IsList a its.toArray:=⟨_,ho,rfl,n,rfl⟩
  have hlen:=r.length
  obtain⟨f0,f1,f2,f3,f4,f5⟩:=hf it (by simp)
  exact wpAny_pyNext_enum_end (I.ok.hd hc) he hit hl (by simp;omega) fun h' eb=>⟨rfl,I.turned (t':=s.toks) (fun b o hb e=>eb b o hb e) f0 f1 f3 f4 f5⟩
 self:=fun _ _ _ _ _ st h=>let⟨_,he⟩:=st.1;wpAny_pyIter_enum he h
section
variable {X:Cx}
noncomputable def iEnum(ta:TA):TI:=fun σ H R=>ta σ H fun vs H1=>∃a xs,vs=[.ref a]∧H1 a=some (.lst xs)∧R (Ite a) H1
theorem kjm{es:List Expr}{k:Nat}{tpos:Pos}{e:Expr}{ta:TA}{p pos:Pos}(hg:Gl X "enumerate")(hm:X.mg "enumerate"=none)(ha:PA X [e] ta)(he:starEach [e] X.env=(false,eval e X.env)::starEach [] X.env:=by rfl)
  (hpl:(backTo pos (starEach [] X.env)).any (·.1)=false:=by rfl):PI X (.Tuple es k tpos) (.Call (.Name "enumerate" p) [e] [] pos) (iEnum ta):=by
 intro pins s σ H R I h
 refine Call_ (kdC I hg hm boot_enumerate (PyProof.Rows.callWith_type1 (thn (ha pos pins s σ H _ I h) fun us s1 ⟨vs,H1,I1,r1,q1⟩=>?_) he hpl))
 obtain⟨a,xs,rfl,hq,q⟩:=q1
 obtain⟨u,rfl,rx⟩:=vals1 r1
 cases rx
 obtain⟨its,n,r,ho,hz⟩:=I1.lst hq
 refine call_enumerate_1 ho fun h' he' hit' hsz hk=>wpAny_pyIter_enum he' ?_
 have I2:Inv X pins σ H1 {s1 with heap:=h'}:=I1.kept (t':=s1.toks) hk
 refine⟨s1.heap.objs.size+1,[s1.heap.objs.size+1,s1.heap.objs.size],_,_,H1,rfl,I2,kiE a (s1.heap.objs.size+1) s1.heap.objs.size (Nat.succ_ne_self _),⟨⟨_,he'⟩,hit'⟩,fun b hb=>?_,q⟩
 have hb':b=s1.heap.objs.size+1∨b=s1.heap.objs.size:=by simpa using hb
 have hle:s1.heap.objs.size≤b:=by rcases hb' with rfl|rfl <;> omega
 exact I1.fpOk hle (I1.hok.fresh hle)
end
theorem kkI{a:Addr}{xs:List V}{g:TG}{tb:TS}{D:Ends}{σ:St}{H:Hp}(Pv:Nat→St→Hp→Prop)(h0:Pv 0 σ H)(hl:∀i σ H,i≤xs.length→Pv i σ H→H a=some (.lst xs))
  (hs:∀i y t σ H,xs[i]?=some y→Pv i σ H→H t=none→g (.ref t) σ (upd H t (.tup [.int (i:Nat),y])) fun σ2 H2=>tb {D with nx:=Pv (i+1),ct:=Pv (i+1),bk:=D.nx} σ2 H2) (hd:∀σ H,Pv xs.length σ H→D.nx σ H):
  ∃W:Nat→Nat→St→Hp→Prop,(∃m,W 0 m σ H)∧∀i m σ H,W i m σ H→
   ((Ite a).stop i H∧D.nx σ H)∨((Ite a).go i H∧∃N:St→Hp→Prop,(∀σ' H',N σ' H'→∃m',m'<m∧W (i+1) m' σ' H')∧∀x H',(Ite a).yld i H x H'→g x σ H' fun σ2 H2=>tb {D with nx:=N,ct:=N,bk:=D.nx} σ2 H2):=by
 refine⟨fun i m σ H=>m=xs.length-i∧i≤xs.length∧Pv i σ H,⟨xs.length,by simp,N6 _,h0⟩,?_⟩
 rintro i m σ H ⟨rfl,hi,p⟩
 have q:=hl i σ H hi p
 by_cases hlt:i<xs.length
 ·refine .inr ⟨⟨xs,xs[i],q,by simp[hlt]⟩,Pv (i+1),fun σ' H' p'=>⟨xs.length-(i+1),by omega,rfl,hlt,p'⟩,fun x H' y=>?_⟩
  obtain⟨t,y,hn,rfl,rfl,hy⟩:=y
  exact hs i y t σ _ (hy xs q) p hn
 ·have e:i=xs.length:=by omega
  subst e
  exact .inl ⟨⟨xs,q,Nj _⟩,hd σ H p⟩
section
variable {X:Cx}
noncomputable def klI:V→List V→Hp→VK→Prop:=fun x vs H Q=>∃(l:Addr) (xs:List V) (k:Int) (y:V),x=.ref l∧vs=[.int k,y]∧H l=some (.lst xs)∧0≤k∧k≤xs.length∧xs.length<sizeLine∧Q .non (upd H l (.lst (xs.take k.toNat++y::xs.drop k.toNat)))
theorem klX(its:List Value)(k:Nat)(u:Value):(its.toArray.extract 0 k).push u++its.toArray.extract k=(its.take k++u::its.drop k).toArray:=by
 apply Array.ext'
 simp
 exact Mf (by simp)
theorem kju:MtM X "list.insert" klI:=by
 intro pins s σ H x vs v us Q I rx rv h
 obtain⟨l,xs,k,y,rfl,rfl,hH,hk0,hk,hz,q⟩:=h
 cases rx
 obtain⟨uk,u,rfl,⟨t,rfl⟩,ru⟩:=rv.two
 obtain⟨z,its,n,r,hl,e⟩:=I.lstM hH
 have hn:=kgE
 have hfit:¬(!Builtin.List.listFitsIndex k)=true:=by
  unfold Builtin.List.listFitsIndex
  simp
  omega
 have hsz:its.toArray.size≤sizeLine:=by rw[NK];omega
 refine call_meets F.slot_list_insert ⟨_,e,rfl⟩ F.entry_list_insert (F.args_list_insert_3 _ _ _) (AutoSeq1.list_insert_list_int_val_1 l its.toArray n k t u hfit hsz) ⟨e,?_⟩
 refine⟨.non,_,I.lset (its':=its.take k.toNat++u::its.drop k.toNat) hH e ?_ ((r.take k.toNat).append (.cons ru (r.drop k.toNat))) ?_,rfl,q⟩
 ·have e1:(if k<0 then(k+(its.toArray.size:Int)).toNat else min k.toNat its.toArray.size)=k.toNat:=by
   rw[if_neg (by omega),MG (by simp;omega)]
  show(its.toArray.extract 0 (if k<0 then(k+(its.toArray.size:Int)).toNat else min k.toNat its.toArray.size)).push u++its.toArray.extract (if k<0 then(k+(its.toArray.size:Int)).toNat else min k.toNat its.toArray.size)=_
  rw[e1]
  exact klX its k.toNat u
 ·simp
  omega
end
section
variable {X:Cx}
end
end L2
namespace L2
open PySem PySem.Spec PyProof.Rows
section
variable {prog:Program} {w:World} {A:Around} {E:Value→Shared→Prop} {s:Shared}
end
section
variable {X:Cx}
end
section
variable {X:Cx} {CX:CXT} {k:Nat} {f C:Addr} {fd:FuncData} {ps ks:List Str} {sp:Sp} {E:XK} {x:Str} {p pos:Pos} {e:Expr} {es:List Expr} {kws:List Keyword} {t tk:TA} {g:List Value→List Value→List Value} {gV:List V→List V→List V}
end
end L2
namespace L2
open PySem PySem.Spec PyProof.Rows
noncomputable def kbE(K:Ni):List V→Hp→VK→Prop:=fun xs H Q=>∃p ys,xs=[.ref p]∧(SqL K H p ys∨SqT K H p ys)∧∀l,H l=none→Q (.ref l) (upd H l (.lst ys))
noncomputable def kbm(K:Ni):List V→Hp→VK→Prop:=fun xs H Q=>∃p ys,xs=[.ref p]∧(SqL K H p ys∨SqT K H p ys)∧Q (.int ys.length) H
noncomputable def rSum(K:Ni):List V→Hp→VK→Prop:=fun xs H Q=>∃(p:Addr) (ns:List Int),xs=[.ref p]∧SqL K H p (ns.map V.int)∧Q (.int ns.sum) H
noncomputable def rIsi(K:Ni):List V→Hp→VK→Prop:=fun xs H Q=>∃x c t b,xs=[x,c]∧((∃n,c=.ty n)∨∃a,c=.ref a)∧TyOf K H x t∧NG K t (cV c)=some b∧Q (.bl b) H
section
variable {X:Cx} {K:Ni} {pos:Pos}
theorem kag{e:Expr}{ta:TE}{f:Str}(he:PE X e ta)(hb:attributeBase e f X.env (eval e X.env)=eval e X.env)(hK:X.K=K:=by rfl):PE X (.Attribute e f pos) (tFld K ta f):=by
 subst hK
 exact kmh he hb
theorem kaJ{tg l:Expr}{tl:TE}(hl:PE X l tl)(hK:X.K=K:=by rfl):PI X tg l (iList K tl):=by
 subst hK
 exact klL hl
theorem kbo{es:List Expr}{k:Nat}{t:TGs}{n:Nat}(hc:X.calm=true)(h:PGs X es t)(hK:X.K=K:=by rfl)
  (hn:(assignEach es X.env).length=n:=by rfl) (hst:(assignEach es X.env).findIdx? (·.1)=none:=by rfl):PG X (.Tuple es k pos) (gTup K n t):=by
 subst hK
 exact kmf hc h hn hst
end
end L2
namespace L2
open PySem PySem.Spec PyProof.Rows
inductive DEq (K:Ni) (H:Hp):Nat→V→V→Prop
 |flat {n:Nat} {x y:V} (fx:flatV x=true) (fy:flatV y=true) (e:eqV x y=true):DEq K H n x y
 |same {n:Nat} (a:Addr):DEq K H n (.ref a) (.ref a)
 |lst {n:Nat} {a b:Addr} {xs ys:List V} (ha:SqL K H a xs) (hb:SqL K H b ys) (hl:xs.length=ys.length) (h:∀(i:Nat) (x y:V),xs[i]?=some x→ys[i]?=some y→DEq K H n x y):DEq K H (n+1) (.ref a) (.ref b)
 |tup {n:Nat} {a b:Addr} {xs ys:List V} (ha:SqT K H a xs) (hb:SqT K H b ys) (hl:xs.length=ys.length) (h:∀(i:Nat) (x y:V),xs[i]?=some x→ys[i]?=some y→DEq K H n x y):DEq K H (n+1) (.ref a) (.ref b)
theorem DEq.self{K:Ni}{H:Hp}{n:Nat}{x:V}(h:flatV x=true):DEq K H n x x:=.flat h h (kh8 h)
theorem DEq.int{K:Ni}{H:Hp}{n:Nat}(i:Int):DEq K H n (.int i) (.int i):=.self rfl
theorem DEq.bl{K:Ni}{H:Hp}{n:Nat}(i:Bool):DEq K H n (.bl i) (.bl i):=.self rfl
theorem DEq.non{K:Ni}{H:Hp}{n:Nat}:DEq K H n .non .non:=.self rfl
theorem DEq.str{K:Ni}{H:Hp}{n:Nat}(i:Str):DEq K H n (.str i) (.str i):=.self rfl
section
variable {X:Cx}
end
noncomputable def Itz(a b:Addr):It:=⟨fun i H=>∃xs ys x y,H a=some (.lst xs)∧H b=some (.lst ys)∧xs[i]?=some x∧ys[i]?=some y,
 fun i H v H'=>∃t x y,H t=none∧v=.ref t∧H'=upd H t (.tup [x,y])∧(∀xs,H a=some (.lst xs)→xs[i]?=some x)∧∀ys,H b=some (.lst ys)→ys[i]?=some y,
 fun i H=>∃xs ys,H a=some (.lst xs)∧H b=some (.lst ys)∧(xs.length≤i∨ys.length≤i)⟩
theorem kke{P:Program}{w:World}{K:Ni}{es:List Expr}{k:Nat}{pos:Pos}(a b z TI TO i1 i2:Addr)(nd:[z,TI,TO,i1,i2].Nodup):
  Turn P w K (.Tuple es k pos) (Itz a b) [z,TI,TO,i1,i2] z (fun i h=>IsZip h z TI TO .none∧IsPair h TI (.ref i1) (.ref i2)∧(∃u v,IsPair h TO u v)∧h.IsListIter i1 a i∧h.IsListIter i2 b i) where
 mem:=by simp
 obj:=fun i h st b hb=>by
  obtain⟨hz,hI,⟨_,_,hO⟩,⟨o1,e1,_,d1⟩,⟨o2,e2,_,d2⟩⟩:=st
  simp only[NI,Mj,or_false] at hb
  rcases hb with rfl|rfl|rfl|rfl|rfl
  ·exact⟨_,hz,fun v q=>by cases(show Data.fields _=Data.cell v from q)⟩
  ·exact⟨_,hI,fun v q=>by cases(show Data.seq _ _=Data.cell v from q)⟩
  ·exact⟨_,hO,fun v q=>by cases(show Data.seq _ _=Data.cell v from q)⟩
  ·exact⟨o1,e1,fun v q=>by rw[d1] at q;cases q⟩
  ·exact⟨o2,e2,fun v q=>by rw[d2] at q;cases q⟩
 keep:=fun i h h' st kk=>by
  obtain⟨hz,hI,⟨u,v,hO⟩,h1,h2⟩:=st
  exact⟨kk z (by simp) _ hz,kk TI (by simp) _ hI,⟨u,v,kk TO (by simp) _ hO⟩,h1.at fun o e=>kk i1 (by simp) o e,h2.at fun o e=>kk i2 (by simp) o e⟩
 item:=by
  intro X hP hw hK hc i pins s σ H E I hf st hg
  subst hP hw hK
  obtain⟨hz,hI,⟨u,v,hO⟩,h1,h2⟩:=st
  obtain⟨xs,ys,x,y,ha,hb,hx,hy⟩:=hg
  obtain⟨its1,n1,r1,ho1,_⟩:=I.lst ha
  obtain⟨its2,n2,r2,ho2,_⟩:=I.lst hb
  obtain⟨u1,g1,ru1⟩:=r1.get hx
  obtain⟨u2,g2,ru2⟩:=r2.get hy
  have L1:s.heap.IsList a its1.toArray:=⟨_,ho1,rfl,n1,rfl⟩
  have L2':s.heap.IsList b its2.toArray:=⟨_,ho2,rfl,n2,rfl⟩
  have off:∀{l:Addr} {zs:List V},H l=some (.lst zs)→l∉[z,TI,TO,i1,i2]:=fun {l zs} e m=>by
   have:=(hf l m).1
   rw[this] at e
   cases e
  have oa:=off ha
  have ob:=off hb
  have nd':=nd
  simp only[Mp,NI,Mj,or_false,not_or,ER,and_true,not_false_eq_true] at nd' oa ob
  obtain⟨⟨nzI,nzO,nz1,nz2⟩,⟨nIO,nI1,nI2⟩,⟨nO1,nO2⟩,n12⟩:=nd'
  have D:ZipApart z TI TO i1 i2 a b:=⟨Ne.symm nzI,Ne.symm nzO,Ne.symm nz1,Ne.symm nz2,nIO,nI1,nI2,nO1,nO2,n12,oa.1,oa.2.2.1,oa.2.2.2.1,oa.2.2.2.2,ob.1,ob.2.2.1,ob.2.2.2.1,ob.2.2.2.2⟩
  refine wpAny_pyNext_zip_item D hz hI hO h1 h2 L1 L2' (x:=u1) (y:=u2) (by simpa using g1) (by simpa using g2) fun h' a1 a2 a3 a4 a5 a6 a7=>?_
  refine⟨.ref s.heap.objs.size,rfl,wpAny_letOwnedTupleGo_zip a1 fun h2' z2 s2=>?_⟩
  have s2':Heap.SameBut z h' h2':=s2
  have zl:z<s.heap.objs.size:=Heap.lt_size hz
  have kk:∀b o,b∉[z,TI,TO,i1,i2]→s.heap.get? b=some o→h2'.get? b=some o:=fun b o hb eo=>by
   simp only[NI,Mj,or_false,not_or] at hb
   exact(s2'.2 b hb.1).trans (a7 b o hb.1 hb.2.2.1 hb.2.2.2.1 hb.2.2.2.2 eo)
  have I1:Inv X pins σ H {s with heap:=h2',toks:=s.toks}:=I.turnedL (ch:=[z,TI,TO,i1,i2]) kk hf
  have fr:H s.heap.objs.size=none:=I.hok.fresh (Nj _)
  have ft:FpOk X pins H s.heap.objs.size:=I.fpOk (Nj _) fr
  have t2:h2'.get? s.heap.objs.size=some {cls:=.type "tuple",data:=.seq #[u1,u2]}:=(s2'.2 _ (Mn zl)).trans a5
  have I2:Inv X pins σ (upd H s.heap.objs.size (.tup [x,y])) {s with heap:=h2',toks:=s.toks}:=
   I1.adopt ft I.sz ⟨by show 2≤sizeLine;decide,[u1,u2], .cons ru1 (.cons ru2 .nil),_,t2,rfl,_,rfl⟩
  have hI2:IsPair h2' TI (.ref i1) (.ref i2):=(s2'.2 _ (Ne.symm nzI)).trans (a7 TI _ (Ne.symm nzI) nIO nI1 nI2 hI)
  refine⟨.ref s.heap.objs.size,_,I2,rfl,⟨s.heap.objs.size,x,y,fr,rfl,rfl,fun ws e=>by rw[ha] at e;cases e;exact hx,fun ws e=>by rw[hb] at e;cases e;exact hy⟩,
   ⟨z2,hI2,⟨_,_,(s2'.2 _ (Ne.symm nzO)).trans a2⟩,a3.extBut s2'.extBut (Ne.symm nz1),a4.extBut s2'.extBut (Ne.symm nz2)⟩,fun b hb=>?_⟩
  have hbl:b<s.heap.objs.size:=by
   simp only[NI,Mj,or_false] at hb
   rcases hb with rfl|rfl|rfl|rfl|rfl
   ·exact zl
   ·exact Heap.lt_size hI
   ·exact Heap.lt_size hO
   ·obtain⟨o,e,_⟩:=h1;exact Heap.lt_size e
   ·obtain⟨o,e,_⟩:=h2;exact Heap.lt_size e
  rw[kam (NP hbl)]
  exact(hf b hb).1
 done:=by
  intro X hP hw hK hc i pins s σ H E I hf st hg
  subst hP hw hK
  obtain⟨hz,hI,⟨u,v,hO⟩,h1,h2⟩:=st
  obtain⟨xs,ys,ha,hb,hx⟩:=hg
  obtain⟨its1,n1,r1,ho1,_⟩:=I.lst ha
  obtain⟨its2,n2,r2,ho2,_⟩:=I.lst hb
  have L1:s.heap.IsList a its1.toArray:=⟨_,ho1,rfl,n1,rfl⟩
  have L2':s.heap.IsList b its2.toArray:=⟨_,ho2,rfl,n2,rfl⟩
  have hlen1:=r1.length
  have hlen2:=r2.length
  have off:∀{l:Addr} {zs:List V},H l=some (.lst zs)→l∉[z,TI,TO,i1,i2]:=fun {l zs} e m=>by
   have:=(hf l m).1
   rw[this] at e
   cases e
  have oa:=off ha
  have ob:=off hb
  have nd':=nd
  simp only[Mp,NI,Mj,or_false,not_or,ER,and_true,not_false_eq_true] at nd' oa ob
  obtain⟨⟨nzI,nzO,nz1,nz2⟩,⟨nIO,nI1,nI2⟩,⟨nO1,nO2⟩,n12⟩:=nd'
  have D:ZipApart z TI TO i1 i2 a b:=⟨Ne.symm nzI,Ne.symm nzO,Ne.symm nz1,Ne.symm nz2,nIO,nI1,nI2,nO1,nO2,n12,oa.1,oa.2.2.1,oa.2.2.2.1,oa.2.2.2.2,ob.1,ob.2.2.1,ob.2.2.2.1,ob.2.2.2.2⟩
  refine wpAny_pyNext_zip_end (I.ok.hd hc) D hz hI hO h1 h2 L1 L2' ?_ fun h' hk=>⟨rfl,?_⟩
  ·rcases hx with hx|hx
   ·exact .inl (by simp;omega)
   ·exact .inr (by simp;omega)
  ·refine I.turnedL (t':=s.toks) (ch:=[z,TI,TO,i1,i2]) (fun b o hb e=>?_) hf
   simp only[NI,Mj,or_false,not_or] at hb
   exact hk b o hb.1 hb.2.2.1 hb.2.2.2.1 hb.2.2.2.2 e
 self:=fun _ _ _ _ _ st h=>wpAny_pyIter_zip st.1 h
theorem klZ(n:Nat):([n+4,n+2,n+3,n,n+1]:List Nat).Nodup:=by
 simp only[Mp,NI,Mj,or_false,not_or,ER,and_true,not_false_eq_true]
 omega
theorem kl0{n x:Nat}(h:x∈([n+4,n+2,n+3,n,n+1]:List Nat)):n≤x:=by
 simp only[NI,Mj,or_false] at h
 omega
section
variable {X:Cx}
noncomputable def iZip(ta:TA):TI:=fun σ H R=>ta σ H fun vs H1=>∃a b xs ys,vs=[.ref a, .ref b]∧H1 a=some (.lst xs)∧H1 b=some (.lst ys)∧R (Itz a b) H1
theorem kmz:bootBuiltins "zip"=some (.type "zip"):=by decide +kernel
theorem kdo{es:List Expr}{k:Nat}{tpos:Pos}{e1 e2:Expr}{ta:TA}{p pos:Pos}(hg:Gl X "zip")(hm:X.mg "zip"=none)(ha:PA X [e1,e2] ta)(he:starEach [e1,e2] X.env=(false,eval e1 X.env)::starEach [e2] X.env:=by rfl)
  (hpl:(backTo pos (starEach [e2] X.env)).any (·.1)=false:=by rfl):PI X (.Tuple es k tpos) (.Call (.Name "zip" p) [e1,e2] [] pos) (iZip ta):=by
 intro pins s σ H R I h
 refine Call_ (kdC I hg hm kmz (PyProof.Rows.callWith_type1 (thn (ha pos pins s σ H _ I h) fun us s1 ⟨vs,H1,I1,r1,q1⟩=>?_) he hpl))
 obtain⟨a,b,xs,ys,rfl,qa,qb,q⟩:=q1
 cases r1 with
 | cons ra rr=>
  cases rr with
  |cons rb rr=>
   cases rr
   cases ra
   cases rb
   obtain⟨its1,n1,_,ho1,_⟩:=I1.lst qa
   obtain⟨its2,n2,_,ho2,_⟩:=I1.lst qb
   refine call_zip_2 (xs:=its1.toArray) (ys:=its2.toArray) ⟨_,ho1,rfl,n1,rfl⟩ ⟨_,ho2,rfl,n2,rfl⟩ fun h' b1 b2 b3 b4 b5 _ hk=>wpAny_pyIter_zip b1 ?_
   have I2:Inv X pins σ H1 {s1 with heap:=h'}:=I1.kept (t':=s1.toks) hk
   refine⟨s1.heap.objs.size+4,[s1.heap.objs.size+4,s1.heap.objs.size+2,s1.heap.objs.size+3,s1.heap.objs.size,s1.heap.objs.size+1],_,_,H1,rfl,I2,kke a b _ _ _ _ _ (klZ _),⟨b1,b2,⟨_,_,b3⟩,b4,b5⟩,fun x hx=>?_,q⟩
   have hle:s1.heap.objs.size≤x:=kl0 hx
   exact I1.fpOk hle (I1.hok.fresh hle)
end
theorem khj{a b:Addr}{xs ys:List V}{g:TG}{tb:TS}{D:Ends}{σ:St}{H:Hp}(Pv:Nat→St→Hp→Prop)(h0:Pv 0 σ H)(hl:∀i σ H,i≤min xs.length ys.length→Pv i σ H→H a=some (.lst xs)∧H b=some (.lst ys))
  (hs:∀i x y t σ H,xs[i]?=some x→ys[i]?=some y→Pv i σ H→H t=none→g (.ref t) σ (upd H t (.tup [x,y])) fun σ2 H2=>tb {D with nx:=Pv (i+1),ct:=Pv (i+1),bk:=D.nx} σ2 H2) (hd:∀σ H,Pv (min xs.length ys.length) σ H→D.nx σ H):
  ∃W:Nat→Nat→St→Hp→Prop,(∃m,W 0 m σ H)∧∀i m σ H,W i m σ H→
   ((Itz a b).stop i H∧D.nx σ H)∨((Itz a b).go i H∧∃N:St→Hp→Prop,(∀σ' H',N σ' H'→∃m',m'<m∧W (i+1) m' σ' H')∧∀x H',(Itz a b).yld i H x H'→g x σ H' fun σ2 H2=>tb {D with nx:=N,ct:=N,bk:=D.nx} σ2 H2):=by
 refine⟨fun i m σ H=>m=min xs.length ys.length-i∧i≤min xs.length ys.length∧Pv i σ H,⟨min xs.length ys.length,by simp,N6 _,h0⟩,?_⟩
 rintro i m σ H ⟨rfl,hi,p⟩
 obtain⟨q1,q2⟩:=hl i σ H hi p
 by_cases hlt:i<min xs.length ys.length
 ·refine .inr ⟨⟨xs,ys,xs[i]'(by omega),ys[i]'(by omega),q1,q2,by simp[show i<xs.length by omega],by simp[show i<ys.length by omega]⟩,Pv (i+1),fun σ' H' p'=>⟨min xs.length ys.length-(i+1),by omega,rfl,hlt,p'⟩,fun x H' y=>?_⟩
  obtain⟨t,x,y,hn,rfl,rfl,h1,h2⟩:=y
  exact hs i x y t σ _ (h1 _ q1) (h2 _ q2) p hn
 ·have e:i=min xs.length ys.length:=by omega
  refine .inl ⟨⟨xs,ys,q1,q2,by omega⟩,?_⟩
  rw[e] at p
  exact hd σ H p
theorem ker{a b:Addr}{xs ys:List V}{g:TG}{te:TE}{σ:St}{H:Hp}{R:List V→Hp→Addr→Prop}(Pv:Nat→St→List V→Hp→Prop)(h0:Pv 0 σ [] H)(hz:min xs.length ys.length≤sizeLine)(hl:∀i σ zs H,i≤min xs.length ys.length→Pv i σ zs H→H a=some (.lst xs)∧H b=some (.lst ys)∧zs.length=i)
  (hs:∀i x y t σ zs H,xs[i]?=some x→ys[i]?=some y→Pv i σ zs H→H t=none→g (.ref t) σ (upd H t (.tup [x,y])) fun σ2 H2=>te σ2 H2 fun z H3=>Pv (i+1) σ2 (zs++[z]) H3) (hd:∀σ zs H,Pv (min xs.length ys.length) σ zs H→∀D,H D=none→R zs H D):
  ∃ W:Nat→Nat→St→List V→Hp→Prop,(∃m,W 0 m σ [] H)∧∀i m σ' zs H',W i m σ' zs H'→
   ((Itz a b).stop i H'∧∀D,H' D=none→R zs H' D)∨((Itz a b).go i H'∧zs.length<sizeLine∧∃N:St→V→Hp→Prop,(∀σ2 y H4,N σ2 y H4→∃m',m'<m∧W (i+1) m' σ2 (zs++[y]) H4)∧
    ∀x H2,(Itz a b).yld i H' x H2→g x σ' H2 fun σ2 H3=>te σ2 H3 (N σ2)):=by
 refine⟨fun i m σ zs H=>m=min xs.length ys.length-i∧i≤min xs.length ys.length∧Pv i σ zs H,⟨min xs.length ys.length,by simp,N6 _,h0⟩,?_⟩
 rintro i m σ zs H ⟨rfl,hi,p⟩
 obtain⟨q1,q2,el⟩:=hl i σ zs H hi p
 by_cases hlt:i<min xs.length ys.length
 ·refine .inr ⟨⟨xs,ys,xs[i]'(by omega),ys[i]'(by omega),q1,q2,by simp[show i<xs.length by omega],by simp[show i<ys.length by omega]⟩,by omega,fun σ2 y H3=>Pv (i+1) σ2 (zs++[y]) H3,fun σ' y H' p'=>⟨min xs.length ys.length-(i+1),by omega,rfl,hlt,p'⟩,fun x H' yl=>?_⟩
  obtain⟨t,x,y,hn,rfl,rfl,h1,h2⟩:=yl
  exact hs i x y t σ zs _ (h1 _ q1) (h2 _ q2) p hn
 ·have e:i=min xs.length ys.length:=by omega
  refine .inl ⟨⟨xs,ys,q1,q2,by omega⟩,?_⟩
  rw[e] at p
  exact hd σ zs H p
end L2
namespace L2
open PySem PySem.Spec PyProof.Rows
section
variable {g:TG} {tt:TT} {te:TE} {σ:St} {H:Hp} {R:List V→Hp→Addr→Prop}
theorem kf5{J:It}{n:Nat}(Pv:Nat→St→List V→Hp→Prop)(h0:Pv 0 σ [] H)(hz:n≤sizeLine)(hl:∀i σ ys H,i≤n→Pv i σ ys H→ys.length≤i)(hgo:∀i σ ys H,i<n→Pv i σ ys H→J.go i H)(hst:∀σ ys H,Pv n σ ys H→J.stop n H)
  (hs:∀i σ ys H x H',i<n→Pv i σ ys H→J.yld i H x H'→g x σ H' fun σ2 H2=>tt σ2 H2 fun b H3=>if b=true then te σ2 H3 (fun y H4=>Pv (i+1) σ2 (ys++[y]) H4) else Pv (i+1) σ2 ys H3) (hd:∀σ ys H,Pv n σ ys H→∀D,H D=none→R ys H D):
  ∃ W:Nat→Nat→St→List V→Hp→Prop,(∃m,W 0 m σ [] H)∧∀i m σ' ys H',W i m σ' ys H'→
   (J.stop i H'∧∀D,H' D=none→R ys H' D)∨(J.go i H'∧ys.length<sizeLine∧∃(N:St→V→Hp→Prop) (N0:St→Hp→Prop),(∀σ2 y H4,N σ2 y H4→∃m',m'<m∧W (i+1) m' σ2 (ys++[y]) H4)∧(∀σ2 H4,N0 σ2 H4→∃m',m'<m∧W (i+1) m' σ2 ys H4)∧
    ∀x H2,J.yld i H' x H2→g x σ' H2 fun σ2 H3=>tt σ2 H3 fun b H4=>if b=true then te σ2 H4 (N σ2) else N0 σ2 H4):=by
 refine⟨fun i m σ ys H=>m=n-i∧i≤n∧Pv i σ ys H,⟨n,by simp,N6 _,h0⟩,?_⟩
 rintro i m σ ys H ⟨rfl,hi,p⟩
 have el:=hl i σ ys H hi p
 by_cases hlt:i<n
 ·refine .inr ⟨hgo i σ ys H hlt p,by omega,fun σ2 y H3=>Pv (i+1) σ2 (ys++[y]) H3,fun σ2 H3=>Pv (i+1) σ2 ys H3,fun σ' y H' p'=>⟨n-(i+1),by omega,rfl,hlt,p'⟩,fun σ' H' p'=>⟨n-(i+1),by omega,rfl,hlt,p'⟩,fun x H' yl=>?_⟩
  exact hs i σ ys H x H' hlt p yl
 ·have e:i=n:=by omega
  subst e
  exact .inl ⟨hst σ ys H p,hd σ ys H p⟩
theorem khn{lo:Int}{n:Nat}(Pv:Nat→St→List V→Hp→Prop)(h0:Pv 0 σ [] H)(hz:n≤sizeLine)(hl:∀i σ ys H,i≤n→Pv i σ ys H→ys.length≤i)
  (hs:∀i σ ys H,i<n→Pv i σ ys H→g (.int (lo+i)) σ H fun σ2 H2=>tt σ2 H2 fun b H3=>if b=true then te σ2 H3 (fun y H4=>Pv (i+1) σ2 (ys++[y]) H4) else Pv (i+1) σ2 ys H3) (hd:∀σ ys H,Pv n σ ys H→∀D,H D=none→R ys H D):
  ∃ W:Nat→Nat→St→List V→Hp→Prop,(∃m,W 0 m σ [] H)∧∀i m σ' ys H',W i m σ' ys H'→
   ((Itr lo n).stop i H'∧∀D,H' D=none→R ys H' D)∨((Itr lo n).go i H'∧ys.length<sizeLine∧∃(N:St→V→Hp→Prop) (N0:St→Hp→Prop),(∀σ2 y H4,N σ2 y H4→∃m',m'<m∧W (i+1) m' σ2 (ys++[y]) H4)∧(∀σ2 H4,N0 σ2 H4→∃m',m'<m∧W (i+1) m' σ2 ys H4)∧
    ∀x H2,(Itr lo n).yld i H' x H2→g x σ' H2 fun σ2 H3=>tt σ2 H3 fun b H4=>if b=true then te σ2 H4 (N σ2) else N0 σ2 H4):=
 kf5 Pv h0 hz hl (fun _ _ _ _ hi _=>hi) (fun _ _ _ _=>Nj _) (fun i σ ys H x H' hi p yl=>by
  obtain⟨e,q⟩:=yl
  subst e q
  exact hs i σ ys _ hi p) hd
theorem kiu{a:Addr}{xs:List V}(Pv:Nat→St→List V→Hp→Prop)(h0:Pv 0 σ [] H)(hz:xs.length≤sizeLine)(hl:∀i σ ys H,i≤xs.length→Pv i σ ys H→H a=some (.lst xs)∧ys.length≤i)
  (hs:∀i y t σ ys H,xs[i]?=some y→Pv i σ ys H→H t=none→g (.ref t) σ (upd H t (.tup [.int (i:Nat),y])) fun σ2 H2=>tt σ2 H2 fun b H3=>if b=true then te σ2 H3 (fun y H4=>Pv (i+1) σ2 (ys++[y]) H4) else Pv (i+1) σ2 ys H3) (hd:∀σ ys H,Pv xs.length σ ys H→∀D,H D=none→R ys H D):
  ∃ W:Nat→Nat→St→List V→Hp→Prop,(∃m,W 0 m σ [] H)∧∀i m σ' ys H',W i m σ' ys H'→
   ((Ite a).stop i H'∧∀D,H' D=none→R ys H' D)∨((Ite a).go i H'∧ys.length<sizeLine∧∃(N:St→V→Hp→Prop) (N0:St→Hp→Prop),(∀σ2 y H4,N σ2 y H4→∃m',m'<m∧W (i+1) m' σ2 (ys++[y]) H4)∧(∀σ2 H4,N0 σ2 H4→∃m',m'<m∧W (i+1) m' σ2 ys H4)∧
    ∀x H2,(Ite a).yld i H' x H2→g x σ' H2 fun σ2 H3=>tt σ2 H3 fun b H4=>if b=true then te σ2 H4 (N σ2) else N0 σ2 H4):=
 kf5 Pv h0 hz (fun i σ ys H hi p=>(hl i σ ys H hi p).2) (fun i σ ys H hi p=>⟨xs,xs[i],(hl i σ ys H (Nw hi) p).1,by simp[hi]⟩) (fun σ ys H p=>⟨xs,(hl _ σ ys H (Nj _) p).1,Nj _⟩)
  (fun i σ ys H x H' hi p yl=>by
   obtain⟨t,y,hn,rfl,rfl,hy⟩:=yl
   exact hs i y t σ ys _ (hy xs (hl i σ ys _ (Nw hi) p).1) p hn) hd
end
section
variable {X:Cx}
noncomputable def isI(k:Int):Value→Bool
 | .int a _=>a==k
 |_=>false
theorem kgG:∀{ns:List Int} {us:List Value},Vals (ns.map V.int) us→∀(j:Nat) (n:Int),ns[j]?=some n→∃t,us[j]?=some (.int n t)
 |[],_,_,j,n,e=>by simp at e
 | m::ns,u::us, .cons r t,j,n,e=>by
  cases j with
  |zero=>
   have e':m=n:=by simpa using e
   subst e'
   obtain⟨t,rfl⟩:=r
   exact⟨t,rfl⟩
  |succ j=>
   obtain⟨q,h⟩:=kgG t j n (by simpa using e)
   exact⟨q,by simpa using h⟩
end
end L2
namespace L2
open PySem PySem.Spec PyProof.Rows
structure BaseT (K:Ni) (C:Addr) (m:Str) (f:Addr):Prop where
 rd:PySem.W.readsIn K C (.type "type")=true
 ga:M0 K (.ref C) "__getattribute__"=some (some (.builtin "type.__getattribute__"))
 fc:PySem.W.findCls K (.ref C) (.type "type") m=some (.val (.ref f))
section
variable {X:Cx} {CX:CXT} {k:Nat} {f C:Addr} {fd:FuncData} {ps:List Str} {sp:Sp} {dvs:List V} {ds:List Value} {E:XK} {x m:Str} {p pos apos:Pos} {e o:Expr} {es:List Expr} {ta:TE} {t:TA}
theorem keG{pl:Sem Bool}(B:BaseT X.K C m f)(F:FnOk X.prog X.w X.K X.mg X.base CX k f fd ps sp)(hr:Room k X.A)(hg:Gl X x)(hm:X.mg x=some (.ref C))(hk:NB X.K (.ref f)=true)(hb:Binds X.K fd ps ds)(hd:Vals dvs ds)(hx:kdJ CX X E)
  (ha:PA X (e::es) t) (hdb:(x==("__debug__" :Str))=false:=by decide)
  (hst:starEach (e::es) X.env=(false,eval e X.env)::starEach es X.env:=by rfl) (hpl:(backTo pos (starEach es X.env)).any (·.1)=false:=by rfl)
  (ht:eval (.Call (.Attribute (.Name x p) m apos) (e::es) [] pos) X.env=(do
   let ov ←eval (.Name x p) X.env
   standAt apos.atName
   let(f,first) ←holding [ov] (getMethod ov m pl)
   callWith pos f first (backTo pos (starEach (e::es) X.env)) (backToKw pos (keywordEach [] X.env))):=by rfl):
  PE X (.Call (.Attribute (.Name x p) m apos) (e::es) [] pos) (tCall sp dvs E t):=by
 intro pins s σ H Q I h
 refine EJ (pl:=pl) (thn (kdT (v:=.ref C) hg hm rfl hdb pins s σ H (fun y H1=>y=.ref C∧H1=H) I ⟨rfl,rfl⟩) fun u s1 ⟨y,H1,I1,ry,ey,eH⟩=>?_) ht
 subst ey eH
 obtain rfl:u=Value.ref C:=ry
 refine PySem.W.method_cls I1.kIn B.ga (PySem.W.cls_value I1.kIn B.rd B.fc rfl ?_)
 have I2:=I1.tok (s1.toks+1)
 refine Ei (h₀:=X.base) I.ok.mod.kin hk (thn (ha pos pins _ σ H1 _ I2 h) fun us s2 ⟨vs,H2,I3,r,q2⟩=>⟨I3.kIn,?_⟩) hst hpl
 exact khJ F hr hb hd hx I3 r q2
end
theorem khh{n j:Nat}(h:j<n):ixN n (j:Int)=some j:=by
 unfold ixN
 rw[if_pos (by omega),if_pos (by omega)]
 simp
section
variable {X:Cx}
end
section
variable {X:Cx}
noncomputable def kmv(ta:TA):TI:=fun σ H R=>ta σ H fun vs H1=>∃i j k:Int,vs=[.int i, .int j, .int k]∧(-(2 ^ 31)≤i∧i<2 ^ 31)∧(-(2 ^ 31)≤j∧j<2 ^ 31)∧0<k∧k<2 ^ 30∧R (Its i k (Builtin.Range.rangeSize i j k).toNat) H1
theorem kii{tg a b c:Expr}{ta:TA}{p pos:Pos}(hg:Gl X "range")(hm:X.mg "range"=none)(ha:PA X [a,b,c] ta)(he:starEach [a,b,c] X.env=(false,eval a X.env)::starEach [b,c] X.env:=by rfl)
  (hpl:(backTo pos (starEach [b,c] X.env)).any (·.1)=false:=by rfl):PI X tg (.Call (.Name "range" p) [a,b,c] [] pos) (kmv ta):=by
 intro pins s σ H R I h
 refine Call_ (kdC I hg hm boot_range (PyProof.Rows.callWith_type1 (thn (ha pos pins s σ H _ I h) fun us s1 ⟨vs,H1,I1,r1,q1⟩=>?_) he hpl))
 obtain⟨i,j,k,e,hi,hj,hk,hk2,q⟩:=q1
 subst e
 cases r1 with
 | cons r rr=>
  cases rr with
  | cons r' rr=>
   cases rr with
   | cons r'' rr=>
    cases rr
    obtain⟨t,rfl⟩:=r
    obtain⟨t',rfl⟩:=r'
    obtain⟨t'',rfl⟩:=r''
    refine call_range_3 (by omega) ?_ (.inl (PyProof.noPylong_small (by omega)))
    refine wpAny_pyIter_range (IsRange.new ..) (kig hk hk2 hi hj) ?_
    have I2:Inv X pins σ H1 {s1 with heap:=s1.heap.push {cls:=.type "range",data:=.fields #[.int i t, .int j t', .int k t'']},toks:=s1.toks}:=I1.kept fun b o e=>Heap.get?_push_of_some _ e
    have hn:=kgm hk hi hj
    refine⟨(s1.heap.push {cls:=.type "range",data:=.fields #[.int i t, .int j t', .int k t'']}).objs.size,[(s1.heap.push {cls:=.type "range",data:=.fields #[.int i t, .int j t', .int k t'']}).objs.size],_,_,H1,rfl,
     I2.kept (t':=s1.toks) fun b o e=>Heap.get?_push_of_some _ e,kiC _ i k (Builtin.Range.rangeSize i j k).toNat,?_,fun b hb=>?_,q⟩
    ·have e1:i+((0:Nat):Int)*k=i:=by simp
     have e2:(((Builtin.Range.rangeSize i j k).toNat:Nat):Int)-((0:Nat):Int)=Builtin.Range.rangeSize i j k:=by omega
     show IsRangeIter _ _ (i+((0:Nat):Int)*k) ((((Builtin.Range.rangeSize i j k).toNat:Nat):Int)-((0:Nat):Int)) k
     rw[e1,e2]
     exact Heap.get?_push_size _ rfl
    ·have e:b=(s1.heap.push {cls:=.type "range",data:=.fields #[.int i t, .int j t', .int k t'']}).objs.size:=by simpa using hb
     subst e
     exact I2.fpOk (Nj _) (I2.hok.fresh (Nj _))
end
section
variable {g:TG} {te:TE} {σ:St} {H:Hp} {R:List V→Hp→Addr→Prop}
theorem kj2{lo st:Int}{n:Nat}(Pv:Nat→St→List V→Hp→Prop)(h0:Pv 0 σ [] H)(hz:n≤sizeLine)(hl:∀i σ ys H,i≤n→Pv i σ ys H→ys.length=i)
  (hs:∀i σ ys H,i<n→Pv i σ ys H→g (.int (lo+i*st)) σ H fun σ2 H2=>te σ2 H2 fun y H3=>Pv (i+1) σ2 (ys++[y]) H3) (hd:∀σ ys H,Pv n σ ys H→∀D,H D=none→R ys H D):
  ∃ W:Nat→Nat→St→List V→Hp→Prop,(∃m,W 0 m σ [] H)∧∀i m σ' ys H',W i m σ' ys H'→
   ((Its lo st n).stop i H'∧∀D,H' D=none→R ys H' D)∨((Its lo st n).go i H'∧ys.length<sizeLine∧∃N:St→V→Hp→Prop,(∀σ2 y H4,N σ2 y H4→∃m',m'<m∧W (i+1) m' σ2 (ys++[y]) H4)∧
    ∀x H2,(Its lo st n).yld i H' x H2→g x σ' H2 fun σ2 H3=>te σ2 H3 (N σ2)):=by
 refine⟨fun i m σ ys H=>m=n-i∧i≤n∧Pv i σ ys H,⟨n,by simp,N6 _,h0⟩,?_⟩
 rintro i m σ ys H ⟨rfl,hi,p⟩
 have el:=hl i σ ys H hi p
 by_cases hlt:i<n
 ·refine .inr ⟨hlt,by omega,fun σ2 y H3=>Pv (i+1) σ2 (ys++[y]) H3,fun σ' y H' p'=>⟨n-(i+1),by omega,rfl,hlt,p'⟩,fun x H' yl=>?_⟩
  obtain⟨e,yl⟩:=yl
  subst e yl
  exact hs i σ ys _ hlt p
 ·have e:i=n:=by omega
  subst e
  exact .inl ⟨Nj _,hd σ ys H p⟩
end
theorem kgZ{L m:Nat}(hm:0<m):(Builtin.Range.rangeSize 0 ((L:Int)-(m:Int)+1) (m:Int)).toNat=L/m:=by
 unfold Builtin.Range.rangeSize
 rw[if_pos (by omega)]
 by_cases h:m≤L
 ·rw[if_pos (by omega),show(L:Int)-(m:Int)+1-0-1=((L-m:Nat):Int) by omega,←Int.natCast_ediv,Nat.div_eq_sub_div hm h]
  generalize (L-m)/m=q
  omega
 ·rw[if_neg (by omega),Nat.div_eq_of_lt (by omega)]
  rfl
end L2
namespace L2
open PySem PySem.Spec PyProof.Rows
inductive Src where
 |p (i:Nat)
 |k (j:Nat)
 |d (v:Value) (x:V)
noncomputable def Src.val(us ws:List Value):Src→Value
 | .p i=>us.getD i .none
 | .k j=>ws.getD j .none
 | .d v _=>v
noncomputable def Src.abs(vs zs:List V):Src→V
 | .p i=>vs.getD i .non
 | .k j=>zs.getD j .non
 | .d _ x=>x
noncomputable def Src.Ok:Src→Prop
 | .d v x=>RelV x v
 |_=>True
section
variable {X:Cx} {CX:CXT} {k:Nat} {f C:Addr} {fd:FuncData} {ps ks:List Str} {sp:Sp} {E:XK} {x:Str} {p pos:Pos} {kws:List Keyword} {tk:TA} {g:List Value→List Value→List Value} {gV:List V→List V→List V}
end
end L2
namespace L2
open PySem PySem.Spec PyProof.Rows
noncomputable def atK(kvs:List (Key×V))(k:Key):Option V:=(kvs.find? fun p=>decide (p.1=k)).map Prod.snd
theorem khp:∀{kvs:List (Key×V)} {vs:List (Key×Value)},KV kvs vs→∀k,RelO (atK kvs k) (valueAt vs k)
 |_,_, .nil,_=>True.intro
 | p::ps,q::qs, .cons h t,k=>by
  obtain⟨h1,h2⟩:=h
  have ih:=khp t k
  unfold atK valueAt at *
  by_cases e:p.1=k
  ·have e':q.1=k:=h1.symm.trans e
   simp only[M7,e,e',decide_true,En]
   exact h2
  ·have e':¬q.1=k:=fun z=>e (h1.trans z)
   simp only[M7,e,e',decide_false]
   exact ih
theorem kvAny:∀{kvs:List (Key×V)} {vs:List (Key×Value)},KV kvs vs→∀k:Key,atK kvs k=none→(vs.any fun p=>decide (p.1=k))=false
 |_,_, .nil,_,_=>rfl
 | p::ps,q::qs, .cons h t,k,hn=>by
  obtain⟨h1,h2⟩:=h
  unfold atK at hn
  by_cases e:p.1=k
  ·simp[M7,e] at hn
  ·have e':¬q.1=k:=fun z=>e (h1.trans z)
   rw[MJ,decide_eq_false e',Bool.false_or]
   refine kvAny t k ?_
   unfold atK
   simpa[M7,e] using hn
theorem klh:∀{kvs:List (Key×V)} {vs:List (Key×Value)},KV kvs vs→∀{k:Key} {y:V} {u:Value},RelV y u→KV (kvs++[(k,y)]) (vs++[(k,u)])
 |_,_, .nil,_,_,_,r=>.cons ⟨rfl,r⟩ .nil
 |_,_, .cons h t,_,_,_,r=>.cons h (klh t r)
theorem kvLen:∀{kvs:List (Key×V)} {vs:List (Key×Value)},KV kvs vs→kvs.length=vs.length
 |_,_, .nil=>rfl
 |_,_, .cons _ t=>by rw[NQ,NQ,kvLen t]
theorem klg:∀{kvs:List (Key×V)} {vs:List (Key×Value)},KV kvs vs→Vals (kvs.map Prod.snd) (vs.map Prod.snd)
 |_,_, .nil=>.nil
 |_,_, .cons h t=>.cons h.2 (klg t)
section
variable {X:Cx}
noncomputable def kl9:TE:=fun _ H Q=>∀p,H p=none→Q (.ref p) (upd H p (.dK []))
theorem kko{pos:Pos}:PE X (.Dict [] [] pos) kl9:=fun pins s σ H Q I h=>
 have big:sysModules<s.heap.objs.size:=Nat.lt_trans (by decide) (show mainGlobals<s.heap.objs.size from(I.mod.glob.keeps I.bk).lt)
 wpAny_Dict_empty ⟨.ref s.heap.objs.size,_,I.laid (a:=s.heap.objs.size) (o:=.dK []) (t':=s.toks) (fun _ _ q=>Heap.get?_push_of_some _ q) (Nj _)
  (show ObjOk X.prog X.w _ _ _ (.dK []) from⟨N6 _,beq_eq_false_iff_ne.mpr (Ne.symm (NP big)),[], .nil,Heap.DictOf.new _⟩),rfl,h _ (I.hok.fresh (Nj _))⟩
noncomputable def rSetd:V→List V→Hp→VK→Prop:=fun x vs H Q=>∃(a:Addr) (kvs:List (Key×V)) (i:Int) (y:V),x=.ref a∧vs=[.int i,y]∧H a=some (.dK kvs)∧kvs.length<sizeLine∧(∀v,atK kvs (.inl i)=some v→Q v H)∧(atK kvs (.inl i)=none→Q y (upd H a (.dK (kvs++[(.inl i,y)]))))
theorem kfX:MtM X "dict.setdefault" rSetd:=by
 intro pins s σ H x vs v us Q I rx rv h
 obtain⟨a,kvs,i,y,rfl,rfl,e,hz,h1,h2⟩:=h
 cases rx
 obtain⟨u1,u2,rfl,⟨t,rfl⟩,ru2⟩:=vals2 rv
 obtain⟨z,hd,ws,rel,dd⟩:=(show ObjOk X.prog X.w H s.heap a (.dK kvs) from I.hok a _ e)
 have key:(kdr X.prog X.w).is (Sum.inl i:Key) (.int i t)=true:=khb _ _ i t
 refine call_meetsIn Dd dd.typeIs PySem.F.entry_dict_setdefault (PySem.F.args_dict_setdefault_3 _ _ _) (kt_meets_setdefault (kdr X.prog X.w) a key hd u2)
  ⟨ws,dd,by rw[←kvLen rel];exact z,fun v hv=>?_,fun hn h' dd' hs=>?_⟩
 ·have r:=khp rel (Sum.inl i)
  rw[hv] at r
  cases ea:atK kvs (Sum.inl i) with
  |none=>rw[ea] at r;exact(show False from r).elim
  |some w'=>
   rw[ea] at r
   exact⟨w',H,I.tok _,r,h1 w' ea⟩
 ·have r:=khp rel (Sum.inl i)
  rw[hn] at r
  have ea:atK kvs (Sum.inl i)=none:=by
   cases ea:atK kvs (Sum.inl i) with
   |none=>rfl
   |some w'=>rw[ea] at r;exact(show False from r).elim
  have est:stored ws (Sum.inl i:Key) u2=ws++[(Sum.inl i,u2)]:=by
   unfold stored
   rw[kvAny rel _ ea,if_neg Nu]
  rw[est] at dd'
  have he:∃q,h'.get? a=some q:=let⟨q,_,_,hq,_⟩:=dd';⟨q,hq⟩
  refine⟨y,_,I.write (x:=a) (e:=a) (by rw[e];exact True.intro) (.inl rfl) (fun b q hb w'=>(hs.2 b hb).trans w') he ?_,ru2,h2 ea⟩
  exact(show ObjOk X.prog X.w _ h' a (.dK (kvs++[(.inl i,y)])) from⟨by rw[Nx,EM];omega,hd,_,klh rel ru2,dd'⟩)
noncomputable def kiG(te:TE):TE:=fun σ H Q=>te σ H fun v H1=>∃(a:Addr) (kvs:List (Key×V)),v=.ref a∧H1 a=some (.dK kvs)∧∀l,H1 l=none→Q (.ref l) (upd H1 l (.lst (kvs.map Prod.snd)))
theorem kg8{e:Expr}{te:TE}{p1 pos1 apos cpos:Pos}(hc:X.calm=true)(h1:Gl X "list")(m1:X.mg "list"=none)(he:PE X e te)
  (hbase:attributeBase e "values" X.env (eval e X.env)=eval e X.env:=by rfl) (hline:(apos.endLine==cpos.line)=true:=by rfl)
  (s2:starEach [.Call (.Attribute e "values" apos) [] [] cpos] X.env=[(false,eval (.Call (.Attribute e "values" apos) [] [] cpos) X.env)]:=by rfl):PE X (.Call (.Name "list" p1) [.Call (.Attribute e "values" apos) [] [] cpos] [] pos1) (kiG te):=by
 intro pins s σ H Q I h
 refine wpAny_Call_Name_kw (kdC I h1 m1 kcf ?_ (by decide) (by decide))
 refine PyProof.Rows.callWith_type1 ?_ s2 rfl
 rw[s2]
 refine Calls.spliced_cons (wpAny_Call_method0_late hbase hline (thn (he pins s σ H _ I h) fun u s3 ⟨v,H1,I1,r1,a,kvs,ev,ea,q⟩=>?_))
 subst ev
 cases r1
 obtain⟨t1,t2⟩:=kiB (T:="dict") (x:=.ref a) (v:=.ref a) I1 rfl (.inr (.inr (.inl ⟨rfl, .inl ⟨kvs,ea⟩⟩)))
 obtain⟨z,hd,ws,rel,dd⟩:=(show ObjOk X.prog X.w H1 s3.heap a (.dK kvs) from I1.hok a _ ea)
 obtain⟨ep,hat⟩:=dd.dictAt
 refine⟨"dict","dict.values",De,Df,PySem.F.type_dict_values,t1,t2,Calls.callWith_builtin rfl (PySem.evalArgs_none ?_)⟩
 refine call_meetsIn Df dd.typeIs PySem.F.entry_dict_values (PySem.F.args_dict_values_1 _) (meets_dict_values (kdr X.prog X.w) a hd) ⟨⟨ws,dd⟩,Calls.spliced_nil ?_⟩
 refine PySem.W.kdl_call (PySem.W.kdl_values (knd:=kdr X.prog X.w) (kvs:=ws) (ep:=ep)) (I1.ok.hd hc) ⟨⟨_,Heap.get?_push_size _ rfl,rfl,rfl⟩,hat.push _⟩ (by rw[←kvLen rel];exact z) fun h' tk acc' c' hk hS hacc=>?_
 have hv:acc'.toList=ws.map (·.2):=PySem.W.kdl_vals_eq acc'.toList (by rw[MP];exact hacc.1) fun j v' ej=>hacc.2 j v' (by rw[←Da];exact ej)
 generalize ho:({cls:=.type "dict_values",data:=.fields #[.ref a]}:Obj)=ob at *
 have hsz:(s3.heap.push ob).objs.size=s3.heap.objs.size+1:=Heap.size_push ..
 have rv:Vals (kvs.map Prod.snd) acc'.toList:=by rw[hv];exact klg rel
 have I2:Inv X pins σ (upd H1 (s3.heap.push ob).objs.size (.lst (kvs.map Prod.snd))) {s3 with heap:=h',toks:=tk}:=
  I1.laid (fun b o e=>hk b o (Heap.get?_push_of_some _ e)) (by rw[hsz];exact MI _) (show ObjOk X.prog X.w _ h' _ (.lst (kvs.map Prod.snd)) from⟨by rw[Nh];exact z,acc'.toList,c',rv,by simpa using hS⟩)
 exact⟨.ref _,_,I2,rfl,q _ (I1.hok.fresh (by rw[hsz];exact MI _))⟩
end
end L2
namespace L2
open PySem PySem.Spec PyProof.Rows
section
variable {X:Cx}
end
end L2
namespace Stb
open PySem PyProof.Rows
noncomputable def T(xs:Array Keyed)(i:Nat):Int:=match xs[i]? with
 |some p=>numOf p.2
 |none=>0
theorem T_at{xs ys:Array Keyed}{i j:Nat}(h:xs[i]?=ys[j]?):T xs i=T ys j:=by unfold T;rw[h]
noncomputable def Lx(xs:Array Keyed)(i j:Nat):Prop:=K xs i<K xs j∨(K xs i=K xs j∧T xs i<T xs j)
theorem Lx.trans{xs:Array Keyed}{i j k:Nat}(h:Lx xs i j)(h':Lx xs j k):Lx xs i k:=by unfold Lx at *;omega
theorem Lx.le{xs:Array Keyed}{i j:Nat}(h:Lx xs i j):K xs i≤K xs j:=by unfold Lx at *;omega
noncomputable def Up(xs:Array Keyed)(k:Nat):Prop:=∀i j,i<j→j<k→Lx xs i j
noncomputable def Dn(xs:Array Keyed)(k:Nat):Prop:=∀i j,i<j→j<k→Lx xs j i
noncomputable def Lat(a₀ xs:Array Keyed)(k:Nat):Prop:=∀i j,i<j→k≤j→j<a₀.size→T xs i<T xs j
theorem Lat.mono{a₀ xs:Array Keyed}{k k':Nat}(h:Lat a₀ xs k)(hk:k≤k'):Lat a₀ xs k':=fun i j h1 h2 h3=>h i j h1 (by omega) h3
theorem kic{xs:Array Keyed}{src d:Nat}(hs:src<xs.size)(hd:d≤src)(k:Nat):
  ∃k',(K (bubble xs src d) k=K xs k'∧T (bubble xs src d) k=T xs k')∧k'=if k=src-d then src else if src-d<k∧k≤src then k-1 else k:=by
 refine⟨_,?_,rfl⟩
 have e:=getElem?_bubble hs d hd k
 have e':(bubble xs src d)[k]?=xs[if k=src-d then src else if src-d<k∧k≤src then k-1 else k]?:=by
  rw[e]
  split
  ·rfl
  ·split <;> rfl
 exact⟨K_congr e',T_at e'⟩
theorem kcD{xs:Array Keyed}{i j:Nat}(hj:j≤xs.size)(k:Nat):
  ∃k',(K (mirror xs i j ((j-i)/2)) k=K xs k'∧T (mirror xs i j ((j-i)/2)) k=T xs k')∧k'=if i≤k∧k<j then i+j-1-k else k:=by
 refine⟨_,?_,rfl⟩
 have e:=getElem?_mirror_all (i:=i) hj k
 have e':(mirror xs i j ((j-i)/2))[k]?=xs[if i≤k∧k<j then i+j-1-k else k]?:=by
  rw[e]
  split <;> rfl
 exact⟨K_congr e',T_at e'⟩
theorem khd{a₀ xs:Array Keyed}{i j k:Nat}(hj:j≤xs.size)(hk:j≤k)(h:Lat a₀ xs k):Lat a₀ (mirror xs i j ((j-i)/2)) k:=by
 intro a b hab hkb hb
 obtain⟨a',⟨_,ea⟩,ha⟩:=kcD (i:=i) hj a
 obtain⟨b',⟨_,eb⟩,hb'⟩:=kcD (i:=i) hj b
 rw[ea,eb]
 rw[if_neg (by omega)] at hb'
 subst hb'
 refine h _ _ ?_ hkb hb
 rw[ha]
 split <;> omega
section
variable {prog:Program} {w:World} {A:Around} {E:Value→Shared→Prop} {s:Shared} {a₀:Array Keyed}
theorem asc{st:SortSt}{a nrem:Nat}{Q:AscSt→SortSt→Prop}(h0:IntKeys a₀)(hn:nrem≤a₀.size)(ha:1≤a)(han:a≤nrem)(hB:SBase a₀ st)(hs:Up (arrOf st) a)(hl:Lat a₀ (arrOf st) a)
  (h:∀n,a≤n→n≤nrem→Up (arrOf st) n→(n=nrem∨K (arrOf st) n<K (arrOf st) (n-1))→Q (none,n) st):wpS (model prog w) A E s (ascLoop a nrem) Q st:=by
 unfold ascLoop
 refine wpS_forRange (I:=fun x c st'=>st'=st∧c=(none,x)∧Up (arrOf st) x) ?turn ?over ⟨rfl,rfl,hs⟩
 case over=>
  rintro c st' ⟨rfl,rfl,u⟩
  rw[show max a nrem=nrem by omega] at u⊢
  exact h nrem han (Nj _) u (.inl rfl)
 case turn=>
  rintro x c st' hax hxn ⟨rfl,rfl,u⟩
  dsimp only
  refine wpS_bind (wpS_ltK hB h0 (by omega) (by omega) ?_)
  by_cases c1:K (arrOf st') x<K (arrOf st') (x-1)
  ·simp only[c1,decide_true,if_true]
   exact wpS_pure (h x hax (by omega) u (.inr c1))
  ·simp only[c1,decide_false,Md,if_false]
   refine wpS_pure ⟨rfl,rfl,fun i j hij hj=>?_⟩
   by_cases hjx:j<x
   ·exact u i j hij hjx
   ·have e:j=x:=by omega
    subst e
    have t1:=hl (j-1) j (by omega) hax (by omega)
    have l1:Lx (arrOf st') (j-1) j:=by unfold Lx;omega
    by_cases e2:i=j-1
    ·rw[e2];exact l1
    ·exact(u i (j-1) (by omega) (by omega)).trans l1
theorem tail{st:SortSt}{n nrem:Nat}{Q:Option Nat→SortSt→Prop}(h0:IntKeys a₀)(hn:nrem≤a₀.size)(h1:1≤n)(hnn:n≤nrem)(hB:SBase a₀ st)(hs:Dn (arrOf st) n)(hl:Lat a₀ (arrOf st) n)
  (h:∀m st',SBase a₀ st'→1≤m→m≤nrem→Up (arrOf st') m→Lat a₀ (arrOf st') m→Q (some m) st'):wpS (model prog w) A E s (tail3 n nrem) Q st:=by
 unfold tail3
 have sz:n≤(arrOf st).size:=by rw[hB.size];omega
 refine wpS_bind (wpS_reverse ?_)
 have hB2:SBase a₀ (setArr st (mirror (arrOf st) 0 n ((n-0)/2))):=hB.setArr (mirror_perm _ _ _ _)
 have hl2:Lat a₀ (mirror (arrOf st) 0 n ((n-0)/2)) n:=khd sz (Nj _) hl
 refine wpS_bind (asc h0 hn h1 hnn hB2 ?_ hl2 fun m hm1 hm2 hu _=>wpS_pure (h m _ hB2 (by omega) hm2 hu (hl2.mono hm1)))
 intro i j hij hj
 show Lx (mirror (arrOf st) 0 n ((n-0)/2)) i j
 obtain⟨i',⟨k1,t1⟩,e1⟩:=kcD (i:=0) sz i
 obtain⟨j',⟨k2,t2⟩,e2⟩:=kcD (i:=0) sz j
 rw[if_pos (by omega)] at e1 e2
 have:=hs j' i' (by omega) (by omega)
 unfold Lx at this⊢
 rw[k1,k2,t1,t2]
 exact this
structure Fl (a₀ xs:Array Keyed) (x neq:Nat):Prop where
 few:neq+1≤x
 hd:Dn xs (x-(neq+1))
 cr:∀i j,i<x-(neq+1)→x-(neq+1)≤j→j<x→K xs j<K xs i
 tl:∀i j,x-(neq+1)≤i→i<j→j<x→K xs i=K xs j∧T xs i<T xs j
 lat:Lat a₀ xs x
theorem Fl.turned{xs:Array Keyed}{x neq:Nat}(h:Fl a₀ xs x neq)(hx:x≤xs.size):Dn (mirror xs (x-(neq+1)) x ((x-(x-(neq+1)))/2)) x∧(∀i,i<x→K xs (x-1)≤K (mirror xs (x-(neq+1)) x ((x-(x-(neq+1)))/2)) i)∧Lat a₀ (mirror xs (x-(neq+1)) x ((x-(x-(neq+1)))/2)) x∧
  ∀k,x≤k→K (mirror xs (x-(neq+1)) x ((x-(x-(neq+1)))/2)) k=K xs k:=by
 have hf:=h.few
 refine⟨fun i j hij hj=>?_,fun i hi=>?_,khd hx (Nj _) h.lat,fun k hk=>?_⟩
 ·obtain⟨i',⟨k1,t1⟩,e1⟩:=kcD (i:=x-(neq+1)) hx i
  obtain⟨j',⟨k2,t2⟩,e2⟩:=kcD (i:=x-(neq+1)) hx j
  unfold Lx
  rw[k1,k2,t1,t2]
  by_cases c1:j<x-(neq+1)
  ·rw[if_neg (by omega)] at e1 e2
   subst e1 e2
   exact h.hd i' j' hij c1
  ·rw[if_pos (by omega)] at e2
   by_cases c2:i<x-(neq+1)
   ·rw[if_neg (by omega)] at e1
    subst e1
    exact .inl (h.cr i' j' c2 (by omega) (by omega))
   ·rw[if_pos (by omega)] at e1
    have:=h.tl j' i' (by omega) (by omega) (by omega)
    omega
 ·obtain⟨i',⟨k1,_⟩,e1⟩:=kcD (i:=x-(neq+1)) hx i
  rw[k1]
  by_cases c2:i<x-(neq+1)
  ·rw[if_neg (by omega)] at e1
   subst e1
   have:=h.cr i' (x-1) c2 (by omega) (by omega)
   omega
  ·rw[if_pos (by omega)] at e1
   by_cases c3:i'=x-1
   ·rw[c3];exact Int.le_refl _
   ·have:=h.tl i' (x-1) (by omega) (by omega) (by omega)
    omega
 ·obtain⟨k',⟨k1,_⟩,e1⟩:=kcD (i:=x-(neq+1)) hx k
  rw[if_neg (by omega)] at e1
  rw[k1,e1]
theorem Fl.plain{xs:Array Keyed}{x:Nat}(h:Fl a₀ xs x 0):Dn xs x∧(∀i,i<x→K xs (x-1)≤K xs i):=by
 have hf:=h.few
 refine⟨fun i j hij hj=>?_,fun i hi=>?_⟩
 ·by_cases c1:j<x-(0+1)
  ·exact h.hd i j hij c1
  ·exact .inl (h.cr i j (by omega) (by omega) hj)
 ·by_cases c3:i=x-1
  ·rw[c3];exact Int.le_refl _
  ·have:=h.cr i (x-1) (by omega) (by omega) (by omega)
   omega
theorem Fl.next{xs:Array Keyed}{x:Nat}(hd:Dn xs x)(hk:∀i,i<x→K xs x<K xs i)(hl:Lat a₀ xs x):Fl a₀ xs (x+1) 0:=
 ⟨by omega,fun i j h1 h2=>hd i j h1 (by omega),fun i j h1 h2 h3=>by
  have e:j=x:=by omega
  subst e
  exact hk i (by omega),fun i j h1 h2 h3=>by omega,hl.mono (by omega)⟩
theorem desc{st:SortSt}{n nrem:Nat}{Q:DescSt→SortSt→Prop}(h0:IntKeys a₀)(hn:nrem≤a₀.size)(hnn:n≤nrem)(hB:SBase a₀ st)(hs:Fl a₀ (arrOf st) n 0)
  (h:∀m neq st',SBase a₀ st'→n≤m→m≤nrem→Fl a₀ (arrOf st') m neq→Q (none,m,neq) st'):wpS (model prog w) A E s (descLoop n nrem) Q st:=by
 unfold descLoop
 refine wpS_forRange (I:=fun x c st'=>∃neq,c=(none,x,neq)∧SBase a₀ st'∧Fl a₀ (arrOf st') x neq) ?turn ?over ⟨0,rfl,hB,hs⟩
 case over=>
  rintro c st' ⟨neq,rfl,hB',f⟩
  rw[show max n nrem=nrem by omega] at f⊢
  exact h nrem neq st' hB' hnn (Nj _) f
 case turn=>
  rintro x c st' hax hxn ⟨neq,rfl,hB',f⟩
  dsimp only
  have few:=f.few
  have sz:x≤(arrOf st').size:=by rw[hB'.size];omega
  refine wpS_bind (wpS_ltK hB' h0 (by omega) (by omega) ?_)
  by_cases c1:K (arrOf st') x<K (arrOf st') (x-1)
  ·simp only[c1,decide_true,if_true]
   by_cases c2:neq > 0
   ·rw[if_pos c2]
    obtain⟨d1,d2,d3,d4⟩:=f.turned sz
    refine wpS_bind (wpS_reverse (wpS_pure ⟨0,rfl,hB'.setArr (mirror_perm _ _ _ _),Fl.next d1 (fun i hi=>?_) d3⟩))
    have:=d2 i hi
    have e:=d4 x (Nj _)
    show K (mirror (arrOf st') _ _ _) x<K (mirror (arrOf st') _ _ _) i
    omega
   ·rw[if_neg c2]
    have e:neq=0:=by omega
    subst e
    obtain⟨d1,d2⟩:=f.plain
    exact wpS_pure ⟨0,rfl,hB',Fl.next d1 (fun i hi=>by have:=d2 i hi;omega) f.lat⟩
  ·simp only[c1,decide_false,Md,if_false]
   refine wpS_bind (wpS_ltK hB' h0 (by omega) (by omega) ?_)
   by_cases c2:K (arrOf st') (x-1)<K (arrOf st') x
   ·simp only[c2,decide_true,if_true]
    exact wpS_pure (h x neq st' hB' hax (by omega) f)
   ·simp only[c2,decide_false,Md,if_false]
    have ek:K (arrOf st') x=K (arrOf st') (x-1):=by omega
    refine wpS_pure ⟨neq+1,rfl,hB',⟨by omega,?_,?_,?_,f.lat.mono (by omega)⟩⟩
    ·rw[show x+1-(neq+1+1)=x-(neq+1) by omega]
     exact f.hd
    ·rw[show x+1-(neq+1+1)=x-(neq+1) by omega]
     intro i j h1 h2 h3
     by_cases c3:j<x
     ·exact f.cr i j h1 h2 c3
     ·have e:j=x:=by omega
      subst e
      rw[ek]
      exact f.cr i (j-1) h1 (by omega) (by omega)
    ·rw[show x+1-(neq+1+1)=x-(neq+1) by omega]
     intro i j h1 h2 h3
     by_cases c3:j<x
     ·exact f.tl i j h1 h2 c3
     ·have e:j=x:=by omega
      subst e
      refine⟨?_,f.lat i j h2 (Nj _) (by omega)⟩
      rw[ek]
      by_cases c4:i=j-1
      ·rw[c4]
      ·exact(f.tl i (j-1) h1 (by omega) (by omega)).1
theorem falls{st:SortSt}{n nrem:Nat}{Q:Option Nat→SortSt→Prop}(h0:IntKeys a₀)(hn:nrem≤a₀.size)(hnn:n+1≤nrem)(hB:SBase a₀ st)(hs:Fl a₀ (arrOf st) (n+1) 0)
  (h:∀m st',SBase a₀ st'→1≤m→m≤nrem→Up (arrOf st') m→Lat a₀ (arrOf st') m→Q (some m) st'):wpS (model prog w) A E s (descPart n nrem) Q st:=by
 unfold descPart
 refine wpS_bind (wpS_lift (wpAny_rule ⟨rfl,?_⟩))
 refine wpS_bind (desc h0 hn hnn hB hs fun m neq st' hB' hm1 hm2 f=>?_)
 dsimp only
 have sz:m≤(arrOf st').size:=by rw[hB'.size];omega
 by_cases c2:neq > 0
 ·rw[if_pos c2]
  obtain⟨d1,_,d3,_⟩:=f.turned sz
  exact wpS_bind (wpS_reverse (tail h0 hn (by omega) hm2 (hB'.setArr (mirror_perm _ _ _ _)) d1 d3 h))
 ·rw[if_neg c2]
  have e:neq=0:=by omega
  subst e
  exact tail h0 hn (by omega) hm2 hB' f.plain.1 f.lat h
theorem count{st:SortSt}{nrem:Nat}{Q:Option Nat→SortSt→Prop}(h0:IntKeys a₀)(hn:nrem≤a₀.size)(h1:1≤nrem)(hB:SBase a₀ st)(hl:Lat a₀ (arrOf st) 1)
  (h:∀m st',SBase a₀ st'→1≤m→m≤nrem→Up (arrOf st') m→Lat a₀ (arrOf st') m→Q (some m) st'):wpS (model prog w) A E s (countRun' 0 nrem) Q st:=by
 rw[countRun0_eq]
 refine wpS_bind (asc h0 hn (Nj 1) h1 hB (fun i j hij hj=>by omega) hl fun n hn1 hn2 hu hor=>?_)
 dsimp only
 by_cases c1:n=nrem
 ·rw[if_pos (by simpa using c1)]
  exact wpS_pure (h n st hB hn1 hn2 hu (hl.mono hn1))
 ·rw [if_neg (by simpa using c1)]
  have lt:K (arrOf st) n<K (arrOf st) (n-1):=hor.resolve_left c1
  by_cases c2:n > 1
  ·rw [if_pos c2]
   refine wpS_bind (wpS_ltK hB h0 (by omega) (by omega) ?_)
   by_cases c3:K (arrOf st) 0<K (arrOf st) (n-1)
   ·simp only[c3,decide_true,if_true]
    exact wpS_pure (h n st hB hn1 hn2 hu (hl.mono hn1))
   ·simp only[c3,decide_false,Md,if_false]
    have sz:n≤(arrOf st).size:=by rw[hB.size];omega
    have same:∀i,i<n→K (arrOf st) i=K (arrOf st) (n-1):=fun i hi=>by
     by_cases z:i=0
     ·subst z
      have:=(hu 0 (n-1) (by omega) (by omega)).le
      omega
     ·have a1:=(hu 0 i (by omega) hi).le
      by_cases z2:i=n-1
      ·rw[z2]
      ·have a2:=(hu i (n-1) (by omega) (by omega)).le
       omega
    refine wpS_bind (wpS_reverse (falls h0 hn (by omega) (hB.setArr (mirror_perm _ _ _ _)) (Fl.next (fun i j hij hj=>?_) (fun i hi=>?_) (khd sz (Nj _) (hl.mono hn1))) h))
    ·show Lx (mirror (arrOf st) 0 n ((n-0)/2)) j i
     obtain⟨i',⟨k1,t1⟩,e1⟩:=kcD (i:=0) sz i
     obtain⟨j',⟨k2,t2⟩,e2⟩:=kcD (i:=0) sz j
     rw[if_pos (by omega)] at e1 e2
     have:=hu j' i' (by omega) (by omega)
     unfold Lx at this⊢
     rw[k1,k2,t1,t2]
     exact this
    ·show K (mirror (arrOf st) 0 n ((n-0)/2)) n<K (mirror (arrOf st) 0 n ((n-0)/2)) i
     obtain⟨i',⟨k1,_⟩,e1⟩:=kcD (i:=0) sz i
     obtain⟨n',⟨k2,_⟩,e2⟩:=kcD (i:=0) sz n
     rw[if_pos (by omega)] at e1
     rw[if_neg (by omega)] at e2
     subst e2
     rw[k1,k2,same i' (by omega)]
     exact lt
  ·rw[if_neg c2]
   have e:n=1:=by omega
   subst e
   refine falls h0 hn (by omega) hB (Fl.next (fun i j hij hj=>by omega) (fun i hi=>?_) hl) h
   have z:i=0:=by omega
   subst z
   exact lt
theorem insert{st:SortSt}{n ok:Nat}{Q:Bool→SortSt→Prop}(h0:IntKeys a₀)(hn:n≤a₀.size)(h1:1≤ok)(hok:ok≤n)(hB:SBase a₀ st)(hs:Up (arrOf st) ok)(hl:Lat a₀ (arrOf st) ok)
  (h:∀st',SBase a₀ st'→Up (arrOf st') n→Q true st'):wpS (model prog w) A E s (binarySort' 0 n ok) Q st:=by
 rw[binarySort'_eq]
 simp only[M8]
 refine wpS_bind (wpS_mono (wpS_forRange (I:=fun k c st'=>c=(none,())∧SBase a₀ st'∧Up (arrOf st') (min k n)∧Lat a₀ (arrOf st') (min k n)) (Q:=fun c st'=>c=(none,())∧SBase a₀ st'∧Up (arrOf st') n) ?turn ?over ?begin) ?behind)
 case behind=>
  rintro c st' ⟨rfl,hB',hu⟩
  exact wpS_pure (h st' hB' hu)
 case begin=>
  rw[show max ok 1=ok by omega,show min ok n=ok by omega]
  exact⟨rfl,hB,hs,hl⟩
 case over=>
  rintro c st' ⟨hc,hB',hu,_⟩
  refine⟨hc,hB',?_⟩
  rwa [show min (max (max ok 1) n) n=n by omega] at hu
 case turn=>
  rintro k c st' hak hkn ⟨rfl,hB',hu,hla⟩
  rw[show min k n=k by omega] at hu hla
  have hk:k<a₀.size:=by omega
  refine wpS_bind (wpS_mono (wpS_forRange (I:=fun x c st''=>st''=st'∧∃l r,c=(none,l,r)∧l≤r∧r≤k∧r-l≤k-x∧(∀i,i<l→K (arrOf st') i≤K (arrOf st') k)∧(∀i,r≤i→i<k→K (arrOf st') k<K (arrOf st') i))
   (Q:=fun c st''=>st''=st'∧∃l r,c=(none,l,r)∧l≤k∧(∀i,i<l→K (arrOf st') i≤K (arrOf st') k)∧(∀i,l≤i→i<k→K (arrOf st') k<K (arrOf st') i)) ?turn2 ?over2 ?begin2) ?behind2)
  case begin2=>exact⟨rfl,0,k,rfl,by omega,by omega,by omega,fun i hi=>by omega,fun i a b=>by omega⟩
  case over2=>
   rintro c st'' ⟨rfl,l,r,rfl,hlr,hrk,hm,lo,hi⟩
   have e:l=r:=by omega
   subst e
   exact⟨rfl,l,l,rfl,hrk,lo,hi⟩
  case turn2=>
   rintro x c st'' _ hxk ⟨rfl,l,r,rfl,hlr,hrk,hm,lo,hi⟩
   dsimp only
   by_cases c1:l≥r
   ·rw[if_pos c1]
    have e:l=r:=by omega
    subst e
    exact wpS_pure ⟨rfl,l,l,rfl,hrk,lo,hi⟩
   ·rw[if_neg c1]
    refine wpS_bind (wpS_ltK hB' h0 hk (by omega) ?_)
    by_cases c2:K (arrOf st'') k<K (arrOf st'') ((l+r)/2)
    ·simp only[c2,decide_true,if_true]
     refine wpS_pure ⟨rfl,l,(l+r)/2,rfl,by omega,by omega,by omega,lo,fun i a b=>?_⟩
     by_cases z:i=(l+r)/2
     ·rw[z];exact c2
     ·exact Int.lt_of_lt_of_le c2 (hu _ _ (by omega) b).le
    ·simp only[c2,decide_false,Md,if_false]
     refine wpS_pure ⟨rfl,(l+r)/2+1,r,rfl,by omega,by omega,by omega,fun i a=>?_,hi⟩
     by_cases z:i=(l+r)/2
     ·rw[z];omega
     ·exact Int.le_trans (hu i ((l+r)/2) (by omega) (by omega)).le (Int.not_lt.mp c2)
  case behind2=>
   rintro c st'' ⟨rfl,l,r,rfl,hlk,lo,hi⟩
   show wpS _ _ _ _ (do moveDown' k l;pure (ForInStep.yield (none,()))) _ _
   rw[moveDown'_eq]
   have hks:k<(arrOf st'').size:=by rw[hB'.size];exact hk
   refine wpS_bind (wpS_modify (wpS_pure ⟨rfl,hB'.setArr (bubble_perm _ _ _),?_,?_⟩))
   ·rw [show min (k+1) n=k+1 by omega]
    intro i j hij hj
    show Lx (bubble (arrOf st'') k (k-l)) i j
    obtain⟨i',⟨k1,t1⟩,e1⟩:=kic hks (show k-l≤k by omega) i
    obtain⟨j',⟨k2,t2⟩,e2⟩:=kic hks (show k-l≤k by omega) j
    rw[show k-(k-l)=l by omega] at e1 e2
    unfold Lx
    rw[k1,k2,t1,t2]
    by_cases z1:i=l
    ·rw[if_pos z1] at e1
     rw[if_neg (by omega),if_pos (by omega)] at e2
     subst e1
     exact .inl (hi j' (by omega) (by omega))
    ·rw[if_neg z1] at e1
     by_cases z2:j=l
     ·rw[if_pos z2] at e2
      rw[if_neg (by omega)] at e1
      subst e2
      have a1:=lo i' (by omega)
      have a2:=hla i' j' (by omega) (Nj _) hk
      omega
     ·rw[if_neg z2] at e2
      refine hu i' j' ?_ ?_
      ·rw[e1,e2]
       repeat' split
       all_goals omega
      ·rw[e2]
       split <;> omega
   ·rw[show min (k+1) n=k+1 by omega]
    intro a b hab hkb hb
    show T (bubble (arrOf st'') k (k-l)) a<T (bubble (arrOf st'') k (k-l)) b
    obtain⟨a',⟨_,t1⟩,e1⟩:=kic hks (show k-l≤k by omega) a
    obtain⟨b',⟨_,t2⟩,e2⟩:=kic hks (show k-l≤k by omega) b
    rw[show k-(k-l)=l by omega] at e1 e2
    rw[if_neg (by omega),if_neg (by omega)] at e2
    subst e2
    rw[t1,t2]
    refine hla a' b' ?_ (by omega) hb
    rw[e1]
    repeat' split
    all_goals omega
noncomputable def Done(a₀:Array Keyed)(st:SortSt):Prop:=(arrOf st).Perm a₀∧failedOf st=none∧pendingOf st= #[(0,a₀.size,0)]∧Up (arrOf st) a₀.size
theorem done{st:SortSt}(hB:SBase a₀ st)(hu:Up (arrOf st) a₀.size):Done a₀ (setPending st ((pendingOf st).push (0,a₀.size,0))):=⟨hB.perm,hB.failed,by show(pendingOf st).push _=_;rw[hB.pend];rfl,hu⟩
theorem runs{st:SortSt}{Q:Unit→SortSt→Prop}(h0:IntKeys a₀)(hB:SBase a₀ st)(h2:2≤a₀.size)(h64:a₀.size<64)(hl:Lat a₀ (arrOf st) 1)
  (h:∀st',(arrOf st').Perm a₀→failedOf st'=none→Up (arrOf st') a₀.size→Q () st'):wpS (model prog w) A E s sortRuns' Q st:=by
 rw[sortRuns'_eq]
 refine wpS_bind (wpS_get ?_)
 dsimp only
 have mr:minRun' a₀.size a₀.size 0=a₀.size:=by
  obtain⟨f,hf⟩:∃f,a₀.size=f+1:=⟨a₀.size-1,by omega⟩
  have z:minRun' (f+1) a₀.size 0=a₀.size:=by rw[minRun'_succ,if_pos h64];rfl
  rwa [←hf] at z
 simp only[hB.size,mr]
 refine wpS_bind (wpS_mono (wpS_forRange (I:=fun x c st'=>(x=0∧c=(none,0)∧st'=st)∨(1≤x∧c=(none,a₀.size)∧Done a₀ st')) (Q:=fun c st'=>c=(none,a₀.size)∧Done a₀ st') ?turn ?over (.inl ⟨rfl,rfl,rfl⟩)) ?behind)
 case over=>
  rintro c st' (⟨hx,_,_⟩|⟨_,hc,hD⟩)
  ·omega
  ·exact⟨hc,hD⟩
 case turn=>
  rintro x c st' _ hx (⟨rfl,rfl,rfl⟩|⟨hx1,rfl,hD⟩)
  ·dsimp only
   rw[if_neg (by omega)]
   simp only[Nat.sub_zero,Mu,M8]
   refine wpS_bind (count h0 (Nj _) (by omega) hB hl fun m st2 hB2 hm1 hm2 hu2 hl2=>?_)
   dsimp only
   by_cases c1:m<a₀.size
   ·rw[if_pos c1]
    refine wpS_bind (wpS_lift (wpAny_rule ⟨rfl,?_⟩))
    refine wpS_bind (insert h0 (Nj _) hm1 hm2 hB2 hu2 hl2 fun st3 hB3 hu3=>?_)
    simp only[Bool.not_true,Md,if_false]
    refine wpS_bind (wpS_get ?_)
    have hb:(pendingOf st3).back?=none:=by rw[hB3.pend];rfl
    rw[hb]
    dsimp only
    exact wpS_bind (wpS_modify (wpS_pure (.inr ⟨by omega,rfl,done hB3 hu3⟩)))
   ·rw[if_neg c1]
    have e:m=a₀.size:=by omega
    subst e
    refine wpS_bind (wpS_get ?_)
    have hb:(pendingOf st2).back?=none:=by rw[hB2.pend];rfl
    rw[hb]
    dsimp only
    exact wpS_bind (wpS_modify (wpS_pure (.inr ⟨by omega,rfl,done hB2 hu2⟩)))
  ·dsimp only
   rw[if_pos (Nj _)]
   exact wpS_pure ⟨rfl,hD⟩
 case behind=>
  rintro c st' ⟨rfl,hD⟩
  dsimp only
  refine wpS_bind (wpS_mono (wpS_forRange (I:=fun _ c st''=>st''=st'∧c=(none,())) (Q:=fun c st''=>st''=st'∧c=(none,())) ?_ (fun _ _ z=>z) ⟨rfl,rfl⟩) ?_)
  ·rintro x c st'' _ _ ⟨rfl,rfl⟩
   refine wpS_bind (wpS_get ?_)
   rw[if_pos (by rw[hD.2.2.1];exact Nj 1)]
   exact wpS_pure ⟨rfl,rfl⟩
  ·rintro c st'' ⟨rfl,rfl⟩
   exact wpS_pure (h _ hD.1 hD.2.1 hD.2.2.2)
end
end Stb
namespace Stb
open PySem PyProof.Rows
structure SJ (J:Shared→Prop) (n0:Nat):Prop where
 sz:∀s,J s→n0≤s.heap.objs.size
 push:∀s c xs n,J s→J {s with heap:=s.heap.push (seqObj c xs n)}
 upd:∀s b g,J s→n0≤b→J {s with heap:=s.heap.update b (Obj.mapSeq g)}
noncomputable def Tells(J:Shared→Prop)(n0:Nat)(k:Int)(s:Shared)(v:Value)(s':Shared):Prop:=(∃t,v=.int k t)∧J s'∧∀b o,n0≤b→s.heap.get? b=some o→s'.heap.get? b=some o
noncomputable def Rows(keys:Array Value)(vs:List Value)(out:Array Value):Prop:=∃xs:Array Keyed,xs.Perm (keys.zip vs.toArray)∧Up xs xs.size∧out=xs.map (·.2)
section
variable {prog:Program} {w:World} {A:Around} {E:Value→Shared→Prop} {s:Shared} {J:Shared→Prop} {n0:Nat} {a kS:Addr} {vs:List Value} {kz:List Int} {keys:Array Value} {e e1:Nat} {P:PySem.Fin→Shared→Prop}
theorem tailK(S:SJ J n0)(hJ:J s)(hk:s.heap.get? kS=some (seqObj "list" keys e))(ha:s.heap.get? a=some (seqObj "list" #[] e1))(ne:kS≠a)(nk:n0≤kS)(na:n0≤a){st:SortSt}(hz:keys.size≤64)(hp:(arrOf st).Perm (keys.zip vs.toArray))(hu:Up (arrOf st) (arrOf st).size)
  (hf:failedOf st=none) (hv:vs.length≤64) (h:∀h' out c,J {s with heap:=h'}→h'.get? a=some (seqObj "list" out c)→Rows keys vs out→P (.done (.ret .none)) {s with heap:=h'}):wpAny (model prog w) A (ksk_tail a false e1 (.ref kS) st) P E s:=by
 have sz2:(arrOf st).size≤64:=by
  have hvs:vs.toArray.size=vs.length:=by simp
  rw[hp.size_eq,Eo]
  omega
 have q1:=Heap.SameBut.update s.heap kS (Obj.mapSeq fun _=>(#[]:Array Value))
 have g1:(s.heap.update kS (Obj.mapSeq fun _=>(#[]:Array Value))).get? a=some (seqObj "list" #[] e1):=(q1.2 a ne.symm).trans ha
 have J1:=S.upd s kS (fun _=>#[]) hJ nk
 have J2:=S.upd _ a (fun _=>(arrOf st).map (·.2)) J1 na
 unfold ksk_tail
 try dsimp only
 refine wpAny_bind (listUpdate_at hk rfl ?_ (by rw[sizeLine_eq];omega) (N6 _))
 refine wpAny_bind (wpAny_letGo ?_)
 refine wpAny_bind (seqEpoch_at g1 rfl ?_)
 refine wpAny_bind (listUpdate_at g1 rfl ?_ (N6 _) (by simp only[Md,if_false,Array.size_map];rw[sizeLine_eq];omega))
 rw[hf]
 simp only[bne_self_eq_false,Md,if_false]
 exact wpAny_pure (h _ _ _ J2 (get?_update_seq g1 fun _=>(arrOf st).map (·.2)) ⟨arrOf st,hp,hu,rfl⟩)
theorem zip_T{keys:Array Value}{vs:List Value}{i:Nat}(hl:keys.size=vs.length):T (keys.zip vs.toArray) i=match vs[i]? with|some v=>numOf v|none=>0:=by
 unfold T
 have hvs:vs.toArray.size=vs.length:=by simp
 cases ev:vs[i]? with
 |none=>
  have hi:vs.length≤i:=EA.mp ev
  have e:(keys.zip vs.toArray)[i]?=none:=Array.getElem?_eq_none (by rw[Eo];omega)
  rw[e]
 | some v=>
  have hi:i<vs.length:=(Nz.mp ev).1
  have hz:i<(keys.zip vs.toArray).size:=by rw[Eo];omega
  have ev':vs[i]=v:=by
   rw[Mv hi] at ev
   exact Option.some.inj ev
  have e:(keys.zip vs.toArray)[i]?=some (keys[i]'(by omega),vs[i]):=by
   rw[ES hz]
   simp
  rw[e,ev']
theorem endK(S:SJ J n0)(hJ:J s)(hk:s.heap.get? kS=some (seqObj "list" keys e))(ha:s.heap.get? a=some (seqObj "list" #[] e1))(ne:kS≠a)(nk:n0≤kS)(na:n0≤a)(hi:IntsAre keys.toList kz)(hl:keys.size=vs.length)(h64:vs.length<64)
  (up:∀(i j:Nat) (x y:Value),i<j→vs[i]?=some x→vs[j]?=some y→numOf x<numOf y)
  (h:∀h' out c,J {s with heap:=h'}→h'.get? a=some (seqObj "list" out c)→Rows keys vs out→P (.done (.ret .none)) {s with heap:=h'}):wpAny (model prog w) A (ksk_end a false vs.toArray e1 (.ref kS) keys) P E s:=by
 have hvs:vs.toArray.size=vs.length:=by simp
 have zs:(keys.zip vs.toArray).size=vs.length:=by rw[Eo];omega
 unfold ksk_end
 try dsimp only
 simp only[Md,if_false]
 by_cases h2:vs.toArray.size<2
 ·rw[if_pos h2,if_pos h2]
  refine wpAny_bind (wpAny_pure ?_)
  rw[StateT.run_pure]
  refine wpAny_bind (wpAny_pure ?_)
  try dsimp only
  refine tailK (st:=SortSt.mk' general' (keys.zip vs.toArray) #[] 7 none) S hJ hk ha ne nk na (by omega) (Array.Perm.refl _) ?_ rfl (by omega) h
  intro i j hij hj
  have hj2:j<(keys.zip vs.toArray).size:=hj
  rw[zs] at hj2
  rw[NK] at h2
  omega
 ·rw[if_neg h2,if_neg h2]
  rw[NK] at h2
  rw[ksk_kind hi (by rw[hl];omega)]
  refine wpAny_bind (wpAny_pure ?_)
  have lat:Lat (keys.zip vs.toArray) (keys.zip vs.toArray) 1:=fun i j hij _ hj=>by
   rw[zs] at hj
   rw[zip_T hl,zip_T hl,Mv (show i<vs.length by omega),Mv hj]
   exact up i j _ _ hij (Mv (show i<vs.length by omega)) (Mv hj)
  refine wpAny_bind (wpAny_mono (runs (a₀:=keys.zip vs.toArray) (st:=SortSt.mk' oneType' (keys.zip vs.toArray) #[] 7 none) (Q:=fun _ st'=>(arrOf st').Perm (keys.zip vs.toArray)∧failedOf st'=none∧Up (arrOf st') (keys.zip vs.toArray).size)
   (ksk_intKeys hi) ⟨Array.Perm.refl _,rfl,rfl,rfl⟩ (by rw[zs];omega) (by rw[zs];exact h64) lat fun st' b1 b2 b3=>⟨b1,b2,b3⟩) ?_ fun _ _ z=>z)
  rintro⟨⟨⟩,st'⟩ s' ⟨rfl,b1,b2,b3⟩
  try dsimp only
  exact tailK S hJ hk ha ne nk na (by omega) b1 (by rw[b1.size_eq];exact b3) b2 (by omega) h
theorem restK{f:Value}(S:SJ J n0)(hJ:J s)(hk:s.heap.get? kS=some (seqObj "list" #[] 0))(ha:s.heap.get? a=some (seqObj "list" #[] e1))(ne:kS≠a)(nk:n0≤kS)(na:n0≤a)(hl:kz.length=vs.length)(h64:vs.length<64)
  (up:∀(i j:Nat) (x y:Value),i<j→vs[i]?=some x→vs[j]?=some y→numOf x<numOf y)
  (turn:∀(i:Nat) (v:Value) (k:Int),vs[i]?=some v→kz[i]?=some k→∀s',J s'→wpAny (model prog w) A (call f [v]) (Tells J n0 k s') (fun _ _=>False) s')
  (h:∀s' keys out c,J s'→s'.heap.get? a=some (seqObj "list" out c)→IntsAre keys.toList kz→keys.size=vs.length→Rows keys vs out→P (.done (.ret .none)) s'):wpAny (model prog w) A (ksk_rest a f false vs.toArray e1 (.ref kS)) P E s:=by
 unfold ksk_rest
 refine wpAny_bind (wpAny_rule ?_)
 first
  |rw[List.forIn_toArray]
  |rw[←Array.forIn_toList]
 refine wpAny_bind (ksk_fold (fun i s'=>J s'∧∃kA e,s'.heap.get? kS=some (seqObj "list" kA e)∧s'.heap.get? a=some (seqObj "list" #[] e1)∧IntsAre kA.toList (kz.take i)) vs 0 s ⟨hJ,#[],0,hk,ha,by simpa using IntsAre.nil⟩ ?turnP ?doneP)
 case turnP=>
  rintro j x s' hx ⟨J',kA,e,g1,g2,hi⟩
  simp only[M8] at hi⊢
  have hj:j<vs.length:=(Nz.mp hx).1
  obtain⟨k,ek⟩:∃k,kz[j]?=some k:=⟨_,Mv (by omega)⟩
  have lz:kA.size≤vs.length:=by
   have h1:=hi.length
   rw[MP,Ny] at h1
   omega
  refine wpAny_bind (wpAny_attempt (wpAny_mono (turn j x k hx ek s' J') (fun v s'' hT=>?_) fun _ _ z=>z.elim))
  obtain⟨⟨t,rfl⟩,J2,kp⟩:=hT
  try dsimp only
  have g1':=kp _ _ nk g1
  have g2':=kp _ _ na g2
  have q1:=Heap.SameBut.update s''.heap kS (Obj.mapSeq (·.push (.int k t)))
  refine wpAny_bind (listUpdate_at g1' rfl ?_ (by rw[sizeLine_eq];omega) (Nm (Eh (Array.size_push ..)) (by rw[sizeLine_eq];omega)))
  have et:kz.take (j+1)=kz.take j++[k]:=by rw[Mz,ek];simp
  have ep:(kA.push (Value.int k t)).toList=kA.toList++[Value.int k t]:=by simp
  exact wpAny_pure ⟨rfl,S.upd _ kS _ J2 nk,kA.push (.int k t),_,get?_update_seq g1' (·.push (.int k t)),(q1.2 a ne.symm).trans g2',by rw[ep,et];exact ksk_snoc hi⟩
 case doneP=>
  rintro s' ⟨J',kA,e,g1,g2,hi⟩
  have e3:kz.take (0+vs.length)=kz:=Mf (by omega)
  rw[e3] at hi
  have lk:kA.size=vs.length:=by
   have:=hi.length
   rw[MP] at this
   omega
  try dsimp only
  refine wpAny_bind (listItems_at g1 rfl ?_)
  exact endK S J' g1 g2 ne nk na hi lk h64 up fun h' out c z1 z2 z3=>h _ kA out c z1 z2 hi lk z3
theorem sortK{f:Value}{n:Nat}(S:SJ J n0)(hJ:J s)(ho:s.heap.get? a=some (seqObj "list" vs.toArray n))(na:n0≤a)(hl:kz.length=vs.length)(h64:vs.length<64)
  (up:∀(i j:Nat) (x y:Value),i<j→vs[i]?=some x→vs[j]?=some y→numOf x<numOf y)
  (turn:∀(i:Nat) (v:Value) (k:Int),vs[i]?=some v→kz[i]?=some k→∀s',J s'→wpAny (model prog w) A (call f [v]) (Tells J n0 k s') (fun _ _=>False) s')
  (h:∀s' keys out c,J s'→s'.heap.get? a=some (seqObj "list" out c)→IntsAre keys.toList kz→keys.size=vs.length→Rows keys vs out→P (.done (.ret .none)) s'):wpAny (model prog w) A (ksk_tree a f false) P E s:=by
 have la:a<s.heap.objs.size:=Heap.lt_size ho
 have J1:=S.upd s a (fun _=>#[]) hJ na
 have J2:=S.push _ "tuple" vs.toArray 0 J1
 have J3:=S.push _ "list" #[] 0 J2
 obtain⟨e1,g1⟩:∃e1,(s.heap.update a (Obj.mapSeq fun _=>(#[]:Array Value))).get? a=some (seqObj "list" #[] e1):=⟨_,get?_update_seq ho fun _=>#[]⟩
 have sz:((s.heap.update a (Obj.mapSeq fun _=>(#[]:Array Value))).push (seqObj "tuple" vs.toArray 0)).objs.size=s.heap.objs.size+1:=by rw[size_push',Heap.size_update]
 have n0s:=S.sz s hJ
 unfold ksk_tree
 refine wpAny_bind (listItems_at ho rfl ?_)
 refine wpAny_bind (listUpdate_at ho rfl ?_ (by rw[NK,sizeLine_eq];omega) (N6 _))
 refine wpAny_bind (seqEpoch_at g1 rfl ?_)
 refine wpAny_bind (wpAny_newTuple ?_ (by show vs.length≤_;rw[sizeLine_eq];omega))
 refine wpAny_bind (wpAny_newList ?_ (N6 _))
 refine wpAny_holding ?_
 refine restK (s:={s with heap:=((s.heap.update a (Obj.mapSeq fun _=>(#[]:Array Value))).push (seqObj "tuple" vs.toArray 0)).push (seqObj "list" #[] 0)}) (kS:=((s.heap.update a (Obj.mapSeq fun _=>(#[]:Array Value))).push (seqObj "tuple" vs.toArray 0)).objs.size)
  S J3 (Heap.get?_push_size _ rfl) (Heap.get?_push_of_some _ (Heap.get?_push_of_some _ g1)) (by rw[sz];exact Mn (Nat.lt_succ_of_lt la)) (by rw[sz];omega) na hl h64 up turn h
end
section
variable {prog:Program} {w:World} {A:Around} {E:Value→Shared→Prop} {s:Shared} {J:Shared→Prop} {n0:Nat} {vs:List Value} {kz:List Int} {Q:Value→Shared→Prop}
theorem sortedK{l f:Addr}(S:SJ J n0)(hJ:J s)(hL:s.heap.IsList l vs.toArray)(hl:kz.length=vs.length)(h64:vs.length<64)
  (up:∀(i j:Nat) (x y:Value),i<j→vs[i]?=some x→vs[j]?=some y→numOf x<numOf y)
  (turn:∀(i:Nat) (v:Value) (k:Int),vs[i]?=some v→kz[i]?=some k→∀s',J s'→wpAny (model prog w) A.in1.in1 (call (.ref f) [v]) (Tells J n0 k s') (fun _ _=>False) s')
  (h:∀s' D keys out c,n0≤D→J s'→s'.heap.get? D=some (seqObj "list" out c)→IntsAre keys.toList kz→keys.size=vs.length→Rows keys vs out→Q (.ref D) s'):wpAny (model prog w) A (call (.builtin "sorted") [.ref l] [(Str.ofString "key", .ref f)]) Q E s:=by
 refine call_function_entry_kw kind_sorted plain_sorted entry_sorted (ksk_s1 _ _) ?_
 unfold Builtin.«sorted»
 refine wpAny_bind (m:=checkCount "sorted" 1 1 _) (wpAny_pure ?_)
 refine wpAny_bind (collect_list hL ?_ (by rw[sizeLine_eq];omega))
 refine wpAny_bind (wpAny_newList ?_ (by rw[sizeLine_eq];omega))
 have n0s:=S.sz s hJ
 have J1:=S.push s "list" #[] 0 hJ
 have J2:=S.upd _ s.heap.objs.size (· ++vs.toArray) J1 n0s
 have J3:=S.push _ "list" vs.toArray 0 J2
 have sz:((s.heap.push (seqObj "list" #[] 0)).update s.heap.objs.size (Obj.mapSeq (· ++vs.toArray))).objs.size=s.heap.objs.size+1:=by rw[Heap.size_update,size_push']
 have g1:(((s.heap.push (seqObj "list" #[] 0)).update s.heap.objs.size (Obj.mapSeq (· ++vs.toArray))).push (seqObj "list" vs.toArray 0)).get? (s.heap.objs.size+1)=some (seqObj "list" vs.toArray 0):=by
  rw[←sz]
  exact Heap.get?_push_size _ rfl
 show wpAny _ _ _ _ _ {s with heap:=((s.heap.push (seqObj "list" #[] 0)).update s.heap.objs.size (Obj.mapSeq (· ++vs.toArray))).push (seqObj "list" vs.toArray 0)}
 rw[sz]
 refine wpAny_bind (wpAny_holding (wpAny_call_entry_kw slot_list_sort ⟨_,g1,rfl⟩ entry_list_sort ?inner (ksk_l1 _ _)))
 case inner=>
  show wpAny (model prog w) A.in1.in1 (Builtin.«list.sort» ⟨[.ref (s.heap.objs.size+1)],[(Str.ofString "key", .ref f)]⟩) _ _ _
  rw[ksk_t1]
  refine sortK (s:={s with heap:=((s.heap.push (seqObj "list" #[] 0)).update s.heap.objs.size (Obj.mapSeq (· ++vs.toArray))).push (seqObj "list" vs.toArray 0)}) S J3 g1 (by omega) hl h64 up turn fun s' keys out c z1 z2 z3 z4 z5=>⟨_,rfl,?_⟩
  exact wpAny_pure ⟨_,rfl,h s' _ keys out c (by omega) z1 z2 z3 z4 z5⟩
end
end Stb
namespace L2
open PySem PySem.Spec PyProof.Rows
structure kdK (X:Cx) (scope:Scope) (x:Str) (N:List Str) (cap:List (Option Nat)):Prop where
 S:CompScope X scope N (none::cap)
 hd:N[0]?=some x
 par:scope.names.lookup x=some .local
 co:scope.isCoroutine=false
 gen:scope.isGenerator=false
 nocell:∀y∈scope.names,y.2≠.cell
noncomputable abbrev kjD(X:Cx)(scope:Scope)(qual:Str)(L f c:Addr):Env:=PySem.W.envX qual scope L f (.ref c) (closL X.env.cells scope.names [])
noncomputable def cxL(X:Cx)(A:Around)(scope:Scope)(N:List Str)(qual:Str)(f c:Addr)(s:Shared)(H:Hp):Cx:=
 {X with A:=A.deeper (kjD X scope qual s.heap.objs.size f c),N:=N,s₀:=s,H₀:=H,env:=kjD X scope qual s.heap.objs.size f c,outer:=X.stack,stack:=kjD X scope qual s.heap.objs.size f c::X.stack,ex:=[],fn:=fun _=>false,calm:=true,pn:=[],xe:=fun _ _=>False}
section
variable {X:Cx} {A:Around} {scope:Scope} {x:Str} {N:List Str} {cap:List (Option Nat)} {pins:List (Addr×Obj)} {σ:St} {H:Hp} {s s1:Shared} {qual:Str} {f c:Addr}
theorem kcY(S:kdK X scope x N cap)(I:Inv X pins σ H s){y:Str}{a:Addr}(h:(closL X.env.cells scope.names []).lookup y=some a):X.env.cells.lookup y=some a:=by
 rcases kes _ _ h with⟨h1,h2⟩|h1
 ·obtain⟨a',ea⟩:=I.ok.has y (S.S.free _ h1 rfl)
  rw[ea] at h2
  rw[h2]
  exact ea
 ·cases h1
theorem klW(S:kdK X scope x N cap)(I:Inv X pins σ H s)(hfr:A.frames=some X.stack)(hh:A.handled=none){v:V}{u:Value}(r:RelV v u){h1:Heap}{t:Nat}(hns:h1.Ns s.heap.objs.size fun y=>[(x,u)].reverse.lookup y)(hk:∀b o,s.heap.get? b=some o→h1.get? b=some o):
  Inv (cxL X A scope N qual f c s H) [] (some v::capσ cap σ) H {s with heap:=h1,toks:=t}:=by
 have noA:∀b:Addr,b∉(cxL X A scope N qual f c s H).ex:=fun b z=>absurd (show b∈([]:List Addr) from z) (by simp)
 have od:∀{y:Str} {a:Addr},X.env.cells.lookup y=some a→a<s.heap.objs.size:=fun {y a} h=>let⟨_,q⟩:=I.cell y a h;q.lt
 refine⟨⟨I.ok.mod,S.S.kind,rfl,rfl,Nj _,fun y z a e1 e2=>I.ok.inj y z a (kcY S I e1) (kcY S I e2),fun y hy=>?_,fun y a e1 _=>?_,fun _=>hh,Around.frames_deeper hfr, .inr ⟨rfl,rfl⟩,fun b z=>absurd z (noA b),I.bs,Nm I.ok.bsz I.sz,fun b _ _=>noA b,fun b z=>absurd z (noA b),I.stack,I.stkFree⟩,
  rfl,I.bare,Un.kept hk,⟨_,hns,fun j y w e1 e2 e3=>?_⟩,fun y a e=>?_,I.hok.fresh (Nj _),fun y a e=>I.freeC y a (kcY S I e),fun p hp=>absurd (show p∈([]:List (Addr×Obj)) from hp) (by simp),I.hok.kept hk,?_⟩
 ·have hy':scope.names.lookup y=some .cell∨scope.names.lookup y=some .free:=hy
  rcases hy' with q|q
  ·exact absurd rfl (S.nocell _ (PySem.mem_of_lookup q))
  ·exact kc4 (cells:=X.env.cells) scope.names [] (.inl (PySem.mem_of_lookup q))
 ·cases(show false=true from e1)
 ·cases j with
  | zero=>
   have ex:y=x:=by
    have e1':N[0]?=some y:=e1
    rw[S.hd] at e1'
    exact(Option.some.inj e1').symm
   have ev:w=v:=by
    have e2':some (some v)=some (some w):=e2
    exact(Option.some.inj (Option.some.inj e2')).symm
   subst ex ev
   refine⟨u,r, .inl ⟨S.par,?_⟩⟩
   simp
  | succ j=>
   have e2':(capσ cap σ)[j]?=some (some w):=by simpa using e2
   have e2'':(cap.map fun o=>match o with|some i=>(σ[i]?).getD none|none=>none)[j]?=some (some w):=e2'
   rw[Nv] at e2''
   cases ec:cap[j]? with
   |none=>rw[ec] at e2'';cases e2''
   | some oi=>
    rw[ec] at e2''
    cases oi with
    |none=>cases e2''
    | some i=>
     have e4:(σ[i]?).getD none=some w:=Option.some.inj e2''
     have e5: σ[i]?=some (some w):=by
      cases q: σ[i]? with
      |none=>rw[q] at e4;cases e4
      |some w'=>rw[q] at e4;exact congrArg some e4
     obtain⟨q1,hf,_⟩:=S.S.cap (j+1) i y (by simpa using ec) e1
     have hm:=PySem.mem_of_lookup hf
     have q2:=S.S.free _ hm rfl
     obtain⟨mo,_,hl⟩:=I.loc
     obtain⟨u',ru,lk⟩:=hl i y w q1 e5 (.inr q2)
     refine⟨u',ru, .inr ⟨.inr hf,?_⟩⟩
     rcases lk with⟨k1,_⟩|⟨_,a,ea,z⟩
     ·have k1':X.env.scope.names.lookup y=some .local:=k1
      rcases q2 with q2|q2 <;> rw[q2] at k1' <;> cases k1'
     ·obtain⟨a',ea2⟩:=kc4 (cells:=X.env.cells) scope.names [] (.inl hm)
      have e6:=kcY S I ea2
      rw[ea] at e6
      have e7:a=a':=Option.some.inj e6
      subst e7
      obtain⟨oc,ho,hd⟩:=z
      exact⟨a,ea2,oc,hk _ _ ho,hd⟩
 ·obtain⟨w,oc,ho,hd⟩:=I.cell y a (kcY S I e)
  exact⟨w,oc,hk _ _ ho,hd⟩
 ·have:=S.S.len
  show(some v::capσ cap σ).length=N.length
  rw[←this,NQ,NQ]
  unfold capσ
  rw[Nh]
theorem kkA{name:Str}{params:Arguments}{body:Expr}{pm ctv:Value}{te:TE}{v:V}{u:Value}{Q:VK}(S:kdK X scope x N cap)(I:Inv X pins σ H s)(hfr:A.frames=some X.stack)(hh:A.handled=none)(hdp:A.depth<recursionLimit)
  (ho:s.heap.get? f=some (Ep name qual params body scope (closL X.env.cells scope.names []) pm c ctv)) (hcd:s.heap.CodeRec (.ref c) qual)
  (hbind:bindArgs (PySem.W.kla_fn name qual params body scope (closL X.env.cells scope.names []) pm (.ref c) ctv) ⟨[u],[]⟩=pure [(x,u)]) (r:RelV v u) (he:PE (cxL X A scope N qual f c s H) body te) (hq:te (some v::capσ cap σ) H Q):
  wpAny (model X.prog X.w) A (call (.ref f) [u]) (fun w' s'=>∃v' H',Inv X pins σ H' s'∧RelV v' w'∧Q v' H'∧Un (frs X.stack) [] H H' s.heap s'.heap∧s.heap.objs.size≤s'.heap.objs.size) (fun _ _=>False) s:=by
 refine wpAny_call (PySem.W.kla_callFunE hdp ho rfl S.co S.gen rfl hcd ?_)
 rw[hbind]
 refine wpAny_pure (wpAny_newFunctionEnv S.nocell (fun y hy=>?_) (fun h1 hns hsb=>⟨I.nolimit.fresh _ hsb,?_⟩) S.S.kind)
 ·rw[Mw] at hy
  subst hy
  exact S.par
 have hk:∀b o,s.heap.get? b=some o→h1.get? b=some o:=fun b o e=>hsb.extBut b o (NP (Heap.lt_size e)) (Heap.get?_push_of_some _ e)
 have J:=klW (A:=A) (qual:=qual) (f:=f) (c:=c) (t:=s.toks+1) S I hfr hh r hns hk
 refine PySem.W.kla_codeExpr (wpAny_mono (he [] _ _ _ Q J hq) (fun w' s' hw=>?_) fun _ _ z=>z.elim)
 obtain⟨v',H',J',rv,qv⟩:=hw
 exact⟨v',H',I.call' (ch:=[]) J'.os J'.base J'.hok J'.bare (fun b hb=>by simp at hb),rv,qv,J'.base,J'.sz⟩
end
end L2
namespace L2
open PySem PySem.Spec PyProof.Rows
noncomputable def CodeO(c:Addr)(qual:Str):HO:=.ext fun h=>h.CodeRec (.ref c) qual
noncomputable def lamQ:Str:="falling_groups.<locals>.<lambda>"
noncomputable def TbAt(P:Addr)(H:Hp):Prop:=∃ps:Array Value,H P=some (.tbl ps)∧TriplesOk ps.toList∧∀pos c,codeAmong pos ps.toList=some c→∃c',c=.ref c'∧H c'=some (CodeO c' lamQ)
structure Grew (P:Addr) (H H':Hp):Prop where
 kp:∀b o,b≠P→H b=some o→H' b=some o
 tb:TbAt P H'
theorem kkd{pos:Pos}{a b:Int}{c:Value}(l:List Value)(h:TriplesOk l){x:Value}(e:codeAmong pos (l++[rawInt a,rawInt b,c])=some x):codeAmong pos l=some x∨x=c:=by
 fun_induction TriplesOk l with
 |case1=>
  right
  unfold rawInt codeAmong at e
  simp only[M5] at e
  split at e
  ·exact(Option.some.inj e).symm
  ·simp[codeAmong] at e
 | case2 n t m u d rest ih=>
  simp only[Er,codeAmong] at e⊢
  split at e
  ·left
   rename_i hc
   rw[if_pos hc]
   exact e
  ·rename_i hc
   rw[if_neg hc]
   exact ih h e
 |case3=>exact h.elim
noncomputable def CodeK(K:Ni)(c P:Addr):Prop:=
 ∃o vs file tf flags tg inF text tt,K.lookup c=some o∧o.cls=.type "code"∧o.data=.fields vs∧vs[11]?=some (.ref P)∧vs.getD 11 .none=.ref P∧vs.getD 18 .none=.str file tf∧vs.getD 7 .none=.int flags tg∧vs.getD 9 .none=.bool inF∧vs.getD 10 .none=.int text tt∧c≠P
theorem CodeK.hd{K:Ni}{c P:Addr}{h:Heap}(x:CodeK K c P)(X:K.In h):PySem.W.CodeHd h c P:=by
 obtain⟨o,vs,file,tf,flags,tg,inF,text,tt,e,r⟩:=x
 exact⟨o,vs,file,tf,flags,tg,inF,text,tt,X _ _ e,r⟩
noncomputable def BltM(mg:Str→Option Value)(base:Heap):Prop:=∃bm ob,mg "__builtins__"=some (.ref bm)∧bm≠builtinsNs∧base.get? bm=some ob∧ob.cls=.type "module"∧ob.dict=some builtinsNs∧ob.data=.plain
section
variable {X:Cx} {scope:Scope} {x:Str} {N:List Str} {cap:List (Option Nat)} {pins:List (Addr×Obj)} {σ:St} {H:Hp} {s:Shared} {c0 P:Addr} {params:Arguments} {body:Expr} {lpos:Pos}
theorem kkz{E:Value→Shared→Prop}{Q:Value→Shared→Prop}(S:kdK X scope x N cap)(I:Inv X pins σ H s)(hcode:X.env.code=.ref c0)(CK:CodeK X.K c0 P)(hB:BltM X.mg X.base)(TB:TbAt P H)(hq:X.env.qual++ "<lambda>"=lamQ)(hdef:defaultsOf params X.env=([],[]))
  (h:∀(s':Shared) (H':Hp) (f c:Addr) (pm ctv:Value),Inv X pins σ H' s'→Grew P H H'→s'.heap.get? f=some (Ep "<lambda>" lamQ params body scope (closL X.env.cells scope.names []) pm c ctv)→H' f=none→s.heap.objs.size≤f→(∀b,s.heap.objs.size≤b→s'.heap.objs.size≤b→H' b=none)→H' c=some (CodeO c lamQ)→Q (.ref f) s'):
  wpAny (model X.prog X.w) X.A (eval (.Lambda params body scope lpos) X.env) Q E s:=by
 obtain⟨ps,eP,ht,hor⟩:=TB
 have hP:s.heap.get? P=some (Es ps):=(show ObjOk X.prog X.w H s.heap P (.tbl ps) from I.hok P _ eP)
 have hg:=I.mod.glob.keeps I.bk
 have nbP:∀b o,X.base.get? b=some o→b≠P:=fun b o e z=>by
  have:=(I.bs b o e).2
  rw[z,eP] at this
  cases this
 have hgP:mainGlobals≠P:=by
  obtain⟨o,_,_,e,_⟩:=I.mod.glob
  exact nbP _ o e
 have hb:s.heap.BuiltinsAt X.mg P:=by
  obtain⟨bm,ob,b1,b2,b3,b4,b5,b6⟩:=hB
  refine⟨bm,ob,b1,b2,fun z=>?_,nbP _ ob b3,I.bk _ _ b3,b4,b5,b6⟩
  obtain⟨o,es,ep,e,hd,_⟩:=I.mod.glob
  rw[←z,b3] at e
  cases e
  rw[b6] at hd
  cases hd
 have CH:=CK.hd I.kIn
 refine PySem.W.kla_eval hdef ?_
 rw[hq]
 cases hor':codeAmong lpos ps.toList with
 | none=>
  have hnf:=hor'
  refine PySem.W.kla_makeFunction (mg:=X.mg) (kcq S.S I) I.ok.glob hg hcode CH hP ht hnf hgP hb fun c' ctv h' tk hx hge hlt hrec htb=>?_
  have hc0:H c'=none:=I.hok.fresh hge
  have nPc:P≠c':=kaj eP hc0
  have szP:P<s.heap.objs.size:=Heap.lt_size hP
  generalize hob:Ep "<lambda>" lamQ params body scope (closL X.env.cells scope.names []) ((X.mg "__name__").getD .none) c' ctv=ob
  have k2:∀b o,b≠P→s.heap.get? b=some o→(h'.push ob).get? b=some o:=fun b o hbp e=>Heap.get?_push_of_some _ (hx b o hbp e)
  have nN:∀{b:Addr},H b=none→b≠P:=fun {b} n z=>by rw[z,eP] at n;cases n
  have at2:∀{b:Addr},b≠P→b≠c'→(upd (upd H P (.tbl (ps++ #[rawInt lpos.line,rawInt lpos.col, .ref c']))) c' (CodeO c' lamQ)) b=H b:=fun {b} h1 h2=>by rw[kam h2,kam h1]
  have eP2:(upd (upd H P (.tbl (ps++ #[rawInt lpos.line,rawInt lpos.col, .ref c']))) c' (CodeO c' lamQ)) P=some (.tbl (ps++ #[rawInt lpos.line,rawInt lpos.col, .ref c'])):=by rw[kam nPc,kad]
  have ec2:(upd (upd H P (.tbl (ps++ #[rawInt lpos.line,rawInt lpos.col, .ref c']))) c' (CodeO c' lamQ)) c'=some (CodeO c' lamQ):=kad
  have fresh2:∀b,s.heap.objs.size≤b→(h'.push ob).objs.size≤b→(upd (upd H P (.tbl (ps++ #[rawInt lpos.line,rawInt lpos.col, .ref c']))) c' (CodeO c' lamQ)) b=none:=fun b h1 h2=>by
   rw[Heap.size_push] at h2
   rw[at2 (Mn (NN szP h1)) (Mn (NN hlt (Nat.le_of_succ_le h2)))]
   exact I.hok.fresh h1
  have ff:(upd (upd H P (.tbl (ps++ #[rawInt lpos.line,rawInt lpos.col, .ref c']))) c' (CodeO c' lamQ)) h'.objs.size=none:=by
   have h1:s.heap.objs.size≤h'.objs.size:=Nm hge (Nw hlt)
   rw[at2 (Mn (NN szP h1)) (Mn hlt)]
   exact I.hok.fresh h1
  generalize upd (upd H P (.tbl (ps++ #[rawInt lpos.line,rawInt lpos.col, .ref c']))) c' (CodeO c' lamQ)=H2 at *
  have un:Un X.fs [] H H2 s.heap (h'.push ob):=by
   refine⟨fun b o e n _ _=>k2 b o (nN n) e,fun b o e n _ _=>⟨o.slots,k2 b o (nN n) e⟩,fun b o e n _=>?_,fun b o e _=>?_,fun b xs e=>?_,fun b o u e=>?_,fun b qs e=>?_⟩
   ·rw[at2 (nN n) (NP (NN (Heap.lt_size e) hge))]
    exact n
   ·by_cases hbp:b=P
    ·subst hbp
     exact⟨_,Heap.get?_push_of_some _ htb⟩
    ·exact⟨o,k2 b o hbp e⟩
   ·rw[at2 (ne_of e eP (by intro z;cases z)) (kaj e hc0)]
    exact e
   ·rw[at2 (ne_of e eP (by intro z;cases z)) (kaj e hc0)]
    exact e
   ·by_cases hbp:b=P
    ·subst hbp
     rw[eP] at e
     cases e
     exact⟨_,eP2⟩
    ·refine⟨#[],?_⟩
     rw[at2 hbp (kaj e hc0),e]
     simp
  have hok2:HOk X.prog X.w H2 (h'.push ob):=fun b u e=>by
   by_cases hbp:b=P
   ·subst hbp
    rw[eP2] at e
    cases e
    exact(show(h'.push ob).get? b=some _ from Heap.get?_push_of_some _ htb)
   ·by_cases hbc:b=c'
    ·subst hbc
     rw[ec2] at e
     cases e
     obtain⟨cc,oc,vs,t,e1,e2,e3,e4⟩:=hrec
     cases e1
     refine(show ObjOk X.prog X.w H2 (h'.push ob) b (CodeO b lamQ) from⟨⟨b,oc,vs,t,rfl,Heap.get?_push_of_some _ e2,e3,e4⟩,⟨oc,Heap.get?_push_of_some _ e2⟩,fun h1 h2 q k=>?_⟩)
     obtain⟨c3,o3,vs3,t3,z1,z2,z3,z4⟩:=q
     cases z1
     exact⟨b,o3,vs3,t3,rfl,k _ z2,z3,z4⟩
    ·rw[at2 hbp hbc] at e
     have nown:∀d y,H d=some (.own y)→d≠P∧d≠c':=fun d y r=>⟨ne_of r eP (by intro z;cases z),kaj r hc0⟩
     refine(I.hok b u e).stay (fun d v hd r=>k2 d v ?_ r) (fun d r=>by rw[at2 (nown d b r).1 (nown d b r).2];exact r) fun d xs r=>by rw[at2 (ne_of r eP (by intro z;cases z)) (kaj r hc0)];exact r
     rcases hd with rfl|hd
     ·exact hbp
     ·exact(nown d b hd).1
  subst hob
  refine h _ H2 h'.objs.size c' _ ctv (I.un (t':=tk) un hok2) ⟨fun b o hbp e=>by rw[at2 hbp (kaj e hc0)];exact e,_,eP2,?_,fun pos d ed=>?_⟩ (Heap.get?_push_size _ rfl) ff (Nm hge (Nw hlt)) fresh2 ec2
  ·have:=TriplesOk_snoc lpos.line lpos.col (.ref c') ps.toList ht
   simpa using this
  ·have ed':codeAmong pos (ps.toList++[rawInt lpos.line,rawInt lpos.col, .ref c'])=some d:=by simpa using ed
   rcases kkd ps.toList ht ed' with z|z
   ·obtain⟨d',rfl,ed2⟩:=hor pos d z
    exact⟨d',rfl,by rw[at2 (ne_of ed2 eP (by intro z;cases z)) (kaj ed2 hc0)];exact ed2⟩
   ·exact⟨c',z,ec2⟩
 |some cv=>
  have hf:=hor'
  obtain⟨c',rfl,ec'⟩:=hor lpos cv hf
  refine PySem.W.kla_makeFunctionHit (mg:=X.mg) (kcq S.S I) I.ok.glob hg hcode CH hP ht hf hb fun ctv h' tk hk hsz=>?_
  have k2:∀b o,s.heap.get? b=some o→(h'.push (Ep "<lambda>" lamQ params body scope (closL X.env.cells scope.names []) ((X.mg "__name__").getD .none) c' ctv)).get? b=some o:=fun b o e=>Heap.get?_push_of_some _ (hk b o e)
  exact h _ H h'.objs.size c' _ ctv (I.kept (t':=tk) k2) ⟨fun b o _ e=>e,ps,eP,ht,hor⟩ (Heap.get?_push_size _ rfl) (I.hok.fresh hsz) hsz (fun b h1 _=>I.hok.fresh h1) ec'
end
end L2
namespace L2
open PySem PySem.Spec PyProof.Rows
theorem kf1:∀{ns:List Int} {us:List Value},Vals (ns.map V.int) us→IntsAre us ns
 |[],_, .nil=>.nil
 |n::ns,_, .cons h t=>by
  obtain⟨tk,rfl⟩:=h
  exact .cons n tk (kf1 t)
theorem kfs:∀{us:List Value} {ns:List Int},IntsAre us ns→Vals (ns.map V.int) us
 |_,_, .nil=>.nil
 |_,_, .cons n t h=>.cons ⟨t,rfl⟩ (kfs h)
theorem kkh{ns:List Int}{key:Int→Int}{keys:Array Value}{us:List Value}{out:Array Value}(hu:IntsAre us ns)(hk:IntsAre keys.toList (ns.map key))(hl:keys.size=us.length)(h:Stb.Rows keys us out):
  ∃ms:List Int,IntsAre out.toList ms∧ms.Perm ns∧ms.Pairwise fun a b=>key a<key b∨(key a=key b∧a<b):=by
 obtain⟨xs,hp,hup,rfl⟩:=h
 have pl:xs.toList.Perm (keys.toList.zip us):=by
  rw[←ksk_zip]
  exact Array.perm_iff_toList_perm.mp hp
 have mem:∀p∈keys.toList.zip us,p.2∈us∧numOf p.1=key (numOf p.2):=fun p hp=>by
  obtain⟨i,hi,rfl⟩:=List.mem_iff_getElem.mp hp
  have l1:i<keys.toList.length:=by
   rw[List.length_zip] at hi
   omega
  have l2:i<us.length:=by
   rw[List.length_zip] at hi
   omega
  rw[List.getElem_zip]
  refine⟨List.getElem_mem l2,?_⟩
  have e1:(keys.toList.map numOf)[i]?=(ns.map key)[i]?:=by rw[hk.nums]
  have e2:(us.map numOf)[i]?=ns[i]?:=by rw[hu.nums]
  rw[Nv,Mv l1,Nv] at e1
  rw[Nv,Mv l2] at e2
  rw[←e2] at e1
  exact Option.some.inj e1
 have memx:∀p∈xs.toList,p.2∈us∧numOf p.1=key (numOf p.2):=fun p hp=>mem p (pl.mem_iff.mp hp)
 refine⟨xs.toList.map fun p=>numOf p.2,?_,?_,?_⟩
 ·have e:(xs.map (·.2)).toList=xs.toList.map (·.2):=by simp
  rw[e]
  have:=intsAre_map (xs.toList.map (·.2)) fun v hv=>by
   obtain⟨p,hp',rfl⟩:=NJ.mp hv
   exact hu.all _ (memx p hp').1
  rw[NM] at this
  exact this
 ·have h1:=pl.map (fun p:Keyed=>numOf p.2)
  have e2:(keys.toList.zip us).map (fun p:Keyed=>numOf p.2)=ns:=by
   have e3:(keys.toList.zip us).map (fun p:Keyed=>numOf p.2)=((keys.toList.zip us).map Prod.snd).map numOf:=by rw[NM];rfl
   rw[e3,List.map_snd_zip (by have e:=MP (xs:=keys);omega),hu.nums]
  rw[e2] at h1
  exact h1
 ·rw[MK]
  intro i j hi hj hij
  have hi':i<xs.size:=by simpa using hi
  have hj':j<xs.size:=by simpa using hj
  have q:=hup i j hij hj'
  have ki:=(memx xs[i] (by simp)).2
  have kj:=(memx xs[j] (by simp)).2
  unfold Stb.Lx Stb.T at q
  rw[K_eq hi',K_eq hj',ES hi',ES hj'] at q
  simp only[MV,Array.getElem_toList]
  rw[←ki,←kj]
  exact q
section
variable {X:Cx} {scope:Scope} {x:Str} {N:List Str} {cap:List (Option Nat)} {pins:List (Addr×Obj)} {σ:St} {H:Hp} {s1:Shared} {f:Addr} {fo:Obj}
noncomputable def Held(X:Cx)(pins:List (Addr×Obj))(σ:St)(H:Hp)(n0:Nat)(f:Addr)(fo:Obj)(s:Shared):Prop:=Inv X pins σ H s∧n0≤s.heap.objs.size∧s.heap.get? f=some fo
theorem klY(I:Inv X pins σ H s1)(hf:f<s1.heap.objs.size):Stb.SJ (Held X pins σ H s1.heap.objs.size f fo) s1.heap.objs.size where
 sz:=fun s h=>h.2.1
 push:=fun s c xs n h=>⟨h.1.kept (t':=s.toks) fun b o e=>Heap.get?_push_of_some _ e,Nm h.2.1 (by rw[Heap.size_push];exact MI _),Heap.get?_push_of_some _ h.2.2⟩
 upd:=fun s b g h hb=>by
  obtain⟨q1,q2,q3,q4,q5,q6⟩:=I.fpOk hb (I.hok.fresh hb)
  have sb:=Heap.SameBut.update s.heap b (Obj.mapSeq g)
  exact⟨h.1.turned (t':=s.toks) (it:=b) (fun d o hd e=>(sb.2 d hd).trans e) q1 q2 q4 q5 q6,by rw[Heap.size_update];exact h.2.1,(sb.2 f (NP (NN hf hb))).trans h.2.2⟩
noncomputable def kkf(K:Ni)(P:Addr)(tl:TE)(cap:List (Option Nat))(te:TE):TE:=fun σ H Q=>tl σ H fun v H1=>∃(a:Addr) (ns:List Int) (key:Int→Int),v=.ref a∧SqL K H1 a (ns.map V.int)∧ns.length<64∧ns.Pairwise (· < ·)∧TbAt P H1∧a≠P∧
 (∀H2,Grew P H1 H2→∀n∈ns,te (some (.int n)::capσ cap σ) H2 fun v H3=>v=.int (key n)∧H3=H2)∧
 ∀(H2:Hp) (l:Addr) (ms:List Int),Grew P H1 H2→H1 l=none→H2 l=none→ms.Perm ns→(ms.Pairwise fun a b=>key a<key b∨(key a=key b∧a<b))→Q (.ref l) (upd H2 l (.lst (ms.map V.int)))
theorem kf8:bootBuiltins "sorted"=some (.builtin "sorted"):=by decide +kernel
theorem Grew.seq{K:Ni}{P:Addr}{H H':Hp}{a:Addr}{xs:List V}(g:Grew P H H')(ha:a≠P)(h:SqL K H a xs):SqL K H' a xs:=by
 rcases h with(h|⟨o,h⟩)|h
 ·exact .inl (.inl (g.kp _ _ ha h))
 ·exact .inl (.inr ⟨o,g.kp _ _ ha h⟩)
 ·exact .inr h
theorem kij{l:Expr}{tl te:TE}{c0 P:Addr}{params:Arguments}{body:Expr}{lpos p pos kpos:Pos}(hl:PE X l tl)(S:kdK X scope x N cap)(hc:X.calm=true)(hdp:X.A.depth<recursionLimit)(hcode:X.env.code=.ref c0)(CK:CodeK X.K c0 P)(hB:BltM X.mg X.base)
  (hg:Gl X "sorted") (hm:X.mg "sorted"=none) (hbind:∀(cl:List (Str×Addr)) (pm:Value) (c:Addr) (ctv u:Value),bindArgs (PySem.W.kla_fn "<lambda>" lamQ params body scope cl pm (.ref c) ctv) ⟨[u],[]⟩=pure [(x,u)])
  (he:∀A f c s H,PE (cxL X A scope N lamQ f c s H) body te) (hq:X.env.qual++ "<lambda>"=lamQ) (hdef:defaultsOf params X.env=([],[]):=by rfl) (s1:starEach [l] X.env=[(false,eval l X.env)]:=by rfl):
  PE X (.Call (.Name "sorted" p) [l] [⟨some "key", .Lambda params body scope lpos,kpos⟩] pos) (kkf X.K P tl cap te):=by
 intro pins s σ H Q I h
 refine wpAny_Call_Name_kw (kdC I hg hm kf8 ?_ (by decide) (by decide))
 refine callWith_kw ?_ (by rw[s1];rfl) (by rw[s1];rfl)
 rw[s1]
 refine Calls.spliced_cons (thn (hl pins s σ H _ I h) fun u s3 ⟨v,H1,I1,r1,a,ns,key,ev,hS,h64,hup,TB,haP,hte,q⟩=>Calls.spliced_nil ?_)
 subst ev
 cases r1
 show wpAny _ _ (evalAll ((do let v ←eval (.Lambda params body scope lpos) X.env;standAt pos;pure v):: [])) _ _ s3
 refine wpAny_evalAll_cons (wpAny_bind (kkz S I1 hcode CK hB TB hq hdef fun s4 H4 lf c pm ctv I4 G ef ff hsf hfr ec=>wpAny_bind (wpAny_standAt (wpAny_pure (wpAny_evalAll_nil ?_)))))
 show wpAny _ _ (call (.builtin "sorted") [.ref a] [(Str.ofString "key", .ref lf)]) _ _ s4
 obtain⟨its,rv,pl,hz⟩:=I4.list (G.seq haP hS)
 have hi:=kf1 rv
 have lu:=hi.length
 have lf4:lf<s4.heap.objs.size:=Heap.lt_size ef
 have rising:∀(i j:Nat) (y z:Value),i<j→its[i]?=some y→its[j]?=some z→numOf y<numOf z:=fun i j y z hij ey ez=>by
  have e1:ns[i]?=some (numOf y):=by rw[←hi.nums,Nv,ey];rfl
  have e2:ns[j]?=some (numOf z):=by rw[←hi.nums,Nv,ez];rfl
  obtain⟨l1,q1⟩:=Nz.mp e1
  obtain⟨l2,q2⟩:=Nz.mp e2
  have:=MK.mp hup i j l1 l2 hij
  rw[q1,q2] at this
  exact this
 refine Stb.sortedK (kz:=ns.map key) (J:=Held X pins σ H4 s4.heap.objs.size lf _) (klY I4 lf4) ⟨I4,Nj _,ef⟩ pl.isList (by rw[Nh,lu]) (by omega) rising (fun i v k ev ek s5 hJ=>?_) fun s5 D keys out cc hD hJ eD hk hkl hR=>?_
 ·have en:ns[i]?=some (numOf v):=by rw[←hi.nums,Nv,ev];rfl
  have ek':k=key (numOf v):=by
   rw[Nv,en] at ek
   exact(Option.some.inj ek).symm
  subst ek'
  obtain⟨n,t,rfl⟩:=hi.all v (Nt ev)
  have hcr:s5.heap.CodeRec (.ref c) lamQ:=(show ObjOk X.prog X.w H4 s5.heap c (CodeO c lamQ) from hJ.1.hok c _ ec).1
  refine wpAny_mono (kkA (A:=X.A.in1.in1) (v:=.int n) (u:=.int n t) S hJ.1 I.ok.frames (I.ok.hd hc) hdp hJ.2.2 hcr (hbind _ _ _ _ _) ⟨t,rfl⟩ (he _ _ _ _ _) (hte H4 G n (Nt en))) (fun w' s6 hw=>?_) fun _ _ z=>z
  obtain⟨v',H6,I6,rv',⟨e1,e2⟩,un,sz6⟩:=hw
  subst e1 e2
  have nst:∀b,s3.heap.objs.size≤b→b∉frs X.stack:=fun b hb z=>absurd (kiJ I1 z) (Nat.not_lt.mpr hb)
  have s34:s3.heap.objs.size≤s4.heap.objs.size:=Nw (Mt hsf lf4)
  have kp:∀b o,s3.heap.objs.size≤b→H6 b=none→s5.heap.get? b=some o→s6.heap.get? b=some o:=fun b o hb hn e=>un.keep b o e hn (nst b hb) (by simp)
  refine⟨rv',⟨I6,?_,kp lf _ hsf ff hJ.2.2⟩,fun b o hb e=>kp b o (Nm s34 hb) (I4.hok.fresh hb) e⟩
  exact Nm hJ.2.1 sz6
 ·obtain⟨ms,m1,m2,m3⟩:=kkh hi hk (by omega) hR
  have hn:H4 D=none:=I4.hok.fresh hD
  have fp:=I4.fpOk hD hn
  have h10:H1 D=none:=I1.hok.fresh (Nm (Nw (Mt hsf lf4)) hD)
  have vm:=kfs m1
  have lz:(ms.map V.int).length≤sizeLine:=by
   rw[Nh,m2.length_eq,sizeLine_eq]
   omega
  refine⟨.ref D,_,hJ.1.adopt (a:=D) (o:=.lst (ms.map V.int)) fp ?_ ?_,rfl,q H4 D ms G h10 hn m2 m3⟩
  ·exact Nm I4.sz hD
  ·exact(show ObjOk X.prog X.w _ s5.heap D (.lst (ms.map V.int)) from⟨lz,out.toList,cc,vm,by simpa using eD⟩)
end
end L2
namespace L2
open PySem PySem.W PyProof.Rows
section
variable {X:Cx}
noncomputable def kmd:V→List V→Hp→VK→Prop:=fun x vs H Q=>∃(l:Addr) (ns:List Int) (k:Int),x=.ref l∧vs=[.int k]∧H l=some (.lst (ns.map V.int))∧Q (.int (ns.count k:Nat)) H
theorem ke0:∀{ns:List Int} {us:List Value} (k:Int),Vals (ns.map V.int) us→us.countP (isI k)=ns.count k
 |[],_,_, .nil=>rfl
 |m::ns,_::us,k, .cons r t=>by
  obtain⟨tk,rfl⟩:=r
  rw[List.countP_cons,M9,ke0 k t]
  rfl
theorem kh1:MtM X "list.count" kmd:=by
 intro pins s σ H x vs v us Q I rx rv h
 obtain⟨l,ns,k,rfl,rfl,hH,q⟩:=h
 cases rx
 obtain⟨u,rfl,ru⟩:=rv.one
 obtain⟨t,rfl⟩:=ru
 obtain⟨z,its,n,r,hl,e⟩:=I.lstM hH
 refine call_meets F.slot_list_count ⟨_,e,rfl⟩ F.entry_list_count (F.args_list_count_2 _ _)
  (MeetsSeq.list_count l its.toArray n (.int k t) (isI k) (fun y hy=>?_)) ⟨e,?_⟩
 ·obtain⟨j,hj',rfl⟩:=Array.mem_iff_getElem.mp hy
  have hjl:j<its.length:=by simpa using hj'
  have hln:its.length=ns.length:=by rw[←hl,Nh]
  obtain⟨tk,et⟩:=kgG r j ns[j] (by simp)
  obtain⟨_,e'⟩:=Nz.mp et
  have e2:its.toArray[j]=.int ns[j] tk:=by simpa using e'
  rw[e2]
  exact MeetsSeq.EqGives.int _ k tk t
 ·refine⟨.int (ns.count k:Nat),H,I.tok _,⟨s.toks,?_⟩,q⟩
  rw[List.toList_toArray,ke0 k r]
end
end L2
namespace L2
open PySem PySem.W PyProof.Rows
section
variable {X:Cx} {pins:List (Addr×Obj)} {σ:St} {H:Hp} {s:Shared} {A:Around} {E:Value→Shared→Prop} {Q:Value→Shared→Prop}
noncomputable def kjc(K:Ni):List V→Hp→VK→Prop:=fun xs H Q=>∃(a:Addr) (ns:List Int),xs=[.ref a]∧SqL K H a (ns.map V.int)∧ns.length<64∧∀(D:Addr) (ms:List Int),H D=none→ms.Perm ns→ms.Pairwise (·≤·)→Q (.ref D) (upd H D (.lst (ms.map V.int)))
theorem keb:CallR X (.builtin "sorted") (kjc X.K):=by
 intro pins s σ H xs us Q I r h
 obtain⟨a,ns,rfl,hS,h64,q⟩:=h
 obtain⟨u,rfl,rx⟩:=vals1 r
 cases rx
 obtain⟨its,rv,pl,hz⟩:=I.list hS
 have hi:=kf1 rv
 have lu:=hi.length
 refine sorted_ints pl.isList hi (by omega) fun out ms h1 h2 h3=>?_
 obtain⟨e,he⟩:=sortedAll_at s.heap its out
 have hn:H (s.heap.objs.size+1)=none:=I.hok.fresh (MI _)
 have lz:(ms.map V.int).length≤sizeLine:=by
  rw[Nh,h2.length_eq,sizeLine_eq]
  omega
 exact⟨.ref (s.heap.objs.size+1),_,I.laid (t':=s.toks) (fun b o z=>sortedAll_old z) (MI _) (show ObjOk X.prog X.w (upd H (s.heap.objs.size+1) (.lst (ms.map V.int))) (sortedAll s.heap its out) (s.heap.objs.size+1) (.lst (ms.map V.int)) from⟨lz,out.toList,e,kfs h1,by simpa using he⟩),rfl,q _ ms hn h2 h3⟩
theorem ps_no{st:Stmt}:PS X st (fun _ _ _=>False):=fun _ _ _ _ _ _ h=>h.elim
end
end L2
namespace L2
open PySem PySem.W PyProof.Rows
section
variable {X:Cx}
end
end L2
namespace L2
open PySem PySem.Spec PyProof.Rows
noncomputable def nxo:HO→Bool
 | .ext _=>false
 |_=>true
noncomputable def NX(H:Hp)(p:Addr):Prop:=∀φ,H p≠some (.ext φ)
theorem nx{H:Hp}{p:Addr}{o:HO}(h:H p=some o)(n:nxo o=true:=by rfl):NX H p:=fun φ z=>by
 rw[h] at z
 cases z
 cases n
theorem nx0{H:Hp}{p:Addr}(h:H p=none):NX H p:=fun φ z=>by
 rw[h] at z
 cases z
theorem kdf{H:Hp}{p q:Addr}{o:HO}(h:NX H p)(n:nxo o=true:=by rfl):NX (upd H q o) p:=fun φ z=>by
 by_cases e:p=q
 ·subst e
  rw[kad] at z
  cases z
  cases n
 ·rw[kam e] at z
  exact h φ z
noncomputable abbrev Ev(H H':Hp)(b:Addr)(o:HO):Prop:=match o with
 | .tbl _=>(∃ps,H' b=some (.tbl ps))∧(TbAt b H→TbAt b H')
 |o=>H' b=some o
theorem ev_eq{H H':Hp}{b:Addr}{o:HO}(e:H' b=some o)(t:TbAt b H→TbAt b H'):Ev H H' b o:=by
 cases o <;> first|exact e|exact⟨⟨_,e⟩,t⟩
theorem kf3{H H':Hp}{b:Addr}{o:HO}(e:Ev H H' b o):∃o',H' b=some o':=by
 cases o <;> first|exact⟨_,e⟩|exact⟨_,e.1.choose_spec⟩
theorem kbI{H H1 H2:Hp}{b:Addr}{o:HO}(e:Ev H H1 b o)(k:∀o,H1 b=some o→Ev H1 H2 b o):Ev H H2 b o:=by
 cases o with
 |tbl ps=>
  obtain⟨⟨ps1,e1⟩,t1⟩:=e
  obtain⟨e2,t2⟩:=(show Ev H1 H2 b (.tbl ps1) from k _ e1)
  exact⟨e2,fun h=>t2 (t1 h)⟩
 |_=>exact k _ e
theorem kd3{b p:Addr}{H:Hp}{o:HO}(h:TbAt b H)(n:b≠p)(hx:NX H p):TbAt b (upd H p o):=by
 obtain⟨ps,e,t,hor⟩:=h
 refine⟨ps,by rw[kam n];exact e,t,fun pos d ed=>?_⟩
 obtain⟨c,rfl,z2⟩:=hor pos d ed
 have hc:c≠p:=fun e=>by
  subst e
  exact hx _ z2
 exact⟨c,rfl,by rw[kam hc];exact z2⟩
noncomputable def Same(H H':Hp):Prop:=∀b o,H b=some o→Ev H H' b o
theorem Same.refl(H:Hp):Same H H:=fun _ _ h=>ev_eq h fun t=>t
theorem Same.trans{H H1 H2:Hp}(a:Same H H1)(b:Same H1 H2):Same H H2:=fun c o h=>kbI (a c o h) fun o' e=>b c o' e
theorem Same.free{H H':Hp}(e:Same H H'){l:Addr}(h:H' l=Option.none):H l=Option.none:=by
 cases q:H l with
 |none=>rfl
 |some o=>
  obtain⟨o',e'⟩:=kf3 (e l o q)
  rw[e'] at h
  cases h
theorem Same.seq{K:Ni}{H H':Hp}{a:Addr}{xs:List V}(e:Same H H')(h:SqL K H a xs):SqL K H' a xs:=by
 rcases h with(h|⟨o,h⟩)|h
 ·exact .inl (.inl (e _ _ h))
 ·exact .inl (.inr ⟨o,e _ _ h⟩)
 ·exact .inr h
theorem Same.tb{H H':Hp}(s:Same H H'){b:Addr}(h:TbAt b H):TbAt b H':=by
 obtain⟨ps,e,r⟩:=id h
 exact(show Ev H H' b (.tbl ps) from s b _ e).2 h
theorem Grew.same{P:Addr}{H H':Hp}(g:Grew P H H')(TB:TbAt P H):Same H H':=fun b o e=>by
 obtain⟨ps,eP,ht,hor⟩:=TB
 by_cases h:b=P
 ·subst h
  rw[eP] at e
  cases e
  obtain⟨qs,e1,_⟩:=id g.tb
  exact⟨⟨qs,e1⟩,fun _=>g.tb⟩
 ·refine ev_eq (g.kp b o h e) fun t=>?_
  obtain⟨qs,e1,t1,h1⟩:=t
  refine⟨qs,g.kp b _ h e1,t1,fun pos d ed=>?_⟩
  obtain⟨c,rfl,z⟩:=h1 pos d ed
  exact⟨c,rfl,g.kp c _ (ne_of z eP (by intro z;cases z)) z⟩
end L2
namespace L2
open PySem PySem.Spec PyProof.Rows
noncomputable def kgg(K:Ni)(tP:Addr):Sp:=fun vs H Q _=>∃(a:Addr) (ns:List Int),vs=[.ref a]∧SqL K H a (ns.map V.int)∧ns.length≤63∧TbAt tP H∧∀H',Q (.bl true) H'
theorem kjB{P:Program}{w:World}{K:Ni}{mg mb:Str→Option Value}{k:Nat}{fa a tP c0:Addr}{fd:FuncData}{x:Str}{s₁:Shared}{vs:List Value}{ns:List Int}
  (KX:K.In s₁.heap) (hns:s₁.heap.Ns mainGlobals mg) (hb:s₁.heap.Ns builtinsNs mb) (hbb:∀x:Str,x≠"__name__"→mb x=bootBuiltins x) (hlim:s₁.heap.NoLimit) (hg:s₁.gens= #[])
  (ha:s₁.heap.get? a=some {cls:=.type "list",data:=.seq vs.toArray}) (hi:IntsAre vs ns) (hl:ns.length≤63) (hr:Room k callerA) (hT:s₁.heap.get? tP=some (Es #[])) (CK:CodeK K c0 tP) (kT:K.lookup tP=none) (hBM:BltM mg s₁.heap)
  (F:∀base:Heap,K.In base→base.Ns mainGlobals mg→BltM mg base→FnOk P w K mg base CX0 k fa fd [x] (kgg K tP)) (hbind:∀(s:Shared) (u:Value),BindsTo s fd ⟨[u],[]⟩ [(x,u)]):
  codeAny (model P w) callerA (.call (.ref fa) ⟨[.ref a],[]⟩) (fun r s'=>r=.ok (.ret (.bool true))∧OldK s₁.heap s'.heap∧s'.os=s₁.os∧AllBare s'.gens) s₁:=by
 have rv:=kgb hi
 have lenV:=hi.length
 have hlz:ns.length≤sizeLine:=Nm hl (by decide)
 have nTa:tP≠a:=fun e=>by
  rw[e,ha] at hT
  have:=Option.some.inj hT
  injection this with z
  cases z
 have core:∀H:Hp,SqL K H a (ns.map V.int)→HOk P w H s₁.heap→H tP=some (.tbl #[])→(∀b,b≠tP→H b=none∨(b=a∧∃o xs,H b=some (.frz o (.lst xs))))→(H a≠none→K.lookup a=none)→
   codeAny (model P w) callerA (.call (.ref fa) ⟨[.ref a],[]⟩) (fun r s'=>r=.ok (.ret (.bool true))∧OldK s₁.heap s'.heap∧s'.os=s₁.os∧AllBare s'.gens) s₁:=by
  intro H hS hok eT hO hK
  have base_of:∀{b:Addr} {o:Obj},s₁.heap.get? b=some o→H b=none→(hidT s₁.heap H).get? b=some o:=fun e n=>kkE e n
  have noT:∀{b:Addr} {o:Obj},s₁.heap.get? b=some o→o.cls≠.none→(∀us n,o.data≠.seq us n)→H b=none:=fun {b o} e hc hd=>by
   by_cases hbT:b=tP
   ·rw[hbT,hT] at e
    cases e
    exact absurd rfl hc
   ·rcases hO b hbT with z|⟨z,_⟩
    ·exact z
    ·rw[z,ha] at e
     cases e
     exact absurd rfl (hd _ _)
  have noA:∀{b:Addr} {o:Obj} {es:Array DictEntry} {ep:Nat},s₁.heap.get? b=some o→o.data=.dict es ep→H b=none:=fun {b o es ep} e d=>by
   by_cases hbT:b=tP
   ·rw[hbT,hT] at e
    cases e
    cases d
   ·rcases hO b hbT with z|⟨z,_⟩
    ·exact z
    ·rw[z,ha] at e
     cases e
     cases d
  have nsK:∀{b:Addr} {m:Str→Option Value},s₁.heap.Ns b m→(hidT s₁.heap H).Ns b m:=fun {b m} ⟨o,es,ep,e,d,r⟩=>⟨o,es,ep,base_of e (noA e d),d,r⟩
  have hKb:K.In (hidT s₁.heap H):=fun b o e=>base_of (KX b o e) (by
   by_cases hbT:b=tP
   ·rw[hbT,kT] at e
    cases e
   ·rcases hO b hbT with z|⟨z,o',xs,z2⟩
    ·exact z
    ·subst z
     rw[hK (by rw[z2];simp)] at e
     cases e)
  have hM:Mod K mg (hidT s₁.heap H):=⟨hKb,nsK hns,⟨mb,nsK hb,hbb⟩,let⟨mc,h1,h2⟩:=hlim;⟨mc,nsK h1,h2⟩⟩
  have hBb:BltM mg (hidT s₁.heap H):=by
   obtain⟨bm,ob,b1,b2,b3,b4,b5,b6⟩:=hBM
   exact⟨bm,ob,b1,b2,base_of b3 (noT b3 (by rw[b4];intro z;cases z) (fun us n z=>by rw[b6] at z;cases z)),b4,b5,b6⟩
  have e0:Env0 P w K mg (hidT s₁.heap H) callerA [] s₁ H:=⟨rfl,hM,fun b o e=>klQ e,Eh (kjL _ _),trivial,fun b hb=>absurd (show b∈([]:List Addr) from hb) (by simp),hok, .of_eq hg⟩
  have hsp:kgg K tP [.ref a] H (fun v _=>v=.bl true) fun _ _ _=>False:=⟨a,ns,rfl,hS,hl,⟨#[],eT,by trivial,fun pos c e=>by cases e⟩,fun _=>rfl⟩
  refine codeAny_mono ((F _ hKb (nsK hns) hBb).run callerA [] s₁ H ⟨[.ref a],[]⟩ [.ref a] [.ref a] _ _ hr e0 (hbind s₁ (.ref a)) (.cons rfl .nil) hsp) fun r s' h=>?_
  cases r with
  |error e=>exact(show False from h).elim
  | ok fl=>
   cases fl with
   |next=>exact False.elim h
   |brk=>exact False.elim h
   |cont=>exact False.elim h
   | ret u=>
    obtain⟨v,H',os,bare,un,hok',r',q⟩:=h
    have q':v=.bl true:=q
    subst q'
    obtain rfl:u=Value.bool true:=r'
    have kp:∀b o,b≠tP→s₁.heap.get? b=some o→s'.heap.get? b=some o:=fun b o hbT e=>by
     rcases hO b hbT with z|⟨z,o',xs,z2⟩
     ·exact un.keep b o e z (fun z=>absurd (show b∈([]:List Addr) from z) (by simp)) (by simp)
     ·have z3:=un.frzs b o' _ z2
      obtain⟨e1,_⟩:=hok b _ z2
      obtain⟨e2,_⟩:=hok' b _ z3
      rw[e] at e1
      cases e1
      exact e2
    obtain⟨more,eM⟩:=un.tbls tP #[] eT
    have tM:s'.heap.get? tP=some (Es (#[]++more)):=(show ObjOk P w H' s'.heap tP (.tbl (#[]++more)) from hok' tP _ eM)
    refine⟨rfl,⟨fun b o e=>?_,fun b o e=>?_⟩,os,bare⟩
    ·by_cases hbT:b=tP
     ·subst hbT
      rw[hT] at e
      cases e
      obtain⟨oc,us,_,_,_,_,_,_,_,c1,c2,c3,c4,_⟩:=CK
      exact .inr (.inl ⟨⟨c0,oc,us,KX _ _ c1,c2,c3,c4⟩,rfl,#[],more,rfl,tM⟩)
     ·exact .inl (kp b o hbT e)
    ·by_cases hbT:b=tP
     ·subst hbT
      exact⟨_,tM⟩
     ·exact⟨o,kp b o hbT e⟩
 cases hk:K.lookup a with
 | some o=>
  have e:=KX a o hk
  rw[ha] at e
  cases e
  refine core (fun b=>if b=tP then some (.tbl #[]) else none) (.inr ⟨_,vs.toArray,_,hk,rfl,rfl,rfl,by rw[NK,lenV];exact hlz,by simpa using rv⟩) (fun b u z=>?_) (if_pos rfl) (fun b hbT=>.inl (if_neg hbT)) fun z=>absurd (if_neg nTa.symm) z
  by_cases hbT:b=tP
  ·have z':=(if_pos hbT).symm.trans z
   cases z'
   subst hbT
   exact(show s₁.heap.get? b=some _ from hT)
  ·have z':=(if_neg hbT).symm.trans z
   cases z'
 | none=>
  refine core (fun b=>if b=tP then some (.tbl #[]) else if b=a then some (.frz {cls:=.type "list",data:=.seq vs.toArray} (.lst (ns.map V.int))) else none) (.inl (.inr ⟨{cls:=.type "list",data:=.seq vs.toArray},by show(if a=tP then _ else _)=_;rw[if_neg nTa.symm,if_pos rfl]⟩)) (fun b u z=>?_) (if_pos rfl) (fun b hbT=>?_) fun _=>hk
  ·by_cases hbT:b=tP
   ·have z':=(if_pos hbT).symm.trans z
    cases z'
    subst hbT
    exact(show s₁.heap.get? b=some _ from hT)
   ·have z1:=(if_neg hbT).symm.trans z
    by_cases hb2:b=a
    ·have z':=(if_pos hb2).symm.trans z1
     cases z'
     subst hb2
     exact⟨ha,by rw[Nh];exact hlz,vs,_,rv,ha⟩
    ·have z':=(if_neg hb2).symm.trans z1
     cases z'
  ·by_cases hb2:b=a
   ·exact .inr ⟨hb2,_,_,by show(if b=tP then _ else _)=_;rw[if_neg hbT,if_pos hb2]⟩
   ·exact .inl (by show(if b=tP then _ else _)=_;rw[if_neg hbT,if_neg hb2])
theorem walkT_of{l:PySem.W.OpenLaw}{k:Nat}{q:Program}{loose:List Str}{XP:(Str→Option Value)→Heap→Prop}{YP:World→Heap→Prop}{d:DefRec}{K:Params→Ni}{ts:List Addr}{x:Str}
  (hn:l.most=some 63) (hdf:d.params.defaults=[]) (hr:Room k callerA) (hY:∀(w:World) (h:Heap),YP w h→(K w.params).In h) (hTs:∀(w:World) (h:Heap),YP w h→∀P∈ts,h.get? P=some (Es #[]))
  (F:∀(w:World) (mg:Str→Option Value) (fa:Addr) (h:Heap),(K w.params).In h→h.Ns mainGlobals mg→mg d.name=some (.ref fa)→
   ∃(fd:FuncData) (tP c0:Addr),tP∈ts∧CodeK (K w.params) c0 tP∧(K w.params).lookup tP=none∧(∀(s:Shared) (u:Value),BindsTo s fd ⟨[u],[]⟩ [(x,u)])∧
    ∀base:Heap,(K w.params).In base→base.Ns mainGlobals mg→BltM mg base→FnOk l.prog w (K w.params) mg base CX0 k fa fd [x] (kgg (K w.params) tP)):
  PySem.W.WalkO q loose XP YP l.row.toRowW d [] (fun f vs=>PySem.call f vs):=by
 refine Att.attach_call hn hdf fun w s₀ s₁ mg mb fa o pm cd doc a vs ns G Y ho hd hcd hmg hobj hints hlen hg=>?_
 have KX:=hY w _ Y
 obtain⟨fd,tP,c0,hm,CK,kT,hb,hF⟩:=F w mg fa _ KX G.T.g hmg
 obtain⟨bm,ob,b1,b2,b3,b4,b5,b6⟩:=G.T.bmain
 exact kjB KX G.T.g G.T.b G.T.builtins G.T.nolimit hg hobj hints hlen hr (hTs w _ Y tP hm) CK kT ⟨bm,ob,b1,b2,b3,b4,b5,b6⟩ hF hb
end L2
namespace L2
open PySem PySem.Spec PyProof.Rows
theorem nd1(x:Str):([x]:List Str).Nodup:=by simp
noncomputable def But(x:Addr)(H H':Hp):Prop:=∀b o,b≠x→H b=some o→Ev H H' b o
theorem But.trans{x:Addr}{H H1 H2:Hp}(a:But x H H1)(b:But x H1 H2):But x H H2:=fun c o n h=>kbI (a c o n h) fun o' e=>b c o' n e
theorem But.same{x:Addr}{H H1 H2:Hp}(a:But x H H1)(b:Same H1 H2):But x H H2:=fun c o n h=>kbI (a c o n h) fun o' e=>b c o' e
theorem But.of_same{x:Addr}{H H1:Hp}(b:Same H H1):But x H H1:=fun c o _ h=>b c o h
theorem But.refl{x:Addr}{H:Hp}:But x H H:=fun b o _ h=>Same.refl H b o h
theorem kau{x:Addr}{H:Hp}{o:HO}(hx:NX H x:=by first|exact nx kad|exact nx (by assumption)|exact nx0 (by assumption)|exact kdf (nx kad) rfl|exact kdf (nx (by assumption)) rfl):But x H (upd H x o):=fun b u n e=>ev_eq (by rw[kam n];exact e) fun t=>kd3 t n hx
theorem kak{H:Hp}{p:Addr}{o:HO}(hp:H p=none):Same H (upd H p o):=fun b u e=>ev_eq (by rw[kam (kaj e hp)];exact e) fun t=>kd3 t (kaj e hp) (nx0 hp)
theorem kav{H H':Hp}{p:Addr}{o:HO}(hp:H p=none)(s:Same H H')(hx:NX H' p:=by first|exact nx (by assumption)|exact nx kad|exact kdf (nx (by assumption)) rfl|exact kdf (nx kad) rfl|exact kdf (nx0 (by assumption)) rfl|exact kdf (kdf (nx (by assumption)) rfl) rfl):Same H (upd H' p o):=fun b u e=>
 kbI (s b u e) fun u' e'=>ev_eq (by rw[kam (kaj e hp)];exact e') fun t=>kd3 t (kaj e hp) hx
theorem ka2{H:Hp}{x dx C:Addr}(hx:H x=none)(nd:H dx=none):Same H (upd (upd H dx (.own x)) x (.ins C dx [])):=fun b u e=>by
 have n1:=kaj e hx
 have n2:=kaj e nd
 exact ev_eq (by rw[kam n1,kam n2];exact e) fun t=>kd3 (kd3 t n2 (nx0 nd)) n1 (kdf (nx0 hx) rfl)
theorem kbk{H H':Hp}{x dx C:Addr}(hx:H x=none)(nd:H dx=none)(k:But x (upd (upd H dx (.own x)) x (.ins C dx [])) H'):Same H H':=fun b o e=>kbI (ka2 (C:=C) hx nd b o e) fun o' e'=>k b o' (kaj e hx) e'
theorem kdB{H:Hp}{x dx C y:Addr}(h:(upd (upd H dx (.own x)) x (.ins C dx [])) y=none):H y=none:=by
 by_cases e1:y=x
 ·subst e1
  rw[kad] at h
  cases h
 ·rw[kam e1] at h
  by_cases e2:y=dx
  ·subst e2
   rw[kad] at h
   cases h
  ·rw[kam e2] at h
   exact h
theorem kgD{H:Hp}{x dx C y:Addr}{o:HO}(nx:H x=none)(nd:H dx=none)(h:H y=some o):(upd (upd H dx (.own x)) x (.ins C dx [])) y=some o:=by
 rw[kam (kaj h nx),kam (kaj h nd)]
 exact h
theorem kal{f:Str}{v:V}:∀{fs:List (Str×V)} {n:Nat},fs.length≤n→(putF f v fs).length≤n+1
 |[],n,_=>by
  show 1≤n+1
  omega
 | (g,x)::r,n,h=>by
  show(if g=f then(g,v)::r else(g,x)::putF f v r).length≤n+1
  have h':r.length+1≤n:=h
  split
  ·show r.length+1≤n+1
   omega
  ·show(putF f v r).length+1≤n+1
   have:=kal (f:=f) (v:=v) (fs:=r) (n:=n-1) (by omega)
   omega
theorem few{fs:List (Str×V)}(h:fs.length≤20):fs.length<1000:=by omega
theorem kbJ{ns:List Addr}{i:Nat}{x:V}(h:(ns.map V.ref)[i]?=some x):∃z,ns[i]?=some z∧x=V.ref z:=by
 rw[Nv] at h
 cases e:ns[i]? with
 |none=>rw[e] at h;cases h
 |some z=>rw[e] at h;exact⟨z,rfl,(Option.some.inj h).symm⟩
theorem kbL{α:Type}{g: α→V}{ns:List α}{i:Nat}{x:V}(h:(ns.map g)[i]?=some x):∃z,ns[i]?=some z∧x=g z:=by
 rw[Nv] at h
 cases e:ns[i]? with
 |none=>rw[e] at h;cases h
 |some z=>rw[e] at h;exact⟨z,rfl,(Option.some.inj h).symm⟩
theorem at_lt{α:Type}{xs:List α}{i:Nat}{x: α}(h:xs[i]?=some x):i<xs.length:=(Nz.mp h).1
theorem at_of{α:Type}{xs:List α}{i:Nat}(h:i<xs.length):∃x,xs[i]?=some x:=⟨xs[i],by simp[h]⟩
theorem kbt{α:Type}{rs:List α}{i:Nat}{r: α}(h:rs[i]?=some r):rs.take (i+1)=rs.take i++[r]:=by
 rw[Mz,h]
 rfl
inductive P2 {α β:Type} (R: α→β→Prop):List α→List β→Prop
 |nil:P2 R [] []
 |cons {a: α} {b: β} {as:List α} {bs:List β} (h:R a b) (t:P2 R as bs):P2 R (a::as) (b::bs)
section
variable {α β:Type} {R R': α→β→Prop} {as as':List α} {bs bs':List β}
theorem P2.of(hl:as.length=bs.length)(h:∀(i:Nat) (a: α) (b: β),as[i]?=some a→bs[i]?=some b→R a b):P2 R as bs:=by
 induction as generalizing bs with
 |nil=>
  cases bs with
  |nil=>exact .nil
  |cons b bs=>cases hl
 |cons a as ih=>
  cases bs with
  |nil=>cases hl
  |cons b bs=>exact .cons (h 0 a b rfl rfl) (ih (by simpa using hl) fun i x y e1 e2=>h (i+1) x y (by simpa using e1) (by simpa using e2))
theorem P2.len(h:P2 R as bs):as.length=bs.length:=by
 induction h with
 |nil=>rfl
 |cons r t ih=>simp[ih]
theorem P2.get(h:P2 R as bs){i:Nat}{a: α}{b: β}(e1:as[i]?=some a)(e2:bs[i]?=some b):R a b:=by
 induction h generalizing i with
 |nil=>simp at e1
 | cons r t ih=>
  cases i with
  |zero=>
   simp at e1 e2
   subst e1 e2
   exact r
  |succ i=>exact ih (by simpa using e1) (by simpa using e2)
theorem P2.at(h:P2 R as bs){i:Nat}{a: α}(e1:as[i]?=some a):∃b,bs[i]?=some b∧R a b:=by
 obtain⟨b,e2⟩:=at_of (xs:=bs) (i:=i) (by rw[←h.len];exact at_lt e1)
 exact⟨b,e2,h.get e1 e2⟩
theorem P2.mono(h:P2 R as bs)(k:∀a b,R a b→R' a b):P2 R' as bs:=by
 induction h with
 |nil=>exact .nil
 |cons r t ih=>exact .cons (k _ _ r) ih
theorem P2.append(h:P2 R as bs)(h':P2 R as' bs'):P2 R (as++as') (bs++bs'):=by
 induction h with
 |nil=>exact h'
 |cons r t ih=>exact .cons r ih
theorem P2.snoc(h:P2 R as bs){a: α}{b: β}(r:R a b):P2 R (as++[a]) (bs++[b]):=h.append (.cons r .nil)
theorem P2.take(h:P2 R as bs)(k:Nat):P2 R (as.take k) (bs.take k):=by
 induction h generalizing k with
 |nil=>simpa using P2.nil
 |cons r t ih=>
  cases k with
  |zero=>exact .nil
  |succ k=>exact .cons r (ih k)
theorem P2.drop(h:P2 R as bs)(k:Nat):P2 R (as.drop k) (bs.drop k):=by
 induction h generalizing k with
 |nil=>simpa using P2.nil
 |cons r t ih=>
  cases k with
  |zero=>exact .cons r t
  |succ k=>exact ih k
theorem P2.reverse(h:P2 R as bs):P2 R as.reverse bs.reverse:=by
 induction h with
 |nil=>exact .nil
 |cons r t ih=>
  rw[El,El]
  exact ih.append (.cons r .nil)
end
theorem rep1(n:Nat)(v:V):(Nl n [v]).flatten=Nl n v:=by
 induction n with
 |zero=>rfl
 |succ n ih=>rw[Mq,NR,ih,Mq];rfl
theorem ki9(n:Nat)(z:Int):Nl n (V.int z)=(Nl n z).map V.int:=by simp
theorem kld(k:Int):(!decide (V.int k=V.non))=true:=by simp
theorem klc:(!decide (V.non=V.non))=false:=by simp
noncomputable def oV:Option Int→V
 |none=>.non
 |some z=>.int z
structure TxtB (mg:Str→Option Value):Prop where
 range:mg "range"=none
 len:mg "len"=none
 min:mg "min"=none
 max:mg "max"=none
 isi:mg "isinstance"=none
 bool:mg "bool"=none
 int:mg "int"=none
 list:mg "list"=none
 sum:mg "sum"=none
 enum:mg "enumerate"=none
 any:mg "any"=none
 all:mg "all"=none
 rev:mg "reversed"=none
 zip:mg "zip"=none
 abs:mg "abs"=none
 sorted:mg "sorted"=none
 tuple:mg "tuple"=none
 str:mg "str"=none
structure FunD (K:Ni) (x qual:Str) (st:Stmt) (f:Addr) (fd:FuncData):Prop where
 ex:∃(oc:Value) (od:Option Addr) (dV kV doc pm:Value) (an:Option Addr) (cdv ct:Value) (osl:Array (Option Value)),
  fd=NA x qual (kaE st) (kaC st) (kah st) dV kV doc pm an cdv ct∧K.lookup f=some ⟨oc,od, .func fd,osl⟩∧NZ K cdv qual=true
 kp:NB K (.ref f)=true
theorem FunD.ok{P:Program}{w:World}{K:Ni}{mg:Str→Option Value}{base:Heap}{x qual:Str}{st:Stmt}{f:Addr}{fd:FuncData}{N ps:List Str}{k:Nat}{sp:Sp}(F:FunD K x qual st f fd)(S:kap N ps (kah st))(len:∀vs H Q E,sp vs H Q E→vs.length=ps.length)
  (hbody:∀(cdv:Value) (A:Around) (outer:List Env) (s:Shared) (H:Hp) (vs:List V) (Q:VK) (E:XK),Room k (A.deeper (PyProof.Rows.envOfC qual (kah st) s.heap.objs.size f cdv))→sp vs H Q E→
   ∃t,PSs (cxOf CX0 P w K mg base N qual (kah st) f cdv A outer s H E).nox (kaC st) t∧t {nx:=fun _ H'=>Q .non H',rt:=Q} (start N vs) H):FnOk P w K mg base CX0 (k+1) f fd ps sp:=by
 obtain⟨oc,od,dV,kV,doc,pm,an,cdv,ct,osl,rfl,lk,hcd⟩:=F.ex
 refine fn_of lk hcd S len fun A outer s H vs Q E hr hsp=>?_
 obtain⟨t,h,q⟩:=hbody cdv A outer s H vs Q E hr hsp
 exact⟨t,h.nox,q⟩
theorem FunD.okC{P:Program}{w:World}{K:Ni}{mg:Str→Option Value}{base:Heap}{x qual:Str}{st:Stmt}{f:Addr}{fd:FuncData}{N ps:List Str}{k:Nat}{sp:Sp}(F:FunD K x qual st f fd)(S:kap N ps (kah st))(len:∀vs H Q E,sp vs H Q E→vs.length=ps.length)
  (hbody:∀(A:Around) (outer:List Env) (s:Shared) (H:Hp) (vs:List V) (Q:VK) (E:XK),Room k (A.deeper (PyProof.Rows.envOfC qual (kah st) s.heap.objs.size f fd.code))→sp vs H Q E→
   ∃t,PSs (cxOf CX0 P w K mg base N qual (kah st) f fd.code A outer s H E).nox (kaC st) t∧t {nx:=fun _ H'=>Q .non H',rt:=Q} (start N vs) H):FnOk P w K mg base CX0 (k+1) f fd ps sp:=by
 obtain⟨oc,od,dV,kV,doc,pm,an,cdv,ct,osl,rfl,lk,hcd⟩:=F.ex
 refine fn_of lk hcd S len fun A outer s H vs Q E hr hsp=>?_
 obtain⟨t,h,q⟩:=hbody A outer s H vs Q E hr hsp
 exact⟨t,h.nox,q⟩
theorem kbx{K:Ni}{x qual:Str}{st:Stmt}{f:Addr}{oc:Value}{od an:Option Addr}{osl:Array (Option Value)}{dV kV doc pm cdv ct:Value}(l:K.lookup f=some ⟨oc,od, .func (NA x qual (kaE st) (kaC st) (kah st) dV kV doc pm an cdv ct),osl⟩)
  (c:NZ K cdv qual=true) (k:NB K (.ref f)=true):FunD K x qual st f (NA x qual (kaE st) (kaC st) (kah st) dV kV doc pm an cdv ct):=⟨⟨oc,od,dV,kV,doc,pm,an,cdv,ct,osl,rfl,l,c⟩,k⟩
structure Dn (K:Ni) (mg:Str→Option Value) (x:Str) (st:Stmt) (ps:List Str) (f:Addr) (fd:FuncData):Prop where
 F:FunD K x x st f fd
 b:Binds K fd ps []
 m:mg x=some (.ref f)
structure Isi (K:Ni) (C:Addr):Prop where
 ha:Nk K (.ref C) "__class__"=some (some (.builtin "object.__class__"))
 hn:M0 K (.builtin "object.__class__") "__get__"=some (some (.builtin "getset_descriptor.__get__"))
 ht:EI K (.builtin "object.__class__")=some true
 hm:Nr K C (.type "object")=some true
theorem kaQ{K:Ni}{A B:Addr}{b:Bool}(mA:Nr K A (.ref B)=some b)(ob:Nr K B (.type "object")=some true)(ty:NY K (.ref B)=some (.type "type"))(ne:A≠B):NG K (.ref A) (.ref B)=some b:=by
 have e:(Value.ref A==Value.ref B)=false:=beq_eq_false_iff_ne.mpr fun z=>ne (by injection z)
 obtain⟨cd,a,_⟩:=Option.bind_eq_some_iff.mp ob
 unfold NG PySem.W.kitCls PySem.W.subIn
 rw[e,if_neg Nu]
 show(if((PySem.W.clsIn K B).isSome&&NY K (.ref B)==some (.type "type"))=true then Nr K A (.ref B) else none)=some b
 rw[a,ty,mA,if_pos (by simp)]
theorem kbs{K:Ni}{A B:Addr}(h:Nr K A (.ref B)=some false)(hA:Nr K A (.ref A)=some true):A≠B:=fun e=>by
 rw[←e,hA] at h
 cases h
structure ClsT (K:Ni) (mg:Str→Option Value) (nm:Str) (C:Addr):Prop where
 cl:Cls K C
 m:mg nm=some (.ref C)
 isi:Isi K C
 self:Nr K C (.ref C)=some true
 ty:NY K (.ref C)=some (.type "type")
 makes:N4 K C=true
 kp:NB K (.ref C)=true
structure MthT (K:Ni) (C:Addr) (m qual:Str) (st:Stmt) (ps:List Str) (f:Addr) (fd:FuncData):Prop where
 at_:Nk K (.ref C) m=some (some (.ref f))
 fn:Ma K (.ref f)=true
 F:FunD K m qual st f fd
 b:Binds K fd ps []
theorem MthT.me{K:Ni}{C:Addr}{m qual:Str}{st:Stmt}{ps:List Str}{f:Addr}{fd:FuncData}(h:MthT K C m qual st ps f fd):Meth K C m f:=⟨h.at_,h.fn,h.F.kp⟩
theorem MthT.mk'{K:Ni}{mg:Str→Option Value}{C:Addr}{nm qual:Str}{st:Stmt}{ps:List Str}{f:Addr}{fd:FuncData}(h:MthT K C "__init__" qual st ps f fd)(c:ClsT K mg nm C):Mk K C f:=⟨c.makes,h.at_,h.fn,c.kp⟩
end L2
namespace War
structure Row where
 kd:Int
 pr:Int
 mn:Int
 ex:Option Int
structure Row.Ok (r:Row):Prop where
 pr0:0≤r.pr
 pr1:r.pr≤1000000000000
 mn0:0≤r.mn
 mn1:r.mn≤60
 ex0:∀z,r.ex=some z→0≤z∧z≤1000000000000
noncomputable def prc(m:Bool)(r:Row):Int:=if m=true then r.ex.getD r.pr else r.pr
noncomputable def own(rs:List Row):List Int:=(rs.zipIdx.map fun p=>Nl p.1.mn.toNat (p.2:Int)).flatten
noncomputable def prs(m:Bool)(rs:List Row):List Int:=(rs.map fun r=>Nl r.mn.toNat (prc m r)).flatten
noncomputable def cost(m:Bool)(rs:List Row):Int:=(rs.map fun r=>prc m r*r.mn).sum
theorem kkp(rs:List Row)(r:Row):own (rs++[r])=own rs++Nl r.mn.toNat (rs.length:Int):=by
 unfold own
 rw[List.zipIdx_append,Np,Et]
 simp
theorem kkl(m:Bool)(rs:List Row)(r:Row):prs m (rs++[r])=prs m rs++Nl r.mn.toNat (prc m r):=by
 unfold prs
 rw[Np,Et]
 simp
theorem khX:∀(rs:List Row) (k:Nat),(∀r∈rs,r.Ok)→((rs.zipIdx k).map fun p=>Nl p.1.mn.toNat (p.2:Int)).flatten.length≤60*rs.length
 |[],_,_=>by simp
 |r::rs,k,h=>by
  have h1:=khX rs (k+1) fun x hx=>h x (NF _ hx)
  have h2:=(h r NL).mn1
  rw[Eu,NC,NR,Nx,Mi,NQ]
  show r.mn.toNat+_≤_
  omega
theorem kjq(rs:List Row)(h:∀r∈rs,r.Ok):(own rs).length≤60*rs.length:=khX rs 0 h
theorem kjh(m:Bool):∀(rs:List Row),(∀r∈rs,r.Ok)→(prs m rs).length≤60*rs.length
 |[],_=>by simp[prs]
 |r::rs,h=>by
  have h1:=kjh m rs fun x hx=>h x (NF _ hx)
  have h2:=(h r NL).mn1
  unfold prs at h1⊢
  rw[NC,NR,Nx,Mi,NQ]
  omega
theorem kk9{m:Bool}{r:Row}(h:r.Ok):0≤prc m r∧prc m r≤1000000000000:=by
 unfold prc
 split
 ·cases e:r.ex with
  |none=>exact⟨h.pr0,h.pr1⟩
  |some z=>exact h.ex0 z e
 ·exact⟨h.pr0,h.pr1⟩
theorem take_snoc{α:Type}{rs:List α}{i:Nat}{r: α}(h:rs[i]?=some r):rs.take (i+1)=rs.take i++[r]:=by
 rw[Mz,h]
 rfl
end War
namespace Kin
noncomputable def Good(ps:List (Option Nat)):Prop:=∀(i k:Nat),ps[i]?=some (some k)→k<i
noncomputable def anc(ps:List (Option Nat)):Nat→Nat→List Nat
 |0,_=>[]
 |f+1,i=>i::(match ps[i]? with|some (some k)=>anc ps f k|_=>[])
noncomputable def up(ps:List (Option Nat))(i:Nat):List Nat:=anc ps (i+1) i
theorem kkS{ps:List (Option Nat)}(g:Good ps):∀(f f' i:Nat),i<f→i<f'→anc ps f i=anc ps f' i:=by
 intro f
 induction f with
 |zero=>intro f' i h;omega
 | succ f ih=>
  intro f' i h h'
  cases f' with
  |zero=>omega
  | succ f'=>
   show i::_=i::_
   congr 1
   cases e:ps[i]? with
   |none=>rfl
   | some o=>
    cases o with
    |none=>rfl
    |some k=>
     have hk:=g i k e
     exact ih f' k (by omega) (by omega)
theorem klw{ps:List (Option Nat)}(g:Good ps){i k:Nat}(e:ps[i]?=some (some k)):up ps i=i::up ps k:=by
 have hk:=g i k e
 show i::_=_
 rw[e]
 show i::anc ps i k=i::up ps k
 rw[kkS g i (k+1) k hk (by omega)]
 rfl
theorem klx{ps:List (Option Nat)}{i:Nat}(e:ps[i]?=some none):up ps i=[i]:=by
 show i::_=_
 rw[e]
noncomputable def rest(ps:List (Option Nat)):Option Nat→List Nat
 |none=>[]
 |some k=>up ps k
noncomputable def left:Option Nat→Nat
 |none=>0
 |some k=>k+1
theorem up_eq{ps:List (Option Nat)}(g:Good ps){i:Nat}{o:Option Nat}(e:ps[i]?=some o):up ps i=i::rest ps o:=by
 cases o with
 |none=>exact klx e
 |some k=>exact klw g e
theorem kkG:Good []:=fun i k e=>by simp at e
theorem kjR{ps:List (Option Nat)}(g:Good ps){o:Option Nat}(h:∀k,o=some k→k<ps.length):Good (ps++[o]):=by
 intro i k e
 rcases Nat.lt_trichotomy i ps.length with hi|hi|hi
 ·rw[M3 hi] at e
  exact g i k e
 ·subst hi
  rw[MR (Nj _)] at e
  simp at e
  exact h k e
 ·rw[MR (by omega)] at e
  have:(i-ps.length)≠0:=by omega
  cases q:i-ps.length with
  |zero=>omega
  |succ n=>rw[q] at e;simp at e
end Kin
namespace Kin
end Kin
namespace Deal
noncomputable def pre(ws:List Int)(k:Nat):Int:=(ws.take k).sum
noncomputable def part(c:Int)(ws:List Int)(j:Nat):Int:=c*pre ws (j+1)/ws.sum-c*pre ws j/ws.sum
noncomputable def dl(c:Int)(ws:List Int):List Int:=if ws.sum=0 then ws.map (fun _=>0) else(Nq ws.length).map (part c ws)
theorem kkm(ws:List Int):pre ws 0=0:=by simp[pre]
theorem kji(ws:List Int):pre ws ws.length=ws.sum:=by simp[pre]
theorem ken{ws:List Int}{i:Nat}{w:Int}(h:ws[i]?=some w):pre ws (i+1)=pre ws i+w:=by
 unfold pre
 rw[Mz,h]
 simp
theorem kfm(c:Int)(ws:List Int):(dl c ws).length=ws.length:=by
 unfold dl
 split <;> simp
theorem dl_at{c:Int}{ws:List Int}(h:¬ws.sum=0){j:Nat}(hj:j<ws.length):(dl c ws)[j]?=some (part c ws j):=by
 unfold dl
 rw[if_neg h]
 simp[hj]
theorem kjX{c:Int}{ws:List Int}(h:ws.sum=0){j:Nat}(hj:j<ws.length):(dl c ws)[j]?=some 0:=by
 unfold dl
 rw[if_pos h]
 simp[hj]
noncomputable def Nn(ws:List Int):Prop:=∀w∈ws,0≤w
theorem kbq:∀{ws:List Int},Nn ws→0≤ws.sum
 |[],_=>by simp
 |w::ws,h=>by
  have:=kbq (ws:=ws) fun x hx=>h x (NF _ hx)
  have h1:=h w NL
  simp
  omega
theorem kjo{c s A w:Int}(hs:0<s)(hc:0≤c)(hcs:c≤s)(hw:0≤w):0≤c*(A+w)/s-c*A/s∧c*(A+w)/s-c*A/s≤w∧
  (c*(A+w)/s-c*A/s)*s-c*w<s∧-s<(c*(A+w)/s-c*A/s)*s-c*w:=by
 have e:c*(A+w)=c*A+c*w:=Int.mul_add ..
 rw[e]
 generalize hx:c*A=x
 have h1:0≤c*w:=Int.mul_nonneg hc hw
 have h2:c*w≤w*s:=by
  rw[Int.mul_comm w s]
  exact Int.mul_le_mul_of_nonneg_right hcs hw
 generalize hy:c*w=y at h1 h2
 have m1:x/s≤(x+y)/s:=Int.ediv_le_ediv hs (by omega)
 have m2:(x+y)/s≤(x+w*s)/s:=Int.ediv_le_ediv hs (by omega)
 rw[Int.add_mul_ediv_right _ _ (by omega)] at m2
 have d1:=Int.emod_add_mul_ediv x s
 have d2:=Int.emod_add_mul_ediv (x+y) s
 have r1:=Int.emod_nonneg x (show s≠0 by omega)
 have r2:=Int.emod_lt_of_pos x hs
 have r3:=Int.emod_nonneg (x+y) (show s≠0 by omega)
 have r4:=Int.emod_lt_of_pos (x+y) hs
 have e3:((x+y)/s-x/s)*s=s*((x+y)/s)-s*(x/s):=by
  rw[Int.sub_mul,Int.mul_comm,Int.mul_comm (x/s)]
 rw[e3]
 refine⟨by omega,by omega,by omega,by omega⟩
end Deal
namespace Vs
open Kin Deal
structure Mks where
 kind:Option Nat
 needs:Int
 most:Option Int
 member:Bool
 once:Bool
 lone:Bool
inductive Srt
 |off (a:Int)
 |share (s:Int) (b:Bool)
 |cheap (n:Int)
 |bund (n p:Int)
 |carr
structure Vch where
 so:Srt
 ms:Mks
structure Stnd where
 ow:List Nat
 pr:List Int
 cg:Int
 mkd:List Bool
noncomputable def kHit(ps:List (Option Nat))(kind:Option Nat)(kd:Nat):Bool:=match kind with
 |none=>true
 |some k=>decide (k∈up ps kd)
noncomputable def hits(ps:List (Option Nat))(kds:List Nat)(kind:Option Nat)(lone:Bool)(mkd:List Bool)(l:Nat):Bool:=
 kHit ps kind (kds.getD l 0)&&(!lone|| !(mkd.getD l false))
noncomputable def abt(ps:List (Option Nat))(kds:List Nat)(kind:Option Nat)(lone:Bool)(S:Stnd):List Nat:=
 (Nq S.ow.length).filter fun i=>hits ps kds kind lone S.mkd (S.ow.getD i 0)
theorem kid{ps:List (Option Nat)}{kds:List Nat}{kind:Option Nat}{lone:Bool}{S:Stnd}{i:Nat}(h:i∈abt ps kds kind lone S):i<S.ow.length:=by
 have:=(Mc.mp h).1
 simpa using this
theorem kgR(ps:List (Option Nat))(kds:List Nat)(kind:Option Nat)(lone:Bool)(S:Stnd):(abt ps kds kind lone S).Nodup:=MT.filter _ Ew
theorem ke6(ps:List (Option Nat))(kds:List Nat)(kind:Option Nat)(lone:Bool)(S:Stnd):(abt ps kds kind lone S).length≤S.ow.length:=by
 have:=MW (fun i=>hits ps kds kind lone S.mkd (S.ow.getD i 0)) (Nq S.ow.length)
 simpa[abt] using this
noncomputable def qs(pr:List Int)(is:List Nat):List Int:=is.map fun i=>pr.getD i 0
theorem kb9(pr:List Int)(is:List Nat):(qs pr is).length=is.length:=by simp[qs]
noncomputable def spr(n:Nat)(is:List Nat)(vs:List Int):List Int:=(Nq n).map fun i=>((is.zip vs).lookup i).getD 0
theorem kdh(n:Nat)(is:List Nat)(vs:List Int):(spr n is vs).length=n:=by simp[spr]
theorem klB(n:Nat)(vs:List Int):spr n [] vs=Nl n 0:=by
 unfold spr
 apply MA
 ·simp
 ·intro i h1 h2
  simp
theorem khc{l:List (Nat×Int)}{i j:Nat}{v:Int}(h:∀p∈l,p.1≠i):(l++[(i,v)]).lookup j=if j=i then some v else l.lookup j:=by
 induction l with
 | nil=>
  simp only[M5,N5,List.lookup_nil]
  by_cases e:j=i
  ·subst e;simp
  ·have:(j==i)=false:=beq_eq_false_iff_ne.mpr e
   simp[this,e]
 | cons p l ih=>
  obtain⟨k,w⟩:=p
  have ih':=ih fun q hq=>h q (NF _ hq)
  have hk:k≠i:=h (k,w) NL
  simp only[Er,N5]
  by_cases e:j=k
  ·subst e
   simp[hk]
  ·have:(j==k)=false:=beq_eq_false_iff_ne.mpr e
   simp only[this]
   exact ih'
theorem klA{n:Nat}{is:List Nat}{vs:List Int}(hn:is.Nodup){k i:Nat}{v:Int}(h1:is[k]?=some i)(h2:vs[k]?=some v)(hi:i<n):
  (spr n (is.take k) (vs.take k)).set i v=spr n (is.take (k+1)) (vs.take (k+1)):=by
 have e1:is.take (k+1)=is.take k++[i]:=by rw[Mz,h1];rfl
 have e2:vs.take (k+1)=vs.take k++[v]:=by rw[Mz,h2];rfl
 have hk1:k<is.length:=(Nz.mp h1).1
 have hk2:k<vs.length:=(Nz.mp h2).1
 have ez:(is.take (k+1)).zip (vs.take (k+1))=(is.take k).zip (vs.take k)++[(i,v)]:=by
  rw[e1,e2,List.zip_append (by simp;omega)]
  rfl
 have hne:∀p∈(is.take k).zip (vs.take k),p.1≠i:=fun p hp e=>by
  have hm:p.1∈is.take k:=(ME hp).1
  rw[e] at hm
  obtain⟨j,hj,ej⟩:=List.getElem_of_mem hm
  rw[Ny] at hj
  rw[List.getElem_take] at ej
  have e3:is[k]=i:=by
   obtain⟨_,q⟩:=Nz.mp h1
   exact q
  exact MK.mp hn j k (by omega) hk1 (by omega) (by rw[ej,e3])
 apply MA
 ·simp[spr]
 ·intro j h3 h4
  have hj:j<n:=by simpa[spr] using h4
  rw[ET]
  simp only[spr,MV,Ea]
  rw[ez,khc hne]
  by_cases e:i=j
  ·subst e;simp
  ·have:¬j=i:=fun z=>e z.symm
   simp[e,this]
noncomputable def bef(q:List Int)(a b:Nat):Prop:=q.getD b 0<q.getD a 0∨(q.getD a 0=q.getD b 0∧a<b)
noncomputable def Fall(q:List Int)(r:List Nat):Prop:=r.Perm (Nq q.length)∧r.Pairwise (bef q)
theorem kkQ{q:List Int}{a b:Nat}(h:bef q a b)(h':bef q b a):False:=by
 unfold bef at h h'
 omega
theorem keE{R:Nat→Nat→Prop}(asym:∀a b,R a b→R b a→False):∀{l l':List Nat},l.Perm l'→l.Pairwise R→l'.Pairwise R→l=l'
 |[],l',p,_,_=>(List.nil_perm.mp p).symm
 | a ::l,l',p,h,h'=>by
  cases l' with
  |nil=>exact absurd p.length_eq (by simp)
  | cons b l'=>
   have hab:a=b:=by
    rcases Classical.em (a=b) with e|e
    ·exact e
    ·have ha:a∈b::l':=p.mem_iff.mp NL
     have hb:b∈a::l:=p.mem_iff.mpr NL
     rcases NI.mp ha with e1|ha
     ·exact absurd e1 e
     ·rcases NI.mp hb with e2|hb
      ·exact absurd e2.symm e
      ·exact(asym a b ((MX.mp h).1 b hb) ((MX.mp h').1 a ha)).elim
   subst hab
   congr 1
   exact keE asym (N8.cons_inv p) (MX.mp h).2 (MX.mp h').2
theorem khk{q:List Int}{r r':List Nat}(h:Fall q r)(h':Fall q r'):r=r':=
 keE (fun _ _ a b=>kkQ a b) (h.1.trans h'.1.symm) h.2 h'.2
noncomputable def grp(n:Nat)(r:List Nat):List (List Nat):=(Nq (r.length/n)).map fun g=>(r.drop (g*n)).take n
end Vs
namespace Vs
open Kin Deal
noncomputable def Le2(xs ys:List Int):Prop:=xs.length=ys.length∧∀(j:Nat) (v w:Int),xs[j]?=some v→ys[j]?=some w→0≤v∧v≤w
theorem Le2.nil:Le2 [] []:=⟨rfl,fun j v w e=>by simp at e⟩
theorem Le2.self{xs:List Int}(h:Nn xs):Le2 xs xs:=⟨rfl,fun j v w e1 e2=>by
 rw[e1] at e2
 cases e2
 exact⟨h v (Nt e1),Int.le_refl _⟩⟩
theorem Le2.nn{xs ys:List Int}(h:Le2 xs ys):Nn xs:=fun v hv=>by
 obtain⟨j,hj,e⟩:=List.getElem_of_mem hv
 exact(h.2 j v (ys[j]'(by rw[←h.1];exact hj)) (by simp[hj,e]) (by simp[show j<ys.length by rw[←h.1];exact hj])).1
theorem Le2.trans{xs ys zs:List Int}(h:Le2 xs ys)(h':Le2 ys zs):Le2 xs zs:=⟨h.1.trans h'.1,fun j v w e1 e2=>by
 have hj:j<xs.length:=(Nz.mp e1).1
 have e3:ys[j]?=some (ys[j]'(by rw[←h.1];exact hj)):=by simp[show j<ys.length by rw[←h.1];exact hj]
 have a:=h.2 j v _ e1 e3
 have b:=h'.2 j _ w e3 e2
 omega⟩
theorem Le2.append{xs ys xs' ys':List Int}(h:Le2 xs ys)(h':Le2 xs' ys'):Le2 (xs++xs') (ys++ys'):=by
 refine⟨by simp[h.1,h'.1],fun j v w e1 e2=>?_⟩
 have hl:=h.1
 rcases Nat.lt_or_ge j xs.length with hj|hj
 ·rw[M3 hj] at e1
  rw[M3 (by omega)] at e2
  exact h.2 j v w e1 e2
 ·rw[MR hj] at e1
  rw[MR (by omega),←hl] at e2
  exact h'.2 _ v w e1 e2
theorem Le2.sum:∀{xs ys:List Int},Le2 xs ys→0≤xs.sum∧xs.sum≤ys.sum
 |[],[],_=>by simp
 |[],_::_,h=>by have:=h.1;simp at this
 |_::_,[],h=>by have:=h.1;simp at this
 |x::xs,y::ys,h=>by
  have h0:=h.2 0 x y rfl rfl
  have h1:Le2 xs ys:=⟨by simpa using h.1,fun j v w e1 e2=>h.2 (j+1) v w (by simpa using e1) (by simpa using e2)⟩
  have h2:=Le2.sum h1
  simp
  omega
theorem dl_le{c:Int}{ws:List Int}(hn:Nn ws)(h0:0≤c)(h1:c≤ws.sum):Le2 (dl c ws) ws:=by
 refine⟨kfm c ws,fun j v w e1 e2=>?_⟩
 have hj:j<ws.length:=(Nz.mp e2).1
 have hw:=hn w (Nt e2)
 by_cases hs:ws.sum=0
 ·rw[kjX hs hj] at e1
  cases e1
  exact⟨Int.le_refl _,hw⟩
 ·rw[dl_at hs hj] at e1
  cases e1
  have hp:0<ws.sum:=by
   have:=kbq hn
   omega
  have q:=kjo (A:=pre ws j) hp h0 h1 hw
  unfold part
  rw[ken e2]
  exact⟨q.1,q.2.1⟩
theorem kd2{is:List Nat}{vs:List Int}{i:Nat}{v:Int}(h:(is.zip vs).lookup i=some v):∃k:Nat,is[k]?=some i∧vs[k]?=some v:=by
 induction is generalizing vs with
 |nil=>simp at h
 | cons a is ih=>
  cases vs with
  |nil=>simp at h
  | cons b vs=>
   simp only[List.zip_cons_cons,N5] at h
   by_cases e:i=a
   ·subst e
    simp at h
    exact⟨0,rfl,by simp[h]⟩
   ·have:(i==a)=false:=beq_eq_false_iff_ne.mpr e
    rw[this] at h
    obtain⟨k,h1,h2⟩:=ih h
    exact⟨k+1,by simpa using h1,by simpa using h2⟩
theorem kgd{pr:List Int}{is:List Nat}{vs:List Int}(hn:Nn pr)(hv:Le2 vs (qs pr is)):Le2 (spr pr.length is vs) pr:=by
 refine⟨kdh _ _ _,fun j v w e1 e2=>?_⟩
 have hj:j<pr.length:=(Nz.mp e2).1
 have hw:=hn w (Nt e2)
 have e3:v=((is.zip vs).lookup j).getD 0:=by
  simp[spr,hj] at e1
  exact e1.symm
 cases e4:(is.zip vs).lookup j with
 |none=>
  rw[e4] at e3
  subst e3
  exact⟨Int.le_refl _,hw⟩
 |some u=>
  rw[e4] at e3
  have e3':v=u:=e3
  subst e3'
  obtain⟨k,h1,h2⟩:=kd2 e4
  refine hv.2 k v w h2 ?_
  simp only[qs,Nv,h1,En]
  rw[NH,e2]
  rfl
theorem qs_nn{pr:List Int}(hn:Nn pr)(is:List Nat):Nn (qs pr is):=fun v hv=>by
 obtain⟨i,_,rfl⟩:=NJ.mp hv
 rw[NH]
 cases e:pr[i]? with
 |none=>exact Int.le_refl _
 |some w=>exact hn w (Nt e)
noncomputable def leQ(q:List Int)(a b:Nat):Bool:=decide (q.getD b 0<q.getD a 0∨(q.getD a 0=q.getD b 0∧a≤b))
noncomputable def ordQ(q:List Int):List Nat:=(Nq q.length).mergeSort (leQ q)
theorem kdy(q:List Int):(ordQ q).Perm (Nq q.length):=List.mergeSort_perm _ _
theorem keJ(q:List Int):Fall q (ordQ q):=by
 refine⟨kdy q,?_⟩
 have h1:(ordQ q).Pairwise (fun a b=>leQ q a b=true):=List.pairwise_mergeSort (le:=leQ q) (fun a b c h h'=>by simp only[leQ,decide_eq_true_eq] at *;omega) (fun a b=>by simp only[leQ,EO,decide_eq_true_eq];omega) _
 have h2:(ordQ q).Nodup:=(kdy q).nodup_iff.mpr Ew
 refine(h1.and h2).imp fun {a b} h=>?_
 have h3:=h.1
 have h4:a≠b:=h.2
 simp only[leQ,decide_eq_true_eq] at h3
 unfold bef
 omega
noncomputable def gdl(cut:Int→Int)(gs:List (List Nat))(q:List Int):List Int:=spr q.length gs.flatten ((gs.map fun g=>dl (cut (qs q g).sum) (qs q g)).flatten)
theorem kjf(q:List Int)(a b:List Nat):qs q (a++b)=qs q a++qs q b:=by simp[qs]
theorem klk{cut:Int→Int}{gs:List (List Nat)}{q:List Int}(hn:Nn q)(hc:∀s,0≤s→0≤cut s∧cut s≤s):Le2 (gdl cut gs q) q:=by
 refine kgd hn ?_
 induction gs with
 |nil=>exact Le2.nil
 |cons g gs ih=>
  rw[NC,NR,NR,kjf]
  have h:=hc _ (kbq (qs_nn hn g))
  exact(dl_le (qs_nn hn g) h.1 h.2).append ih
noncomputable def ke4(n:Nat)(lines:List Nat):List (List Nat):=(Nq n).map fun l=>(Nq lines.length).filter fun k=>lines.getD k 0==l
noncomputable def lasts(gs:List (List Nat)):List Nat:=gs.map fun g=>g.getLastD 0
noncomputable def want(so:Srt)(n:Nat)(lines:List Nat)(q:List Int):List Int:=match so with
 | .off a=>dl (min a q.sum) q
 | .share s false=>dl (q.sum*s/1000) q
 | .share s true=>gdl (fun z=>z*s/1000) (ke4 n lines) q
 | .cheap m=>spr q.length (lasts (grp m.toNat (ordQ q))) (qs q (lasts (grp m.toNat (ordQ q))))
 | .bund m p=>gdl (fun z=>max 0 (z-p)) (grp m.toNat (ordQ q)) q
 | .carr=>Nl q.length 0
noncomputable def fee(so:Srt)(cg:Int):Int:=match so with
 | .carr=>cg
 |_=>0
noncomputable def SrtOk:Srt→Prop
 | .off a=>0≤a∧a≤1000000000000
 | .share s _=>1≤s∧s≤1000
 | .cheap n=>2≤n∧n≤20
 | .bund n p=>2≤n∧n≤20∧0≤p∧p≤1000000000000
 | .carr=>True
theorem kfA{z s:Int}(hz:0≤z)(h1:1≤s)(h2:s≤1000):0≤z*s/1000∧z*s/1000≤z:=by
 have a:0≤z*s:=Int.mul_nonneg hz (by omega)
 have b:z*s≤z*1000:=Int.mul_le_mul_of_nonneg_left h2 hz
 omega
theorem kmb{q:List Int}(hn:Nn q):Le2 (Nl q.length 0) q:=by
 refine⟨by simp,fun j v w e1 e2=>?_⟩
 have:v=0:=by
  rw[EK] at e1
  split at e1
  ·exact(Option.some.inj e1).symm
  ·cases e1
 subst this
 exact⟨Int.le_refl _,hn w (Nt e2)⟩
theorem kgS{a:Int}{n:Nat}{lines:List Nat}{q:List Int}(hn:Nn q)(h0:0≤a):Le2 (want (.off a) n lines q) q:=by
 have hs:=kbq hn
 show Le2 (dl (min a q.sum) q) q
 exact dl_le hn (by omega) (by omega)
theorem kfq{s:Int}{e:Bool}{n:Nat}{lines:List Nat}{q:List Int}(hn:Nn q)(h1:1≤s)(h2:s≤1000):Le2 (want (.share s e) n lines q) q:=by
 have hs:=kbq hn
 cases e with
 |false=>
  show Le2 (dl (q.sum*s/1000) q) q
  have h:=kfA hs h1 h2
  exact dl_le hn h.1 h.2
 |true=>
  show Le2 (gdl (fun z=>z*s/1000) (ke4 n lines) q) q
  exact klk hn fun z hz=>kfA hz h1 h2
theorem kga{m p:Int}{n:Nat}{lines:List Nat}{q:List Int}(hn:Nn q)(h0:0≤p):Le2 (want (.bund m p) n lines q) q:=by
 show Le2 (gdl (fun z=>max 0 (z-p)) (grp m.toNat (ordQ q)) q) q
 exact klk hn fun z hz=>⟨by show 0≤max 0 (z-p);omega,by show max 0 (z-p)≤z;omega⟩
theorem kfr{m:Int}{n:Nat}{lines:List Nat}{q:List Int}(hn:Nn q):Le2 (want (.cheap m) n lines q) q:=by
 show Le2 (spr q.length _ (qs q _)) q
 exact kgd hn (Le2.self (qs_nn hn _))
theorem kf9{n:Nat}{lines:List Nat}{q:List Int}(hn:Nn q):Le2 (want .carr n lines q) q:=kmb hn
theorem kiy{so:Srt}{n:Nat}{lines:List Nat}{q:List Int}(hn:Nn q)(ho:SrtOk so):Le2 (want so n lines q) q:=by
 cases so with
 |off a=>exact kgS hn ho.1
 |share s e=>exact kfq hn ho.1 ho.2
 |cheap m=>exact kfr hn
 |bund m p=>exact kga hn ho.2.2.1
 |carr=>exact kf9 hn
noncomputable def cap(most:Option Int)(w:List Int)(f:Int):List Int×Int:=match most with
 |none=>(w,f)
 |some m=>if m<w.sum+f then(dl (min m w.sum) w,min f m) else(w,f)
theorem kmy{most:Option Int}{w q:List Int}{f cg:Int}(h:Le2 w q)(hf:0≤f∧f≤cg)(hm:∀m,most=some m→0≤m):Le2 (cap most w f).1 q∧0≤(cap most w f).2∧(cap most w f).2≤cg:=by
 unfold cap
 cases most with
 |none=>exact⟨h,hf⟩
 |some m=>
  have h0:=hm m rfl
  have hs:=kbq h.nn
  simp only
  split
  ·exact⟨(dl_le h.nn (by omega) (by omega)).trans h,by simp only;omega,by simp only;omega⟩
  ·exact⟨h,hf⟩
noncomputable def cutM(V:Vch)(ps:List (Option Nat))(kk:List Nat)(S:Stnd):List Int×Int:=
 let is:=abt ps kk V.ms.kind V.ms.lone S
 let c:=cap V.ms.most (want V.so S.mkd.length (is.map fun i=>S.ow.getD i 0) (qs S.pr is)) (fee V.so S.cg)
 (spr S.pr.length is c.1,c.2)
theorem klp{V:Vch}{ps:List (Option Nat)}{kk:List Nat}{S:Stnd}(hn:Nn S.pr)(hc:0≤S.cg)(ho:SrtOk V.so)(hm:∀m,V.ms.most=some m→0≤m):Le2 (cutM V ps kk S).1 S.pr∧0≤(cutM V ps kk S).2∧(cutM V ps kk S).2≤S.cg:=by
 have hf:0≤fee V.so S.cg∧fee V.so S.cg≤S.cg:=by
  unfold fee
  split <;> omega
 have h:=kmy (most:=V.ms.most) (kiy (n:=S.mkd.length) (lines:=(abt ps kk V.ms.kind V.ms.lone S).map fun i=>S.ow.getD i 0) (qs_nn hn (abt ps kk V.ms.kind V.ms.lone S)) ho) hf hm
 exact⟨kgd hn h.1,h.2⟩
noncomputable def kdH(ow:List Nat)(c:List Int)(l:Nat):Bool:=(Nq ow.length).any fun i=>ow.getD i 0==l&&decide (0<c.getD i 0)
noncomputable def aftM(V:Vch)(ps:List (Option Nat))(kk:List Nat)(S:Stnd):Stnd:=
 ⟨S.ow,NT (· - ·) S.pr (cutM V ps kk S).1,S.cg-(cutM V ps kk S).2,(Nq S.mkd.length).map fun l=>S.mkd.getD l false||(V.ms.lone&&kdH S.ow (cutM V ps kk S).1 l)⟩
theorem kmA{V:Vch}{ps:List (Option Nat)}{kk:List Nat}{S:Stnd}(hn:Nn S.pr)(hc:0≤S.cg)(ho:SrtOk V.so)(hm:∀m,V.ms.most=some m→0≤m):Le2 (aftM V ps kk S).pr S.pr∧0≤(aftM V ps kk S).cg∧(aftM V ps kk S).cg≤S.cg:=by
 have h:=klp (ps:=ps) (kk:=kk) hn hc ho hm
 refine⟨⟨?_,fun j v w e1 e2=>?_⟩,?_,?_⟩
 ·show(NT _ _ _).length=_
  rw[ML,h.1.1]
  omega
 ·have hj:j<S.pr.length:=(Nz.mp e2).1
  have hj2:j<(cutM V ps kk S).1.length:=by rw[h.1.1];exact hj
  have e3:(cutM V ps kk S).1[j]?=some ((cutM V ps kk S).1[j]):=by simp[hj2]
  have b:=h.1.2 j _ w e3 e2
  have e4:(NT (· - ·) S.pr (cutM V ps kk S).1)[j]?=some (w-(cutM V ps kk S).1[j]):=by
   rw[MY,e2,e3]
  have e1':(NT (· - ·) S.pr (cutM V ps kk S).1)[j]?=some v:=e1
  rw[e4] at e1'
  cases e1'
  omega
 ·show 0≤S.cg-_
  have:=h.2
  omega
 ·show S.cg-_≤S.cg
  have:=h.2
  omega
end Vs
namespace Vs
open Kin Deal
structure Sel (q:List Int) (row left:List Nat):Prop where
 pm:(row++left).Perm (Nq q.length)
 inc:left.Pairwise (· < ·)
 pw:row.Pairwise (bef q)
 cr:∀r∈row,∀l∈left,bef q r l
theorem Sel.start(q:List Int):Sel q [] (Nq q.length):=⟨N8.refl _,EU, .nil,fun r hr=>by simp at hr⟩
theorem Sel.lt{q:List Int}{row left:List Nat}(h:Sel q row left){i:Nat}(hi:i∈left):i<q.length:=by
 have:=h.pm.mem_iff.mp (NV row hi)
 simpa using this
theorem Sel.len{q:List Int}{row left:List Nat}(h:Sel q row left):row.length+left.length=q.length:=by
 have:=h.pm.length_eq
 simpa using this
theorem Sel.fin{q:List Int}{row:List Nat}(h:Sel q row []):row=ordQ q:=by
 refine khk ⟨?_,h.pw⟩ (keJ q)
 have:=h.pm
 rwa [MQ] at this
noncomputable def TopI(q:List Int)(left:List Nat)(i top:Nat):Prop:=(∃k,left[k]?=some top∧(k<i∨k=0))∧∀y∈left.take i,y=top∨bef q top y
theorem TopI.start{q:List Int}{left:List Nat}{t:Nat}(h:left[0]?=some t):TopI q left 0 t:=⟨⟨0,h, .inr rfl⟩,fun y hy=>by simp at hy⟩
theorem TopI.more{q:List Int}{left:List Nat}{i top x:Nat}(inc:left.Pairwise (· < ·))(h:TopI q left i top)(hx:left[i]?=some x):TopI q left (i+1) (if q.getD top 0<q.getD x 0 then x else top):=by
 obtain⟨⟨k,ek,hk⟩,hy⟩:=h
 have et:left.take (i+1)=left.take i++[x]:=by rw[Mz,hx];rfl
 split
 ·rename_i hlt
  refine⟨⟨i,hx, .inl (by omega)⟩,fun y hm=>?_⟩
  rw[et] at hm
  rcases NU.mp hm with h1|h1
  ·refine .inr (.inl ?_)
   rcases hy y h1 with rfl|h2
   ·exact hlt
   ·unfold bef at h2
    omega
  ·exact .inl (by simpa using h1)
 ·rename_i hge
  refine⟨⟨k,ek,by omega⟩,fun y hm=>?_⟩
  rw[et] at hm
  rcases NU.mp hm with h1|h1
  ·exact hy y h1
  ·have e:y=x:=by simpa using h1
   subst e
   by_cases hki:k=i
   ·subst hki
    rw[ek] at hx
    exact .inl (Option.some.inj hx).symm
   ·have hlt:top<y:=by
     obtain⟨l1,q1⟩:=Nz.mp ek
     obtain⟨l2,q2⟩:=Nz.mp hx
     have:=MK.mp inc k i l1 l2 (by omega)
     rwa [q1,q2] at this
    refine .inr ?_
    unfold bef
    omega
theorem Sel.step{q:List Int}{row left:List Nat}{top:Nat}(h:Sel q row left)(ht:TopI q left left.length top):Sel q (row++[top]) (left.erase top)∧top∈left:=by
 obtain⟨⟨k,ek,_⟩,hy⟩:=ht
 have hm:=Nt ek
 rw[NS] at hy
 have nd:left.Nodup:=h.inc.imp fun hlt=>NP hlt
 refine⟨⟨?_,h.inc.sublist (List.erase_sublist),?_,?_⟩,hm⟩
 ·refine N8.trans ?_ h.pm
  rw[Mb]
  exact N8.append_left row (List.perm_cons_erase hm).symm
 ·exact List.pairwise_append.mpr ⟨h.pw,List.pairwise_singleton _ _,fun r hr t ht=>by
   have e:t=top:=by simpa using ht
   subst e
   exact h.cr r hr t hm⟩
 ·intro r hr l hl
  have hl':=(nd.mem_erase_iff).mp hl
  rcases NU.mp hr with h1|h1
  ·exact h.cr r h1 l hl'.2
  ·have e:r=top:=by simpa using h1
   subst e
   rcases hy l hl'.2 with h2|h2
   ·exact absurd h2 hl'.1
   ·exact h2
end Vs
namespace Vs
open Kin Deal
theorem kh6{m:Nat}{r:List Nat}{i:Nat}{g:List Nat}(h:(grp m r)[i]?=some g):i*m+m≤r.length∧g.length=m∧∀j,j<m→g[j]?=r[i*m+j]?:=by
 unfold grp at h
 rw[Nv] at h
 have hi:i<r.length/m:=by
  rcases Nat.lt_or_ge i (r.length/m) with q|q
  ·exact q
  ·rw[EV (by simpa using q)] at h
   cases h
 rw[Eb hi] at h
 cases h
 have hle:i*m+m≤r.length:=by
  have h1:(i+1)*m≤r.length/m*m:=Nat.mul_le_mul_right m hi
  have h2:=Nat.div_mul_le_self r.length m
  rw[Nat.add_mul,Nat.one_mul] at h1
  omega
 refine⟨hle,by rw[Ny,M4];omega,fun j hj=>?_⟩
 rw[E9 hj,List.getElem?_drop]
theorem khf{m:Nat}{r:List Nat}{i:Nat}{g:List Nat}(hm:0<m)(h:(grp m r)[i]?=some g):r[i*m+(m-1)]?=some (g.getLastD 0):=by
 obtain⟨hle,hl,hg⟩:=kh6 h
 rw[←hg (m-1) (by omega)]
 cases g with
 |nil=>simp at hl;omega
 |cons x xs=>
  have e:(x::xs).getLastD 0=(x::xs).getLast (by simp):=by simp[List.getLastD]
  rw[e,List.getLast_eq_getElem,Nz]
  refine⟨by omega,?_⟩
  congr 1
  omega
theorem kh4{gs:List (List Nat)}{i:Nat}{g:List Nat}(h:gs[i]?=some g):(lasts gs)[i]?=some (g.getLastD 0):=by
 unfold lasts
 rw[Nv,h]
 rfl
theorem kdD(gs:List (List Nat)):(lasts gs).length=gs.length:=by simp[lasts]
theorem khe{m:Nat}{r:List Nat}(hm:0<m)(hr:r.Nodup):(lasts (grp m r)).Nodup:=by
 refine MK.mpr fun i j hi hj hij e=>?_
 rw[kdD] at hi hj
 have e1:(grp m r)[i]?=some (grp m r)[i]:=by simp[hi]
 have e2:(grp m r)[j]?=some (grp m r)[j]:=by simp[hj]
 have a1:=khf hm e1
 have a2:=khf hm e2
 have b1:=kh4 e1
 have b2:=kh4 e2
 obtain⟨_,c1⟩:=Nz.mp b1
 obtain⟨_,c2⟩:=Nz.mp b2
 rw[c1,c2] at e
 rw[e] at a1
 obtain⟨l1,d1⟩:=Nz.mp a1
 obtain⟨l2,d2⟩:=Nz.mp a2
 have hlt:i*m+(m-1)<j*m+(m-1):=by
  have:=Nat.mul_lt_mul_of_pos_right hij hm
  omega
 exact MK.mp hr _ _ l1 l2 hlt (by rw[d1,d2])
theorem klN{q:List Int}{i:Nat}(h:i∈ordQ q):i<q.length:=by
 have:=(kdy q).mem_iff.mp h
 simpa using this
end Vs
namespace Vs
open Kin Deal
theorem kkg{n:Nat}{is:List Nat}{vs:List Int}{i:Nat}{v:Int}(hl:is.length=vs.length)(hn:(is++[i]).Nodup)(hi:i<n):(spr n is vs).set i v=spr n (is++[i]) (vs++[v]):=by
 have h:=klA (n:=n) (is:=is++[i]) (vs:=vs++[v]) hn (k:=is.length) (i:=i) (v:=v) (by simp) (by rw[hl];simp) hi
 rw[List.take_left' rfl,List.take_left' hl.symm,Mf (by simp),Mf (by simp[hl])] at h
 exact h
theorem kew{gs:List (List Nat)}(h:gs.flatten.Nodup){i k a:Nat}{g:List Nat}(hg:gs[i]?=some g)(hk:g[k]?=some a):((gs.take i).flatten++g.take k++[a]).Nodup:=by
 have e:gs=gs.take i++g::gs.drop (i+1):=by
  obtain⟨hi,eg⟩:=Nz.mp hg
  rw[←eg,Dg hi,Ex]
 have e2:g=(g.take k++[a])++g.drop (k+1):=by
  obtain⟨hk',ek⟩:=Nz.mp hk
  rw[Mb,List.singleton_append,←ek,Dg hk',Ex]
 rw[e,Et,NR] at h
 rw[Mb]
 refine h.sublist (List.Sublist.append_left ?_ _)
 refine List.Sublist.trans ?_ (Dh g _)
 conv=>rhs;rw[e2]
 exact Dh _ _
theorem kkF{m:Nat}(r:List Nat):(grp m r).flatten=r.take (r.length/m*m):=by
 unfold grp
 have hle:r.length/m*m≤r.length:=Nat.div_mul_le_self _ _
 generalize r.length/m=c at *
 induction c with
 |zero=>simp
 |succ c ih=>
  have h1:c*m+m≤r.length:=by rw[←Nat.succ_mul];exact hle
  rw[Mx,Np,Et,ih (by omega)]
  simp only[NC,Ej,NR,List.flatten_nil,MQ]
  rw[show(c+1)*m=c*m+m by rw[Nat.add_mul,Nat.one_mul],EW]
theorem kjN{m:Nat}{r:List Nat}(h:r.Nodup):(grp m r).flatten.Nodup:=by
 rw[kkF]
 exact h.sublist (List.take_sublist _ _)
end Vs
namespace Vs
open Kin Deal
theorem kdg{is:List Nat}(hn:is.Nodup){k i:Nat}(hk:is[k]?=some i):∀(l:List (Nat×Int)),(∀p∈l,p.1<is.length)→(l.map fun p=>(is.getD p.1 0,p.2)).lookup i=l.lookup k
 |[],_=>rfl
 | (j,v)::l,h=>by
  have ih:=kdg hn hk l fun p hp=>h p (NF _ hp)
  have hj:j<is.length:=h (j,v) NL
  obtain⟨hk',ek⟩:=Nz.mp hk
  have e:is.getD j 0=is[j]:=by rw[NH];simp[hj]
  simp only[NC,N5,e]
  by_cases q:k=j
  ·subst q
   simp[ek]
  ·have h1:(k==j)=false:=by simp[q]
   have h2:(i==is[j])=false:=by
    refine beq_eq_false_iff_ne.mpr fun z=>q ?_
    exact(List.getElem_inj hn).mp (by rw[ek,z])
   rw[h1,h2]
   exact ih
theorem lookup_none{is:List Nat}{i:Nat}(hi:∀k:Nat,is[k]?≠some i):∀(l:List (Nat×Int)),(∀p∈l,p.1<is.length)→(l.map fun p=>(is.getD p.1 0,p.2)).lookup i=none
 |[],_=>rfl
 |(j,v)::l,h=>by
  have ih:=lookup_none hi l fun p hp=>h p (NF _ hp)
  have hj:j<is.length:=h (j,v) NL
  have e:is.getD j 0=is[j]:=by rw[NH];simp[hj]
  have h2:(i==is[j])=false:=beq_eq_false_iff_ne.mpr fun z=>hi j (by rw[z];simp[hj])
  simp only[NC,N5,e,h2]
  exact ih
theorem keT{is:List Nat}(hn:is.Nodup){k i:Nat}(hk:is[k]?=some i):∀{vs:List Int},is.length=vs.length→(is.zip vs).lookup i=vs[k]?:=by
 induction is generalizing k with
 |nil=>simp at hk
 | cons a is ih=>
  intro vs hl
  cases vs with
  |nil=>simp at hl
  | cons v vs=>
   rw[List.zip_cons_cons,N5]
   cases k with
   |zero=>
    have:a=i:=by simpa using hk
    subst this
    simp
   |succ k=>
    have hk':is[k]?=some i:=by simpa using hk
    have hh:=Mp.mp hn
    have hne:(i==a)=false:=beq_eq_false_iff_ne.mpr fun z=>hh.1 (z▸Nt hk')
    rw[hne]
    simpa using ih hh.2 hk' (by simpa using hl)
theorem kgU{n:Nat}{is js:List Nat}{vs:List Int}(hn:is.Nodup)(hj:∀j∈js,j<is.length):spr n is (spr is.length js vs)=spr n (js.map fun j=>is.getD j 0) vs:=by
 apply MA
 ·simp[spr]
 intro i h1 h2
 have ez:(js.map fun j=>is.getD j 0).zip vs=(js.zip vs).map fun p=>(is.getD p.1 0,p.2):=by rw[List.zip_map_left];rfl
 have hp:∀p∈js.zip vs,p.1<is.length:=fun p hp=>hj _ (ME hp).1
 simp only[spr,MV,Ea]
 rw[ez]
 by_cases hk:∃k:Nat,is[k]?=some i
 ·obtain⟨k,hk⟩:=hk
  have hkl:=(Nz.mp hk).1
  rw[kdg hn hk _ hp,keT hn hk (by simp)]
  simp[hkl]
 ·rw[lookup_none (fun k e=>hk ⟨k,e⟩) _ hp]
  have:((is.zip ((Nq is.length).map fun i=>((js.zip vs).lookup i).getD 0)).lookup i)=none:=by
   rw[List.lookup_eq_none_iff]
   intro p hp'
   have:=(ME hp').1
   obtain⟨k,ek⟩:=Mr.mp this
   have hne:i≠p.1:=fun z=>hk ⟨k,by rw[ek,←z]⟩
   simpa using hne
  rw[this]
noncomputable def owns(n:Nat)(ow:List Nat)(is:List Nat):List (List Nat):=(Nq n).map fun l=>is.filter fun i=>ow.getD i 0==l
theorem ke3(n:Nat)(ow is:List Nat):(ke4 n (is.map fun i=>ow.getD i 0)).map (fun g=>g.map fun j=>is.getD j 0)=owns n ow is:=by
 unfold ke4 owns
 rw[NM]
 refine Me fun l _=>?_
 show(((Nq _).filter _).map fun j=>is.getD j 0)=_
 have e:is=(Nq is.length).map fun j=>is.getD j 0:=by
  apply MA
  ·simp
  ·intro j h1 h2
   simp[NH,h1]
 conv=>rhs;rw[e]
 rw[List.filter_map,Nh]
 congr 1
 refine List.filter_congr fun k hk=>?_
 have hk':k<is.length:=by simpa using hk
 simp[NH,hk']
theorem qs_qs{pr:List Int}{ab g:List Nat}(h:∀j∈g,j<ab.length):qs (qs pr ab) g=qs pr (g.map fun j=>ab.getD j 0):=by
 unfold qs
 rw[NM]
 refine Me fun j hj=>?_
 have:=h j hj
 simp[NH,this]
theorem kgK{n:Nat}{lines:List Nat}{g:List Nat}(hg:g∈ke4 n lines){j:Nat}(hj:j∈g):j<lines.length:=by
 obtain⟨l,_,rfl⟩:=NJ.mp hg
 have:=(Mc.mp hj).1
 simpa using this
theorem kho{n N:Nat}{ow ab:List Nat}{pr:List Int}(cut:Int→Int)(hn:ab.Nodup):spr n ab (gdl cut (ke4 N (ab.map fun i=>ow.getD i 0)) (qs pr ab))=spr n (owns N ow ab).flatten ((owns N ow ab).map fun o=>dl (cut (qs pr o).sum) (qs pr o)).flatten:=by
 unfold gdl
 rw[kb9,kgU hn fun j hj=>?_,List.map_flatten,ke3]
 ·congr 2
  rw[←ke3,NM]
  refine Me fun g hg=>?_
  have e:=qs_qs (pr:=pr) (ab:=ab) (g:=g) fun j hj=>by simpa using kgK hg hj
  show dl (cut (qs (qs pr ab) g).sum) (qs (qs pr ab) g)=dl (cut (qs pr (g.map fun j=>ab.getD j 0)).sum) (qs pr (g.map fun j=>ab.getD j 0))
  rw[e]
 ·obtain⟨g,hg,hj'⟩:=MB.mp hj
  simpa using kgK hg hj'
end Vs
namespace Vs
open Kin Deal
section
variable {p:Nat→Bool} {n:Nat} {w:List Int}
noncomputable def cnt(p:Nat→Bool)(j:Nat):Nat:=((Nq j).filter p).length
theorem kj3{j:Nat}(h:p j=true):cnt p (j+1)=cnt p j+1:=by
 unfold cnt
 rw[Mx,MZ,Nx]
 simp[h]
theorem klr{j:Nat}(h:p j=false):cnt p (j+1)=cnt p j:=by
 unfold cnt
 rw[Mx,MZ,Nx]
 simp[h]
theorem kc3:∀{n j:Nat},j<n→p j=true→((Nq n).filter p)[cnt p j]?=some j
 |0,j,h,_=>by omega
 | n+1,j,h,hp=>by
  rw[Mx,MZ]
  by_cases hj:j<n
  ·have ih:=kc3 hj hp
   rw[M3 (Nz.mp ih).1]
   exact ih
  ·have e:j=n:=by omega
   subst e
   unfold cnt
   rw[MR (Nj _)]
   simp[hp]
theorem kkY(hl:w.length=cnt p n){j:Nat}(hj:j<n):(spr n ((Nq n).filter p) w)[j]?=some (if p j=true then w.getD (cnt p j) 0 else 0):=by
 unfold spr
 rw[Nv,Eb hj]
 show some _=some _
 congr 1
 show(Mh j (((Nq n).filter p).zip w)).getD 0=_
 cases hp:p j with
 |true=>
  rw[keT (MT.filter _ Ew) (kc3 hj hp) hl.symm,if_pos rfl,NH]
 | false=>
  rw[if_neg Nu]
  cases e:(((Nq n).filter p).zip w).lookup j with
  |none=>rw[EL]
  |some v=>
   obtain⟨k,hk,_⟩:=kd2 e
   have:=(Mc.mp (Nt hk)).2
   rw[hp] at this
   cases this
theorem kfH(hl:w.length=cnt p n):∀j,j≤n→pre (spr n ((Nq n).filter p) w) j=pre w (cnt p j)
 |0,_=>by simp[pre,cnt]
 | j+1,h=>by
  have ih:=kfH hl j (by omega)
  rw[ken (kkY hl (show j<n by omega)),ih]
  cases hp:p j with
  |true=>
   have hk:=(Nz.mp (kc3 (show j<n by omega) hp)).1
   have hk':cnt p j<w.length:=by rw[hl];exact hk
   rw[if_pos rfl,kj3 hp,ken (w:=w.getD (cnt p j) 0) (by rw[NH,Mv hk'];rfl)]
  |false=>rw[if_neg Nu,klr hp,Int.add_zero]
theorem kiH(hl:w.length=cnt p n):(spr n ((Nq n).filter p) w).sum=w.sum:=by
 have h:=kfH hl n (Nj _)
 rw[←hl,kji] at h
 have e:pre (spr n ((Nq n).filter p) w) n=(spr n ((Nq n).filter p) w).sum:=by
  have:=kji (spr n ((Nq n).filter p) w)
  rw[kdh] at this
  exact this
 rw[←e,h]
theorem kmw(m:Int)(hl:w.length=cnt p n):dl m (spr n ((Nq n).filter p) w)=spr n ((Nq n).filter p) (dl m w):=by
 have hl2:(dl m w).length=cnt p n:=by rw[kfm,hl]
 have hs:=kiH hl
 apply List.ext_getElem?
 intro j
 by_cases hj:j<n
 ·rw[kkY hl2 hj]
  have hjF:j<(spr n ((Nq n).filter p) w).length:=by rw[kdh];exact hj
  by_cases h0:w.sum=0
  ·rw[kjX (hs.trans h0) hjF]
   cases hp:p j with
   |false=>rw[if_neg Nu]
   |true=>
    have hk:=(Nz.mp (kc3 hj hp)).1
    rw[if_pos rfl,NH,kjX h0 (by rw[hl];exact hk)]
    rfl
  ·rw[dl_at (by rw[hs];exact h0) hjF]
   unfold part
   rw[hs,kfH hl j (by omega),kfH hl (j+1) (by omega)]
   cases hp:p j with
   |false=>rw[if_neg Nu,klr hp,Int.sub_self]
   |true=>
    have hk:=(Nz.mp (kc3 hj hp)).1
    rw[if_pos rfl,NH,dl_at h0 (by rw[hl];exact hk),kj3 hp]
    rfl
 ·rw[EV (by rw[kfm,kdh];omega),EV (by rw[kdh];omega)]
end
theorem kl2{c:Int}{n:Nat}:dl c (Nl n 0)=Nl n 0:=by
 have e:(Nl n (0:Int)).sum=0:=by simp
 unfold dl
 rw[if_pos e]
 simp
theorem kkN{V:Vch}{ps:List (Option Nat)}{kk:List Nat}{S:Stnd}(e:V.ms.most=none):
  (cutM V ps kk S).1=spr S.pr.length (abt ps kk V.ms.kind V.ms.lone S) (want V.so S.mkd.length ((abt ps kk V.ms.kind V.ms.lone S).map fun i=>S.ow.getD i 0) (qs S.pr (abt ps kk V.ms.kind V.ms.lone S))):=by
 unfold cutM cap
 rw[e]
theorem kkM{V:Vch}{ps:List (Option Nat)}{kk:List Nat}{S:Stnd}(hl:S.pr.length=S.ow.length)
  (hw:Le2 (want V.so S.mkd.length ((abt ps kk V.ms.kind V.ms.lone S).map fun i=>S.ow.getD i 0) (qs S.pr (abt ps kk V.ms.kind V.ms.lone S))) (qs S.pr (abt ps kk V.ms.kind V.ms.lone S))) {m:Int} (e:V.ms.most=some m) (h0:0≤m):
  (cutM V ps kk S).1=if(spr S.pr.length (abt ps kk V.ms.kind V.ms.lone S) (want V.so S.mkd.length ((abt ps kk V.ms.kind V.ms.lone S).map fun i=>S.ow.getD i 0) (qs S.pr (abt ps kk V.ms.kind V.ms.lone S)))).sum > m
   then dl m (spr S.pr.length (abt ps kk V.ms.kind V.ms.lone S) (want V.so S.mkd.length ((abt ps kk V.ms.kind V.ms.lone S).map fun i=>S.ow.getD i 0) (qs S.pr (abt ps kk V.ms.kind V.ms.lone S))))
   else spr S.pr.length (abt ps kk V.ms.kind V.ms.lone S) (want V.so S.mkd.length ((abt ps kk V.ms.kind V.ms.lone S).map fun i=>S.ow.getD i 0) (qs S.pr (abt ps kk V.ms.kind V.ms.lone S))):=by
 have hwl:=hw.1
 rw[kb9] at hwl
 have ea:abt ps kk V.ms.kind V.ms.lone S=(Nq S.pr.length).filter fun i=>hits ps kk V.ms.kind V.ms.lone S.mkd (S.ow.getD i 0):=by rw[hl];rfl
 have ez:V.so=.carr→(want V.so S.mkd.length ((abt ps kk V.ms.kind V.ms.lone S).map fun i=>S.ow.getD i 0) (qs S.pr (abt ps kk V.ms.kind V.ms.lone S)))=Nl (qs S.pr (abt ps kk V.ms.kind V.ms.lone S)).length 0:=fun z=>by rw[z];rfl
 unfold cutM cap
 rw[e]
 simp only
 generalize want V.so S.mkd.length ((abt ps kk V.ms.kind V.ms.lone S).map fun i=>S.ow.getD i 0) (qs S.pr (abt ps kk V.ms.kind V.ms.lone S))=w at *
 rw[ea] at hwl⊢
 rw[kiH hwl,kmw m hwl]
 by_cases hc:V.so=.carr
 ·have hz:=ez hc
  have hs:w.sum=0:=by rw[hz];simp
  rw[if_neg (by omega:¬w.sum > m)]
  split
  ·simp only
   rw[hz,kl2]
  ·rfl
 ·have hf:fee V.so S.cg=0:=by
   unfold fee
   split
   ·rename_i z
    exact absurd z hc
   ·rfl
  rw[hf,Int.add_zero]
  by_cases hm:m<w.sum
  ·rw[if_pos hm,if_pos hm]
   simp only
   rw[Int.min_eq_left (by omega)]
  ·rw[if_neg hm,if_neg hm]
end Vs
namespace Vs
open Kin Deal
noncomputable def ins:List (Nat×List Nat)→Nat→Nat→List (Nat×List Nat)
 |[],o,a=>[(o,[a])]
 |(l,g)::G,o,a=>if l=o then(l,g++[a])::G else(l,g)::ins G o a
noncomputable def parted(f:Nat→Nat)(is:List Nat):List (Nat×List Nat):=is.foldl (fun G a=>ins G (f a) a) []
theorem keI(f:Nat→Nat)(is:List Nat)(a:Nat):parted f (is++[a])=ins (parted f is) (f a) a:=by
 unfold parted
 rw[List.foldl_append]
 rfl
theorem keq:∀(G:List (Nat×List Nat)) (o a:Nat),(ins G o a).map Prod.fst=if o∈G.map Prod.fst then G.map Prod.fst else G.map Prod.fst++[o]
 |[],o,a=>by simp[ins]
 | (l,g)::G,o,a=>by
  unfold ins
  by_cases h:l=o
  ·subst h
   simp
  ·rw[if_neg h,NC,keq G o a]
   show _=if o∈l::G.map Prod.fst then l::G.map Prod.fst else(l::G.map Prod.fst)++[o]
   have h':¬o=l:=fun z=>h z.symm
   by_cases hm:o∈G.map Prod.fst
   ·rw[if_pos hm,if_pos (NF _ hm)]
   ·rw[if_neg hm,if_neg (by rw[NI,not_or];exact⟨h',hm⟩)]
    rfl
theorem kjJ:∀{G:List (Nat×List Nat)} {o a l:Nat} {g:List Nat},(G.map Prod.fst).Nodup→(l,g)∈ins G o a→(l≠o∧(l,g)∈G)∨(l=o∧((∃g',(o,g')∈G∧g=g'++[a])∨(o∉G.map Prod.fst∧g=[a])))
 |[],o,a,l,g,_,h=>by
  unfold ins at h
  rw[Mw] at h
  cases h
  exact .inr ⟨rfl, .inr ⟨by simp,rfl⟩⟩
 | (k,g0)::G,o,a,l,g,hn,h=>by
  unfold ins at h
  rw[NC,Mp] at hn
  by_cases e:k=o
  ·rw[if_pos e] at h
   subst e
   rcases NI.mp h with z|z
   ·cases z
    exact .inr ⟨rfl, .inl ⟨g0,NL,rfl⟩⟩
   ·refine .inl ⟨fun w=>?_,NF _ z⟩
    subst w
    exact hn.1 (NJ.mpr ⟨(l,g),z,rfl⟩)
  ·rw[if_neg e] at h
   rcases NI.mp h with z|z
   ·cases z
    exact .inl ⟨e,NL⟩
   ·rcases kjJ hn.2 z with⟨w1,w2⟩|⟨w1,⟨g',w2,w3⟩|⟨w2,w3⟩⟩
    ·exact .inl ⟨w1,NF _ w2⟩
    ·exact .inr ⟨w1, .inl ⟨g',NF _ w2,w3⟩⟩
    ·refine .inr ⟨w1, .inr ⟨?_,w3⟩⟩
     rw[NC,NI,not_or]
     exact⟨fun z=>e z.symm,w2⟩
structure PtOk (f:Nat→Nat) (is:List Nat) (G:List (Nat×List Nat)):Prop where
 nd:(G.map Prod.fst).Nodup
 gs:∀l g,(l,g)∈G→g=is.filter fun i=>f i==l
 all:∀i∈is,f i∈G.map Prod.fst
theorem kff(f:Nat→Nat):∀(n:Nat) (is:List Nat),is.length=n→PtOk f is (parted f is)
 |0,is,h=>by
  have e:is=[]:=List.eq_nil_of_length_eq_zero h
  subst e
  exact⟨by simp[parted],fun l g hg=>by simp[parted] at hg,fun i hi=>by simp at hi⟩
 | n +1,is,h=>by
  have hne:is≠[]:=by
   intro z
   subst z
   cases h
  obtain⟨is',a,rfl⟩:∃is' a,is=is'++[a]:=⟨is.dropLast,is.getLast hne,(List.dropLast_concat_getLast hne).symm⟩
  have ih:=kff f n is' (by simpa using h)
  rw[keI]
  refine⟨?_,fun l g hg=>?_,fun i hi=>?_⟩
  ·rw[keq]
   split
   ·exact ih.nd
   ·rename_i hm
    exact EX.mpr ⟨ih.nd,by simp,fun x hx y hy=>by
     rw[Mw] at hy
     subst hy
     exact fun z=>hm (by rw[←z];exact hx)⟩
  ·rw[MZ]
   rcases kjJ ih.nd hg with⟨w1,w2⟩|⟨w1,⟨g',w2,w3⟩|⟨w2,w3⟩⟩
   ·rw[ih.gs l g w2]
    have:(f a==l)=false:=by simpa using fun z=>w1 z.symm
    simp[this]
   ·subst w1 w3
    rw[ih.gs _ g' w2]
    simp
   ·subst w1 w3
    have e:is'.filter (fun i=>f i==f a)=[]:=by
     rw[List.filter_eq_nil_iff]
     intro i hi z
     have z':f i=f a:=by simpa using z
     exact w2 (by rw[←z'];exact ih.all i hi)
    rw[e]
    simp
  ·rw[keq]
   rcases NU.mp hi with hi|hi
   ·have:=ih.all i hi
    split
    ·exact this
    ·exact ED _ this
   ·rw[Mw] at hi
    subst hi
    split
    ·assumption
    ·exact NV _ (by simp)
theorem kcR(f:Nat→Nat)(is:List Nat):PtOk f is (parted f is):=kff f is.length is rfl
theorem PtOk.snds{f:Nat→Nat}{is:List Nat}{G:List (Nat×List Nat)}(h:PtOk f is G):G.map Prod.snd=(G.map Prod.fst).map fun l=>is.filter fun i=>f i==l:=by
 rw[NM]
 refine Me fun p hp=>?_
 exact h.gs p.1 p.2 hp
theorem kir{l l':List (Nat×Int)}{i:Nat}:(l++l').lookup i=(l.lookup i).or (l'.lookup i):=by
 induction l with
 |nil=>simp
 |cons p l ih=>
  obtain⟨a,b⟩:=p
  rw[Er,N5,N5,ih]
  split <;> rfl
theorem kfi{l:List (Nat×Int)}{i:Nat}(h:∀p∈l,p.1≠i):l.lookup i=none:=by
 induction l with
 |nil=>rfl
 | cons p l ih=>
  obtain⟨a,b⟩:=p
  have h1:(i==a)=false:=by
   have:=h (a,b) NL
   simpa using fun z=>this z.symm
  rw[N5,h1]
  exact ih fun q hq=>h q (NF _ hq)
section
variable {f:Nat→Nat} {is:List Nat} {D:List Nat→List Int}
theorem klu{l i:Nat}{vs:List Int}(h:f i≠l):((is.filter fun i=>f i==l).zip vs).lookup i=none:=
 kfi fun p hp=>by
  have h1:=(ME (show(p.1,p.2)∈_ from hp)).1
  have h2:f p.1=l:=by simpa using(Mc.mp h1).2
  intro z
  rw[z] at h2
  exact h h2
theorem kd8(hD:∀g,(D g).length=g.length)(i:Nat):∀(ks:List Nat),ks.Nodup→
  (((ks.map fun l=>is.filter fun i=>f i==l).flatten).zip ((ks.map fun l=>D (is.filter fun i=>f i==l)).flatten)).lookup i=if f i∈ks then((is.filter fun j=>f j==f i).zip (D (is.filter fun j=>f j==f i))).lookup i else none
 |[],_=>by simp
 | l::ks,hn=>by
  rw[Mp] at hn
  have ih:=kd8 hD i ks hn.2
  rw[NC,NC,NR,NR,List.zip_append (hD _).symm,kir,ih]
  by_cases h:f i=l
  ·subst h
   rw[if_neg hn.1,if_pos NL,Option.or_none]
  ·rw[klu h,Option.none_or]
   by_cases hm:f i∈ks
   ·rw[if_pos hm,if_pos (NF _ hm)]
   ·rw[if_neg hm,if_neg (by rw[NI,not_or];exact⟨h,hm⟩)]
theorem kik(hD:∀g,(D g).length=g.length){n:Nat}{ks ks':List Nat}(hn:ks.Nodup)(hn':ks'.Nodup)(h:∀i∈is,f i∈ks)(h':∀i∈is,f i∈ks'):
  spr n (ks.map fun l=>is.filter fun i=>f i==l).flatten (ks.map fun l=>D (is.filter fun i=>f i==l)).flatten=spr n (ks'.map fun l=>is.filter fun i=>f i==l).flatten (ks'.map fun l=>D (is.filter fun i=>f i==l)).flatten:=by
 unfold spr
 refine Me fun i _=>?_
 have key:∀ks:List Nat,ks.Nodup→(∀i∈is,f i∈ks)→(((ks.map fun l=>is.filter fun i=>f i==l).flatten).zip ((ks.map fun l=>D (is.filter fun i=>f i==l)).flatten)).lookup i=((is.filter fun j=>f j==f i).zip (D (is.filter fun j=>f j==f i))).lookup i:=fun ks hn hk=>by
  rw[kd8 hD i ks hn]
  by_cases hm:f i∈ks
  ·rw[if_pos hm]
  ·rw[if_neg hm,kfi fun p hp=>?_]
   have h1:=(ME (show(p.1,p.2)∈_ from hp)).1
   obtain⟨h2,h3⟩:=Mc.mp h1
   exact fun _=>hm (by rw[←(show f p.1=f i by simpa using h3)];exact hk _ h2)
 rw[key ks hn h,key ks' hn' h']
theorem keH(hi:is.Nodup):∀{ks:List Nat},ks.Nodup→(ks.map fun l=>is.filter fun i=>f i==l).flatten.Nodup
 |[],_=>by simp
 |l::ks,hn=>by
  rw[Mp] at hn
  rw[NC,NR]
  refine EX.mpr ⟨hi.filter _,keH hi hn.2,fun x hx y hy z=>?_⟩
  subst z
  have h1:f x=l:=by simpa using(Mc.mp hx).2
  obtain⟨g,hg,hy⟩:=MB.mp hy
  obtain⟨l',hl',rfl⟩:=NJ.mp hg
  have h2:f x=l':=by simpa using(Mc.mp hy).2
  exact hn.1 (by rw[←h1,h2];exact hl')
end
theorem kil{n N:Nat}{ow ab:List Nat}{pr:List Int}(cut:Int→Int)(hn:ab.Nodup)(hN:∀i∈ab,ow.getD i 0<N):
  spr n ((parted (fun i=>ow.getD i 0) ab).map Prod.snd).flatten (((parted (fun i=>ow.getD i 0) ab).map Prod.snd).map fun g=>dl (cut (qs pr g).sum) (qs pr g)).flatten=spr n ab (gdl cut (ke4 N (ab.map fun i=>ow.getD i 0)) (qs pr ab)):=by
 have ok:=kcR (fun i=>ow.getD i 0) ab
 rw[kho cut hn,ok.snds]
 generalize hks:(parted (fun i=>ow.getD i 0) ab).map Prod.fst=ks at *
 have nd:ks.Nodup:=by rw[←hks];exact ok.nd
 have al:∀i∈ab,ow.getD i 0∈ks:=by rw[←hks];exact ok.all
 unfold owns
 rw[NM,NM]
 exact kik (f:=fun i=>ow.getD i 0) (is:=ab) (D:=fun g=>dl (cut (qs pr g).sum) (qs pr g)) (fun g=>by rw[kfm,kb9]) nd Ew al fun i hi=>by simpa using hN i hi
theorem kfg(f:Nat→Nat):∀(is:List Nat),(parted f is).length≤is.length:=by
 intro is
 have key:∀(is:List Nat) (G:List (Nat×List Nat)),(is.foldl (fun G a=>ins G (f a) a) G).length≤G.length+is.length:=by
  intro is
  induction is with
  |nil=>intro G;simp
  | cons a is ih=>
   intro G
   have h1:=ih (ins G (f a) a)
   have h2:(ins G (f a) a).length≤G.length+1:=by
    have:=congrArg M1 (keq G (f a) a)
    rw[Nh] at this
    rw[this]
    split <;> simp
   rw[List.foldl_cons,NQ]
   omega
 simpa[parted] using key is []
end Vs
namespace Vs
open Kin Deal
noncomputable def fallP(pr:List Int)(is:List Nat):List Nat:=(ordQ (qs pr is)).map fun j=>is.getD j 0
theorem range_getD(is:List Nat):(Nq is.length).map (fun j=>is.getD j 0)=is:=by
 apply MA
 ·simp
 ·intro j h1 h2
  simp[NH,h2]
theorem kbG(pr:List Int)(is:List Nat):(fallP pr is).Perm is:=by
 have h:=(kdy (qs pr is)).map fun j=>is.getD j 0
 rw[kb9,range_getD] at h
 exact h
noncomputable def befP(pr:List Int)(a b:Nat):Prop:=pr.getD b 0<pr.getD a 0∨(pr.getD a 0=pr.getD b 0∧a<b)
theorem kkL{pr:List Int}{is:List Nat}(hs:is.Pairwise (· < ·)):(fallP pr is).Pairwise (befP pr):=by
 have h:=(keJ (qs pr is)).2
 have hm:=(keJ (qs pr is)).1
 unfold fallP
 rw[EY]
 refine h.imp_of_mem fun {a b} ha hb hab=>?_
 have la:a<is.length:=by simpa[kb9] using hm.mem_iff.mp ha
 have lb:b<is.length:=by simpa[kb9] using hm.mem_iff.mp hb
 have ea:(qs pr is).getD a 0=pr.getD (is.getD a 0) 0:=by simp[qs,NH,la]
 have eb:(qs pr is).getD b 0=pr.getD (is.getD b 0) 0:=by simp[qs,NH,lb]
 unfold bef at hab
 unfold befP
 rw[ea,eb] at hab
 rcases hab with z|⟨z1,z2⟩
 ·exact .inl z
 ·refine .inr ⟨z1,?_⟩
  have:=MK.mp hs a b la lb z2
  simpa[NH,la,lb] using this
theorem kis{pr:List Int}{is ks:List Nat}(hs:is.Pairwise (· < ·))(hp:ks.Perm is)(hk:ks.Pairwise (befP pr)):ks=fallP pr is:=
 keE (R:=befP pr) (fun a b h h'=>by unfold befP at h h';omega) (hp.trans (kbG pr is).symm) hk (kkL hs)
theorem kjP(m:Nat)(f:Nat→Nat)(r:List Nat):grp m (r.map f)=(grp m r).map fun g=>g.map f:=by
 unfold grp
 rw[Nh,NM]
 refine Me fun g _=>?_
 show((r.map f).drop _).take _=((r.drop _).take _).map f
 rw[MH,Ec]
theorem kjO{m:Nat}{r g:List Nat}(h:g∈grp m r):∀j∈g,j∈r:=fun j hj=>by
 obtain⟨i,_,rfl⟩:=NJ.mp h
 exact Ey (MM hj)
theorem kjQ{n:Nat}{ab:List Nat}{pr:List Int}(cut:Int→Int)(hn:ab.Nodup)(gs:List (List Nat))(hg:∀g∈gs,∀j∈g,j<ab.length):
  spr n ab (gdl cut gs (qs pr ab))=spr n (gs.map fun g=>g.map fun j=>ab.getD j 0).flatten ((gs.map fun g=>g.map fun j=>ab.getD j 0).map fun o=>dl (cut (qs pr o).sum) (qs pr o)).flatten:=by
 unfold gdl
 rw[kb9,kgU hn fun j hj=>?_,List.map_flatten,NM]
 ·congr 2
  refine Me fun g hg'=>?_
  have e:=qs_qs (pr:=pr) (ab:=ab) (g:=g) (hg g hg')
  show dl (cut (qs (qs pr ab) g).sum) (qs (qs pr ab) g)=dl (cut (qs pr (g.map fun j=>ab.getD j 0)).sum) (qs pr (g.map fun j=>ab.getD j 0))
  rw[e]
 ·obtain⟨g,hg',hj'⟩:=MB.mp hj
  exact hg g hg' j hj'
theorem kla{pr:List Int}{is:List Nat}{m:Nat}{g:List Nat}(h:g∈grp m (ordQ (qs pr is))):∀j∈g,j<is.length:=fun j hj=>by
 have:=klN (kjO h j hj)
 rwa [kb9] at this
theorem kkP{n m:Nat}{is:List Nat}{pr:List Int}(cut:Int→Int)(hn:is.Nodup):
  spr n is (gdl cut (grp m (ordQ (qs pr is))) (qs pr is))=spr n (grp m (fallP pr is)).flatten ((grp m (fallP pr is)).map fun o=>dl (cut (qs pr o).sum) (qs pr o)).flatten:=by
 rw[kjQ cut hn _ fun g hg=>kla hg]
 unfold fallP
 rw[kjP]
theorem kjC{f:Nat→Nat}{gs:List (List Nat)}(h:∀g∈gs,g≠[]):lasts (gs.map fun g=>g.map f)=(lasts gs).map f:=by
 unfold lasts
 rw[NM,NM]
 refine Me fun g hg=>?_
 show(g.map f).getLastD 0=f (g.getLastD 0)
 have hne:=h g hg
 rw[EZ,EZ,List.getLast?_map,Dj hne]
 rfl
theorem kmx(c:Int):dl c [c]=[c]:=by
 unfold dl
 by_cases h:[c].sum=0
 ·rw[if_pos h]
  have:c=0:=by simpa using h
  simp[this]
 ·rw[if_neg h]
  have hc:c≠0:=by simpa using h
  have e:part c [c] 0=c:=by
   unfold part pre
   simp[Int.mul_ediv_cancel _ hc]
  simp[Mx,e]
theorem ki4(f:Nat→Int):∀(l:List Nat),(l.map fun i=>[i]).flatten=l∧(l.map fun i=>[f i]).flatten=l.map f
 |[]=>⟨rfl,rfl⟩
 |a::l=>by
  obtain⟨h1,h2⟩:=ki4 f l
  simp[h1,h2]
theorem kj5{n m:Nat}{is:List Nat}{pr:List Int}(hm:0<m)(hn:is.Nodup):
  spr n is (spr (qs pr is).length (lasts (grp m (ordQ (qs pr is)))) (qs (qs pr is) (lasts (grp m (ordQ (qs pr is))))))=spr n (lasts (grp m (fallP pr is))) ((lasts (grp m (fallP pr is))).map fun i=>pr.getD i 0):=by
 have ne:∀g∈grp m (ordQ (qs pr is)),g≠[]:=fun g hg z=>by
  obtain⟨i,hi⟩:=Mr.mp hg
  have:=(kh6 hi).2.1
  rw[z] at this
  simp at this
  omega
 have hl:∀j∈lasts (grp m (ordQ (qs pr is))),j<is.length:=fun j hj=>by
  obtain⟨g,hg,rfl⟩:=NJ.mp hj
  refine kla hg _ ?_
  rw[EZ,Dj (ne g hg)]
  exact List.getLast_mem _
 rw[kb9,kgU hn hl,qs_qs hl]
 have e:lasts (grp m (fallP pr is))=(lasts (grp m (ordQ (qs pr is)))).map fun j=>is.getD j 0:=by
  unfold fallP
  rw[kjP,kjC ne]
 rw[e]
 rfl
theorem spr_zero{n k:Nat}{is:List Nat}:spr n is (Nl k 0)=Nl n 0:=by
 unfold spr
 apply MA
 ·simp
 ·intro j h1 h2
  simp only[MV,Ea,List.getElem_replicate]
  cases e:(is.zip (Nl k (0:Int))).lookup j with
  |none=>rfl
  |some v=>
   obtain⟨i,_,hv⟩:=kd2 e
   have:=List.eq_of_mem_replicate (Nt hv)
   rw[this]
   rfl
theorem keZ{pr:List Int}{is:List Nat}(hn:is.Nodup):(fallP pr is).Nodup:=(kbG pr is).nodup_iff.mpr hn
theorem khi(m:Nat)(r:List Nat):(grp m r).length≤r.length:=by
 unfold grp
 rw[Nh,List.length_range]
 exact Nat.div_le_self _ _
end Vs
namespace Vs
open Kin Deal
theorem sum_set:∀{l:List Int} {i:Nat} {u v:Int},l[i]?=some u→(l.set i v).sum=l.sum-u+v
 |[],i,u,v,h=>by simp at h
 |a::l,0,u,v,h=>by
  have e:a=u:=by simpa using h
  subst e
  simp only[List.set_cons_zero,N9]
  omega
 |a::l,i+1,u,v,h=>by
  have e:l[i]?=some u:=by simpa using h
  simp only[List.set_cons_succ,N9]
  rw[sum_set e]
  omega
structure Later (S S':Stnd):Prop where
 ow:S'.ow=S.ow
 pr:Le2 S'.pr S.pr
 cg:0≤S'.cg∧S'.cg≤S.cg
 mg:∀l,S.mkd.getD l false=true→S'.mkd.getD l false=true
theorem Later.refl{S:Stnd}(hn:Nn S.pr)(hc:0≤S.cg):Later S S:=⟨rfl,Le2.self hn,⟨hc,Int.le_refl _⟩,fun _ h=>h⟩
theorem Later.trans{S S' S'':Stnd}(h:Later S S')(h':Later S' S''):Later S S'':=⟨h'.ow.trans h.ow,h'.pr.trans h.pr,⟨h'.cg.1,Int.le_trans h'.cg.2 h.cg.2⟩,fun l e=>h'.mg l (h.mg l e)⟩
end Vs
namespace Vs
open PySem L2
noncomputable def top(i:Nat):Stmt:=PySem.Challenge.pw_voucherstack_k37_paid_and_paid_back.main.body.getD i (.Pass ⟨0,0,0,0⟩)
noncomputable abbrev kg4:Stmt:=top 2
noncomputable abbrev kg2:Stmt:=top 4
noncomputable abbrev kbO:Stmt:=top 16
noncomputable abbrev keC:Stmt:=top 19
noncomputable abbrev ki7:Stmt:=top 20
noncomputable abbrev kdk:Stmt:=top 21
noncomputable abbrev ki8:Stmt:=top 22
noncomputable abbrev kg5:Stmt:=top 23
noncomputable abbrev kbQ:Stmt:=top 24
noncomputable abbrev kbD:Stmt:=top 25
noncomputable abbrev kbf:Stmt:=top 26
noncomputable abbrev kbP:Stmt:=top 27
noncomputable abbrev kaG:Stmt:=top 28
noncomputable abbrev kbY:Stmt:=top 29
noncomputable abbrev kcr:Stmt:=top 30
noncomputable abbrev kbX:Stmt:=top 31
noncomputable abbrev keB:Stmt:=top 32
noncomputable abbrev kg3:Stmt:=top 39
noncomputable abbrev kfE:Stmt:=top 40
noncomputable abbrev kbW:Stmt:=top 41
noncomputable abbrev kcg:Stmt:=top 42
noncomputable abbrev kch:Stmt:=top 43
noncomputable abbrev kbC:Stmt:=top 44
noncomputable abbrev kfF:Stmt:=top 47
noncomputable abbrev kcl:Stmt:=top 53
noncomputable abbrev kdl:Stmt:=top 54
noncomputable abbrev kcK:Stmt:=top 55
noncomputable abbrev kck:Stmt:=top 56
noncomputable abbrev kcv:Stmt:=top 57
noncomputable abbrev kcw:Stmt:=top 58
noncomputable abbrev kcM:Stmt:=top 59
noncomputable abbrev kci:Stmt:=top 60
noncomputable abbrev kcJ:Stmt:=top 61
noncomputable abbrev kcG:Stmt:=top 62
noncomputable abbrev kcs:Stmt:=top 63
noncomputable abbrev kcu:Stmt:=top 64
noncomputable abbrev kcN:Stmt:=top 65
noncomputable abbrev kcL:Stmt:=top 66
noncomputable abbrev kcI:Stmt:=top 67
noncomputable abbrev kct:Stmt:=top 68
noncomputable abbrev kcO:Stmt:=top 69
noncomputable abbrev kcH:Stmt:=top 70
noncomputable abbrev kbR:Stmt:=top 71
noncomputable abbrev s_law:Stmt:=top 72
noncomputable abbrev ka4:Stmt:=inClass (top 6) 0
noncomputable abbrev kaT:Stmt:=inClass (top 7) 0
noncomputable abbrev kbr:Stmt:=inClass (top 8) 0
noncomputable abbrev ka3:Stmt:=inClass (top 9) 0
noncomputable abbrev kaM:Stmt:=inClass (top 10) 0
noncomputable abbrev kaX:Stmt:=inClass (top 11) 0
noncomputable abbrev kaN:Stmt:=inClass (top 12) 0
noncomputable abbrev kbc:Stmt:=inClass (top 14) 0
noncomputable abbrev kaY:Stmt:=inClass (top 15) 0
noncomputable abbrev kb0:Stmt:=inClass (top 17) 0
noncomputable abbrev kbS:Stmt:=inClass (top 17) 1
noncomputable abbrev kdP:Stmt:=inClass (top 38) 0
noncomputable abbrev kcm:Stmt:=inClass (top 38) 1
noncomputable abbrev kcP:Stmt:=inClass (top 38) 2
noncomputable abbrev kbZ:Stmt:=inClass (top 38) 4
noncomputable abbrev kdm:Stmt:=inClass (top 46) 0
noncomputable abbrev kbb:Stmt:=inClass (top 49) 0
noncomputable abbrev kcn:Stmt:=inClass (top 51) 0
noncomputable abbrev kbl:Stmt:=inClass (top 51) 1
noncomputable abbrev kbv:Stmt:=inClass (top 51) 2
noncomputable abbrev kbu:Stmt:=inClass (top 51) 3
noncomputable abbrev kbd:Stmt:=inClass (top 51) 4
noncomputable abbrev kbi:Stmt:=inClass (top 51) 5
noncomputable abbrev ka6:Stmt:=inClass (top 51) 6
noncomputable abbrev kbj:Stmt:=inClass (top 51) 7
set_option genInjectivity false
set_option genSizeOf false
structure D where
 Yl:Addr
 Ym:FuncData
 Yn:Addr
 Yo:FuncData
 Yp:Addr
 Yq:FuncData
 Yr:Addr
 Ys:FuncData
 Yt:Addr
 Yu:FuncData
 Yv:Addr
 Yw:FuncData
 Yx:Addr
 Yy:FuncData
 Yz:Addr
 YA:FuncData
 YB:Addr
 YC:FuncData
 YD:Addr
 YE:FuncData
 YF:Addr
 YG:FuncData
 YH:Addr
 YI:FuncData
 YJ:Addr
 Xx:FuncData
 YK:Addr
 YL:FuncData
 YM:Addr
 YN:FuncData
 YO:Addr
 YQ:FuncData
 YR:Addr
 YS:FuncData
 YT:Addr
 YU:FuncData
 YV:Addr
 YW:FuncData
 YX:Addr
 YY:FuncData
 YZ:Addr
 Y0:FuncData
 Y1:Addr
 Y2:FuncData
 Y3:Addr
 Y5:FuncData
 Y7:Addr
 Y9:FuncData
 Za:Addr
 Zb:FuncData
 Zc:Addr
 Zd:FuncData
 Ze:Addr
 Zf:FuncData
 Zg:Addr
 Zh:FuncData
 Zi:Addr
 Zj:FuncData
 Zk:Addr
 Zl:FuncData
 Zm:Addr
 Zn:FuncData
 Zo:Addr
 Zp:FuncData
 Zq:Addr
 Zr:FuncData
 Zs:Addr
 Zt:FuncData
 Zu:Addr
 Zv:FuncData
 Zw:Addr
 Zx:FuncData
 Zy:Addr
 Zz:FuncData
 ZA:Addr
 ZC:FuncData
 ZD:Addr
 ZE:FuncData
 ZF:Addr
 ZG:FuncData
 ZH:Addr
 ZI:FuncData
 ZJ:Addr
 ZK:FuncData
 ZL:Addr
 ZM:FuncData
 f_law:Addr
 ZN:FuncData
 qj:Addr
 ZO:Addr
 qN:FuncData
 tok1_Marks_init:Nat
 qE:Addr
 Xy:Addr
 Xz:FuncData
 c_Off:Addr
 ZP:Addr
 XA:FuncData
 ql:Addr
 ZQ:Addr
 QL:FuncData
 qo:Addr
 ZR:Addr
 XB:FuncData
 qm:Addr
 ZS:Addr
 XC:FuncData
 qp:Addr
 ZT:Addr
 XD:FuncData
 qf:Addr
 ZU:Addr
 XE:FuncData
 qg:Addr
 ZV:Addr
 QM:FuncData
 tok0_Basket_init:Nat
 qe:Addr
 ZW:Addr
 ZX:FuncData
 ZY:Addr
 ZZ:FuncData
 c_Way:Addr
 Z9:Addr
 Va:FuncData
 Vb:Addr
 Vd:FuncData
 Ve:Addr
 Vf:FuncData
 Vg:Addr
 Vh:FuncData
 qi:Addr
 Vi:Addr
 Vj:FuncData
 qh:Addr
 Vk:Addr
 XF:FuncData
 tok0_Till_init:Nat
 qc:Addr
 Vl:Addr
 Vm:FuncData
 Vn:Addr
 Vo:FuncData
 Vp:Addr
 Vq:FuncData
 Vr:Addr
 Vt:FuncData
 Vu:Addr
 Vv:FuncData
 Vw:Addr
 Vx:FuncData
 Qo:Addr
 Qp:FuncData
 Vy:Addr
 Vz:FuncData
 cc_falling_groups:Addr
 tP_falling_groups:Addr
structure Wld (K:Ni) (mg:Str→Option Value) (d:D):Prop where
 B:TxtB mg
 qR:Dn K mg "dealt" kg4 ["cut","weights"] d.Yl d.Ym
 QN:Dn K mg "under" kg2 ["parents","one","other"] d.Yn d.Yo
 QO:Dn K mg "price_of_piece" kbO ["line","member"] d.Yp d.Yq
 qS:Dn K mg "about" keC ["voucher","parents","basket","standing"] d.Yr d.Ys
 QP:Dn K mg "fits" ki7 ["marks","parents","kind","marked"] d.Yt d.Yu
 QQ:Dn K mg "hindrance" kdk ["voucher","parents","basket","standing"] d.Yv d.Yw
 QR:Dn K mg "cuts" ki8 ["voucher","parents","basket","standing"] d.Yx d.Yy
 QS:Dn K mg "after" kg5 ["voucher","parents","basket","standing"] d.Yz d.YA
 qT:Dn K mg "cuts_of_pieces" kbQ ["voucher","parents","basket","standing"] d.YB d.YC
 qU:Dn K mg "cut_of_carriage" kbD ["voucher","standing"] d.YD d.YE
 QT:Dn K mg "wanted_cuts" kbf ["voucher","standing","pieces"] d.YF d.YG
 QU:Dn K mg "parted_by_line" kbP ["standing","pieces"] d.YH d.YI
 qV:Dn K mg "falling_groups" kaG ["standing","pieces","many"] d.YJ d.Xx
 QV:Dn K mg "marked_behind" kbY ["voucher","standing","piece_cuts"] d.YK d.YL
 qW:Dn K mg "prices_of" kcr ["standing","pieces"] d.YM d.YN
 qr:Dn K mg "sum_of_prices" kbX ["standing","pieces"] d.YO d.YQ
 QW:Dn K mg "at_most" keB ["most","number"] d.YR d.YS
 qt:Dn K mg "fault" kg3 ["till","basket","hand","order"] d.YT d.YU
 QX:Dn K mg "way_by" kfE ["till","basket","hand","order"] d.YV d.YW
 QY:Dn K mg "word_of_order" kbW ["till","hand","used","number"] d.YX d.YY
 QZ:Dn K mg "breaks_never" kcg ["rules","used","number"] d.YZ d.Y0
 Q0:Dn K mg "breaks_ahead" kch ["rules","used","number"] d.Y1 d.Y2
 qX:Dn K mg "without_company" kbC ["rules","order"] d.Y3 d.Y5
 qA:Dn K mg "priced" kfF ["till","basket","hand","order"] d.Y7 d.Y9
 Q1:Dn K mg "_law_cell_at" kcl ["_law_script","_law_k"] d.Za d.Zb
 qd:Dn K mg "_law_some" kdl ["_law_script","_law_k","_law_salt","_law_many"] d.Zc d.Zd
 qB:Dn K mg "_law_price" kcK ["_law_script","_law_k","_law_salt"] d.Ze d.Zf
 Q2:Dn K mg "_law_parents" kck ["_law_script"] d.Zg d.Zh
 Q3:Dn K mg "_law_basket" kcv ["_law_script","_law_kinds"] d.Zi d.Zj
 qu:Dn K mg "_law_amount" kcw ["_law_script","_law_k","_law_salt","_law_worth_here"] d.Zk d.Zl
 Q4:Dn K mg "_law_marks" kcM ["_law_script","_law_k","_law_kinds","_law_worth_here"] d.Zm d.Zn
 Q5:Dn K mg "_law_voucher" kci ["_law_script","_law_k","_law_kinds","_law_worth_here"] d.Zo d.Zp
 Q6:Dn K mg "_law_rules" kcJ ["_law_script","_law_many"] d.Zq d.Zr
 Q7:Dn K mg "_law_worth" kcG ["_law_basket_here"] d.Zs d.Zt
 Q8:Dn K mg "_law_till" kcs ["_law_script","_law_parents_here","_law_basket_here","_law_back"] d.Zu d.Zv
 Q9:Dn K mg "_law_hand" kcu ["_law_script","_law_many"] d.Zw d.Zx
 Xa:Dn K mg "_law_going" kcN ["_law_till_here","_law_basket_here","_law_hand_here","_law_order_here"] d.Zy d.Zz
 Xb:Dn K mg "_law_order" kcL ["_law_script","_law_k","_law_till_here","_law_basket_here","_law_hand_here"] d.ZA d.ZC
 Xc:Dn K mg "_law_stays" kcI ["_law_basket_here","_law_many"] d.ZD d.ZE
 Xd:Dn K mg "_law_take" kct ["_law_script","_law_k","_law_many"] d.ZF d.ZG
 Xe:Dn K mg "_law_drawn" kcO ["_law_script","_law_back"] d.ZH d.ZI
 Xf:Dn K mg "_law_taken" kcH ["_law_account","_law_first","_law_backs","_law_taken_here"] d.ZJ d.ZK
 Xg:Dn K mg "_law_due_right" kbR ["_law_till_here","_law_basket_here","_law_hand_here","_law_account","_law_order_here"] d.ZL d.ZM
 d_law:Dn K mg "law" s_law ["_law_script"] d.f_law d.ZN
 qj:ClsT K mg "Marks" d.qj
 Xh:NoAttr K d.qj "kind"
 VA:NoAttr K d.qj "needs"
 XG:NoAttr K d.qj "most"
 VB:NoAttr K d.qj "member"
 VC:NoAttr K d.qj "once"
 XH:NoAttr K d.qj "lone"
 Xi:MthT K d.qj "__init__" "Marks.__init__" ka4 ["self","kind","needs","most","member","once","lone"] d.ZO d.qN
 b1_Marks_init:Binds K d.qN ["self","kind","needs","most","member","once","lone"] [.bool false]
 b2_Marks_init:Binds K d.qN ["self","kind","needs","most","member","once","lone"] [.bool false, .bool false]
 b3_Marks_init:Binds K d.qN ["self","kind","needs","most","member","once","lone"] [.bool false, .bool false, .bool false]
 b4_Marks_init:Binds K d.qN ["self","kind","needs","most","member","once","lone"] [.none, .bool false, .bool false, .bool false]
 b5_Marks_init:Binds K d.qN ["self","kind","needs","most","member","once","lone"] [.int 0 d.tok1_Marks_init, .none, .bool false, .bool false, .bool false]
 b6_Marks_init:Binds K d.qN ["self","kind","needs","most","member","once","lone"] [.none, .int 0 d.tok1_Marks_init, .none, .bool false, .bool false, .bool false]
 qE:ClsT K mg "Voucher" d.qE
 qx:MthT K d.qE "__init__" "Voucher.__init__" kaT ["self","marks"] d.Xy d.Xz
 b1_Voucher_init:Binds K d.Xz ["self","marks"] [.none]
 g_Off:mg "Off"=some (.ref d.c_Off)
 c_Off:ClsT K mg "Off" d.c_Off
 VD:NoAttr K d.c_Off "amount"
 VE:NoAttr K d.c_Off "marks"
 XI:MthT K d.c_Off "__init__" "Off.__init__" kbr ["self","amount","marks"] d.ZP d.XA
 b1_Off_init:Binds K d.XA ["self","amount","marks"] [.none]
 V8:mg "Share"=some (.ref d.ql)
 ql:ClsT K mg "Share" d.ql
 VF:NoAttr K d.ql "share"
 VG:NoAttr K d.ql "by_line"
 VH:NoAttr K d.ql "marks"
 XJ:MthT K d.ql "__init__" "Share.__init__" ka3 ["self","share","by_line","marks"] d.ZQ d.QL
 b1_Share_init:Binds K d.QL ["self","share","by_line","marks"] [.none]
 b2_Share_init:Binds K d.QL ["self","share","by_line","marks"] [.bool false, .none]
 V9:mg "Cheapest"=some (.ref d.qo)
 qo:ClsT K mg "Cheapest" d.qo
 VI:NoAttr K d.qo "many"
 VJ:NoAttr K d.qo "marks"
 XM:MthT K d.qo "__init__" "Cheapest.__init__" kaM ["self","many","marks"] d.ZR d.XB
 b1_Cheapest_init:Binds K d.XB ["self","many","marks"] [.none]
 Ua:mg "Bundle"=some (.ref d.qm)
 qm:ClsT K mg "Bundle" d.qm
 VL:NoAttr K d.qm "many"
 VM:NoAttr K d.qm "price"
 VN:NoAttr K d.qm "marks"
 XO:MthT K d.qm "__init__" "Bundle.__init__" kaX ["self","many","price","marks"] d.ZS d.XC
 b1_Bundle_init:Binds K d.XC ["self","many","price","marks"] [.none]
 Ub:mg "Carriage"=some (.ref d.qp)
 qp:ClsT K mg "Carriage" d.qp
 VO:NoAttr K d.qp "marks"
 XQ:MthT K d.qp "__init__" "Carriage.__init__" kaN ["self","marks"] d.ZT d.XD
 b1_Carriage_init:Binds K d.XD ["self","marks"] [.none]
 qf:ClsT K mg "Line" d.qf
 Xj:NoAttr K d.qf "kind"
 Qi:NoAttr K d.qf "price"
 qF:NoAttr K d.qf "many"
 Qq:NoAttr K d.qf "special"
 qY:MthT K d.qf "__init__" "Line.__init__" kbc ["self","kind","price","many","special"] d.ZU d.XE
 b1_Line_init:Binds K d.XE ["self","kind","price","many","special"] [.none]
 qg:ClsT K mg "Basket" d.qg
 qy:NoAttr K d.qg "lines"
 Qr:NoAttr K d.qg "carriage"
 Qj:NoAttr K d.qg "member"
 qG:MthT K d.qg "__init__" "Basket.__init__" kaY ["self","lines","carriage","member"] d.ZV d.QM
 b1_Basket_init:Binds K d.QM ["self","lines","carriage","member"] [.bool false]
 b2_Basket_init:Binds K d.QM ["self","lines","carriage","member"] [.int 0 d.tok0_Basket_init, .bool false]
 qe:ClsT K mg "Standing" d.qe
 qZ:NoAttr K d.qe "owners"
 qC:NoAttr K d.qe "prices"
 Qk:NoAttr K d.qe "carriage"
 Qs:NoAttr K d.qe "marked"
 Qt:MthT K d.qe "__init__" "Standing.__init__" kb0 ["self","basket"] d.ZW d.ZX
 Qu:MthT K d.qe "whole" "Standing.whole" kbS ["self"] d.ZY d.ZZ
 c_Way:ClsT K mg "Way" d.c_Way
 qO:NoAttr K d.c_Way "till"
 Xk:NoAttr K d.c_Way "basket"
 XR:NoAttr K d.c_Way "hand"
 q9:NoAttr K d.c_Way "used"
 Qa:NoAttr K d.c_Way "standing"
 qH:MthT K d.c_Way "__init__" "Way.__init__" kdP ["self","till","basket","hand"] d.Z9 d.Va
 Qb:MthT K d.c_Way "word_for" "Way.word_for" kcm ["self","number"] d.Vb d.Vd
 Qc:MthT K d.c_Way "behind" "Way.behind" kcP ["self","number"] d.Ve d.Vf
 XS:MthT K d.c_Way "is_let_by" "Way.is_let_by" kbZ ["self"] d.Vg d.Vh
 qi:ClsT K mg "Bill" d.qi
 Uc:NoAttr K d.qi "order"
 Ud:NoAttr K d.qi "steps"
 VP:NoAttr K d.qi "prices"
 XT:NoAttr K d.qi "carriage"
 Qv:NoAttr K d.qi "total"
 XU:MthT K d.qi "__init__" "Bill.__init__" kdm ["self","order","steps","standing"] d.Vi d.Vj
 qh:ClsT K mg "Till" d.qh
 Ql:NoAttr K d.qh "parents"
 qI:NoAttr K d.qh "vouchers"
 qJ:NoAttr K d.qh "rules"
 XW:NoAttr K d.qh "back"
 Qd:MthT K d.qh "__init__" "Till.__init__" kbb ["self","parents","vouchers","rules","back"] d.Vk d.XF
 b1_Till_init:Binds K d.XF ["self","parents","vouchers","rules","back"] [.str "again" d.tok0_Till_init]
 qc:ClsT K mg "Account" d.qc
 Xl:NoAttr K d.qc "till"
 Qw:NoAttr K d.qc "basket"
 VQ:NoAttr K d.qc "hand"
 VR:NoAttr K d.qc "first_prices"
 qD:NoAttr K d.qc "order"
 Qm:NoAttr K d.qc "fallen"
 qz:NoAttr K d.qc "many"
 qK:NoAttr K d.qc "paid"
 Qx:NoAttr K d.qc "owed"
 Qy:MthT K d.qc "__init__" "Account.__init__" kcn ["self","till","basket","hand","order"] d.Vl d.Vm
 XX:MthT K d.qc "take_back" "Account.take_back" kbl ["self","line","many"] d.Vn d.Vo
 XY:MthT K d.qc "has_left" "Account.has_left" kbv ["self","line","many"] d.Vp d.Vq
 Qz:MthT K d.qc "pay_back" "Account.pay_back" kbu ["self","back"] d.Vr d.Vt
 XZ:MthT K d.qc "paid_behind" "Account.paid_behind" kbd ["self","line","left","many"] d.Vu d.Vv
 X0:MthT K d.qc "what_stays" "Account.what_stays" kbi ["self"] d.Vw d.Vx
 QA:MthT K d.qc "due_again" "Account.due_again" ka6 ["self","stays"] d.Qo d.Qp
 X1:MthT K d.qc "go_through" "Account.go_through" kbj ["self","stays"] d.Vy d.Vz
 QB:BaseT K d.qE "__init__" d.Xy
 Ue:NG K (.ref d.c_Off) (.ref d.qp)=some false
 Ug:NG K (.ref d.ql) (.ref d.qp)=some false
 Uh:NG K (.ref d.qo) (.ref d.qp)=some false
 Ui:NG K (.ref d.qm) (.ref d.qp)=some false
 Uj:NG K (.ref d.ql) (.ref d.c_Off)=some false
 Uk:NG K (.ref d.qo) (.ref d.c_Off)=some false
 Ul:NG K (.ref d.qm) (.ref d.c_Off)=some false
 Um:NG K (.ref d.qp) (.ref d.c_Off)=some false
 Uo:NG K (.ref d.c_Off) (.ref d.ql)=some false
 Uq:NG K (.ref d.qo) (.ref d.ql)=some false
 Ur:NG K (.ref d.qm) (.ref d.ql)=some false
 Us:NG K (.ref d.qp) (.ref d.ql)=some false
 Ut:NG K (.ref d.c_Off) (.ref d.qo)=some false
 Uu:NG K (.ref d.ql) (.ref d.qo)=some false
 Uv:NG K (.ref d.qm) (.ref d.qo)=some false
 Uw:NG K (.ref d.qp) (.ref d.qo)=some false
 Ux:NG K (.ref d.c_Off) (.ref d.qm)=some false
 Uy:NG K (.ref d.ql) (.ref d.qm)=some false
 Uz:NG K (.ref d.qo) (.ref d.qm)=some false
 UA:NG K (.ref d.qp) (.ref d.qm)=some false
 code_falling_groups:d.Xx.code=.ref d.cc_falling_groups
 ck_falling_groups:CodeK K d.cc_falling_groups d.tP_falling_groups
structure WB (K:Ni) (mg:Str→Option Value) (d:D) (base:Heap):Prop extends Wld K mg d where
 blt:BltM mg base
end Vs
namespace Vs
open PySem L2 War Kin Deal
noncomputable def LineAt(C:Addr)(H:Hp)(x:Addr)(r:Row):Prop:=∃(dx:Addr) (fs:List (Str×V)),H x=some (.ins C dx fs)∧fs.lookup ("kind" :Str)=some (.int r.kd)∧fs.lookup ("price" :Str)=some (.int r.pr)∧fs.lookup ("many" :Str)=some (.int r.mn)∧fs.lookup ("special" :Str)=some (oV r.ex)
noncomputable abbrev Lines(C:Addr)(H:Hp)(ls:List Addr)(rs:List Row):Prop:=P2 (LineAt C H) ls rs
noncomputable def BaskAt(C:Addr)(H:Hp)(b l:Addr)(cg:Int)(m:Bool):Prop:=∃(dx:Addr) (fs:List (Str×V)),H b=some (.ins C dx fs)∧fs.lookup ("lines" :Str)=some (.ref l)∧fs.lookup ("carriage" :Str)=some (.int cg)∧fs.lookup ("member" :Str)=some (.bl m)
noncomputable def StandAt(C:Addr)(H:Hp)(x o p mk:Addr)(cg:Int):Prop:=∃(dx:Addr) (fs:List (Str×V)),H x=some (.ins C dx fs)∧fs.lookup ("owners" :Str)=some (.ref o)∧fs.lookup ("prices" :Str)=some (.ref p)∧fs.lookup ("carriage" :Str)=some (.int cg)∧fs.lookup ("marked" :Str)=some (.ref mk)∧fs.lookup ("whole" :Str)=none
section
variable {C:Addr} {H H':Hp}
theorem LineAt.same{x:Addr}{r:Row}(s:Same H H'):LineAt C H x r→LineAt C H' x r:=fun⟨dx,fs,h,q⟩=>⟨dx,fs,s _ _ h,q⟩
theorem Lines.same{ls:List Addr}{rs:List Row}(s:Same H H')(h:Lines C H ls rs):Lines C H' ls rs:=h.mono fun _ _ q=>q.same s
theorem BaskAt.same{b l:Addr}{cg:Int}{m:Bool}(s:Same H H'):BaskAt C H b l cg m→BaskAt C H' b l cg m:=fun⟨dx,fs,h,q⟩=>⟨dx,fs,s _ _ h,q⟩
theorem StandAt.same{x o p mk:Addr}{cg:Int}(s:Same H H'):StandAt C H x o p mk cg→StandAt C H' x o p mk cg:=fun⟨dx,fs,h,q⟩=>⟨dx,fs,s _ _ h,q⟩
end
section
variable {H:Hp} {hd:Addr} {xs:List V} {o:HO}
theorem BaskAt.set{C b l:Addr}{cg:Int}{m:Bool}(h:H hd=some (.lst xs)):BaskAt C H b l cg m→BaskAt C (upd H hd o) b l cg m:=fun⟨dx,fs,e,q⟩=>⟨dx,fs,by rw[kam (ne_of e h (by intro z;cases z))];exact e,q⟩
theorem StandAt.set{C x a b c:Addr}{cg:Int}(h:H hd=some (.lst xs)):StandAt C H x a b c cg→StandAt C (upd H hd o) x a b c cg:=fun⟨dx,fs,e,q⟩=>⟨dx,fs,by rw[kam (ne_of e h (by intro z;cases z))];exact e,q⟩
theorem LineAt.set{C x:Addr}{r:Row}(h:H hd=some (.lst xs)):LineAt C H x r→LineAt C (upd H hd o) x r:=fun⟨dx,fs,e,q⟩=>⟨dx,fs,by rw[kam (ne_of e h (by intro z;cases z))];exact e,q⟩
theorem Lines.set{C:Addr}{ls:List Addr}{rs:List Row}(h:H hd=some (.lst xs))(L:Lines C H ls rs):Lines C (upd H hd o) ls rs:=L.mono fun _ _ q=>q.set h
end
structure Bask where
 rs:List Row
 cg:Int
 m:Bool
inductive BaskIs (CL CB:Addr) (H:Hp) (b:Addr) (B:Bask):Prop
 |ct (l:Addr) (ls:List Addr) (_:BaskAt CB H b l B.cg B.m) (_:H l=some (.lst (ls.map V.ref))) (_:Lines CL H ls B.rs):BaskIs CL CB H b B
theorem BaskIs.same{CL CB:Addr}{H H':Hp}{b:Addr}{B:Bask}(s:Same H H'):BaskIs CL CB H b B→BaskIs CL CB H' b B:=fun⟨l,ls,h1,h2,h3⟩=>⟨l,ls,h1.same s,s _ _ h2,h3.same s⟩
noncomputable def iV(k:Nat):V:=.int (k:Int)
inductive StndIs (CS:Addr) (H:Hp) (x:Addr) (S:Stnd):Prop
 |ct (o p mk:Addr) (_:StandAt CS H x o p mk S.cg) (_:H o=some (.lst (S.ow.map iV))) (_:H p=some (.lst (S.pr.map V.int))) (_:H mk=some (.lst (S.mkd.map V.bl))):StndIs CS H x S
theorem StndIs.same{CS:Addr}{H H':Hp}{x:Addr}{S:Stnd}(s:Same H H'):StndIs CS H x S→StndIs CS H' x S:=fun⟨o,p,mk,h1,h2,h3,h4⟩=>⟨o,p,mk,h1.same s,s _ _ h2,s _ _ h3,s _ _ h4⟩
theorem kc2(ns:List Nat):(ns.map iV).all flatV=true:=by
 rw[M6]
 intro x hx
 obtain⟨n,_,rfl⟩:=NJ.mp hx
 rfl
noncomputable def ownN(rs:List Row):List Nat:=(rs.zipIdx.map fun p=>Nl p.1.mn.toNat p.2).flatten
theorem kfJ(rs:List Row):(own rs).map V.int=(ownN rs).map iV:=by
 unfold own ownN
 generalize rs.zipIdx=l
 induction l with
 |nil=>rfl
 |cons p l ih=>
  rw[NC,NR,Np,ih,NC,NR,Np]
  congr 1
  simp[iV]
theorem klM(rs:List Row){l:Nat}(h:l∈ownN rs):l<rs.length:=by
 unfold ownN at h
 obtain⟨xs,h1,h2⟩:=MB.mp h
 obtain⟨p,h3,rfl⟩:=NJ.mp h1
 have e:l=p.2:=(List.mem_replicate.mp h2).2
 have q:=List.mem_zipIdx h3
 omega
theorem kkq(rs:List Row)(h:∀r∈rs,r.Ok):(ownN rs).length≤60*rs.length:=by
 have e:(ownN rs).length=(own rs).length:=by
  have:=congrArg M1 (kfJ rs)
  simpa using this.symm
 rw[e]
 exact kjq rs h
noncomputable def pV:Option Nat→V
 |none=>.non
 |some k=>.int (k:Int)
theorem eq_int(a b:Nat):decide (V.int (a:Int)=V.int (b:Int))=decide (a=b):=by
 by_cases h:a=b
 ·subst h;simp
 ·have:¬(V.int (a:Int)=V.int (b:Int)):=by
   intro e
   injection e with e
   omega
  simp[h,this]
theorem kkx{c:Int}{ws:List Int}(h:ws.sum=0):(dl c ws).map V.int=Nl ws.length (V.int 0):=by
 unfold dl
 rw[if_pos h]
 clear h
 induction ws with
 |nil=>rfl
 |cons w ws ih=>simpa[Mq] using ih
theorem kjx{c:Int}{ws:List Int}(h:¬ws.sum=0):dl c ws=(Nq ws.length).map (part c ws):=by
 unfold dl
 rw[if_neg h]
inductive ki0 (K:Ni) (vs:List V) (H:Hp) (Q:VK) (E_:XK):Prop
 |ct (c:Int) (a:Addr) (ws:List Int) (_:vs=[.int c, .ref a]) (_:SqL K H a (ws.map V.int)) (_:Nn ws) (_:ws.sum<2 ^ 100) (_:0≤c) (_:c<2 ^ 64) (_:ws.length≤1000) (_:∀p,H p=none→Q (.ref p) (upd H p (.lst ((dl c ws).map V.int)))):ki0 K vs H Q E_
inductive kiO (K:Ni) (vs:List V) (H:Hp) (Q:VK) (E_:XK):Prop
 |ct (a:Addr) (ps:List (Option Nat)) (one other:Nat) (_:vs=[.ref a, .int one, .int other]) (_:SqL K H a (ps.map pV)) (_:Good ps) (_:one<ps.length) (_:Q (.bl (decide (other∈up ps one))) H):kiO K vs H Q E_
inductive kgW (C:Addr) (vs:List V) (H:Hp) (Q:VK) (E_:XK):Prop
 |ct (x dx:Addr) (r:Row) (_:vs=[.ref x, .int r.kd, .int r.pr, .int r.mn,oV r.ex]) (_:H x=some (.ins C dx [])) (_:∀H',But x H H'→LineAt C H' x r→Q .non H'):kgW C vs H Q E_
inductive kgY (K:Ni) (C:Addr) (vs:List V) (H:Hp) (Q:VK) (E_:XK):Prop
 |ct (x dx l:Addr) (cg:Int) (m:Bool) (xs:List V) (_:vs=[.ref x, .ref l, .int cg, .bl m]) (_:H x=some (.ins C dx [])) (_:SqL K H l xs) (_:∀(H':Hp) (l':Addr),But x H H'→H l'=none→H' l'=some (.lst xs)→BaskAt C H' x l' cg m→Q .non H'):kgY K C vs H Q E_
inductive kiU (CL:Addr) (vs:List V) (H:Hp) (Q:VK) (E_:XK):Prop
 |ct (x:Addr) (m:Bool) (r:Row) (_:vs=[.ref x, .bl m]) (_:LineAt CL H x r) (_:Q (.int (prc m r)) H):kiU CL vs H Q E_
inductive kdt (CL CB CS:Addr) (vs:List V) (H:Hp) (Q:VK) (E_:XK):Prop
 |ct (x dx b l:Addr) (cg:Int) (m:Bool) (ls:List Addr) (rs:List Row) (_:vs=[.ref x, .ref b]) (_:H x=some (.ins CS dx [])) (_:BaskAt CB H b l cg m) (_:H l=some (.lst (ls.map V.ref))) (_:Lines CL H ls rs) (_:rs.length≤12) (_:(∀r∈rs,r.Ok)) (_:∀(H':Hp) (o p mk:Addr),But x H H'→H o=none→H p=none→H mk=none→StandAt CS H' x o p mk cg→H' o=some (.lst ((own rs).map V.int))→H' p=some (.lst ((prs m rs).map V.int))→H' mk=some (.lst (Nl rs.length (.bl false)))→(∃dx fs,H' x=some (.ins CS dx fs)∧fs.length≤10)→Q .non H'):kdt CL CB CS vs H Q E_
inductive kiL (CS:Addr) (vs:List V) (H:Hp) (Q:VK) (E_:XK):Prop
 |ct (x o p mk:Addr) (cg:Int) (ns:List Int) (_:vs=[.ref x]) (_:StandAt CS H x o p mk cg) (_:H p=some (.lst (ns.map V.int))) (_:Q (.int (ns.sum+cg)) H):kiL CS vs H Q E_
structure S3 (H0:Hp) (x C dx:Addr) (fs:List (Str×V)) (o p mk:Addr) (a b c:List V) (H:Hp):Prop where
 bt:But x H0 H
 ob:H x=some (.ins C dx fs)
 ho:H o=some (.lst a)
 hp:H p=some (.lst b)
 hm:H mk=some (.lst c)
structure Ds (H0:Hp) (x o p mk:Addr):Prop where
 fo:H0 o=none
 fp:H0 p=none
 fm:H0 mk=none
 ox:o≠x
 px:p≠x
 mx:mk≠x
 op:o≠p
 om:o≠mk
 pm:p≠mk
section
variable {H0 H H':Hp} {x C dx o p mk:Addr} {fs:List (Str×V)} {a b c d:List V}
theorem S3.same(h:S3 H0 x C dx fs o p mk a b c H)(s:Same H H'):S3 H0 x C dx fs o p mk a b c H':=⟨h.bt.same s,s _ _ h.ob,s _ _ h.ho,s _ _ h.hp,s _ _ h.hm⟩
theorem S3.setO(h:S3 H0 x C dx fs o p mk a b c H)(D:Ds H0 x o p mk):S3 H0 x C dx fs o p mk d b c (upd H o (.lst d)):=
 ⟨fun y u n e=>kbI (h.bt y u n e) fun u' e'=>ev_eq (by rw[kam (kaj e D.fo)];exact e') fun t=>kd3 t (kaj e D.fo) (nx h.ho),by rw[kam D.ox.symm];exact h.ob,kad,by rw[kam D.op.symm];exact h.hp,by rw[kam D.om.symm];exact h.hm⟩
theorem S3.setP(h:S3 H0 x C dx fs o p mk a b c H)(D:Ds H0 x o p mk):S3 H0 x C dx fs o p mk a d c (upd H p (.lst d)):=
 ⟨fun y u n e=>kbI (h.bt y u n e) fun u' e'=>ev_eq (by rw[kam (kaj e D.fp)];exact e') fun t=>kd3 t (kaj e D.fp) (nx h.hp),by rw[kam D.px.symm];exact h.ob,by rw[kam D.op];exact h.ho,kad,by rw[kam D.pm.symm];exact h.hm⟩
theorem S3.setM(h:S3 H0 x C dx fs o p mk a b c H)(D:Ds H0 x o p mk):S3 H0 x C dx fs o p mk a b d (upd H mk (.lst d)):=
 ⟨fun y u n e=>kbI (h.bt y u n e) fun u' e'=>ev_eq (by rw[kam (kaj e D.fm)];exact e') fun t=>kd3 t (kaj e D.fm) (nx h.hm),by rw[kam D.mx.symm];exact h.ob,by rw[kam D.om];exact h.ho,by rw[kam D.pm];exact h.hp,kad⟩
end
end Vs
namespace Vs
open PySem L2 War Kin Deal
noncomputable def MksIs(C:Addr)(H:Hp)(x:Addr)(M:Mks):Prop:=∃(dx:Addr) (fs:List (Str×V)),H x=some (.ins C dx fs)∧fs.lookup ("kind" :Str)=some (pV M.kind)∧fs.lookup ("needs" :Str)=some (.int M.needs)∧fs.lookup ("most" :Str)=some (oV M.most)∧fs.lookup ("member" :Str)=some (.bl M.member)∧fs.lookup ("once" :Str)=some (.bl M.once)∧fs.lookup ("lone" :Str)=some (.bl M.lone)
theorem MksIs.same{C:Addr}{H H':Hp}{x:Addr}{M:Mks}(s:Same H H'):MksIs C H x M→MksIs C H' x M:=fun⟨dx,fs,h,q⟩=>⟨dx,fs,s _ _ h,q⟩
noncomputable def SrtIs(fs:List (Str×V)):Srt→Prop
 | .off a=>fs.lookup ("amount" :Str)=some (.int a)
 | .share s b=>fs.lookup ("share" :Str)=some (.int s)∧fs.lookup ("by_line" :Str)=some (.bl b)
 | .cheap n=>fs.lookup ("many" :Str)=some (.int n)
 | .bund n p=>fs.lookup ("many" :Str)=some (.int n)∧fs.lookup ("price" :Str)=some (.int p)
 | .carr=>True
noncomputable def clsOf(d:D):Srt→Addr
 | .off _=>d.c_Off
 | .share _ _=>d.ql
 | .cheap _=>d.qo
 | .bund _ _=>d.qm
 | .carr=>d.qp
noncomputable def here:Srt→Bool
 | .off _=>true
 | .share _ _=>true
 | .cheap _=>true
 | .bund _ _=>true
 | .carr=>true
noncomputable def kl6:Srt→Bool
 | .off _=>true
 | .share _ _=>false
 | .cheap _=>false
 | .bund _ _=>false
 | .carr=>false
noncomputable def kkb:Srt→Bool
 | .off _=>false
 | .share _ _=>true
 | .cheap _=>false
 | .bund _ _=>false
 | .carr=>false
noncomputable def kgQ:Srt→Bool
 | .off _=>false
 | .share _ _=>false
 | .cheap _=>true
 | .bund _ _=>false
 | .carr=>false
noncomputable def kiw:Srt→Bool
 | .off _=>false
 | .share _ _=>false
 | .cheap _=>false
 | .bund _ _=>true
 | .carr=>false
noncomputable def kbM:Srt→Bool
 | .off _=>false
 | .share _ _=>false
 | .cheap _=>false
 | .bund _ _=>false
 | .carr=>true
noncomputable def Tbs(d:D)(H:Hp):Prop:=TbAt d.tP_falling_groups H
theorem Tbs.same{d:D}{H H':Hp}(s:Same H H')(h:Tbs d H):Tbs d H':=s.tb h
inductive VchIs (d:D) (H:Hp) (v:Addr) (V:Vch):Prop
 |ct (mA dx:Addr) (fs:List (Str×L2.V)) (_:H v=some (.ins (clsOf d V.so) dx fs)) (_:fs.lookup ("marks" :Str)=some (.ref mA)) (_:SrtIs fs V.so) (_:MksIs d.qj H mA V.ms) (_:here V.so=true) (_:Tbs d H):VchIs d H v V
theorem VchIs.same{d:D}{H H':Hp}{v:Addr}{V:Vch}(s:Same H H'):VchIs d H v V→VchIs d H' v V:=fun⟨mA,dx,fs,h1,h2,h3,h4,h5,h6⟩=>⟨mA,dx,fs,s _ _ h1,h2,h3,h4.same s,h5,h6.same s⟩
noncomputable def kds(B:Bask):List Nat:=B.rs.map fun r=>r.kd.toNat
structure Wf (ps:List (Option Nat)) (B:Bask) (S:Stnd):Prop where
 good:Good ps
 pl:ps.length≤20
 kd:∀r∈B.rs,0≤r.kd∧r.kd<(ps.length:Int)
 ok:∀r∈B.rs,r.Ok
 nl:B.rs.length≤12
 bc:0≤B.cg∧B.cg≤1000000000000
 ow:S.ow=ownN B.rs
 lp:S.pr.length=S.ow.length
 lm:S.mkd.length=B.rs.length
 pr:∀z∈S.pr,0≤z∧z≤1000000000000
 cg:0≤S.cg∧S.cg≤1000000000000
 n64:S.ow.length<64
theorem Wf.np{ps:List (Option Nat)}{B:Bask}{S:Stnd}(W:Wf ps B S):S.ow.length≤720:=by
 have:=kkq B.rs W.ok
 have:=W.nl
 rw[W.ow]
 omega
theorem Wf.line{ps:List (Option Nat)}{B:Bask}{S:Stnd}(W:Wf ps B S){i l:Nat}(h:S.ow[i]?=some l):l<B.rs.length:=by
 have hm:=Nt h
 rw[W.ow] at hm
 exact klM _ hm
structure MksOk (ps:List (Option Nat)) (M:Mks):Prop where
 kind:∀k,M.kind=some k→k<ps.length
 needs:0≤M.needs∧M.needs≤1000000000000
 most:∀m,M.most=some m→0≤m∧m≤1000000000000
noncomputable def mks0:Mks:=⟨none,0,none,false,false,false⟩
noncomputable def kfw:Srt→List V
 | .off a=>[.int a]
 | .share s b=>[.int s, .bl b]
 | .cheap n=>[.int n]
 | .bund n p=>[.int n, .int p]
 | .carr=>[]
noncomputable def Mrk(CM:Addr)(H:Hp)(mv:V)(H':Hp)(mA:Addr):Prop:=mv=.ref mA∨(mv=.non∧H mA=none∧MksIs CM H' mA mks0)
theorem MksIs.but{C x mA:Addr}{H H':Hp}{M:Mks}(n:mA≠x)(b:But x H H'):MksIs C H mA M→MksIs C H' mA M:=fun⟨dx,fs,h,q⟩=>⟨dx,fs,b _ _ n h,q⟩
theorem Mrk.but{CM x mA:Addr}{H H1 H2:Hp}{mv:V}{o:HO}(hx:H x=some o)(b:But x H1 H2):Mrk CM H mv H1 mA→Mrk CM H mv H2 mA
 | .inl e=>.inl e
 | .inr ⟨e,f,h⟩=>.inr ⟨e,f,h.but (kaj hx f).symm b⟩
inductive kfy (C:Addr) (vs:List V) (H:Hp) (Q:VK) (E_:XK):Prop
 |ct (x dx:Addr) (M:Mks) (_:vs=[.ref x,pV M.kind, .int M.needs,oV M.most, .bl M.member, .bl M.once, .bl M.lone]) (_:H x=some (.ins C dx [])) (_:∀H',But x H H'→MksIs C H' x M→Q .non H'):kfy C vs H Q E_
inductive kfc (K:Ni) (CM:Addr) (vs:List V) (H:Hp) (Q:VK) (E_:XK):Prop
 |ct (x C dx:Addr) (fs:List (Str×V)) (mv:V) (_:vs=[.ref x,mv]) (_:H x=some (.ins C dx fs)) (_:Cls K C) (_:NoAttr K C "marks") (_:fs.length≤5) (_:(mv=.non∨∃mA,mv=.ref mA)) (_:∀(H':Hp) (mA:Addr),But x H H'→Mrk CM H mv H' mA→H' x=some (.ins C dx (putF "marks" (.ref mA) fs))→Q .non H'):kfc K CM vs H Q E_
inductive kdu (C CM:Addr) (is:Srt→Prop) (vs:List V) (H:Hp) (Q:VK) (E_:XK):Prop
 |ct (x dx:Addr) (so:Srt) (mv:V) (_:is so) (_:vs=.ref x::(kfw so++[mv])) (_:H x=some (.ins C dx [])) (_:(mv=.non∨∃mA,mv=.ref mA)) (_:∀(H':Hp) (mA:Addr) (fs:List (Str×V)),But x H H'→Mrk CM H mv H' mA→H' x=some (.ins C dx fs)→fs.lookup ("marks" :Str)=some (.ref mA)→SrtIs fs so→Q .non H'):kdu C CM is vs H Q E_
theorem kh3{C:Addr}{H:Hp}{M:Mks}{R:Addr→Hp→Prop}{E:XK}(k:∀(H':Hp) (x:Addr),Same H H'→H x=none→MksIs C H' x M→R x H'):
  ∀x dx,H x=none→H dx=none→dx≠x→kfy C [.ref x,pV M.kind, .int M.needs,oV M.most, .bl M.member, .bl M.once, .bl M.lone] (upd (upd H dx (.own x)) x (.ins C dx [])) (fun v H2=>v=.non∧R x H2) E:=
 fun x dx nx nd _=>⟨x,dx,M,rfl,kad,fun H' b l=>⟨rfl,k H' x (kbk nx nd b) nx l⟩⟩
theorem kmn{d:D}{H:Hp}{so:Srt}{mA:Addr}{M:Mks}{is:Srt→Prop}{R:Addr→Hp→Prop}{E:XK}(hi:is so)(hh:here so=true)(hM:MksIs d.qj H mA M)(k:∀(H':Hp) (x:Addr),Same H H'→H x=none→VchIs d H' x ⟨so,M⟩→R x H')(htb:Tbs d H:=by assumption):
  ∀x dx,H x=none→H dx=none→dx≠x→kdu (clsOf d so) d.qj is (.ref x::(kfw so++[.ref mA])) (upd (upd H dx (.own x)) x (.ins (clsOf d so) dx [])) (fun v H2=>v=.non∧R x H2) E:=
 fun x dx nx nd _=>⟨x,dx,so, .ref mA,hi,rfl,kad, .inr ⟨mA,rfl⟩,fun H' mA' fs b hm h1 h2 h3=>by
  have e:mA'=mA:=by
   rcases hm with e|⟨e,_⟩
   ·injection e with e
    exact e.symm
   ·cases e
  subst e
  exact⟨rfl,k H' x (kbk nx nd b) nx ⟨mA',dx,fs,h1,h2,h3,hM.same (kbk nx nd b),hh,htb.same (kbk nx nd b)⟩⟩⟩
end Vs
namespace Vs
open PySem L2 War Kin Deal
theorem sN{t u:TS}{D:Ends}{σ:St}{H:Hp}(h:∀N:St→Hp→Prop,(∀σ' H',u D σ' H'→N σ' H')→t {D with nx:=N} σ H):tSeq t u D σ H:=h (u D) fun _ _ q=>q
theorem kha{CL:Addr}{H:Hp}{r:Row}{R:Addr→Hp→Prop}{E:XK}(k:∀(H':Hp) (x:Addr),Same H H'→H x=none→LineAt CL H' x r→R x H'):
  ∀x dx,H x=none→H dx=none→dx≠x→kgW CL [.ref x, .int r.kd, .int r.pr, .int r.mn,oV r.ex] (upd (upd H dx (.own x)) x (.ins CL dx [])) (fun v H2=>v=.non∧R x H2) E:=
 fun x dx nx nd _=>⟨x,dx,r,rfl,kad,fun H' b l=>⟨rfl,k H' x (kbk nx nd b) nx l⟩⟩
theorem kfY{K:Ni}{CB:Addr}{H:Hp}{l:Addr}{cg:Int}{m:Bool}{xs:List V}{R:Addr→Hp→Prop}{E:XK}(hl:SqL K H l xs)(k:∀(H':Hp) (x l':Addr),Same H H'→H x=none→H l'=none→H' l'=some (.lst xs)→BaskAt CB H' x l' cg m→R x H'):
  ∀x dx,H x=none→H dx=none→dx≠x→kgY K CB [.ref x, .ref l, .int cg, .bl m] (upd (upd H dx (.own x)) x (.ins CB dx [])) (fun v H2=>v=.non∧R x H2) E:=
 fun x dx nx nd _=>⟨x,dx,l,cg,m,xs,rfl,kad,(ka2 nx nd).seq hl,fun H' l' b n h1 h2=>⟨rfl,k H' x l' (kbk nx nd b) nx (kdB n) h1 h2⟩⟩
theorem kkw{CL CB CS:Addr}{H:Hp}{b l:Addr}{cg:Int}{m:Bool}{ls:List Addr}{rs:List Row}{R:Addr→Hp→Prop}{E:XK}(hb:BaskAt CB H b l cg m)(hl:H l=some (.lst (ls.map V.ref)))(hL:Lines CL H ls rs)(hn:rs.length≤12)(hok:∀r∈rs,r.Ok)
  (k:∀(H':Hp) (x o p mk:Addr),Same H H'→H x=none→H o=none→H p=none→H mk=none→StandAt CS H' x o p mk cg→H' o=some (.lst ((own rs).map V.int))→H' p=some (.lst ((prs m rs).map V.int))→H' mk=some (.lst (Nl rs.length (.bl false)))→R x H'):
  ∀x dx,H x=none→H dx=none→dx≠x→kdt CL CB CS [.ref x, .ref b] (upd (upd H dx (.own x)) x (.ins CS dx [])) (fun v H2=>v=.non∧R x H2) E:=
 fun x dx nx nd _=>⟨x,dx,b,l,cg,m,ls,rs,rfl,kad,hb.same (ka2 nx nd),kgD nx nd hl,hL.same (ka2 nx nd),hn,hok,fun H' o p mk bt n1 n2 n3 S h1 h2 h3 _=>⟨rfl,k H' x o p mk (kbk nx nd bt) nx (kdB n1) (kdB n2) (kdB n3) S h1 h2 h3⟩⟩
structure VchOk (ps:List (Option Nat)) (V:Vch):Prop where
 so:SrtOk V.so
 ms:MksOk ps V.ms
noncomputable def stnd0(B:Bask):Stnd:=⟨ownN B.rs,prs B.m B.rs,B.cg,Nl B.rs.length false⟩
theorem klS{CL CB CS:Addr}{H:Hp}{b:Addr}{B:Bask}{R:Addr→Hp→Prop}{E:XK}(hb:BaskIs CL CB H b B)(hn:B.rs.length≤12)(hok:∀r∈B.rs,r.Ok)(k:∀(H':Hp) (x:Addr),Same H H'→H x=none→StndIs CS H' x (stnd0 B)→R x H'):
  ∀x dx,H x=none→H dx=none→dx≠x→kdt CL CB CS [.ref x, .ref b] (upd (upd H dx (.own x)) x (.ins CS dx [])) (fun v H2=>v=.non∧R x H2) E:=by
 obtain⟨l,ls,h1,h2,h3⟩:=hb
 refine kkw h1 h2 h3 hn hok fun H' x o p mk s f1 _ _ _ hS ho hp hm=>k H' x s f1 ⟨o,p,mk,hS,?_,hp,?_⟩
 ·rw[ho,kfJ]
  rfl
 ·rw[hm]
  show _=some (HO.lst ((Nl B.rs.length false).map V.bl))
  rw[List.map_replicate]
theorem kk9{m:Bool}{r:Row}(h:r.Ok):0≤prc m r∧prc m r≤1000000000000:=by
 unfold prc
 split
 ·cases e:r.ex with
  |none=>exact⟨h.pr0,h.pr1⟩
  |some z=>exact h.ex0 z e
 ·exact⟨h.pr0,h.pr1⟩
theorem khQ(m:Bool):∀(rs:List Row) (k:Nat),(rs.map fun r=>Nl r.mn.toNat (prc m r)).flatten.length=((rs.zipIdx k).map fun p=>Nl p.1.mn.toNat (p.2:Int)).flatten.length
 |[],_=>by simp
 |r::rs,k=>by
  rw[Eu,NC,NR,Nx,Mi,NC,NR,Nx,Mi,khQ m rs (k+1)]
theorem klK(m:Bool)(rs:List Row):(prs m rs).length=(ownN rs).length:=by
 have e:(ownN rs).length=(own rs).length:=by
  have:=congrArg M1 (kfJ rs)
  simpa using this.symm
 rw[e]
 exact khQ m rs 0
theorem Wf.start{ps:List (Option Nat)}{B:Bask}(g:Good ps)(pl:ps.length≤20)(kd:∀r∈B.rs,0≤r.kd∧r.kd<(ps.length:Int))(ok:∀r∈B.rs,r.Ok)(nl:B.rs.length≤12)(bc:0≤B.cg∧B.cg≤1000000000000)(n64:(ownN B.rs).length<64):Wf ps B (stnd0 B):=by
 refine⟨g,pl,kd,ok,nl,bc,rfl,klK _ _,by simp[stnd0],fun z hz=>?_,bc,n64⟩
 obtain⟨xs,h1,h2⟩:=MB.mp hz
 obtain⟨r,hr,rfl⟩:=NJ.mp h1
 rw[(List.mem_replicate.mp h2).2]
 exact kk9 (ok r hr)
theorem Wf.nn{ps:List (Option Nat)}{B:Bask}{S:Stnd}(W:Wf ps B S):Nn S.pr:=fun z hz=>(W.pr z hz).1
theorem Wf.after{ps:List (Option Nat)}{B:Bask}{S:Stnd}{V:Vch}(W:Wf ps B S)(O:VchOk ps V):Wf ps B (aftM V ps (kds B) S):=by
 have h:=kmA (V:=V) (ps:=ps) (kk:=kds B) W.nn W.cg.1 O.so fun m e=>(O.ms.most m e).1
 refine⟨W.good,W.pl,W.kd,W.ok,W.nl,W.bc,W.ow,h.1.1.trans W.lp,by rw[←W.lm];simp[aftM],fun z hz=>?_,⟨h.2.1,Int.le_trans h.2.2 W.cg.2⟩,W.n64⟩
 obtain⟨j,e1⟩:=Mr.mp hz
 have hj:j<S.pr.length:=by
  rw[←h.1.1]
  exact(Nz.mp e1).1
 have e2:S.pr[j]?=some S.pr[j]:=by simp[hj]
 have b:=h.1.2 j z _ e1 e2
 have c:=W.pr _ (Nt e2)
 exact⟨b.1,Int.le_trans b.2 c.2⟩
inductive ki3 (K:Ni) (d:D) (vs:List V) (H:Hp) (Q:VK) (E_:XK):Prop
 |ct (v a b x:Addr) (V:Vch) (ps:List (Option Nat)) (B:Bask) (S:Stnd) (_:vs=[.ref v, .ref a, .ref b, .ref x]) (_:VchIs d H v V) (_:SqL K H a (ps.map pV)) (_:BaskIs d.qf d.qg H b B) (_:StndIs d.qe H x S) (_:Wf ps B S) (_:VchOk ps V) (_:∀(H':Hp) (p:Addr),Same H H'→H p=none→H' p=some (.lst ((abt ps (kds B) V.ms.kind V.ms.lone S).map iV))→Q (.ref p) H'):ki3 K d vs H Q E_
inductive kk7 (K:Ni) (d:D) (vs:List V) (H:Hp) (Q:VK) (E_:XK):Prop
 |ct (v a b x:Addr) (V:Vch) (ps:List (Option Nat)) (B:Bask) (S:Stnd) (_:vs=[.ref v, .ref a, .ref b, .ref x]) (_:VchIs d H v V) (_:SqL K H a (ps.map pV)) (_:BaskIs d.qf d.qg H b B) (_:StndIs d.qe H x S) (_:Wf ps B S) (_:VchOk ps V) (_:∀(H':Hp) (t p:Addr),Same H H'→H t=none→H p=none→H' t=some (.tup [.ref p, .int (cutM V ps (kds B) S).2])→H' p=some (.lst ((cutM V ps (kds B) S).1.map L2.V.int))→Q (.ref t) H'):kk7 K d vs H Q E_
theorem cl_of{K:Ni}{mg:Str→Option Value}{d:D}{base:Heap}(W:WB K mg d base):∀{so:Srt},here so=true→Cls K (clsOf d so)
 | .off _,h=>W.c_Off.cl
 | .share _ _,h=>W.ql.cl
 | .cheap _,h=>W.qo.cl
 | .bund _ _,h=>W.qm.cl
 | .carr,h=>W.qp.cl
theorem na_of{K:Ni}{mg:Str→Option Value}{d:D}{base:Heap}(W:WB K mg d base):∀{so:Srt},here so=true→NoAttr K (clsOf d so) "marks"
 | .off _,h=>W.VE
 | .share _ _,h=>W.VH
 | .cheap _,h=>W.VJ
 | .bund _ _,h=>W.VN
 | .carr,h=>W.VO
theorem kli{K:Ni}{mg:Str→Option Value}{d:D}{base:Heap}(W:WB K mg d base):∀{so:Srt},here so=true→Isi K (clsOf d so)
 | .off _,h=>W.c_Off.isi
 | .share _ _,h=>W.ql.isi
 | .cheap _,h=>W.qo.isi
 | .bund _ _,h=>W.qm.isi
 | .carr,h=>W.qp.isi
theorem kgF{K:Ni}{mg:Str→Option Value}{d:D}{base:Heap}(W:WB K mg d base):∀{so:Srt},here so=true→NG K (.ref (clsOf d so)) (.ref d.qp)=some (kbM so)
 | .off _,h=>W.Ue
 | .share _ _,h=>W.Ug
 | .cheap _,h=>W.Uh
 | .bund _ _,h=>W.Ui
 | .carr,h=>kdE _ _
theorem klU{K:Ni}{mg:Str→Option Value}{d:D}{base:Heap}(W:WB K mg d base):∀{so:Srt},here so=true→NG K (.ref (clsOf d so)) (.ref d.c_Off)=some (kl6 so)
 | .off _,h=>kdE _ _
 | .share _ _,h=>W.Uj
 | .cheap _,h=>W.Uk
 | .bund _ _,h=>W.Ul
 | .carr,h=>W.Um
theorem kdF{K:Ni}{mg:Str→Option Value}{d:D}{base:Heap}(W:WB K mg d base):∀{so:Srt},here so=true→NG K (.ref (clsOf d so)) (.ref d.ql)=some (kkb so)
 | .off _,h=>W.Uo
 | .share _ _,h=>kdE _ _
 | .cheap _,h=>W.Uq
 | .bund _ _,h=>W.Ur
 | .carr,h=>W.Us
theorem kcZ{K:Ni}{mg:Str→Option Value}{d:D}{base:Heap}(W:WB K mg d base):∀{so:Srt},here so=true→NG K (.ref (clsOf d so)) (.ref d.qo)=some (kgQ so)
 | .off _,h=>W.Ut
 | .share _ _,h=>W.Uu
 | .cheap _,h=>kdE _ _
 | .bund _ _,h=>W.Uv
 | .carr,h=>W.Uw
theorem kfj{K:Ni}{mg:Str→Option Value}{d:D}{base:Heap}(W:WB K mg d base):∀{so:Srt},here so=true→NG K (.ref (clsOf d so)) (.ref d.qm)=some (kiw so)
 | .off _,h=>W.Ux
 | .share _ _,h=>W.Uy
 | .cheap _,h=>W.Uz
 | .bund _ _,h=>kdE _ _
 | .carr,h=>W.UA
theorem pickI{zs:List Int}{m:Int}(h0:0≤m)(h1:m<(zs.length:Int)):∃z,atI (zs.map V.int) m=some (.int z)∧z∈zs:=by
 obtain⟨j,rfl⟩:=Int.eq_ofNat_of_zero_le h0
 obtain⟨z,ez⟩:=at_of (xs:=zs) (i:=j) (by omega)
 exact⟨z,ka1 (by rw[Nv,ez];rfl),Nt ez⟩
theorem kdL{b:Int}:∀{q:List Int},(∀z∈q,z≤b)→q.sum≤b*q.length
 |[],_=>by simp
 |z::q,h=>by
  have h1:=h z NL
  have h2:=kdL (q:=q) fun x hx=>h x (NF _ hx)
  rw[N9,NQ]
  have e:b*((q.length+1:Nat):Int)=b*q.length+b:=by rw[Int.natCast_add,Int.mul_add];simp
  omega
theorem kje{ps:List (Option Nat)}{B:Bask}{S:Stnd}(wf:Wf ps B S){ab:List Nat}(hl:ab.length≤720)(hb:∀i∈ab,i<S.pr.length):(qs S.pr ab).sum≤720000000000000:=by
 have h:=kdL (b:=1000000000000) (q:=qs S.pr ab) fun z hz=>by
  obtain⟨i,hi,rfl⟩:=NJ.mp hz
  obtain⟨w,ew⟩:=at_of (hb i hi)
  rw[NH,ew]
  exact(wf.pr w (Nt ew)).2
 rw[kb9] at h
 omega
theorem kl3(xs:List V)(i k:Nat):cutV xs (some (i:Int)) (some ((i+k:Nat):Int))=(xs.drop i).take k:=by
 unfold cutV
 rw[HT.sIx_nat,HT.sIx_nat]
 by_cases h:i≤xs.length
 ·rw[MG h,Dc,M4]
  omega
 ·rw[Em (by omega),Em (by omega)]
  simp
theorem klR{d:D}{H:Hp}{so:Srt}{is:Srt→Prop}{R:Addr→Hp→Prop}{E:XK}(hi:is so)(hh:here so=true)(k:∀(H':Hp) (x:Addr),Same H H'→H x=none→VchIs d H' x ⟨so,mks0⟩→R x H')(htb:Tbs d H:=by assumption):
  ∀x dx,H x=none→H dx=none→dx≠x→kdu (clsOf d so) d.qj is (.ref x::(kfw so++[.non])) (upd (upd H dx (.own x)) x (.ins (clsOf d so) dx [])) (fun v H2=>v=.non∧R x H2) E:=
 fun x dx nx nd _=>⟨x,dx,so, .non,hi,rfl,kad, .inl rfl,fun H' mA' fs b hm h1 h2 h3=>by
  rcases hm with e|⟨_,_,hM⟩
  ·cases e
  ·exact⟨rfl,k H' x (kbk nx nd b) nx ⟨mA',dx,fs,h1,h2,h3,hM,hh,htb.same (kbk nx nd b)⟩⟩⟩
theorem kj9{α:Type}{xs:List α}{v: α}(h:xs[xs.length-1]?=some v)(h0:0<xs.length):atI xs (-1)=some v:=by
 unfold atI ixN
 rw[if_neg (by omega),if_pos (by omega)]
 show xs[(-1+(xs.length:Int)).toNat]?=some v
 rw[show(-1+(xs.length:Int)).toNat=xs.length-1 by omega]
 exact h
theorem khH{H0 H1 H2:Hp}{x:Addr}(f:H0 x=none)(s:Same H0 H1)(b:But x H1 H2):Same H0 H2:=fun y u e=>kbI (s y u e) fun u' e'=>b y u' (kaj e f) e'
noncomputable def hindM(V:Vch)(ps:List (Option Nat))(B:Bask)(S:Stnd):L2.V:=
 if(V.ms.member&& !B.m)=true then .str "member" else if(abt ps (kds B) V.ms.kind V.ms.lone S).length=0 then .str "nothing" else if(qs S.pr (abt ps (kds B) V.ms.kind V.ms.lone S)).sum<V.ms.needs then .str "needs" else .non
inductive kk3 (K:Ni) (d:D) (vs:List V) (H:Hp) (Q:VK) (E_:XK):Prop
 |ct (v a b x:Addr) (V:Vch) (ps:List (Option Nat)) (B:Bask) (S:Stnd) (_:vs=[.ref v, .ref a, .ref b, .ref x]) (_:VchIs d H v V) (_:SqL K H a (ps.map pV)) (_:BaskIs d.qf d.qg H b B) (_:StndIs d.qe H x S) (_:Wf ps B S) (_:VchOk ps V) (_:∀(H':Hp),Same H H'→Q (hindM V ps B S) H'):kk3 K d vs H Q E_
noncomputable def atM(m:Option Int)(n:Int):Int:=match m with
 |none=>n
 |some m=>min m n
theorem none_of{H H':Hp}(s:Same H H'){p:Addr}(h:H' p=none):H p=none:=s.free h
theorem kj6{x:Addr}{H H':Hp}(b:But x H H')(n:H x=none):Same H H':=fun y u e=>b y u (kaj e n) e
theorem kjw{CL CB CS:Addr}{H:Hp}{b l:Addr}{cg:Int}{m:Bool}{ls:List Addr}{rs:List Row}{R:Addr→Hp→Prop}{E:XK}(hb:BaskAt CB H b l cg m)(hl:H l=some (.lst (ls.map V.ref)))(hL:Lines CL H ls rs)(hn:rs.length≤12)(hok:∀r∈rs,r.Ok)
  (k:∀(H':Hp) (x:Addr),Same H H'→H x=none→∀(dx:Addr) (fs:List (Str×V)),H' x=some (.ins CS dx fs)→fs.length≤10→fs.lookup ("whole" :Str)=none→R x H'):
  ∀x dx,H x=none→H dx=none→dx≠x→kdt CL CB CS [.ref x, .ref b] (upd (upd H dx (.own x)) x (.ins CS dx [])) (fun v H2=>v=.non∧R x H2) E:=
 fun x dx nx nd _=>⟨x,dx,b,l,cg,m,ls,rs,rfl,kad,hb.same (ka2 nx nd),kgD nx nd hl,hL.same (ka2 nx nd),hn,hok,fun H' o p mk bt n1 n2 n3 S h1 h2 h3 fw=>by
  obtain⟨dx',fs,e,hf⟩:=fw
  obtain⟨dx2,fs2,e2,_,_,_,_,hw⟩:=S
  rw[e] at e2
  injection e2 with e2
  injection e2 with _ e3 e4
  subst e4
  exact⟨rfl,k H' x (kbk nx nd bt) nx dx' fs e hf hw⟩⟩
theorem kjT{V:Vch}{ps:List (Option Nat)}{kk:List Nat}{S:Stnd}(vo:VchOk ps V):(cutM V ps kk S).2=if kbM V.so=true then atM V.ms.most S.cg else 0:=by
 have hm:=vo.ms.most
 unfold cutM
 simp only
 cases e:V.ms.most with
 |none=>
  unfold cap atM
  simp only
  unfold fee kbM
  cases V.so <;> rfl
 | some m=>
  have h0:=(hm m e).1
  unfold cap atM
  simp only
  cases eso:V.so with
  | carr=>
   have hz:(want .carr S.mkd.length ((abt ps kk V.ms.kind V.ms.lone S).map fun i=>S.ow.getD i 0) (qs S.pr (abt ps kk V.ms.kind V.ms.lone S))).sum=0:=by
    unfold want
    simp
   show(if m<_+S.cg then _ else _:List Int×Int).2=min m S.cg
   rw[hz,Int.zero_add]
   split
   ·show min S.cg m=_
    omega
   ·show S.cg=_
    omega
  | _=>
   show(if m<_+0 then(_,min 0 m) else(_,0):List Int×Int).2=0
   split
   ·show min 0 m=0
    omega
   ·rfl
theorem kms{B:Bask}{l:Nat}{r:Row}(h:B.rs[l]?=some r):(kds B).getD l 0=r.kd.toNat:=by
 unfold kds
 rw[NH,Nv,h]
 rfl
theorem kkT{ps:List (Option Nat)}{kk:List Nat}{kind:Option Nat}{lone:Bool}{S:Stnd}{i:Nat}:
  (Nq (i+1)).filter (fun i=>hits ps kk kind lone S.mkd (S.ow.getD i 0))=(Nq i).filter (fun i=>hits ps kk kind lone S.mkd (S.ow.getD i 0))++(if hits ps kk kind lone S.mkd (S.ow.getD i 0)=true then [i] else []):=by
 rw[Mx,MZ]
 congr 1
 simp only[Ed,List.filter_nil]
noncomputable def GrpAt(H H':Hp)(pa:Addr)(t:Addr)(q:Int×List Nat):Prop:=∃ga,H' t=some (.tup [.int q.1, .ref ga])∧H' ga=some (.lst (q.2.map iV))∧(ga=pa∨H ga=none)
inductive khv (d:D) (vs:List V) (H:Hp) (Q:VK) (E_:XK):Prop
 |ct (v x pa:Addr) (V:Vch) (ps:List (Option Nat)) (B:Bask) (S:Stnd) (_:vs=[.ref v, .ref x, .ref pa]) (_:VchIs d H v V) (_:StndIs d.qe H x S) (_:H pa=some (.lst ((abt ps (kds B) V.ms.kind V.ms.lone S).map iV))) (_:Wf ps B S) (_:VchOk ps V) (_:∀(H':Hp) (p:Addr) (tl:List Addr) (gl:List (Int×List Nat)),Same H H'→H p=none→H' p=some (.lst (tl.map L2.V.ref))→P2 (GrpAt H H' pa) tl gl→(∀c g,(c,g)∈gl→0≤c∧c≤(qs S.pr g).sum∧g.length≤720)→(gl.map Prod.snd).flatten.Nodup→(∀i∈(gl.map Prod.snd).flatten,i<S.pr.length)→gl.length≤720→
  spr S.pr.length (gl.map Prod.snd).flatten (gl.map fun p=>dl p.1 (qs S.pr p.2)).flatten=spr S.pr.length (abt ps (kds B) V.ms.kind V.ms.lone S) (want V.so S.mkd.length ((abt ps (kds B) V.ms.kind V.ms.lone S).map fun i=>S.ow.getD i 0) (qs S.pr (abt ps (kds B) V.ms.kind V.ms.lone S)))→Q (.ref p) H'):khv d vs H Q E_
theorem kaK{H H':Hp}{p:Addr}{o:HO}(h:upd H p o=H')(f:H p=none):Same H H'∧H' p=some o:=by
 subst h
 exact⟨kak f,kad⟩
theorem But.free{x l:Addr}{H H':Hp}{o:HO}(b:But x H H')(hx:H' x=some o)(h:H' l=none):H l=none:=by
 cases q:H l with
 |none=>rfl
 |some u=>
  obtain⟨o',e'⟩:=kf3 (b l u (kaj hx h).symm q)
  rw[e'] at h
  cases h
structure Rul where
 w:Str
 a:Nat
 b:Nat
structure TillD where
 ps:List (Option Nat)
 vs:List Vch
 rs:List Rul
 bk:Str
noncomputable def RulIs(H:Hp)(a:Addr)(r:Rul):Prop:=H a=some (.tup [.str r.w,iV r.a,iV r.b])
inductive TillIs (d:D) (H:Hp) (t:Addr) (T:TillD):Prop
 |ct (dx:Addr) (fs:List (Str×V)) (p vl rl:Addr) (va ra:List Addr) (_:H t=some (.ins d.qh dx fs)) (_:fs.lookup ("parents" :Str)=some (.ref p)) (_:fs.lookup ("vouchers" :Str)=some (.ref vl)) (_:fs.lookup ("rules" :Str)=some (.ref rl)) (_:fs.lookup ("back" :Str)=some (.str T.bk)) (_:H p=some (.lst (T.ps.map pV))) (_:H vl=some (.lst (va.map V.ref))) (_:P2 (fun a V=>VchIs d H a V) va T.vs) (_:H rl=some (.lst (ra.map V.ref))) (_:P2 (fun a r=>RulIs H a r) ra T.rs):TillIs d H t T
theorem TillIs.same{d:D}{H H':Hp}{t:Addr}{T:TillD}(s:Same H H'):TillIs d H t T→TillIs d H' t T:=fun⟨dx,fs,p,vl,rl,va,ra,h1,h2,h3,h4,h5,h6,h7,h8,h9,h10⟩=>
 ⟨dx,fs,p,vl,rl,va,ra,s _ _ h1,h2,h3,h4,h5,s _ _ h6,s _ _ h7,h8.mono fun a V h=>h.same s,s _ _ h9,h10.mono fun a r h=>s _ _ h⟩
structure kbN (T:TillD):Prop where
 vs:∀V∈T.vs,VchOk T.ps V
 nv:T.vs.length≤8
inductive WayAt (d:D) (m:Nat) (H:Hp) (w t b x:Addr) (hand:List Int) (used:List Nat):Prop
 |ct (dx:Addr) (fs:List (Str×V)) (h u:Addr) (_:H w=some (.ins d.c_Way dx fs)) (_:fs.lookup ("till" :Str)=some (.ref t)) (_:fs.lookup ("basket" :Str)=some (.ref b)) (_:fs.lookup ("hand" :Str)=some (.ref h)) (_:fs.lookup ("used" :Str)=some (.ref u)) (_:fs.lookup ("standing" :Str)=some (.ref x)) (_:fs.lookup ("word_for" :Str)=none) (_:fs.lookup ("behind" :Str)=none) (_:fs.lookup ("is_let_by" :Str)=none) (_:fs.lookup ("followers" :Str)=none) (_:fs.length≤m) (_:H h=some (.lst (hand.map V.int))) (_:H u=some (.lst (used.map iV))):WayAt d m H w t b x hand used
noncomputable abbrev WayIs(d:D)(H:Hp)(w t b x:Addr)(hand:List Int)(used:List Nat):Prop:=WayAt d 7 H w t b x hand used
theorem WayAt.most{d:D}{m m':Nat}{H:Hp}{w t b x:Addr}{hand:List Int}{used:List Nat}(hm:m≤m'):WayAt d m H w t b x hand used→WayAt d m' H w t b x hand used:=fun⟨dx,fs,h,u,h1,h2,h3,h4,h5,h6,h7,h8,h9,h10,h11,h12,h13⟩=>
 ⟨dx,fs,h,u,h1,h2,h3,h4,h5,h6,h7,h8,h9,h10,Nm h11 hm,h12,h13⟩
theorem WayAt.same{d:D}{m:Nat}{H H':Hp}{w t b x:Addr}{hand:List Int}{used:List Nat}(s:Same H H'):WayAt d m H w t b x hand used→WayAt d m H' w t b x hand used:=fun⟨dx,fs,h,u,h1,h2,h3,h4,h5,h6,h7,h8,h9,h10,h11,h12,h13⟩=>
 ⟨dx,fs,h,u,s _ _ h1,h2,h3,h4,h5,h6,h7,h8,h9,h10,h11,s _ _ h12,s _ _ h13⟩
noncomputable def nevR(used:List Nat)(n:Nat)(r:Rul):Bool:=decide (r.w=("never" :Str))&&((decide (r.a=n)&&used.contains r.b)||(decide (r.b=n)&&used.contains r.a))
noncomputable def kfh(rs:List Rul)(used:List Nat)(n:Nat):Bool:=rs.any (nevR used n)
noncomputable def ahdR(used:List Nat)(n:Nat)(r:Rul):Bool:=decide (r.w=("ahead" :Str))&&(decide (r.a=n)&&used.contains r.b)
noncomputable def kfp(rs:List Rul)(used:List Nat)(n:Nat):Bool:=rs.any (ahdR used n)
noncomputable def loneM(order:List Nat)(r:Rul):Bool:=decide (r.w=("only" :Str))&&(order.contains r.a&& !order.contains r.b)
noncomputable def onlyM(rs:List Rul)(order:List Nat):Option Nat:=(rs.find? (loneM order)).map Rul.a
noncomputable def sV:Option Str→V
 |none=>.non
 |some z=>.str z
noncomputable def wordM(V:Vch)(rs:List Rul)(hand:List Int)(used:List Nat)(n:Nat):Option Str:=
 if hand.getD n 0<(used.count n:Int)+1 then some "held" else if(V.ms.once&&used.contains n)=true then some "once" else if kfh rs used n=true then some "never" else if kfp rs used n=true then some "ahead" else none
noncomputable def dueM(V:Vch)(T:TillD)(B:Bask)(hand:List Int)(used:List Nat)(S:Stnd)(n:Nat):L2.V:=match wordM V T.rs hand used n with
 |some z=>.str z
 |none=>hindM V T.ps B S
theorem kc0{n:Nat}:∀(l:List Nat),inV (iV n) (l.map iV)=l.contains n
 |[]=>rfl
 | m::l=>by
  have ih:=kc0 (n:=n) l
  unfold inV at ih⊢
  rw[NC,MJ,ih,List.contains_cons]
  congr 1
  show eqV (V.int (m:Int)) (V.int (n:Int))=(n==m)
  by_cases h:n=m
  ·subst h
   simp[eqV]
  ·have h1:¬((m:Int)=(n:Int)):=by omega
   have e2:(n==m)=false:=beq_eq_false_iff_ne.mpr h
   rw[e2]
   simp[eqV,h1]
theorem kf6(l:List Nat)(n:Nat):(l.map fun(i:Nat)=>(i:Int)).count (n:Int)=l.count n:=by
 induction l with
 |nil=>rfl
 | cons m l ih=>
  rw[NC,M9,M9,ih]
  congr 1
  by_cases h:m=n
  ·subst h;simp
  ·have h1:¬((m:Int)=(n:Int)):=by omega
   have e1:((m:Int)==(n:Int))=false:=beq_eq_false_iff_ne.mpr h1
   have e2:(m==n)=false:=beq_eq_false_iff_ne.mpr h
   rw[e1,e2]
theorem kgH(a b:Nat):decide (iV a=iV b)=decide (a=b):=by
 by_cases h:a=b
 ·subst h;simp
 ·have n:¬(iV a=iV b):=fun e=>h (by have:=V.int.inj e;omega)
  rw[decide_eq_false h,decide_eq_false n]
theorem eq_str(a b:Str):decide (V.str a=V.str b)=decide (a=b):=by
 by_cases h:a=b
 ·subst h;simp
 ·have n:¬(V.str a=V.str b):=fun e=>h (V.str.inj e)
  rw[decide_eq_false h,decide_eq_false n]
section
variable {P:Program} {w:World} {K:Ni} {mg:Str→Option Value} {base:Heap} {d:D}
theorem X2:kap ["parents","one","other","kind"] ["parents","one","other"] (kah kg2):=⟨rfl,rfl,rfl,by decide +kernel,rfl,by decide +kernel,by decide +kernel⟩
theorem kks(W:WB K mg d base):FnOk P w K mg base CX0 1 d.Yn d.Yo ["parents","one","other"] (kiO K):=by
 refine FunD.ok W.QN.F X2 (fun vs H Q E h=>?_) (fun cdv A outer s H vs Q E hr h=>?_)
 ·obtain⟨a,ps,one,other,rfl,_⟩:=h
  rfl
 ·obtain⟨a,ps,one,other,rfl,hS,hg,ho,k⟩:=h
  refine⟨_,kac (kas (i:=3) X2.nd rfl (Or.inl rfl) (pv 1))
   (kac (khO PassesOwn.never (kat kcS (pv 3) ka5 (kax _))
   (kac (ps_if (kat op_eq (pv 3) (pv 2) (kax _)) (kai (kaq pe_bl)) (kaw))
   (kai (kas (i:=3) X2.nd rfl (Or.inl rfl) (pe_ix (r:=rIxL K) kaD (pv 0) (pv 3) (fun _ _=>rfl))))))
   (kai (kaq pe_bl))),?_⟩
  refine⟨_,rfl,?_⟩
  refine khr (fun σ H'=>∃o:Option Nat,σ=[some (.ref a),some (.int one),some (.int other),some (pV o)]∧H'=H∧(∀i,o=some i→i<ps.length)∧decide (other∈up ps one)=decide (other∈rest ps o))
   (fun σ _=>match σ with|[_,_,_,some (.int i)]=>i.toNat+1|_=>0) ⟨some one,rfl,rfl,fun i e=>by cases e;exact ho,rfl⟩ ?_ ?_
  ·rintro σ H' ⟨o,rfl,rfl,hb,he⟩
   refine⟨_,rfl,rfl,_,rfl,?_⟩
   cases o with
   |none=>
    show if(!decide (V.non=V.non))=true then _ else _
    rw[klc]
    refine iteF ?_
    show Q (.bl false) _
    have e:decide (other∈up ps one)=false:=by rw[he];simp[Kin.rest]
    rw[e] at k
    exact k
   | some i=>
    show if(!decide (V.int i=V.non))=true then _ else _
    rw[kld]
    refine iteT ?_
    have hi:=hb i rfl
    refine⟨_,rfl,_,rfl,rfl,_,rfl,?_⟩
    show if decide (V.int i=V.int other)=true then _ else _
    rw[eq_int]
    obtain⟨o,eo⟩:∃o,ps[i]?=some o:=⟨ps[i],by simp[hi]⟩
    refine ite2 (fun h=>?_) (fun h=>?_)
    ·have h':i=other:=of_decide_eq_true h
     subst h'
     have e:decide (i∈up ps one)=true:=by
      rw[he]
      show decide (i∈up ps i)=true
      rw[up_eq hg eo]
      simp
     rw[e] at k
     exact k
    ·have h':¬i=other:=fun z=>h (decide_eq_true z)
     refine⟨_,rfl,_,rfl,a,_,_,pV o,rfl,rfl,hS,ka1 (by simp[eo]),?_⟩
     refine⟨⟨o,rfl,rfl,fun j e=>?_,?_⟩,?_⟩
     ·subst e
      have:=hg i j eo
      omega
     ·rw[he]
      show decide (other∈up ps i)=_
      rw[up_eq hg eo]
      have:¬other=i:=fun z=>h' z.symm
      simp[this]
     ·cases o with
      |none=>exact Nat.succ_pos _
      |some j=>
       have:=hg i j eo
       show((j:Int)).toNat+1<((i:Int)).toNat+1
       omega
  ·rintro σ H' Q' Q'' hq ⟨v,h1,h2,h3⟩
   exact⟨v,h1,h2,by obtain⟨b,e,q⟩:=h3;exact⟨b,e,hq _ _ q⟩⟩
theorem qL:kap ["cut","weights","total","parts","reached","given","weight","share"] ["cut","weights"] (kah kg4):=⟨rfl,rfl,rfl,by decide +kernel,rfl,by decide +kernel,by decide +kernel⟩
theorem kkt(W:WB K mg d base):FnOk P w K mg base CX0 1 d.Yl d.Ym ["cut","weights"] (ki0 K):=by
 refine FunD.ok W.qR.F qL (fun vs H Q E h=>?_) (fun cdv A outer s H vs Q E hr h=>?_)
 ·obtain⟨c,a,ws,rfl,_⟩:=h
  rfl
 ·obtain⟨c,a,ws,rfl,hS,hn,hs,hc0,hc1,hl,k⟩:=h
  refine⟨_,kac (kas (i:=2) qL.nd rfl (Or.inl rfl) (kay (r:=rSum K) (kbz rfl) (by rfl) W.B.sum b_sum (kaa (pv 1) kae)))
   (kac (ps_if (kat op_eq (pv 2) kaf (kax _)) (kai (kaq (kbp (N:=["weight"]) (CompScope.plain rfl (by decide +kernel) (by decide +kernel) (by decide +kernel) (nd1 _)) rfl (kaJ (K:=K) (pv 1)) (fun _ _ _ _=>kar (i:=0) (nd1 _) rfl (Or.inl rfl)) (fun _ _ _ _=>kaf)))) (kaw))
   (kac (kas (i:=3) qL.nd rfl (Or.inl rfl) (kaL kae))
   (kac (kas (i:=4) qL.nd rfl (Or.inl rfl) kaf)
   (kac (kas (i:=5) qL.nd rfl (Or.inl rfl) kaf)
   (kac (kbA PassesOwn.never rfl (kaJ (K:=K) (pv 1)) (kar (i:=6) qL.nd rfl (Or.inl rfl))
   (kac (kme (i:=4) qL.nd rfl (Or.inl rfl) (pv 6) kmt)
   (kac (kas (i:=7) qL.nd rfl (Or.inl rfl) (pe_op kkr (pe_op kcb (pv 0) (pv 4)) (pv 2)))
   (kac (ka0 (pe_bm N1 Ml Mm ka9 (pv 3) (kaa (pe_op kdd (pv 7) (pv 5)) kae)))
   (kai (kas (i:=5) qL.nd rfl (Or.inl rfl) (pv 7)))))))
   (kai (kaq (pv 3)))))))),?_⟩
  refine⟨_,rfl,a,ws,rfl,hS,_,rfl,rfl,_,rfl,?_⟩
  refine ite2 (fun h=>?_) (fun h=>?_)
  ·have h0:ws.sum=0:=by
    have e:V.int ws.sum=V.int 0:=of_decide_eq_true h
    injection e
   refine⟨_,rfl,a,rfl,⟨_,hS⟩,kaZ (xs:=ws.map V.int) (fun i σ ys H'=>H'=H∧ys=Nl i (V.int 0)∧∃v,σ=[v]) ⟨rfl,rfl,none,rfl⟩ ?_ ?_ ?_ ?_⟩
   ·rw[Nh]
    exact Nw (kao hl)
   ·rintro i σ ys H' hi ⟨rfl,rfl,v,rfl⟩
    exact⟨hS,by simp⟩
   ·rintro i x σ ys H' hx ⟨rfl,rfl,v,rfl⟩
    exact⟨rfl,by rw[E1],_,rfl⟩
   ·rintro σ ys H' ⟨rfl,rfl,v,rfl⟩ D hD
    have:=k D hD
    rw[kkx h0] at this
    rw[Nh]
    exact this
  ·have h0:¬ws.sum=0:=fun e=>h (by rw[e];simp)
   have hpos:0<ws.sum:=by
    have:=kbq hn
    omega
   refine⟨by decide,fun p hp=>?_⟩
   have s1:∀o,Same H (upd H p o):=fun o=>kak hp
   refine⟨_,rfl,a,rfl,⟨_,(s1 _).seq hS⟩,kbV (K:=K) (a:=a) (xs:=ws.map V.int) (fun i σ H'=>H'=upd H p (.lst (((Nq i).map (part c ws)).map V.int))∧
    ∃(v6 v7:Option V),σ=[some (.int c),some (.ref a),some (.int ws.sum),some (.ref p),some (.int (pre ws i)),some (.int (c*pre ws i/ws.sum)),v6,v7])
    ⟨rfl,none,none,by simp[kkm];rfl⟩ (fun i σ H' _ ⟨e,_⟩=>by rw[e];exact(s1 _).seq hS) ?_ ?_⟩
   ·rintro i x σ H' hi ⟨rfl,v6,v7,rfl⟩
    have hil:i<(ws.map V.int).length:=(Nz.mp hi).1
    rw[Nh] at hil
    obtain⟨z,ez,rfl⟩:∃z,ws[i]?=some z∧x=V.int z:=by
     rw[Nv] at hi
     cases e:ws[i]? with
     |none=>rw[e] at hi;cases hi
     |some z=>rw[e] at hi;exact⟨z,rfl,(Option.some.inj hi).symm⟩
    have ep:=ken ez
    refine⟨_,rfl,_,rfl,_,_,rfl,rfl,?_⟩
    refine⟨_,rfl,_,rfl,_,_,rfl,rfl, .inl ⟨by omega,by omega⟩,_,rfl,_,_,rfl,rfl,⟨hpos,by omega⟩,?_⟩
    refine⟨_,rfl, .inl ⟨rfl,_,SqL.of kad⟩,_,rfl,_,rfl,_,_,rfl,rfl,p,_,_,rfl,rfl,kad,kao (by simp;omega),?_⟩
    refine⟨_,rfl,?_,some (.int z),some (.int (c*(pre ws i+z)/ws.sum)),?_⟩
    ·rw[klv,Mx,Np,Np]
     show upd H p (.lst (_++[V.int (c*(pre ws i+z)/ws.sum-c*pre ws i/ws.sum)]))=upd H p (.lst (_++[V.int (part c ws i)]))
     unfold part
     rw[ep]
    ·rw[ep]
     rfl
   ·rintro σ H' ⟨rfl,v6,v7,rfl⟩
    refine⟨_,rfl,?_⟩
    have:=k p hp
    rw[kjx h0] at this
    rw[Nh]
    exact this
theorem kfD:kap ["self","kind","needs","most","member","once","lone"] ["self","kind","needs","most","member","once","lone"] (kah ka4):=⟨rfl,rfl,rfl,by decide +kernel,rfl,by decide +kernel,by decide +kernel⟩
theorem kdz(W:WB K mg d base):FnOk P w K mg base CX0 1 d.ZO d.qN ["self","kind","needs","most","member","once","lone"] (kfy d.qj):=by
 refine FunD.ok W.Xi.F kfD (fun vs H Q E h=>?_) (fun cdv A outer s H vs Q E hr h=>?_)
 ·obtain⟨x,dx,M,rfl,_⟩:=h
  rfl
 ·obtain⟨x,dx,M,rfl,hx,k⟩:=h
  refine⟨_,kac (kaz (pv 0) (pv 1) rfl)
   (kac (kaz (pv 0) (pv 2) rfl)
   (kac (kaz (pv 0) (pv 3) rfl)
   (kac (kaz (pv 0) (pv 4) rfl)
   (kac (kaz (pv 0) (pv 5) rfl)
   (kai (kaz (pv 0) (pv 6) rfl)))))),?_⟩
  refine⟨_,rfl,_,rfl,x,d.qj,dx,[],rfl,hx,W.qj.cl,W.Xh,by decide,?_⟩
  refine⟨_,rfl,_,rfl,x,d.qj,dx,_,rfl,kad,W.qj.cl,W.VA,few (Nm (kal (n:=0) (Nj _)) (by decide)),?_⟩
  refine⟨_,rfl,_,rfl,x,d.qj,dx,_,rfl,kad,W.qj.cl,W.XG,few (Nm (kal (kal (n:=0) (Nj _))) (by decide)),?_⟩
  refine⟨_,rfl,_,rfl,x,d.qj,dx,_,rfl,kad,W.qj.cl,W.VB,few (Nm (kal (kal (kal (n:=0) (Nj _)))) (by decide)),?_⟩
  refine⟨_,rfl,_,rfl,x,d.qj,dx,_,rfl,kad,W.qj.cl,W.VC,few (Nm (kal (kal (kal (kal (n:=0) (Nj _))))) (by decide)),?_⟩
  refine⟨_,rfl,_,rfl,x,d.qj,dx,_,rfl,kad,W.qj.cl,W.XH,few (Nm (kal (kal (kal (kal (kal (n:=0) (Nj _)))))) (by decide)),?_⟩
  refine k _ (But.trans (But.trans (But.trans (But.trans (But.trans kau kau) kau) kau) kau) kau) ⟨dx,_,kad,?_,?_,?_,?_,?_,?_⟩ <;> (repeat (first|rw[kab,if_pos rfl]|rw[kab,if_neg (by decide +kernel)]))
theorem keA:kap ["self","marks"] ["self","marks"] (kah kaT):=⟨rfl,rfl,rfl,by decide +kernel,rfl,by decide +kernel,by decide +kernel⟩
theorem kbe(W:WB K mg d base):FnOk P w K mg base CX0 3 d.Xy d.Xz ["self","marks"] (kfc K d.qj):=by
 refine FunD.ok W.qx.F keA (fun vs H Q E h=>?_) (fun cdv A outer s H vs Q E hr h=>?_)
 ·obtain⟨x,C,dx,fs,mv,rfl,_⟩:=h
  rfl
 ·obtain⟨x,C,dx,fs,mv,rfl,hx,hC,hN,hl,hm,k⟩:=h
  have X3:=kdz (P:=P) (w:=w) (base:=base) W
  refine⟨_,kai (kaz (pv 0) (khS (kat kd5 (pv 1) ka5 (kax _)) (kkn (W.Xi.mk' W.qj) X3 hr rfl W.qj.m W.b6_Marks_init (show Vals [.non, .int 0, .non, .bl false, .bl false, .bl false] [.none, .int 0 d.tok1_Marks_init, .none, .bool false, .bool false, .bool false] from(.cons rfl (.cons ⟨_,rfl⟩ (.cons rfl (.cons rfl (.cons rfl (.cons rfl .nil))))))) pass0) (pv 1)) rfl),?_⟩
  rcases hm with rfl|⟨mA,rfl⟩
  ·refine⟨_,rfl,rfl,_,rfl,iteT ?_⟩
   refine kh3 (M:=mks0) fun H1 mA s1 f1 hM=>?_
   refine⟨_,rfl,x,C,dx,fs,rfl,s1 _ _ hx,hC,hN,by omega,?_⟩
   have hne:mA≠x:=(kaj hx f1).symm
   refine k _ mA ((But.of_same s1).trans (kau (nx (s1 _ _ hx)))) (.inr ⟨rfl,f1,?_⟩) kad
   exact hM.but hne (kau (nx (s1 _ _ hx)))
  ·refine⟨_,rfl,rfl,_,rfl,iteF ?_⟩
   refine⟨_,rfl,_,rfl,x,C,dx,fs,rfl,hx,hC,hN,by omega,?_⟩
   exact k _ mA kau (.inl rfl) kad
theorem kg1:kap ["self","amount","marks"] ["self","amount","marks"] (kah kbr):=⟨rfl,rfl,rfl,by decide +kernel,rfl,by decide +kernel,by decide +kernel⟩
theorem kg9(W:WB K mg d base):FnOk P w K mg base CX0 4 d.ZP d.XA ["self","amount","marks"] (kdu d.c_Off d.qj (fun so=>∃(a:Int),so=.off a)):=by
 refine FunD.ok W.XI.F kg1 (fun vs H Q E h=>?_) (fun cdv A outer s H vs Q E hr h=>?_)
 ·obtain⟨x,dx,so,mv,⟨a,rfl⟩,rfl,_⟩:=h
  rfl
 ·obtain⟨x,dx,so,mv,⟨a,rfl⟩,rfl,hx,hm,k⟩:=h
  have qM:=kbe (P:=P) (w:=w) (base:=base) W
  refine⟨_,kac (ka0 (keG W.QB qM hr rfl W.qE.m W.qx.F.kp W.qx.b .nil pass0 (kaa (pv 0) (kaa (pv 2) kae))))
   (kai (kaz (pv 0) (pv 1) rfl)),?_⟩
  refine⟨_,rfl,_,rfl,x,d.c_Off,dx,[],mv,rfl,hx,W.c_Off.cl,W.VE,by decide,hm,fun H1 mA b1 hM h1=>?_⟩
  refine⟨_,rfl,_,rfl,x,d.c_Off,dx,_,rfl,h1,W.c_Off.cl,W.VD,few (Nm (kal (n:=0) (Nj _)) (by decide)),?_⟩
  refine k _ mA _ (b1.trans kau) ?_ kad ?_ ?_
  ·exact hM.but hx kau
  ·(repeat (first|rw[kab,if_pos rfl]|rw[kab,if_neg (by decide +kernel)]))
  ·show Mh _ _=_
   (repeat (first|rw[kab,if_pos rfl]|rw[kab,if_neg (by decide +kernel)]))
theorem kfC:kap ["self","share","by_line","marks"] ["self","share","by_line","marks"] (kah ka3):=⟨rfl,rfl,rfl,by decide +kernel,rfl,by decide +kernel,by decide +kernel⟩
theorem kfV(W:WB K mg d base):FnOk P w K mg base CX0 4 d.ZQ d.QL ["self","share","by_line","marks"] (kdu d.ql d.qj (fun so=>∃(sh:Int) (bb:Bool),so=.share sh bb)):=by
 refine FunD.ok W.XJ.F kfC (fun vs H Q E h=>?_) (fun cdv A outer s H vs Q E hr h=>?_)
 ·obtain⟨x,dx,so,mv,⟨sh,bb,rfl⟩,rfl,_⟩:=h
  rfl
 ·obtain⟨x,dx,so,mv,⟨sh,bb,rfl⟩,rfl,hx,hm,k⟩:=h
  have qM:=kbe (P:=P) (w:=w) (base:=base) W
  refine⟨_,kac (ka0 (keG W.QB qM hr rfl W.qE.m W.qx.F.kp W.qx.b .nil pass0 (kaa (pv 0) (kaa (pv 3) kae))))
   (kac (kaz (pv 0) (pv 1) rfl)
   (kai (kaz (pv 0) (pv 2) rfl))),?_⟩
  refine⟨_,rfl,_,rfl,x,d.ql,dx,[],mv,rfl,hx,W.ql.cl,W.VH,by decide,hm,fun H1 mA b1 hM h1=>?_⟩
  refine⟨_,rfl,_,rfl,x,d.ql,dx,_,rfl,h1,W.ql.cl,W.VF,few (Nm (kal (n:=0) (Nj _)) (by decide)),?_⟩
  refine⟨_,rfl,_,rfl,x,d.ql,dx,_,rfl,kad,W.ql.cl,W.VG,few (Nm (kal (kal (n:=0) (Nj _))) (by decide)),?_⟩
  refine k _ mA _ ((b1.trans kau).trans kau) ?_ kad ?_ ?_
  ·exact hM.but hx (But.trans kau kau)
  ·(repeat (first|rw[kab,if_pos rfl]|rw[kab,if_neg (by decide +kernel)]))
  ·exact⟨by(repeat (first|rw[kab,if_pos rfl]|rw[kab,if_neg (by decide +kernel)])),by(repeat (first|rw[kab,if_pos rfl]|rw[kab,if_neg (by decide +kernel)]))⟩
theorem keg:kap ["self","many","marks"] ["self","many","marks"] (kah kaM):=⟨rfl,rfl,rfl,by decide +kernel,rfl,by decide +kernel,by decide +kernel⟩
theorem kel(W:WB K mg d base):FnOk P w K mg base CX0 4 d.ZR d.XB ["self","many","marks"] (kdu d.qo d.qj (fun so=>∃(n:Int),so=.cheap n)):=by
 refine FunD.ok W.XM.F keg (fun vs H Q E h=>?_) (fun cdv A outer s H vs Q E hr h=>?_)
 ·obtain⟨x,dx,so,mv,⟨n,rfl⟩,rfl,_⟩:=h
  rfl
 ·obtain⟨x,dx,so,mv,⟨n,rfl⟩,rfl,hx,hm,k⟩:=h
  have qM:=kbe (P:=P) (w:=w) (base:=base) W
  refine⟨_,kac (ka0 (keG W.QB qM hr rfl W.qE.m W.qx.F.kp W.qx.b .nil pass0 (kaa (pv 0) (kaa (pv 2) kae))))
   (kai (kaz (pv 0) (pv 1) rfl)),?_⟩
  refine⟨_,rfl,_,rfl,x,d.qo,dx,[],mv,rfl,hx,W.qo.cl,W.VJ,by decide,hm,fun H1 mA b1 hM h1=>?_⟩
  refine⟨_,rfl,_,rfl,x,d.qo,dx,_,rfl,h1,W.qo.cl,W.VI,few (Nm (kal (n:=0) (Nj _)) (by decide)),?_⟩
  refine k _ mA _ (b1.trans kau) ?_ kad ?_ ?_
  ·exact hM.but hx kau
  ·(repeat (first|rw[kab,if_pos rfl]|rw[kab,if_neg (by decide +kernel)]))
  ·show Mh _ _=_
   (repeat (first|rw[kab,if_pos rfl]|rw[kab,if_neg (by decide +kernel)]))
theorem ke7:kap ["self","many","price","marks"] ["self","many","price","marks"] (kah kaX):=⟨rfl,rfl,rfl,by decide +kernel,rfl,by decide +kernel,by decide +kernel⟩
theorem kfb(W:WB K mg d base):FnOk P w K mg base CX0 4 d.ZS d.XC ["self","many","price","marks"] (kdu d.qm d.qj (fun so=>∃(n:Int) (pp:Int),so=.bund n pp)):=by
 refine FunD.ok W.XO.F ke7 (fun vs H Q E h=>?_) (fun cdv A outer s H vs Q E hr h=>?_)
 ·obtain⟨x,dx,so,mv,⟨n,pp,rfl⟩,rfl,_⟩:=h
  rfl
 ·obtain⟨x,dx,so,mv,⟨n,pp,rfl⟩,rfl,hx,hm,k⟩:=h
  have qM:=kbe (P:=P) (w:=w) (base:=base) W
  refine⟨_,kac (ka0 (keG W.QB qM hr rfl W.qE.m W.qx.F.kp W.qx.b .nil pass0 (kaa (pv 0) (kaa (pv 3) kae))))
   (kac (kaz (pv 0) (pv 1) rfl)
   (kai (kaz (pv 0) (pv 2) rfl))),?_⟩
  refine⟨_,rfl,_,rfl,x,d.qm,dx,[],mv,rfl,hx,W.qm.cl,W.VN,by decide,hm,fun H1 mA b1 hM h1=>?_⟩
  refine⟨_,rfl,_,rfl,x,d.qm,dx,_,rfl,h1,W.qm.cl,W.VL,few (Nm (kal (n:=0) (Nj _)) (by decide)),?_⟩
  refine⟨_,rfl,_,rfl,x,d.qm,dx,_,rfl,kad,W.qm.cl,W.VM,few (Nm (kal (kal (n:=0) (Nj _))) (by decide)),?_⟩
  refine k _ mA _ ((b1.trans kau).trans kau) ?_ kad ?_ ?_
  ·exact hM.but hx (But.trans kau kau)
  ·(repeat (first|rw[kab,if_pos rfl]|rw[kab,if_neg (by decide +kernel)]))
  ·exact⟨by(repeat (first|rw[kab,if_pos rfl]|rw[kab,if_neg (by decide +kernel)])),by(repeat (first|rw[kab,if_pos rfl]|rw[kab,if_neg (by decide +kernel)]))⟩
theorem keh:kap ["self","marks"] ["self","marks"] (kah kaN):=⟨rfl,rfl,rfl,by decide +kernel,rfl,by decide +kernel,by decide +kernel⟩
theorem kem(W:WB K mg d base):FnOk P w K mg base CX0 4 d.ZT d.XD ["self","marks"] (kdu d.qp d.qj (fun so=>so=.carr)):=by
 refine FunD.ok W.XQ.F keh (fun vs H Q E h=>?_) (fun cdv A outer s H vs Q E hr h=>?_)
 ·obtain⟨x,dx,so,mv,rfl,rfl,_⟩:=h
  rfl
 ·obtain⟨x,dx,so,mv,rfl,rfl,hx,hm,k⟩:=h
  have qM:=kbe (P:=P) (w:=w) (base:=base) W
  refine⟨_,kai (ka0 (keG W.QB qM hr rfl W.qE.m W.qx.F.kp W.qx.b .nil pass0 (kaa (pv 0) (kaa (pv 1) kae)))),?_⟩
  refine⟨_,rfl,_,rfl,x,d.qp,dx,[],mv,rfl,hx,W.qp.cl,W.VO,by decide,hm,fun H1 mA b1 hM h1=>?_⟩
  refine k _ mA _ b1 hM h1 ?_ trivial
  (repeat (first|rw[kab,if_pos rfl]|rw[kab,if_neg (by decide +kernel)]))
theorem kgq:kap ["self","kind","price","many","special"] ["self","kind","price","many","special"] (kah kbc):=⟨rfl,rfl,rfl,by decide +kernel,rfl,by decide +kernel,by decide +kernel⟩
theorem kcV(W:WB K mg d base):FnOk P w K mg base CX0 1 d.ZU d.XE ["self","kind","price","many","special"] (kgW d.qf):=by
 refine FunD.ok W.qY.F kgq (fun vs H Q E h=>?_) (fun cdv A outer s H vs Q E hr h=>?_)
 ·obtain⟨x,dx,r,rfl,_⟩:=h
  rfl
 ·obtain⟨x,dx,r,rfl,hx,k⟩:=h
  refine⟨_,kac (kaz (pv 0) (pv 1) rfl)
   (kac (kaz (pv 0) (pv 2) rfl)
   (kac (kaz (pv 0) (pv 3) rfl)
   (kai (kaz (pv 0) (pv 4) rfl)))),?_⟩
  refine⟨_,rfl,_,rfl,x,d.qf,dx,[],rfl,hx,W.qf.cl,W.Xj,by decide,?_⟩
  refine⟨_,rfl,_,rfl,x,d.qf,dx,_,rfl,kad,W.qf.cl,W.Qi,few (Nm (kal (n:=0) (Nj _)) (by decide)),?_⟩
  refine⟨_,rfl,_,rfl,x,d.qf,dx,_,rfl,kad,W.qf.cl,W.qF,few (Nm (kal (kal (n:=0) (Nj _))) (by decide)),?_⟩
  refine⟨_,rfl,_,rfl,x,d.qf,dx,_,rfl,kad,W.qf.cl,W.Qq,few (Nm (kal (kal (kal (n:=0) (Nj _)))) (by decide)),?_⟩
  refine k _ (But.trans (But.trans (But.trans kau kau) kau) kau) ⟨dx,_,kad,?_,?_,?_,?_⟩
  ·rw[kab,if_neg (by decide +kernel),kab,if_neg (by decide +kernel),kab,if_neg (by decide +kernel),kab,if_pos rfl]
  ·rw[kab,if_neg (by decide +kernel),kab,if_neg (by decide +kernel),kab,if_pos rfl]
  ·rw[kab,if_neg (by decide +kernel),kab,if_pos rfl]
  ·rw[kab,if_pos rfl]
theorem ke8:kap ["self","lines","carriage","member"] ["self","lines","carriage","member"] (kah kaY):=⟨rfl,rfl,rfl,by decide +kernel,rfl,by decide +kernel,by decide +kernel⟩
theorem kbH(W:WB K mg d base):FnOk P w K mg base CX0 1 d.ZV d.QM ["self","lines","carriage","member"] (kgY K d.qg):=by
 refine FunD.ok W.qG.F ke8 (fun vs H Q E h=>?_) (fun cdv A outer s H vs Q E hr h=>?_)
 ·obtain⟨x,dx,l,cg,m,xs,rfl,_⟩:=h
  rfl
 ·obtain⟨x,dx,l,cg,m,xs,rfl,hx,hl,k⟩:=h
  refine⟨_,kac (kaz (pv 0) (kaO (r:=kbE K) kaI (by rfl) W.B.list kcf (kaa (pv 1) kae)) rfl)
   (kac (kaz (pv 0) (pv 2) rfl)
   (kai (kaz (pv 0) (pv 3) rfl))),?_⟩
  refine⟨_,rfl,l,_,rfl, .inl hl,fun l' hl'=>?_⟩
  have s1:=kak (o:=.lst xs) hl'
  have nlx:l'≠x:=fun e=>by
   rw[e,hx] at hl'
   cases hl'
  refine⟨_,rfl,x,d.qg,dx,[],rfl,s1 _ _ hx,W.qg.cl,W.qy,by decide,?_⟩
  refine⟨_,rfl,_,rfl,x,d.qg,dx,_,rfl,kad,W.qg.cl,W.Qr,few (Nm (kal (n:=0) (Nj _)) (by decide)),?_⟩
  refine⟨_,rfl,_,rfl,x,d.qg,dx,_,rfl,kad,W.qg.cl,W.Qj,few (Nm (kal (kal (n:=0) (Nj _))) (by decide)),?_⟩
  refine k _ l' ((((But.of_same s1).trans kau).trans kau).trans kau) hl' ?_ ⟨dx,_,kad,?_,?_,?_⟩
  ·rw[kam nlx,kam nlx,kam nlx,kad]
  ·rw[kab,if_neg (by decide +kernel),kab,if_neg (by decide +kernel),kab,if_pos rfl]
  ·rw[kab,if_neg (by decide +kernel),kab,if_pos rfl]
  ·rw[kab,if_pos rfl]
theorem kdN:kap ["line","member"] ["line","member"] (kah kbO):=⟨rfl,rfl,rfl,by decide +kernel,rfl,by decide +kernel,by decide +kernel⟩
theorem kdV(W:WB K mg d base):FnOk P w K mg base CX0 1 d.Yp d.Yq ["line","member"] (kiU d.qf):=by
 refine FunD.ok W.QO.F kdN (fun vs H Q E h=>?_) (fun cdv A outer s H vs Q E hr h=>?_)
 ·obtain⟨x,m,r,rfl,_⟩:=h
  rfl
 ·obtain⟨x,m,r,rfl,⟨dx,fs,hx,lk,lp,lm,ls⟩,k⟩:=h
  refine⟨_,kac (ps_if (PW.pt (kbU (kbg (pv 1)) (kbF (kat kcS (kag (K:=K) (pv 0) rfl) ka5 (kax _))))) (kai (kaq (kag (K:=K) (pv 0) rfl))) (kaw))
   (kai (kaq (kag (K:=K) (pv 0) rfl))),?_⟩
  refine⟨_,rfl,m,rfl,?_⟩
  cases m with
  |false=>
   refine iteF (iteF ⟨_,rfl,x,d.qf,dx,fs,_,rfl,hx,W.qf.cl,W.Qi,lp,?_⟩)
   exact k
  | true=>
   refine iteT ⟨_,rfl,x,d.qf,dx,fs,_,rfl,hx,W.qf.cl,W.Qq,ls,rfl,_,rfl,?_⟩
   cases e:r.ex with
   | none=>
    rw[e] at ls
    show if(!decide (V.non=V.non))=true then _ else _
    rw[show(!decide (V.non=V.non))=false by simp]
    refine iteF ⟨_,rfl,x,d.qf,dx,fs,_,rfl,hx,W.qf.cl,W.Qi,lp,?_⟩
    have ep:prc true r=r.pr:=by
     unfold prc
     rw[if_pos rfl,e]
     rfl
    rw[ep] at k
    exact k
   | some z=>
    rw[e] at ls
    show if(!decide (V.int z=V.non))=true then _ else _
    rw[show(!decide (V.int z=V.non))=true by simp]
    refine iteT ⟨_,rfl,x,d.qf,dx,fs,_,rfl,hx,W.qf.cl,W.Qq,ls,?_⟩
    have ep:prc true r=z:=by
     unfold prc
     rw[if_pos rfl,e]
     rfl
    rw[ep] at k
    exact k
theorem Xm:kap ["self","basket","number","line","price"] ["self","basket"] (kah kb0):=⟨rfl,rfl,rfl,by decide +kernel,rfl,by decide +kernel,by decide +kernel⟩
theorem kcC(W:WB K mg d base):FnOk P w K mg base CX0 2 d.ZW d.ZX ["self","basket"] (kdt d.qf d.qg d.qe):=by
 refine FunD.ok W.Qt.F Xm (fun vs H Q E h=>?_) (fun cdv A outer s H vs Q E hr h=>?_)
 ·obtain⟨x,dx,b,l,cg,m,ls,rs,rfl,_⟩:=h
  rfl
 ·obtain⟨x,dx,b,l,cg,m,ls,rs,rfl,hx,⟨dxb,fsb,hb,lbl,lbc,lbm⟩,hl,hL,hn,hok,k⟩:=h
  have UB:=kdV (P:=P) (w:=w) (base:=base) W
  refine⟨_,kac (kaz (pv 0) (kaL kae) rfl)
   (kac (kaz (pv 0) (kaL kae) rfl)
   (kac (kaz (pv 0) (kag (K:=K) (pv 1) rfl) rfl)
   (kac (kaz (pv 0) (kaL kae) rfl)
   (kai (kbA PassesOwn.never rfl (kjm rfl W.B.enum (kaa (kag (K:=K) (pv 1) rfl) kae)) (kbo (K:=K) (n:=2) rfl (kaA (kar (i:=2) Xm.nd rfl (Or.inl rfl)) (kaA (kar (i:=3) Xm.nd rfl (Or.inl rfl)) kbn)))
   (kac (kas (i:=4) Xm.nd rfl (Or.inl rfl) (kan UB hr rfl W.QO.m W.QO.F.kp W.QO.b .nil pass0 (kaa (pv 3) (kaa (kag (K:=K) (pv 1) rfl) kae))))
   (kac (ka0 (pe_bm N1 Dk Dl kgB (kag (K:=K) (pv 0) rfl) (kaa (pe_op kjr (kaL (kaa (pv 2) kae)) (kag (K:=K) (pv 3) rfl)) kae)))
   (kac (ka0 (pe_bm N1 Dk Dl kgB (kag (K:=K) (pv 0) rfl) (kaa (pe_op kjr (kaL (kaa (pv 4) kae)) (kag (K:=K) (pv 3) rfl)) kae)))
   (kai (ka0 (pe_bm N1 Ml Mm ka9 (kag (K:=K) (pv 0) rfl) (kaa pe_bl kae)))))))))))),?_⟩
  have nbx:b≠x:=ne_of hb hx (by
   intro z
   injection z with _ _ z
   rw[z] at lbl
   cases lbl)
  have nlx:l≠x:=ne_of hl hx (by intro z;cases z)
  try refine sN fun _ Y4=>?_
  refine⟨by decide,fun o ho=>?_⟩
  have nox:o≠x:=(kaj hx ho).symm
  try apply Y4
  try refine sN fun _ Y4=>?_
  refine⟨_,rfl,x,d.qe,dx,[],rfl,kak ho _ _ hx,W.qe.cl,W.qZ,by decide,?_⟩
  have b1:But x H (upd (upd H o (.lst [])) x (.ins d.qe dx (putF "owners" (.ref o) []))):=(But.of_same (kak ho)).trans kau
  try apply Y4
  try refine sN fun _ Y4=>?_
  refine⟨by decide,fun p hp=>?_⟩
  have npx:p≠x:=fun e=>by
   rw[e,kad] at hp
   cases hp
  have nop:o≠p:=fun e=>by
   rw[←e,kam nox,kad] at hp
   cases hp
  have hp0:H p=none:=by
   cases e:H p with
   |none=>rfl
   |some u=>
    obtain⟨u',e'⟩:=kf3 (b1 p u npx e)
    rw[e'] at hp
    cases hp
  try apply Y4
  try refine sN fun _ Y4=>?_
  refine⟨_,rfl,x,d.qe,dx,_,rfl,kak hp _ _ kad,W.qe.cl,W.qC,few (Nm (kal (n:=0) (Nj _)) (by decide)),?_⟩
  have b2:=(b1.same (kak (o:=.lst []) hp)).trans (kau (o:=.ins d.qe dx (putF "prices" (.ref p) (putF "owners" (.ref o) []))))
  try apply Y4
  try refine sN fun _ Y4=>?_
  refine⟨_,rfl,b,d.qg,dxb,fsb,_,rfl,b2 b _ nbx hb,W.qg.cl,W.Qr,lbc,_,rfl,x,d.qe,dx,_,rfl,kad,W.qe.cl,W.Qk,few (Nm (kal (kal (n:=0) (Nj _))) (by decide)),?_⟩
  have b3:=b2.trans (kau (o:=.ins d.qe dx (putF "carriage" (.int cg) (putF "prices" (.ref p) (putF "owners" (.ref o) [])))))
  try apply Y4
  try refine sN fun _ Y4=>?_
  refine⟨by decide,fun mk hm=>?_⟩
  have nmx:mk≠x:=fun e=>by
   rw[e,kad] at hm
   cases hm
  have hm0:H mk=none:=by
   cases e:H mk with
   |none=>rfl
   |some u=>
    obtain⟨u',e'⟩:=kf3 (b3 mk u nmx e)
    rw[e'] at hm
    cases hm
  have nom:o≠mk:=fun e=>by
   rw[←e,kam nox,kam nox,kam nop,kam nox,kad] at hm
   cases hm
  have npm:p≠mk:=fun e=>by
   rw[←e,kam npx,kam npx,kad] at hm
   cases hm
  try apply Y4
  try refine sN fun _ Y4=>?_
  refine⟨_,rfl,x,d.qe,dx,_,rfl,kak hm _ _ kad,W.qe.cl,W.Qs,few (Nm (kal (kal (kal (n:=0) (Nj _)))) (by decide)),?_⟩
  have b4:=(b3.same (kak (o:=.lst []) hm)).trans (kau (o:=.ins d.qe dx (putF "marked" (.ref mk) (putF "carriage" (.int cg) (putF "prices" (.ref p) (putF "owners" (.ref o) []))))))
  have Di:Ds H x o p mk:=⟨ho,hp0,hm0,nox,npx,nmx,nop,nom,npm⟩
  have Z0:S3 H x d.qe dx (putF "marked" (.ref mk) (putF "carriage" (.int cg) (putF "prices" (.ref p) (putF "owners" (.ref o) [])))) o p mk [] [] [] (upd (upd (upd (upd (upd (upd (upd H o (.lst [])) x (.ins d.qe dx (putF "owners" (.ref o) []))) p (.lst [])) x (.ins d.qe dx (putF "prices" (.ref p) (putF "owners" (.ref o) []))))
    x (.ins d.qe dx (putF "carriage" (.int cg) (putF "prices" (.ref p) (putF "owners" (.ref o) []))))) mk (.lst [])) x (.ins d.qe dx (putF "marked" (.ref mk) (putF "carriage" (.int cg) (putF "prices" (.ref p) (putF "owners" (.ref o) [])))))):=by
   try apply Y4
   try refine sN fun _ Y6=>?_
   refine⟨b4,kad,?_,?_,?_⟩
   ·rw[kam nox,kam nom,kam nox,kam nox,kam nop,kam nox,kad]
   ·rw[kam npx,kam npm,kam npx,kam npx,kad]
   ·rw[kam nmx,kad]
  have l1:(putF "marked" (.ref mk) (putF "carriage" (.int cg) (putF "prices" (.ref p) (putF "owners" (.ref o) [])))).lookup ("owners" :Str)=some (.ref o):=by
   rw[kab,if_neg (by decide +kernel),kab,if_neg (by decide +kernel),kab,if_neg (by decide +kernel),kab,if_pos rfl]
  have l2:(putF "marked" (.ref mk) (putF "carriage" (.int cg) (putF "prices" (.ref p) (putF "owners" (.ref o) [])))).lookup ("prices" :Str)=some (.ref p):=by
   rw[kab,if_neg (by decide +kernel),kab,if_neg (by decide +kernel),kab,if_pos rfl]
  have l3:(putF "marked" (.ref mk) (putF "carriage" (.int cg) (putF "prices" (.ref p) (putF "owners" (.ref o) [])))).lookup ("carriage" :Str)=some (.int cg):=by
   rw[kab,if_neg (by decide +kernel),kab,if_pos rfl]
  have l4:(putF "marked" (.ref mk) (putF "carriage" (.int cg) (putF "prices" (.ref p) (putF "owners" (.ref o) [])))).lookup ("marked" :Str)=some (.ref mk):=by
   rw[kab,if_pos rfl]
  have l5:(putF "marked" (.ref mk) (putF "carriage" (.int cg) (putF "prices" (.ref p) (putF "owners" (.ref o) [])))).lookup ("whole" :Str)=none:=by
   rw[kab,if_neg (by decide +kernel),kab,if_neg (by decide +kernel),kab,if_neg (by decide +kernel),kab,if_neg (by decide +kernel)]
   rfl
  have lfs:(putF "marked" (.ref mk) (putF "carriage" (.int cg) (putF "prices" (.ref p) (putF "owners" (.ref o) [])))).length≤10:=Nm (kal (kal (kal (kal (n:=0) (Nj _))))) (by decide)
  generalize putF "marked" (.ref mk) (putF "carriage" (.int cg) (putF "prices" (.ref p) (putF "owners" (.ref o) [])))=fs at *
  generalize (upd (upd (upd (upd (upd (upd (upd H o (.lst [])) x (.ins d.qe dx (putF "owners" (.ref o) []))) p (.lst [])) x (.ins d.qe dx (putF "prices" (.ref p) (putF "owners" (.ref o) []))))
    x (.ins d.qe dx (putF "carriage" (.int cg) (putF "prices" (.ref p) (putF "owners" (.ref o) []))))) mk (.lst [])) x (.ins d.qe dx fs))=Hs at *
  try apply Y4
  try refine sN fun _ Y4=>?_
  refine⟨_,rfl,b,d.qg,dxb,fsb,_,rfl,Z0.bt b _ nbx hb,W.qg.cl,W.qy,lbl,l,_,rfl,Z0.bt l _ nlx hl,kkI (xs:=ls.map V.ref) (fun i σ H'=>(∃v2 v3 v4:Option V,σ=[some (.ref x),some (.ref b),v2,v3,v4])∧
   S3 H x d.qe dx fs o p mk ((own (rs.take i)).map V.int) ((prs m (rs.take i)).map V.int) (Nl i (.bl false)) H') ⟨⟨none,none,none,rfl⟩,Z0⟩ (fun i σ H' _ ⟨_,Z⟩=>Z.bt l _ nlx hl) ?_ ?_⟩
  ·rintro i y t σ H1 hy ⟨⟨v2,v3,v4,rfl⟩,Z⟩ ht
   have hll:=hL.len
   have hil:i<(ls.map V.ref).length:=(Nz.mp hy).1
   rw[Nh] at hil
   obtain⟨lx,el,rfl⟩:∃lx,ls[i]?=some lx∧y=V.ref lx:=by
    rw[Nv] at hy
    cases e:ls[i]? with
    |none=>rw[e] at hy;cases hy
    |some z=>rw[e] at hy;exact⟨z,rfl,(Option.some.inj hy).symm⟩
   obtain⟨r,er⟩:∃r,rs[i]?=some r:=⟨rs[i]'(by omega),by simp[show i<rs.length by omega]⟩
   have hr':r.Ok:=hok r (Nt er)
   obtain⟨dxl,fsl,hlx,lk1,lk2,lk3,lk4⟩:=hL.get el er
   have nlxx:lx≠x:=ne_of hlx hx (by
    intro z
    injection z with _ _ z
    rw[z] at lk1
    cases lk1)
   have hmn0:=hr'.mn0
   have hmn1:=hr'.mn1
   have Z1:=Z.same (kak (o:=.tup [.int (i:Nat),V.ref lx]) ht)
   have lo1:((own (rs.take i)).map V.int).length≤720:=by
    rw[Nh]
    have:=kjq (rs.take i) fun r hr=>hok r (MM hr)
    rw[Ny] at this
    omega
   have lp1:((prs m (rs.take i)).map V.int).length≤720:=by
    rw[Nh]
    have:=kjh m (rs.take i) fun r hr=>hok r (MM hr)
    rw[Ny] at this
    omega
   try apply Y4
   try refine sN fun _ Y6=>?_
   refine⟨t,_,rfl,SqT.of kad,rfl,_,_,rfl,_,_,rfl,rfl,?_⟩
   try first|apply Y6|apply Y4
   try refine sN fun _ Y6=>?_
   refine⟨_,rfl,_,rfl,b,d.qg,dxb,fsb,_,rfl,Z1.bt b _ nbx hb,W.qg.cl,W.Qj,lbm,lx,m,r,rfl,⟨dxl,fsl,Z1.bt lx _ nlxx hlx,lk1,lk2,lk3,lk4⟩,?_⟩
   try first|apply Y6|apply Y4
   try refine sN fun _ Y6=>?_
   refine⟨_,rfl,x,d.qe,dx,fs,_,rfl,Z1.ob,W.qe.cl,W.qZ,l1, .inl ⟨rfl,_,SqL.of Z1.ho⟩,_,rfl,(by show 1≤sizeLine;decide),fun t1 ht1=>?_⟩
   have Z2:=Z1.same (kak (o:=.lst [V.int (i:Nat)]) ht1)
   try first|apply Y6|apply Y4
   try refine sN fun _ Y6=>?_
   refine⟨_,rfl,lx,d.qf,dxl,fsl,_,rfl,Z2.bt lx _ nlxx hlx,W.qf.cl,W.qF,lk3,t1,_,_,rfl,rfl,kad,by omega,by omega,Nw (kao (by simp;omega)),fun t2 ht2=>?_⟩
   have Z3:=Z2.same (kak (o:=.lst (Nl r.mn.toNat [V.int (i:Nat)]).flatten) ht2)
   try first|apply Y6|apply Y4
   try refine sN fun _ Y6=>?_
   refine⟨o,t2,_,_,rfl,rfl,Z3.ho,kad,Nw (kao (by rw[rep1,Mi];omega)),?_⟩
   have Z4:=Z3.setO (d:=(own (rs.take i)).map V.int++(Nl r.mn.toNat [V.int (i:Nat)]).flatten) Di
   try first|apply Y6|apply Y4
   try refine sN fun _ Y6=>?_
   refine⟨_,rfl,x,d.qe,dx,fs,_,rfl,Z4.ob,W.qe.cl,W.qC,l2, .inl ⟨rfl,_,SqL.of Z4.hp⟩,_,rfl,(by show 1≤sizeLine;decide),fun t3 ht3=>?_⟩
   have Z5:=Z4.same (kak (o:=.lst [V.int (prc m r)]) ht3)
   try first|apply Y6|apply Y4
   try refine sN fun _ Y6=>?_
   refine⟨_,rfl,lx,d.qf,dxl,fsl,_,rfl,Z5.bt lx _ nlxx hlx,W.qf.cl,W.qF,lk3,t3,_,_,rfl,rfl,kad,by omega,by omega,Nw (kao (by simp;omega)),fun t4 ht4=>?_⟩
   have Z6:=Z5.same (kak (o:=.lst (Nl r.mn.toNat [V.int (prc m r)]).flatten) ht4)
   try first|apply Y6|apply Y4
   try refine sN fun _ Y6=>?_
   refine⟨p,t4,_,_,rfl,rfl,Z6.hp,kad,Nw (kao (by rw[rep1,Mi];omega)),?_⟩
   have Z7:=Z6.setP (d:=(prs m (rs.take i)).map V.int++(Nl r.mn.toNat [V.int (prc m r)]).flatten) Di
   try first|apply Y6|apply Y4
   try refine sN fun _ Y6=>?_
   refine⟨_,rfl,x,d.qe,dx,fs,_,rfl,Z7.ob,W.qe.cl,W.Qs,l4, .inl ⟨rfl,_,SqL.of Z7.hm⟩,mk,_,_,rfl,rfl,Z7.hm,kao (by simp;omega),?_⟩
   have Z8:=Z7.setM (d:=Nl i (V.bl false)++[V.bl false]) Di
   try first|apply Y6|apply Y4
   try refine sN fun _ Y6=>?_
   refine⟨⟨_,_,_,rfl⟩,?_⟩
   have e1:(own (rs.take i)).map V.int++(Nl r.mn.toNat [V.int (i:Nat)]).flatten=(own (rs.take (i+1))).map V.int:=by
    rw[take_snoc er,kkp,Np,rep1,ki9,Ny,MG (by omega)]
   have e2:(prs m (rs.take i)).map V.int++(Nl r.mn.toNat [V.int (prc m r)]).flatten=(prs m (rs.take (i+1))).map V.int:=by
    rw[take_snoc er,kkl,Np,rep1,ki9]
   have e3:Nl i (V.bl false)++[V.bl false]=Nl (i+1) (V.bl false):=by rw[E1]
   rw[←e1,←e2,←e3]
   try first|apply Y6|apply Y4
   exact Z8
  ·rintro σ H' ⟨⟨v2,v3,v4,rfl⟩,Z⟩
   have hll:=hL.len
   have e:(ls.map V.ref).length=rs.length:=by rw[Nh,hll]
   rw[e,NS] at Z
   try first|apply Y6|apply Y4
   exact k H' o p mk Z.bt ho hp0 hm0 ⟨dx,fs,Z.ob,l1,l2,l3,l4,l5⟩ Z.ho Z.hp Z.hm ⟨dx,fs,Z.ob,lfs⟩
theorem kdO:kap ["self"] ["self"] (kah kbS):=⟨rfl,rfl,rfl,by decide +kernel,rfl,by decide +kernel,by decide +kernel⟩
theorem kcp(W:WB K mg d base):FnOk P w K mg base CX0 1 d.ZY d.ZZ ["self"] (kiL d.qe):=by
 refine FunD.ok W.Qu.F kdO (fun vs H Q E h=>?_) (fun cdv A outer s H vs Q E hr h=>?_)
 ·obtain⟨x,o,p,mk,cg,ns,rfl,_⟩:=h
  rfl
 ·obtain⟨x,o,p,mk,cg,ns,rfl,⟨dx,fs,hx,l1,l2,l3,l4,l5⟩,hp,k⟩:=h
  refine⟨_,kai (kaq (pe_op kaB (kay (r:=rSum K) (kbz rfl) (by rfl) W.B.sum b_sum (kaa (kag (K:=K) (pv 0) rfl) kae)) (kag (K:=K) (pv 0) rfl))),?_⟩
  exact⟨_,rfl,x,d.qe,dx,fs,_,rfl,hx,W.qe.cl,W.qC,l2,p,ns,rfl,SqL.of hp,_,rfl,x,d.qe,dx,fs,_,rfl,hx,W.qe.cl,W.Qk,l3,_,_,rfl,rfl,k⟩
inductive kk4 (K:Ni) (CM:Addr) (vs:List V) (H:Hp) (Q:VK) (E_:XK):Prop
 |ct (mA a:Addr) (M:Mks) (ps:List (Option Nat)) (kn:Nat) (mk:Bool) (_:vs=[.ref mA, .ref a, .int kn, .bl mk]) (_:MksIs CM H mA M) (_:SqL K H a (ps.map pV)) (_:Good ps) (_:kn<ps.length) (_:Q (.bl (kHit ps M.kind kn&&(!M.lone|| !mk))) H):kk4 K CM vs H Q E_
theorem klD:kap ["marks","parents","kind","marked"] ["marks","parents","kind","marked"] (kah ki7):=⟨rfl,rfl,rfl,by decide +kernel,rfl,by decide +kernel,by decide +kernel⟩
theorem klO(W:WB K mg d base):FnOk P w K mg base CX0 2 d.Yt d.Yu ["marks","parents","kind","marked"] (kk4 K d.qj):=by
 refine FunD.ok W.QP.F klD (fun vs H Q E h=>?_) (fun cdv A outer s H vs Q E hr h=>?_)
 ·obtain⟨mA,a,M,ps,kn,mk,rfl,_⟩:=h
  rfl
 ·obtain⟨mA,a,M,ps,kn,mk,rfl,⟨dx,fs,hm,l1,l2,l3,l4,l5,l6⟩,hS,hg,hk,k⟩:=h
  have UC:=kks (P:=P) (w:=w) (base:=base) W
  refine⟨_,kac (kdc (ps_if (PW.pt (kbU (kbg (kag (K:=K) (pv 0) rfl)) (kbF (kbg (pv 3))))) (kai (kaq pe_bl)) (kaw)))
   (kai (kaq (pe_or (ka7 kd5 (kag (K:=K) (pv 0) rfl) ka5 (kax _)) (kgt (kan UC hr rfl W.QN.m W.QN.F.kp W.QN.b .nil pass0 (kaa (pv 1) (kaa (pv 2) (kaa (kag (K:=K) (pv 0) rfl) kae)))))))),?_⟩
  refine⟨fun σ' H'=>σ'=[some (.ref mA),some (.ref a),some (.int kn),some (.bl mk)]∧H'=H∧(!M.lone|| !mk)=true,⟨_,rfl,mA,d.qj,dx,fs,_,rfl,hm,W.qj.cl,W.XH,l6,M.lone,rfl,?_⟩,?_⟩
  ·cases e:M.lone with
   |false=>exact iteF (iteF ⟨rfl,rfl,rfl⟩)
   | true=>
    refine iteT ⟨_,rfl,mk,rfl,?_⟩
    cases mk with
    |false=>exact iteF ⟨rfl,rfl,rfl⟩
    |true=>
     refine iteT ?_
     rw[e,show(kHit ps M.kind kn&&(!true|| !true))=false by simp] at k
     exact k
  ·rintro σ' H' ⟨rfl,rfl,hh⟩
   rw[hh,Bool.and_true] at k
   cases ek:M.kind with
   |none=>
    rw[ek] at l1 k
    refine⟨_,rfl,mA,d.qj,dx,fs,_,rfl,hm,W.qj.cl,W.Xh,l1,rfl,_,rfl,?_⟩
    show if decide (V.non=V.non)=true then _ else _
    rw[show decide (V.non=V.non)=true by simp]
    exact iteT k
   |some kk=>
    rw[ek] at l1 k
    refine⟨_,rfl,mA,d.qj,dx,fs,_,rfl,hm,W.qj.cl,W.Xh,l1,rfl,_,rfl,?_⟩
    show if decide (V.int (kk:Nat)=V.non)=true then _ else _
    rw[show decide (V.int (kk:Nat)=V.non)=false by simp]
    exact iteF ⟨_,rfl,_,rfl,_,rfl,mA,d.qj,dx,fs,_,rfl,hm,W.qj.cl,W.Xh,l1,a,ps,kn,kk,rfl,hS,hg,hk,k⟩
theorem VS:kap ["voucher","parents","basket","standing","fitting"] ["voucher","parents","basket","standing"] (kah keC):=⟨rfl,rfl,rfl,by decide +kernel,rfl,by decide +kernel,by decide +kernel⟩
theorem khY(W:WB K mg d base):FnOk P w K mg base CX0 3 d.Yr d.Ys ["voucher","parents","basket","standing"] (ki3 K d):=by
 refine FunD.ok W.qS.F VS (fun vs H Q E h=>?_) (fun cdv A outer s H vs Q E hr h=>?_)
 ·obtain⟨v,a,b,x,V,ps,B,S,rfl,_⟩:=h
  rfl
 ·obtain⟨v,a,b,x,Vc,ps,B,S,rfl,hV,hA,hB,hS,wf,vo,k⟩:=h
  obtain⟨mA,dxv,fsv,hv,lvm,_,hM,hh,htb⟩:=id hV
  obtain⟨l,ls,⟨dxb,fsb,hb,lb1,lb2,lb3⟩,hl,hL⟩:=id hB
  obtain⟨o,p,mk,⟨dxs,fss,hx,l1,l2,l3,l4,l5⟩,ho,hp,hmk⟩:=id hS
  have UD:=klO (P:=P) (w:=w) (base:=base) W
  refine⟨_,kac (kas (i:=4) VS.nd rfl (Or.inr rfl) (kbp (N:=["line","marked","voucher","parents"]) (CompScope.of (N:=["line","marked","voucher","parents"]) (cap:=[none,none,some 0,some 1]) (kah keC).names ["voucher","parents","basket","standing","fitting"] rfl rfl (by decide +kernel)) rfl (kdo rfl W.B.zip (kaa (kag (K:=K) (pv 2) rfl) (kaa (kag (K:=K) (pv 3) rfl) kae))) (fun _ _ _ _=>kbo (K:=K) (n:=2) rfl (kaA (kar (i:=0) (show(["line","marked","voucher","parents"]:List Str).Nodup by decide +kernel) rfl (Or.inl rfl)) (kaA (kar (i:=1) (show(["line","marked","voucher","parents"]:List Str).Nodup by decide +kernel) rfl (Or.inl rfl)) kbn))) (fun _ _ _ _=>(kan UD hr rfl W.QP.m W.QP.F.kp W.QP.b .nil pass0 (kaa (kag (K:=K) (pv 2) rfl) (kaa (pv 3) (kaa (kag (K:=K) (pv 0) rfl) (kaa (pv 1) kae))))))))
   (kai (kaq (khT (N:=["piece","owner","fitting"]) (CompScope.of (N:=["piece","owner","fitting"]) (cap:=[none,none,some 4]) (kah keC).names ["voucher","parents","basket","standing","fitting"] rfl rfl (by decide +kernel)) rfl (kjm rfl W.B.enum (kaa (kag (K:=K) (pv 3) rfl) kae)) (fun _ _ _ _=>kbo (K:=K) (n:=2) rfl (kaA (kar (i:=0) (show(["piece","owner","fitting"]:List Str).Nodup by decide +kernel) rfl (Or.inl rfl)) (kaA (kar (i:=1) (show(["piece","owner","fitting"]:List Str).Nodup by decide +kernel) rfl (Or.inl rfl)) kbn))) (fun _ _ _ _=>kg7 (kbg (pe_ix (r:=rIxL K) kaD (pv 2) (pv 1) (fun _ _=>rfl)))) (fun _ _ _ _=>(pv 0))))),?_⟩
  have np:=wf.np
  have nl:=wf.nl
  have lenL:=hL.len
  have lenM:=wf.lm
  have emin:min (ls.map V.ref).length (S.mkd.map V.bl).length=B.rs.length:=by rw[Nh,Nh,lenL,lenM,Mu]
  refine⟨_,rfl,b,d.qg,dxb,fsb,_,rfl,hb,W.qg.cl,W.qy,lb1,_,rfl,x,d.qe,dxs,fss,_,rfl,hx,W.qe.cl,W.Qs,l4,l,mk,_,_,rfl,hl,hmk,
   ker (xs:=ls.map V.ref) (ys:=S.mkd.map V.bl) (fun i σ zs H'=>Same H H'∧zs=((Nq i).map fun l=>hits ps (kds B) Vc.ms.kind Vc.ms.lone S.mkd l).map V.bl∧∃v0 v1:Option V,σ=[v0,v1,some (.ref v),some (.ref a)])
    ⟨Same.refl _,rfl,none,none,rfl⟩ (by rw[emin];exact Nw (kao (by omega))) (fun i σ zs H' _ h=>⟨h.1 _ _ hl,h.1 _ _ hmk,by rw[h.2.1];simp⟩) ?_ ?_⟩
  ·rintro i y m t σ zs H1 hy hm ⟨s1,rfl,v0,v1,rfl⟩ ht
   obtain⟨lx,elx,rfl⟩:=kbJ hy
   obtain⟨mv,emv,rfl⟩:=kbL hm
   obtain⟨r,er,hr⟩:=hL.at elx
   have s2:=s1.trans (kak (o:=.tup [V.ref lx,V.bl mv]) ht)
   obtain⟨dxl,fsl,hlx,lk1,_⟩:=hr.same s2
   have hkd:=wf.kd r (Nt er)
   obtain⟨kn,ekn⟩:=Int.eq_ofNat_of_zero_le hkd.1
   have hkn:kn<ps.length:=by omega
   refine⟨t,_,rfl,SqT.of kad,rfl,_,_,rfl,_,_,rfl,rfl,?_⟩
   refine⟨_,rfl,v,clsOf d Vc.so,dxv,fsv,_,rfl,s2 _ _ hv,cl_of W hh,na_of W hh,lvm,_,rfl,_,rfl,lx,d.qf,dxl,fsl,_,rfl,hlx,W.qf.cl,W.Xj,lk1,_,rfl,mA,a,Vc.ms,ps,kn,mv,by rw[ekn];rfl,hM.same s2,s2.seq hA,wf.good,hkn,s2,?_,_,_,rfl⟩
   have e1:hits ps (kds B) Vc.ms.kind Vc.ms.lone S.mkd i=(kHit ps Vc.ms.kind kn&&(!Vc.ms.lone|| !mv)):=by
    unfold hits
    have e2:S.mkd.getD i false=mv:=by rw[NH,emv];rfl
    rw[e2,kms er,ekn,Int.toNat_natCast]
   rw[Mx,Np,Np,←e1]
   rfl
  rintro σ zs H1 ⟨s1,rfl,v0,v1,rfl⟩ D hD
  rw[emin]
  have s2:=s1.trans (kak (o:=.lst (((Nq B.rs.length).map fun l=>hits ps (kds B) Vc.ms.kind Vc.ms.lone S.mkd l).map V.bl)) hD)
  have eD:(upd H1 D (.lst (((Nq B.rs.length).map fun l=>hits ps (kds B) Vc.ms.kind Vc.ms.lone S.mkd l).map V.bl))) D=some (.lst (((Nq B.rs.length).map fun l=>hits ps (kds B) Vc.ms.kind Vc.ms.lone S.mkd l).map V.bl)):=kad
  generalize upd H1 D (.lst (((Nq B.rs.length).map fun l=>hits ps (kds B) Vc.ms.kind Vc.ms.lone S.mkd l).map V.bl))=H2 at *
  refine⟨_,rfl,x,d.qe,dxs,fss,_,rfl,s2 _ _ hx,W.qe.cl,W.qZ,l1,o,_,rfl,s2 _ _ ho,
   kiu (xs:=S.ow.map iV) (fun i σ ys H'=>Same H2 H'∧ys=((Nq i).filter fun i=>hits ps (kds B) Vc.ms.kind Vc.ms.lone S.mkd (S.ow.getD i 0)).map iV∧∃v0 v1:Option V,σ=[v0,v1,some (.ref D)])
    ⟨Same.refl _,rfl,none,none,rfl⟩ (by rw[Nh];exact Nw (kao (by omega))) (fun i σ zs H' _ h=>⟨h.1 _ _ (s2 _ _ ho),by rw[h.2.1,Nh];have:=MW (fun i=>hits ps (kds B) Vc.ms.kind Vc.ms.lone S.mkd (S.ow.getD i 0)) (Nq i);simpa using this⟩) ?_ ?_⟩
  ·rintro i y t σ zs H3 hy ⟨s3,rfl,v0,v1,rfl⟩ ht
   obtain⟨ln,eln,rfl⟩:=kbL hy
   have hln:=wf.line eln
   have s4:=s3.trans (kak (o:=.tup [V.int (i:Nat),iV ln]) ht)
   refine⟨t,_,rfl,SqT.of kad,rfl,_,_,rfl,_,_,rfl,rfl,?_⟩
   refine⟨_,rfl,_,rfl,D,_,_,_,rfl,rfl,SqL.of (s4 _ _ eD),ka1 (v:=.bl (hits ps (kds B) Vc.ms.kind Vc.ms.lone S.mkd ln)) (by rw[Nv,Nv,Eb hln];rfl),_,rfl,?_⟩
   have e1:S.ow.getD i 0=ln:=by rw[NH,eln];rfl
   have st:=kkT (ps:=ps) (kk:=kds B) (kind:=Vc.ms.kind) (lone:=Vc.ms.lone) (S:=S) (i:=i)
   rw[e1] at st
   cases hh2:hits ps (kds B) Vc.ms.kind Vc.ms.lone S.mkd ln with
   |false=>exact iteF ⟨s4,by rw[st,hh2];simp,_,_,rfl⟩
   |true=>exact iteT ⟨_,rfl,s4,by rw[st,hh2,if_pos rfl,Np];rfl,_,_,rfl⟩
  ·rintro σ zs H3 ⟨s3,rfl,v0,v1,rfl⟩ D2 hD2
   rw[Nh]
   have s4:=(s2.trans s3).trans (kak (o:=.lst ((abt ps (kds B) Vc.ms.kind Vc.ms.lone S).map iV)) hD2)
   exact k _ D2 s4 (none_of (s2.trans s3) hD2) kad
inductive kfd (CS:Addr) (vs:List V) (H:Hp) (Q:VK) (E_:XK):Prop
 |ct (x g:Addr) (S:Stnd) (is:List Nat) (_:vs=[.ref x, .ref g]) (_:StndIs CS H x S) (_:H g=some (.lst (is.map iV))) (_:(∀i∈is,i<S.pr.length)) (_:is.length≤720) (_:∀p,H p=none→Q (.ref p) (upd H p (.lst ((qs S.pr is).map V.int)))):kfd CS vs H Q E_
theorem kgn:kap ["standing","pieces"] ["standing","pieces"] (kah kcr):=⟨rfl,rfl,rfl,by decide +kernel,rfl,by decide +kernel,by decide +kernel⟩
theorem kd7(W:WB K mg d base):FnOk P w K mg base CX0 1 d.YM d.YN ["standing","pieces"] (kfd d.qe):=by
 refine FunD.ok W.qW.F kgn (fun vs H Q E h=>?_) (fun cdv A outer s H vs Q E hr h=>?_)
 ·obtain⟨x,g,S,is,rfl,_⟩:=h
  rfl
 ·obtain⟨x,g,S,is,rfl,⟨o,p,mk,⟨dxs,fss,hx,l1,l2,l3,l4,l5⟩,ho,hp,hmk⟩,hg,hi,hl,k⟩:=h
  refine⟨_,kai (kaq (kbp (N:=["piece","standing"]) (CompScope.of (N:=["piece","standing"]) (cap:=[none,some 0]) (kah kcr).names ["standing","pieces"] rfl rfl (by decide +kernel)) rfl (kaJ (K:=K) (pv 1)) (fun _ _ _ _=>kar (i:=0) (show(["piece","standing"]:List Str).Nodup by decide +kernel) rfl (Or.inl rfl)) (fun _ _ _ _=>(pe_ix (r:=rIxL K) kaD (kag (K:=K) (pv 1) rfl) (pv 0) (fun _ _=>rfl))))),?_⟩
  refine⟨_,rfl,g,rfl,⟨_,SqL.of hg⟩,kaZ (xs:=is.map iV) (fun j σ ys H'=>H'=H∧ys=(qs S.pr (is.take j)).map V.int∧∃v,σ=[v,some (.ref x)]) ⟨rfl,rfl,none,rfl⟩ ?_ ?_ ?_ ?_⟩
  ·rw[Nh]
   exact Nw (kao (by omega))
  ·rintro j σ ys H' hj ⟨rfl,rfl,_⟩
   exact⟨SqL.of hg,by rw[Nh,kb9,Ny];rw[Nh] at hj;omega⟩
  ·rintro j y σ ys H' hy ⟨rfl,rfl,v,rfl⟩
   obtain⟨n,en,rfl⟩:∃n,is[j]?=some n∧y=iV n:=kbL hy
   obtain⟨z,ez⟩:=at_of (hi n (Nt en))
   refine⟨_,rfl,x,d.qe,dxs,fss,_,rfl,hx,W.qe.cl,W.qC,l2,_,rfl,p,_,_,_,rfl,rfl,SqL.of hp,ka1 (by rw[Nv,ez];rfl),rfl,?_,_,rfl⟩
   rw[Mz,en]
   simp[qs,ez]
  ·rintro σ ys H' ⟨rfl,rfl,v,rfl⟩ D hD
   rw[Nh,NS]
   exact k D hD
inductive kiS (CS:Addr) (vs:List V) (H:Hp) (Q:VK) (E_:XK):Prop
 |ct (x g:Addr) (S:Stnd) (is:List Nat) (_:vs=[.ref x, .ref g]) (_:StndIs CS H x S) (_:H g=some (.lst (is.map iV))) (_:(∀i∈is,i<S.pr.length)) (_:is.length≤720) (_:∀H',Same H H'→Q (.int (qs S.pr is).sum) H'):kiS CS vs H Q E_
theorem kee:kap ["standing","pieces"] ["standing","pieces"] (kah kbX):=⟨rfl,rfl,rfl,by decide +kernel,rfl,by decide +kernel,by decide +kernel⟩
theorem kcB(W:WB K mg d base):FnOk P w K mg base CX0 2 d.YO d.YQ ["standing","pieces"] (kiS d.qe):=by
 refine FunD.ok W.qr.F kee (fun vs H Q E h=>?_) (fun cdv A outer s H vs Q E hr h=>?_)
 ·obtain⟨x,g,S,is,rfl,_⟩:=h
  rfl
 ·obtain⟨x,g,S,is,rfl,hS,hg,hi,hl,k⟩:=h
  have X4:=kd7 (P:=P) (w:=w) (base:=base) W
  refine⟨_,kai (kaq (kay (r:=rSum K) (kbz rfl) (by rfl) W.B.sum b_sum (kaa (kan X4 hr rfl W.qW.m W.qW.F.kp W.qW.b .nil pass0 (kaa (pv 0) (kaa (pv 1) kae))) kae))),?_⟩
  exact⟨_,rfl,_,rfl,x,g,S,is,rfl,hS,hg,hi,hl,fun p hp=>⟨p,_,rfl,SqL.of kad,k _ (kak hp)⟩⟩
theorem X5:kap ["voucher","parents","basket","standing","marks","pieces"] ["voucher","parents","basket","standing"] (kah kdk):=⟨rfl,rfl,rfl,by decide +kernel,rfl,by decide +kernel,by decide +kernel⟩
theorem kgw(W:WB K mg d base):FnOk P w K mg base CX0 4 d.Yv d.Yw ["voucher","parents","basket","standing"] (kk3 K d):=by
 refine FunD.ok W.QQ.F X5 (fun vs H Q E h=>?_) (fun cdv A outer s H vs Q E hr h=>?_)
 ·obtain⟨v,a,b,x,V,ps,B,S,rfl,_⟩:=h
  rfl
 ·obtain⟨v,a,b,x,Vc,ps,B,S,rfl,hV,hA,hB,hS,wf,vo,k⟩:=h
  obtain⟨mA,dxv,fsv,hv,lvm,_,hM,hh,htb⟩:=id hV
  obtain⟨dxm,fsm,hm,m1,m2,m3,m4,m5,m6⟩:=id hM
  obtain⟨l,ls,⟨dxb,fsb,hb,lb1,lb2,lb3⟩,hl,hL⟩:=id hB
  have X6:=khY (P:=P) (w:=w) (base:=base) W
  have QC:=kcB (P:=P) (w:=w) (base:=base) W
  have hr2:Room 2 _:=hr.mono (by decide)
  refine⟨_,kac (kas (i:=4) X5.nd rfl (Or.inl rfl) (kag (K:=K) (pv 0) rfl))
   (kac (kdc (ps_if (PW.pt (kbU (kbg (kag (K:=K) (pv 4) rfl)) (kbF (kgs (kbg (kag (K:=K) (pv 2) rfl)))))) (kai (kaq kbB)) (kaw)))
   (kac (kas (i:=5) X5.nd rfl (Or.inl rfl) (kan X6 hr rfl W.qS.m W.qS.F.kp W.qS.b .nil pass0 (kaa (pv 0) (kaa (pv 1) (kaa (pv 2) (kaa (pv 3) kae))))))
   (kac (ps_if (kat op_eq (kay (r:=kbm K) kaF (by rfl) W.B.len b_len (kaa (pv 5) kae)) kaf (kax _)) (kai (kaq kbB)) (kaw))
   (kac (ps_if (kat op_lt (kan QC hr2 rfl W.qr.m W.qr.F.kp W.qr.b .nil pass0 (kaa (pv 3) (kaa (pv 5) kae))) (kag (K:=K) (pv 4) rfl) (kax _)) (kai (kaq kbB)) (kaw))
   (kai (kaq ka5)))))),?_⟩
  have np:=wf.np
  have habl:∀i∈abt ps (kds B) Vc.ms.kind Vc.ms.lone S,i<S.pr.length:=fun i hi=>by rw[wf.lp];exact kid hi
  have lab:(abt ps (kds B) Vc.ms.kind Vc.ms.lone S).length≤720:=Nm (ke6 _ _ _ _ _) np
  refine⟨_,rfl,v,clsOf d Vc.so,dxv,fsv,_,rfl,hv,cl_of W hh,na_of W hh,lvm,?_⟩
  refine⟨fun σ' H'=>σ'=[some (.ref v),some (.ref a),some (.ref b),some (.ref x),some (.ref mA),none]∧H'=H∧(Vc.ms.member&& !B.m)=false,⟨_,rfl,mA,d.qj,dxm,fsm,_,rfl,hm,W.qj.cl,W.VB,m4,Vc.ms.member,rfl,?_⟩,?_⟩
  ·cases e:Vc.ms.member with
   |false=>exact iteF (iteF ⟨rfl,rfl,rfl⟩)
   | true=>
    refine iteT ⟨_,rfl,b,d.qg,dxb,fsb,_,rfl,hb,W.qg.cl,W.Qj,lb3,B.m,rfl,?_⟩
    cases e2:B.m with
    |true=>exact iteF ⟨rfl,rfl,rfl⟩
    |false=>
     refine iteT ?_
     have z:=k H (Same.refl _)
     unfold hindM at z
     rw[e,e2,if_pos (by decide)] at z
     exact z
  ·rintro σ' H' ⟨rfl,rfl,hh2⟩
   refine⟨_,rfl,_,rfl,_,rfl,_,rfl,v,a,b,x,Vc,ps,B,S,rfl,hV,hA,hB,hS,wf,vo,fun H1 pa s1 f1 h1=>?_⟩
   refine⟨_,rfl,pa,_,rfl, .inl (SqL.of h1),rfl,_,rfl,?_⟩
   have ed:decide (V.int (((abt ps (kds B) Vc.ms.kind Vc.ms.lone S).map iV).length:Nat)=V.int 0)=decide ((abt ps (kds B) Vc.ms.kind Vc.ms.lone S).length=0):=by
    rw[Nh]
    by_cases h0:(abt ps (kds B) Vc.ms.kind Vc.ms.lone S).length=0
    ·rw[h0]
     rfl
    ·rw[decide_eq_false h0]
     refine decide_eq_false fun z=>h0 ?_
     injection z with z
     omega
   show if decide (V.int (((abt ps (kds B) Vc.ms.kind Vc.ms.lone S).map iV).length:Nat)=V.int 0)=true then _ else _
   rw[ed]
   by_cases h0:(abt ps (kds B) Vc.ms.kind Vc.ms.lone S).length=0
   ·rw[decide_eq_true h0]
    refine iteT ?_
    have z:=k H1 s1
    unfold hindM at z
    rw[hh2,if_neg (by decide),if_pos h0] at z
    exact z
   ·rw[decide_eq_false h0]
    refine iteF ⟨_,rfl,_,rfl,x,pa,S,_,rfl,hS.same s1,h1,habl,lab,fun H2 s2=>?_⟩
    have z:=k H2 (s1.trans s2)
    unfold hindM at z
    rw[hh2,if_neg (by decide),if_neg h0] at z
    refine⟨_,rfl,mA,d.qj,dxm,fsm,_,rfl,(s1.trans s2) _ _ hm,W.qj.cl,W.VA,m2,_,_,rfl,rfl,_,rfl,?_⟩
    by_cases h2:(qs S.pr (abt ps (kds B) Vc.ms.kind Vc.ms.lone S)).sum<Vc.ms.needs
    ·rw[if_pos h2] at z
     rw[decide_eq_true h2]
     exact iteT z
    ·rw[if_neg h2] at z
     rw[decide_eq_false h2]
     exact iteF z
inductive khE (vs:List V) (H:Hp) (Q:VK) (E_:XK):Prop
 |ct (m:Option Int) (n:Int) (_:vs=[oV m, .int n]) (_:Q (.int (atM m n)) H):khE vs H Q E_
theorem kih:kap ["most","number"] ["most","number"] (kah keB):=⟨rfl,rfl,rfl,by decide +kernel,rfl,by decide +kernel,by decide +kernel⟩
theorem kim(W:WB K mg d base):FnOk P w K mg base CX0 1 d.YR d.YS ["most","number"] khE:=by
 refine FunD.ok W.QW.F kih (fun vs H Q E h=>?_) (fun cdv A outer s H vs Q E hr h=>?_)
 ·obtain⟨m,n,rfl,_⟩:=h
  rfl
 ·obtain⟨m,n,rfl,k⟩:=h
  refine⟨_,kac (ps_if (kat kd5 (pv 0) ka5 (kax _)) (kai (kaq (pv 1))) (kaw))
   (kai (kaq (kay (ke1 rfl) (by rfl) W.B.min b_min (kaa (pv 0) (kaa (pv 1) kae))))),?_⟩
  cases m with
  |none=>
   refine⟨_,rfl,rfl,_,rfl,?_⟩
   show if decide (V.non=V.non)=true then _ else _
   rw[show decide (V.non=V.non)=true by simp]
   exact iteT ⟨_,rfl,k⟩
  | some z=>
   refine⟨_,rfl,rfl,_,rfl,?_⟩
   show if decide (V.int z=V.non)=true then _ else _
   rw[show decide (V.int z=V.non)=false by simp]
   refine iteF ⟨_,rfl,_,rfl,_,_,rfl,?_⟩
   have e:atM (some z) n=if n<z then n else z:=by
    show min z n=_
    split <;> omega
   rw[e] at k
   exact k
inductive kgj (d:D) (vs:List V) (H:Hp) (Q:VK) (E_:XK):Prop
 |ct (v x:Addr) (V:Vch) (S:Stnd) (_:vs=[.ref v, .ref x]) (_:VchIs d H v V) (_:StndIs d.qe H x S) (_:Q (.int (if kbM V.so=true then atM V.ms.most S.cg else 0)) H):kgj d vs H Q E_
theorem kdw:kap ["voucher","standing"] ["voucher","standing"] (kah kbD):=⟨rfl,rfl,rfl,by decide +kernel,rfl,by decide +kernel,by decide +kernel⟩
theorem kcd(W:WB K mg d base):FnOk P w K mg base CX0 2 d.YD d.YE ["voucher","standing"] (kgj d):=by
 refine FunD.ok W.qU.F kdw (fun vs H Q E h=>?_) (fun cdv A outer s H vs Q E hr h=>?_)
 ·obtain⟨v,x,V,S,rfl,_⟩:=h
  rfl
 ·obtain⟨v,x,Vc,S,rfl,⟨mA,dxv,fsv,hv,lvm,_,⟨dxm,fsm,hm,m1,m2,m3,m4,m5,m6⟩,hh,htb⟩,⟨o,p,mk,⟨dxs,fss,hx,l1,l2,l3,l4,l5⟩,ho,hp,hmk⟩,k⟩:=h
  have UE:=kim (P:=P) (w:=w) (base:=base) W
  refine⟨_,kac (ps_if (kbg (kay (r:=rIsi K) kb7 (by rfl) W.B.isi b_isi (kaa (pv 0) (kaa (kdT (v:=.ref d.qp) (by rfl) W.Ub rfl) kae)))) (kai (kaq (kan UE hr rfl W.QW.m W.QW.F.kp W.QW.b .nil pass0 (kaa (kag (K:=K) (kag (K:=K) (pv 0) rfl) rfl) (kaa (kag (K:=K) (pv 1) rfl) kae))))) (kaw))
   (kai (kaq kaf)),?_⟩
  have I:=kli W hh
  refine⟨_,rfl,_,_,_,_,rfl, .inr ⟨_,rfl⟩,TyOf.ins hv (cl_of W hh) I.ha I.hn I.ht I.hm,kgF W hh,_,rfl,?_⟩
  cases e:kbM Vc.so with
  |false=>
   rw[e,if_neg Nu] at k
   exact iteF k
  |true=>
   rw[e,if_pos rfl] at k
   exact iteT ⟨_,rfl,v,clsOf d Vc.so,dxv,fsv,_,rfl,hv,cl_of W hh,na_of W hh,lvm,mA,d.qj,dxm,fsm,_,rfl,hm,W.qj.cl,W.XG,m3,_,rfl,x,d.qe,dxs,fss,_,rfl,hx,W.qe.cl,W.Qk,l3,_,_,rfl,k⟩
noncomputable def kvOf(G:List (Nat×List Nat))(gl:List Addr):List (Key×V):=NT (fun p r=>(Sum.inl (p.1:Int),V.ref r)) G gl
theorem kh5:∀{G:List (Nat×List Nat)} {gl:List Addr},gl.length=G.length→(kvOf G gl).map Prod.snd=gl.map V.ref
 |[],[],_=>rfl
 |[],r::gl,h=>by cases h
 |p::G,[],h=>by cases h
 |p::G,r::gl,h=>by
  have ih:=kh5 (G:=G) (gl:=gl) (by simpa using h)
  show V.ref r::(kvOf G gl).map Prod.snd=V.ref r::gl.map V.ref
  rw[ih]
theorem khg:∀{G:List (Nat×List Nat)} {gl:List Addr} (o a:Nat),gl.length=G.length→
  (atK (kvOf G gl) (Sum.inl (o:Int))=none∧ins G o a=G++[(o,[a])])∨∃(j:Nat) (g:List Nat) (r:Addr),G[j]?=some (o,g)∧gl[j]?=some r∧atK (kvOf G gl) (Sum.inl (o:Int))=some (.ref r)∧ins G o a=G.set j (o,g++[a])
 |[],gl,o,a,h=>.inl ⟨rfl,rfl⟩
 |(l,g)::G,[],o,a,h=>by cases h
 | (l,g)::G,r::gl,o,a,h=>by
  have hl:gl.length=G.length:=by simpa using h
  unfold ins
  by_cases e:l=o
  ·subst e
   exact .inr ⟨0,g,r,rfl,rfl,by simp[kvOf,atK],by rw[if_pos rfl];rfl⟩
  ·rw[if_neg e]
   have e':¬((l:Int)=(o:Int)):=fun z=>e (by omega)
   have ea:atK (kvOf ((l,g)::G) (r::gl)) (Sum.inl (o:Int))=atK (kvOf G gl) (Sum.inl (o:Int)):=by
    simp[kvOf,atK,M7,e']
   rcases khg o a hl with⟨h1,h2⟩|⟨j,g',r',h1,h2,h3,h4⟩
   ·exact .inl ⟨by rw[ea];exact h1,by rw[h2];rfl⟩
   ·exact .inr ⟨j+1,g',r',by simpa using h1,by simpa using h2,by rw[ea];exact h3,by rw[h4];rfl⟩
theorem kkB{G:List (Nat×List Nat)}{gl:List Addr}{j o:Nat}{g g':List Nat}(h:G[j]?=some (o,g)):kvOf (G.set j (o,g')) gl=kvOf G gl:=by
 unfold kvOf
 apply List.ext_getElem?
 intro i
 rw[MY,MY]
 by_cases e:j=i
 ·subst e
  have hj:=at_lt h
  rw[MN hj,h]
  cases gl[j]? <;> rfl
 ·rw[MO e]
theorem kjE{G:List (Nat×List Nat)}{gl:List Addr}{o:Nat}{g:List Nat}{e:Addr}(h:gl.length=G.length):kvOf (G++[(o,g)]) (gl++[e])=kvOf G gl++[(Sum.inl (o:Int), .ref e)]:=by
 unfold kvOf
 rw[List.zipWith_append h.symm]
 rfl
structure Ptd (H H':Hp) (dd:Addr) (gl:List Addr) (G:List (Nat×List Nat)):Prop where
 sm:Same H H'
 nd:gl.Nodup
 fg:∀r∈gl,H r=none∧r≠dd
 dk:H' dd=some (.dK (kvOf G gl))
 ls:P2 (fun r p=>H' r=some (.lst (p.2.map iV))) gl G
theorem Ptd.more{H H':Hp}{dd e:Addr}{gl:List Addr}{G:List (Nat×List Nat)}(h:Ptd H H' dd gl G)(fd:H dd=none)(he:H' e=none){o a:Nat}:
  Ptd H (upd (upd (upd H' e (.lst [])) dd (.dK (kvOf G gl++[(Sum.inl (o:Int), .ref e)]))) e (.lst [iV a])) dd (gl++[e]) (G++[(o,[a])]):=by
 have e0:H e=none:=none_of h.sm he
 have ned:e≠dd:=fun z=>by rw[z,h.dk] at he;cases he
 refine⟨kav e0 (kav fd (h.sm.trans (kak he)) (kdf (nx h.dk)))  (kdf (nx kad)),?_,fun r hr=>?_,?_,?_⟩
 ·refine EX.mpr ⟨h.nd,by simp,fun x hx y hy z=>?_⟩
  rw[Mw] at hy
  subst hy z
  obtain⟨i,hi⟩:=Mr.mp hx
  obtain⟨p,_,hp⟩:=h.ls.at hi
  rw[hp] at he
  cases he
 ·rcases NU.mp hr with hr|hr
  ·exact h.fg r hr
  ·rw[Mw] at hr
   subst hr
   exact⟨e0,ned⟩
 ·rw[kam ned.symm,kad,kjE h.ls.len]
 ·refine P2.snoc (P2.of h.ls.len fun i r p e1 e2=>?_) kad
  have hp:=h.ls.get e1 e2
  rw[kam (kaj hp he),kam (h.fg r (Nt e1)).2,kam (kaj hp he)]
  exact hp
theorem Ptd.put{H H':Hp}{dd e r:Addr}{gl:List Addr}{G:List (Nat×List Nat)}(h:Ptd H H' dd gl G)(he:H' e=none){j o a:Nat}{g:List Nat}(h1:G[j]?=some (o,g))(h2:gl[j]?=some r):
  Ptd H (upd (upd H' e (.lst [])) r (.lst (g.map iV++[iV a]))) dd gl (G.set j (o,g++[a])):=by
 have hr:=h.fg r (Nt h2)
 have hrv:=h.ls.get h2 h1
 refine⟨kav hr.1 (h.sm.trans (kak he)),h.nd,h.fg,?_,P2.of (by rw[MS];exact h.ls.len) fun i r' p e1 e2=>?_⟩
 ·rw[kam hr.2.symm,kam (kaj h.dk he),h.dk,kkB h1]
 ·by_cases eji:j=i
  ·subst eji
   rw[h2] at e1
   cases e1
   rw[MN (at_lt h1)] at e2
   cases e2
   rw[kad,Np]
   rfl
  ·rw[MO eji] at e2
   have hp:=h.ls.get e1 e2
   have hne:r'≠r:=fun z=>by
    subst z
    exact eji ((List.getElem?_inj (at_lt h2) h.nd).mp (h2.trans e1.symm))
   rw[kam hne,kam (kaj hp he)]
   exact hp
inductive khz (CS:Addr) (vs:List V) (H:Hp) (Q:VK) (E_:XK):Prop
 |ct (x pa:Addr) (S:Stnd) (is:List Nat) (_:vs=[.ref x, .ref pa]) (_:StndIs CS H x S) (_:H pa=some (.lst (is.map iV))) (_:(∀i∈is,i<S.ow.length)) (_:is.length≤720) (_:∀(H':Hp) (p:Addr) (gl:List Addr),Same H H'→H p=none→H' p=some (.lst (gl.map V.ref))→P2 (fun r g=>H' r=some (.lst (g.map iV))) gl ((parted (fun i=>S.ow.getD i 0) is).map Prod.snd)→(∀r∈gl,H r=none)→Q (.ref p) H'):khz CS vs H Q E_
theorem P2.mapR{α β γ:Type}{R: α→γ→Prop}{f: β→γ}{as:List α}{bs:List β}(h:P2 (fun a b=>R a (f b)) as bs):P2 R as (bs.map f):=by
 induction h with
 |nil=>exact .nil
 |cons r t ih=>exact .cons r ih
theorem X7:kap ["standing","pieces","by_line","piece"] ["standing","pieces"] (kah kbP):=⟨rfl,rfl,rfl,by decide +kernel,rfl,by decide +kernel,by decide +kernel⟩
theorem kdW(W:WB K mg d base):FnOk P w K mg base CX0 1 d.YH d.YI ["standing","pieces"] (khz d.qe):=by
 refine FunD.ok W.QU.F X7 (fun vs H Q E h=>?_) (fun cdv A outer s H vs Q E hr h=>?_)
 ·obtain⟨x,pa,S,is,rfl,_⟩:=h
  rfl
 ·obtain⟨x,pa,S,is,rfl,⟨o,p,mk,⟨dxs,fss,hx,l1,l2,l3,l4,l5⟩,ho,hp,hmk⟩,hpa,hi,hl,k⟩:=h
  refine⟨_,kac (kas (i:=2) X7.nd rfl (Or.inl rfl) kko)
   (kac (kbA PassesOwn.never rfl (kaJ (K:=K) (pv 1)) (kar (i:=3) X7.nd rfl (Or.inl rfl))
   (kai (ka0 (pe_bm N1 Ml Mm ka9 (pe_bm De Dd PySem.F.type_dict_setdefault kfX (pv 2) (kaa (pe_ix (r:=rIxL K) kaD (kag (K:=K) (pv 0) rfl) (pv 3) (fun _ _=>rfl)) (kaa (kaL kae) kae))) (kaa (pv 3) kae)))))
   (kai (kaq (kg8 rfl (by rfl) W.B.list (pv 2))))),?_⟩
  refine fun dd hd=>?_
  have s1:=kak (o:=.dK []) hd
  refine⟨_,rfl,pa,rfl,⟨_,SqL.of (s1 _ _ hpa)⟩,kbV (K:=K) (a:=pa) (xs:=is.map iV) (fun i σ H'=>(∃v3:Option V,σ=[some (.ref x),some (.ref pa),some (.ref dd),v3])∧∃gl,Ptd H H' dd gl (parted (fun i=>S.ow.getD i 0) (is.take i)))
   ⟨⟨none,rfl⟩,[],s1,by simp,fun r hr=>by simp at hr,kad, .nil⟩ (fun i σ H' _ h=>SqL.of (h.2.choose_spec.sm _ _ hpa)) ?_ ?_⟩
  ·rintro i y σ H1 hy ⟨⟨v3,rfl⟩,gl,Z⟩
   obtain⟨a,ea,rfl⟩:=kbL hy
   have hil:=at_lt ea
   obtain⟨ln,eln⟩:=at_of (hi a (Nt ea))
   have eg:S.ow.getD a 0=ln:=by rw[NH,eln];rfl
   have enext:parted (fun i=>S.ow.getD i 0) (is.take (i+1))=ins (parted (fun i=>S.ow.getD i 0) (is.take i)) ln a:=by
    rw[kbt ea,keI,eg]
   have lenG:=kfg (fun i=>S.ow.getD i 0) (is.take i)
   rw[Ny] at lenG
   have lenK:(kvOf (parted (fun i=>S.ow.getD i 0) (is.take i)) gl).length<sizeLine:=by
    refine kao ?_
    unfold kvOf
    rw[ML]
    omega
   refine⟨_,rfl, .inr (.inr (.inl ⟨rfl, .inl ⟨_,Z.dk⟩⟩)),_,rfl,x,d.qe,dxs,fss,_,rfl,Z.sm _ _ hx,W.qe.cl,W.qZ,l1,_,rfl,o,_,_,_,rfl,rfl,SqL.of (Z.sm _ _ ho),ka1 (v:=.int (ln:Nat)) (by rw[Nv,eln];rfl),by decide,fun e he=>?_⟩
   have ned:dd≠e:=kaj Z.dk he
   refine⟨dd,kvOf (parted (fun i=>S.ow.getD i 0) (is.take i)) gl,(ln:Nat), .ref e,rfl,rfl,by rw[kam ned];exact Z.dk,lenK,fun v hv=>?_,fun hn=>?_⟩
   ·rcases khg (G:=parted (fun i=>S.ow.getD i 0) (is.take i)) ln a Z.ls.len with⟨h1,_⟩|⟨j,g,r,h1,h2,h3,h4⟩
    ·rw[h1] at hv
     cases hv
    ·rw[h3] at hv
     cases hv
     have hrv:=Z.ls.get h2 h1
     have gl20:g.length≤720:=by
      have eg':=(kcR (fun i=>S.ow.getD i 0) (is.take i)).gs ln g (Nt h1)
      rw[eg']
      refine Nm (MW _ _) ?_
      rw[Ny]
      omega
     have hr2:(upd H1 e (.lst [])) r=some (.lst (g.map iV)):=by rw[kam (kaj hrv he)];exact hrv
     refine⟨.inl ⟨rfl,_,SqL.of hr2⟩,_,rfl,r,_,_,rfl,rfl,hr2,kao (by rw[Nh];omega),⟨_,rfl⟩,gl,?_⟩
     rw[enext,h4]
     exact Z.put he h1 h2
   ·rcases khg (G:=parted (fun i=>S.ow.getD i 0) (is.take i)) ln a Z.ls.len with⟨_,h4⟩|⟨j,g,r,h1,h2,h3,h4⟩
    ·have he2:(upd (upd H1 e (.lst [])) dd (.dK (kvOf (parted (fun i=>S.ow.getD i 0) (is.take i)) gl++[(Sum.inl ((ln:Nat):Int), .ref e)]))) e=some (.lst []):=by rw[kam ned.symm,kad]
     refine⟨.inl ⟨rfl,_,SqL.of he2⟩,_,rfl,e,[],_,rfl,rfl,he2,by decide,⟨_,rfl⟩,gl++[e],?_⟩
     rw[enext,h4]
     exact Z.more hd he
    ·rw[h3] at hn
     cases hn
  ·rintro σ H1 ⟨⟨v3,rfl⟩,gl,Z⟩
   rw[Nh,NS] at Z
   refine⟨_,rfl,dd,_,rfl,Z.dk,fun l hl2=>?_⟩
   rw[kh5 Z.ls.len]
   refine k _ l gl (Z.sm.trans (kak hl2)) (none_of Z.sm hl2) kad (P2.mapR (f:=Prod.snd) (R:=fun r g=>(upd H1 l (.lst (gl.map V.ref))) r=some (.lst (g.map iV))) (Z.ls.mono fun r p h=>kak hl2 _ _ h)) fun r hr=>(Z.fg r hr).1
inductive kgi (d:D) (vs:List V) (H:Hp) (Q:VK) (E_:XK):Prop
 |ct (x pa:Addr) (S:Stnd) (is:List Nat) (m:Nat) (_:vs=[.ref x, .ref pa, .int m]) (_:StndIs d.qe H x S) (_:H pa=some (.lst (is.map iV))) (_:is.Pairwise (· < ·)) (_:(∀i∈is,i<S.pr.length)) (_:is.length<64) (_:2≤m) (_:m≤20) (_:Tbs d H) (_:∀(H':Hp) (p:Addr) (gl:List Addr),Same H H'→H p=none→H' p=some (.lst (gl.map V.ref))→P2 (fun r g=>H' r=some (.lst (g.map iV))) gl (grp m (fallP S.pr is))→(∀r∈gl,H r=none)→Q (.ref p) H'):kgi d vs H Q E_
theorem klV{pr:List Int}{is:List Nat}{ms:List Int}(hs:is.Pairwise (· < ·))(hp:ms.Perm (is.map fun(i:Nat)=>(i:Int)))(hk:ms.Pairwise fun a b=> -(pr.getD a.toNat 0)< -(pr.getD b.toNat 0)∨(-(pr.getD a.toNat 0)= -(pr.getD b.toNat 0)∧a<b)):ms.map V.int=(fallP pr is).map iV:=by
 have e:ms=(ms.map Int.toNat).map fun(i:Nat)=>(i:Int):=by
  rw[NM]
  conv=>lhs;rw[←List.map_id ms]
  refine Me fun z hz=>?_
  obtain⟨i,_,rfl⟩:=NJ.mp (hp.mem_iff.mp hz)
  simp
 have hp2:(ms.map Int.toNat).Perm is:=by
  have:=hp.map Int.toNat
  rw[NM] at this
  have e2:is.map (Int.toNat∘fun(i:Nat)=>(i:Int))=is:=by
   conv=>rhs;rw[←List.map_id is]
   exact Me fun i _=>rfl
  rwa [e2] at this
 have hk2:(ms.map Int.toNat).Pairwise (befP pr):=by
  rw[EY]
  refine hk.imp_of_mem fun {a b} ha hb h=>?_
  obtain⟨i,_,rfl⟩:=NJ.mp (hp.mem_iff.mp ha)
  obtain⟨j,_,rfl⟩:=NJ.mp (hp.mem_iff.mp hb)
  unfold befP
  simp only[Int.toNat_natCast] at h⊢
  omega
 rw[e,kis hs hp2 hk2,NM]
 rfl
theorem VT:kap ["standing","pieces","many","falling"] ["standing","pieces","many"] (kah kaG):=⟨rfl,rfl,rfl,by decide +kernel,rfl,by decide +kernel,by decide +kernel⟩
theorem kdX(W:WB K mg d base):FnOk P w K mg base CX0 1 d.YJ d.Xx ["standing","pieces","many"] (kgi d):=by
 refine FunD.okC W.qV.F VT (fun vs H Q E h=>?_) (fun A outer s H vs Q E hr h=>?_)
 ·obtain⟨x,pa,S,is,m,rfl,_⟩:=h
  rfl
 ·obtain⟨x,pa,S,is,m,rfl,hS,hpa,hs,hi,h64,hm2,hm20,htb,k⟩:=h
  obtain⟨o,p,mk,⟨dxs,fss,hx,l1,l2,l3,l4,l5⟩,ho,hp,hmk⟩:=id hS
  refine⟨_,kac (kas (i:=3) VT.nd rfl (Or.inr rfl) (kij (N:=["piece","standing"]) (cap:=[some 0]) (pv 1) ⟨CompScope.of (N:=["piece","standing"]) (cap:=[none,some 0]) (kah kaG).names ["standing","pieces","many","falling"] rfl rfl (by decide +kernel),rfl,rfl,rfl,rfl,by decide +kernel⟩ rfl hr.depth W.code_falling_groups W.ck_falling_groups W.blt (by rfl) W.B.sorted (fun _ _ _ _ _=>rfl) (fun _ _ _ _ _=>(pe_un kkU (pe_ix (r:=rIxL K) kaD (kag (K:=K) (pv 1) rfl) (pv 0) (fun _ _=>rfl)))) (by rfl)))
   (kai (kaq (kbp (N:=["start","falling","many"]) (CompScope.of (N:=["start","falling","many"]) (cap:=[none,some 3,some 2]) (kah kaG).names ["standing","pieces","many","falling"] rfl rfl (by decide +kernel)) rfl (kii rfl W.B.range (kaa kaf (kaa (pe_op kaB (pe_op kdd (kay (r:=kbm K) kaF (by rfl) W.B.len b_len (kaa (pv 3) kae)) (pv 2)) kaf) (kaa (pv 2) kae)))) (fun _ _ _ _=>kar (i:=0) (show(["start","falling","many"]:List Str).Nodup by decide +kernel) rfl (Or.inl rfl)) (fun _ _ _ _=>(kc6 (r:=rSlL K) kdM (pv 1) (kcQ (pv 0)) (kcQ (pe_op kaB (pv 0) (pv 2)))))))),?_⟩
  have htb':TbAt d.tP_falling_groups H:=htb
  obtain⟨qs0,eT,_⟩:=id htb'
  have npT:∀{b:Addr} {u:HO},H b=some u→(∀ps,u≠.tbl ps)→b≠d.tP_falling_groups:=fun {b u} e hn z=>by
   rw[z,eT] at e
   cases e
   exact hn _ rfl
  have ei:is.map iV=(is.map fun(i:Nat)=>(i:Int)).map V.int:=by rw[NM];rfl
  refine⟨_,rfl,pa,is.map fun(i:Nat)=>(i:Int),fun a=> -(S.pr.getD a.toNat 0),rfl,SqL.of (by rw[←ei];exact hpa),by rw[Nh];exact h64,?_,htb',npT hpa (fun ps z=>by cases z),fun H2 G n hn=>?_,fun H2 l ms G f1 f2 hpm hpw=>?_⟩
  ·rw[EY]
   exact hs.imp fun {a b} h=>by omega
  ·obtain⟨i,hin,rfl⟩:=NJ.mp hn
   obtain⟨z,ez⟩:=at_of (hi i hin)
   have hx2:=G.kp _ _ (npT hx (fun ps z=>by cases z)) hx
   have hp2:=G.kp _ _ (npT hp (fun ps z=>by cases z)) hp
   refine⟨_,rfl,x,d.qe,dxs,fss,_,rfl,hx2,W.qe.cl,W.qC,l2,_,rfl,p,_,_,_,rfl,rfl,SqL.of hp2,ka1 (v:=.int z) (by rw[Nv,ez];rfl),_,rfl,?_,rfl⟩
   show V.int (-z)=V.int (-(S.pr.getD ((i:Int)).toNat 0))
   rw[Int.toNat_natCast,NH,ez]
   rfl
  have s2:=G.same htb'
  rw[klV hs hpm hpw]
  have lf:(fallP S.pr is).length=is.length:=(kbG S.pr is).length_eq
  have s3:=s2.trans (kak (o:=.lst ((fallP S.pr is).map iV)) f2)
  have el:(upd H2 l (.lst ((fallP S.pr is).map iV))) l=some (.lst ((fallP S.pr is).map iV)):=kad
  generalize upd H2 l (.lst ((fallP S.pr is).map iV))=H3 at *
  have ecnt:(Builtin.Range.rangeSize 0 ((((fallP S.pr is).map iV).length:Int)-(m:Int)+1) (m:Int)).toNat=(fallP S.pr is).length/m:=by
   rw[Nh]
   exact kgZ (by omega)
  have lg:=khi m (fallP S.pr is)
  refine⟨_,rfl,l,_,rfl, .inl (SqL.of el),_,rfl,_,_,rfl,rfl,_,_,rfl,rfl,_,rfl,0,_,_,rfl,by omega,?_,by omega,by omega,?_⟩
  ·rw[Nh]
   omega
  rw[ecnt]
  refine kj2 (n:=(fallP S.pr is).length/m) (fun i σ ys H'=>Same H3 H'∧(∃v0:Option V,σ=[v0,some (.ref l),some (.int m)])∧∃gl,ys=gl.map V.ref∧P2 (fun r g=>H' r=some (.lst (g.map iV))) gl ((grp m (fallP S.pr is)).take i)∧∀r∈gl,H r=none)
   ⟨Same.refl _,⟨none,rfl⟩,[],rfl, .nil,fun r hr=>by simp at hr⟩ ?_ ?_ ?_ ?_
  ·have:(grp m (fallP S.pr is)).length=(fallP S.pr is).length/m:=by simp[grp]
   exact Nw (kao (by omega))
  ·rintro i σ ys H' hi' ⟨_,_,gl,rfl,hP,_⟩
   rw[Nh,hP.len,Ny]
   have:(grp m (fallP S.pr is)).length=(fallP S.pr is).length/m:=by simp[grp]
   omega
  ·rintro i σ ys H' hi' ⟨s4,⟨v0,rfl⟩,gl,rfl,hP,hfr⟩
   have eg:(grp m (fallP S.pr is))[i]?=some (((fallP S.pr is).drop (i*m)).take m):=by
    unfold grp
    rw[Nv,Eb hi']
    rfl
   have ecut:cutV ((fallP S.pr is).map iV) (some (0+(i:Int)*(m:Int))) (some (0+(i:Int)*(m:Int)+(m:Int)))=(((fallP S.pr is).drop (i*m)).take m).map iV:=by
    have:=kl3 ((fallP S.pr is).map iV) (i*m) m
    rw[show(0:Int)+(i:Int)*(m:Int)=((i*m:Nat):Int) by rw[Int.zero_add,Int.natCast_mul],show((i*m:Nat):Int)+(m:Int)=((i*m+m:Nat):Int) by rw[Int.natCast_add],this,MH,Ec]
   refine⟨_,rfl,_,rfl,_,rfl,_,rfl,_,rfl,_,_,rfl,rfl,_,rfl,l,_,rfl,SqL.of (s4 _ _ el),fun r hr=>?_⟩
   refine⟨s4.trans (kak hr),⟨_,rfl⟩,gl++[r],by rw[Np];rfl,?_,fun r' hr'=>?_⟩
   ·rw[kbt eg,ecut]
    exact P2.snoc (hP.mono fun r' g e=>kak hr _ _ e) kad
   ·rcases NU.mp hr' with h|h
    ·exact hfr r' h
    ·rw[Mw] at h
     rw[h]
     exact(s3.trans s4).free hr
  ·rintro σ ys H' ⟨s4,⟨v0,rfl⟩,gl,rfl,hP,hfr⟩ D hD
   have el2:(grp m (fallP S.pr is)).length=(fallP S.pr is).length/m:=by simp[grp]
   rw[Mf (by omega)] at hP
   exact k _ D gl ((s3.trans s4).trans (kak hD)) ((s3.trans s4).free hD) kad (hP.mono fun r g e=>kak hD _ _ e) hfr
theorem Xn:kap ["voucher","standing","pieces","groups","lasts"] ["voucher","standing","pieces"] (kah kbf):=⟨rfl,rfl,rfl,by decide +kernel,rfl,by decide +kernel,by decide +kernel⟩
theorem ke9(W:WB K mg d base):FnOk P w K mg base CX0 3 d.YF d.YG ["voucher","standing","pieces"] (khv d):=by
 refine FunD.ok W.QT.F Xn (fun vs H Q E h=>?_) (fun cdv A outer s H vs Q E hr h=>?_)
 ·obtain⟨v,x,pa,V,ps,B,S,rfl,_⟩:=h
  rfl
 ·obtain⟨v,x,pa,⟨so,ms⟩,ps,B,S,rfl,⟨mA,dxv,fsv,hv,lvm,hso,hM,hh,htb⟩,hS,hpa,wf,vo,k⟩:=h
  have QC:=kcB (P:=P) (w:=w) (base:=base) W
  have UF:=kdW (P:=P) (w:=w) (base:=base) W
  have VU:=kdX (P:=P) (w:=w) (base:=base) W
  have hr1:Room 1 _:=hr.mono (by decide)
  refine⟨_,kac (ps_if (kbg (kay (r:=rIsi K) kb7 (by rfl) W.B.isi b_isi (kaa (pv 0) (kaa (kdT (v:=.ref d.c_Off) (by rfl) W.g_Off rfl) kae)))) (kai (kaq (kaL (kaa (kca (kaa (kay (ke1 rfl) (by rfl) W.B.min b_min (kaa (kag (K:=K) (pv 0) rfl) (kaa (kan QC hr rfl W.qr.m W.qr.F.kp W.qr.b .nil pass0 (kaa (pv 1) (kaa (pv 2) kae))) kae))) (kaa (pv 2) kae))) kae)))) (kaw))
   (kac (ps_if (kbg (kay (r:=rIsi K) kb7 (by rfl) W.B.isi b_isi (kaa (pv 0) (kaa (kdT (v:=.ref d.ql) (by rfl) W.V8 rfl) kae)))) (kac (kas (i:=3) Xn.nd rfl (Or.inl rfl) (kmi (khS (kbg (kag (K:=K) (pv 0) rfl)) (kan UF hr1 rfl W.QU.m W.QU.F.kp W.QU.b .nil pass0 (kaa (pv 1) (kaa (pv 2) kae))) (kaL (kaa (pv 2) kae)))))
   (kai (kaq (kbp (N:=["group","standing","voucher"]) (CompScope.of (N:=["group","standing","voucher"]) (cap:=[none,some 1,some 0]) (kah kbf).names ["voucher","standing","pieces","groups","lasts"] rfl rfl (by decide +kernel)) rfl (kaJ (K:=K) (pv 3)) (fun _ _ _ _=>kar (i:=0) (show(["group","standing","voucher"]:List Str).Nodup by decide +kernel) rfl (Or.inl rfl)) (fun _ _ _ _=>(kca (kaa (pe_op kdU (pe_op kcb (kan QC hr rfl W.qr.m W.qr.F.kp W.qr.b .nil pass0 (kaa (pv 1) (kaa (pv 0) kae))) (kag (K:=K) (pv 2) rfl)) kaf) (kaa (pv 0) kae)))))))) (kaw))
   (kac (ps_if (kbg (kay (r:=rIsi K) kb7 (by rfl) W.B.isi b_isi (kaa (pv 0) (kaa (kdT (v:=.ref d.qo) (by rfl) W.V9 rfl) kae)))) (kac (kdS (N:=["group"]) (CompScope.plain rfl (by decide +kernel) (by decide +kernel) (by decide +kernel) (nd1 _)) rfl (kaJ (K:=K) (kan VU hr1 rfl W.qV.m W.qV.F.kp W.qV.b .nil pass0 (kaa (pv 1) (kaa (pv 2) (kaa (kag (K:=K) (pv 0) rfl) kae))))) (fun _ _ _ _=>kar (i:=0) (nd1 _) rfl (Or.inl rfl)) (fun _ _ _ _=>(pe_ix (r:=rIxL K) kaD (pv 0) (pe_un kkU kaf) (fun _ _=>rfl))) (kar (i:=4) Xn.nd rfl (Or.inl rfl)))
   (kai (kaq (kbp (N:=["last","standing"]) (CompScope.of (N:=["last","standing"]) (cap:=[none,some 1]) (kah kbf).names ["voucher","standing","pieces","groups","lasts"] rfl rfl (by decide +kernel)) rfl (kaJ (K:=K) (pv 4)) (fun _ _ _ _=>kar (i:=0) (show(["last","standing"]:List Str).Nodup by decide +kernel) rfl (Or.inl rfl)) (fun _ _ _ _=>(kca (kaa (pe_ix (r:=rIxL K) kaD (kag (K:=K) (pv 1) rfl) (pv 0) (fun _ _=>rfl)) (kaa (kaL (kaa (pv 0) kae)) kae)))))))) (kaw))
   (kac (ps_if (kbg (kay (r:=rIsi K) kb7 (by rfl) W.B.isi b_isi (kaa (pv 0) (kaa (kdT (v:=.ref d.qm) (by rfl) W.Ua rfl) kae)))) (kac (kas (i:=3) Xn.nd rfl (Or.inl rfl) (kan VU hr1 rfl W.qV.m W.qV.F.kp W.qV.b .nil pass0 (kaa (pv 1) (kaa (pv 2) (kaa (kag (K:=K) (pv 0) rfl) kae)))))
   (kai (kaq (kbp (N:=["group","standing","voucher"]) (CompScope.of (N:=["group","standing","voucher"]) (cap:=[none,some 1,some 0]) (kah kbf).names ["voucher","standing","pieces","groups","lasts"] rfl rfl (by decide +kernel)) rfl (kaJ (K:=K) (pv 3)) (fun _ _ _ _=>kar (i:=0) (show(["group","standing","voucher"]:List Str).Nodup by decide +kernel) rfl (Or.inl rfl)) (fun _ _ _ _=>(kca (kaa (kay (ke2 rfl) (by rfl) W.B.max b_max (kaa (pe_op kdd (kan QC hr rfl W.qr.m W.qr.F.kp W.qr.b .nil pass0 (kaa (pv 1) (kaa (pv 0) kae))) (kag (K:=K) (pv 2) rfl)) (kaa kaf kae))) (kaa (pv 0) kae)))))))) (kaw))
   (kai (kaq (kaL kae)))))),?_⟩
  have I:=kli W hh
  try refine sN fun _ Y4=>?_
  refine⟨_,rfl,_,_,_,_,rfl, .inr ⟨_,rfl⟩,TyOf.ins hv (cl_of W hh) I.ha I.hn I.ht I.hm,klU W hh,_,rfl,?_⟩
  have lp:=wf.lp
  have np:=wf.np
  have habl:∀i∈abt ps (kds B) ms.kind ms.lone S,i<S.pr.length:=fun i hi=>by rw[lp];exact kid hi
  have habo:∀i∈abt ps (kds B) ms.kind ms.lone S,i<S.ow.length:=fun i hi=>kid hi
  have hand:=kgR ps (kds B) ms.kind ms.lone S
  have lab:(abt ps (kds B) ms.kind ms.lone S).length≤720:=Nm (ke6 _ _ _ _ _) np
  cases so with
  | off am=>
   have qn:=kbq (qs_nn wf.nn (abt ps (kds B) ms.kind ms.lone S))
   have ha:0≤am∧am≤1000000000000:=vo.so
   refine iteT ?_
   try apply Y4
   try refine sN fun _ Y6=>?_
   refine⟨_,rfl,v,d.c_Off,dxv,fsv,_,rfl,hv,W.c_Off.cl,W.VD,hso,_,rfl,_,rfl,x,pa,S,_,rfl,hS,hpa,habl,lab,fun H1 s1=>?_⟩
   try first|apply Y6|apply Y4
   try refine sN fun _ Y6=>?_
   refine⟨_,_,rfl,_,rfl,(by show 2≤sizeLine;decide),fun t ht=>⟨(by show 1≤sizeLine;decide),fun l hl=>?_⟩⟩
   have emin:(if(qs S.pr (abt ps (kds B) ms.kind ms.lone S)).sum<am then(qs S.pr (abt ps (kds B) ms.kind ms.lone S)).sum else am)=min am (qs S.pr (abt ps (kds B) ms.kind ms.lone S)).sum:=by
    split <;> omega
   rw[emin] at hl⊢
   have s2:=s1.trans (kak (o:=.tup [.int (min am (qs S.pr (abt ps (kds B) ms.kind ms.lone S)).sum), .ref pa]) ht)
   have s3:=s2.trans (kak (o:=.lst [.ref t]) hl)
   try first|apply Y6|apply Y4
   refine k _ l [t] [(min am (qs S.pr (abt ps (kds B) ms.kind ms.lone S)).sum,abt ps (kds B) ms.kind ms.lone S)] s3 (none_of s2 hl) kad (.cons ⟨pa,kak hl _ _ kad,s3 _ _ hpa, .inl rfl⟩ .nil) ?_ ?_ ?_ (by simp) ?_
   ·intro c g hc
    rw[Mw] at hc
    cases hc
    try first|apply Y6|apply Y4
    exact⟨by omega,by omega,lab⟩
   ·simpa using hand
   ·simpa using habl
   ·simp[want]
  | share sh bl=>
   have hsh:1≤sh∧sh≤1000:=vo.so
   refine iteF ?_
   try apply Y4
   try refine sN fun _ Y6=>?_
   refine⟨_,rfl,_,_,_,_,rfl, .inr ⟨_,rfl⟩,TyOf.ins hv (cl_of W hh) I.ha I.hn I.ht I.hm,kdF W hh,_,rfl,iteT ?_⟩
   try first|apply Y6|apply Y4
   try refine sN fun _ Y6=>?_
   refine⟨fun gv H1=>∃(gp:Addr) (gl:List Addr) (gs:List (List Nat)),gv=.ref gp∧Same H H1∧H gp=none∧H1 gp=some (.lst (gl.map V.ref))∧P2 (fun r g=>H1 r=some (.lst (g.map iV))) gl gs∧(∀r∈gl,r=pa∨H r=none)∧gs.length≤720∧(∀g∈gs,g.length≤720)∧gs.flatten.Nodup∧(∀i∈gs.flatten,i<S.pr.length)∧
    spr S.pr.length gs.flatten (gs.map fun g=>dl ((qs S.pr g).sum*sh/1000) (qs S.pr g)).flatten=spr S.pr.length (abt ps (kds B) ms.kind ms.lone S) (want (.share sh bl) S.mkd.length ((abt ps (kds B) ms.kind ms.lone S).map fun i=>S.ow.getD i 0) (qs S.pr (abt ps (kds B) ms.kind ms.lone S))),?_,?_⟩
   ·refine⟨_,rfl,v,d.ql,dxv,fsv,_,rfl,hv,W.ql.cl,W.VG,hso.2,bl,rfl,?_⟩
    cases bl with
    | true=>
     refine iteT ?_
     try first|apply Y6|apply Y4
     try refine sN fun _ Y10=>?_
     refine⟨_,rfl,_,rfl,x,pa,S,_,rfl,hS,hpa,habo,lab,fun H1 p gl s1 f1 h1 hP hg=>⟨p,gl,_,rfl,s1,f1,h1,hP,fun r hr=>.inr (hg r hr),?_,?_,?_,?_,?_⟩⟩
     ·rw[Nh]
      try first|apply Y10|apply Y6|apply Y4
      exact Nm (kfg _ _) lab
     ·intro g hg'
      rw[(kcR (fun i=>S.ow.getD i 0) (abt ps (kds B) ms.kind ms.lone S)).snds] at hg'
      obtain⟨l,_,rfl⟩:=NJ.mp hg'
      try first|apply Y10|apply Y6|apply Y4
      exact Nm (MW _ _) lab
     ·have ok:=kcR (fun i=>S.ow.getD i 0) (abt ps (kds B) ms.kind ms.lone S)
      rw[ok.snds]
      try first|apply Y10|apply Y6|apply Y4
      exact keH (f:=fun i=>S.ow.getD i 0) hand ok.nd
     ·intro i hi
      rw[(kcR (fun i=>S.ow.getD i 0) (abt ps (kds B) ms.kind ms.lone S)).snds] at hi
      obtain⟨g,hg',hi'⟩:=MB.mp hi
      obtain⟨l,_,rfl⟩:=NJ.mp hg'
      try first|apply Y10|apply Y6|apply Y4
      exact habl i (Mc.mp hi').1
     ·refine kil (fun z=>z*sh/1000) hand fun i hi=>?_
      obtain⟨ln,eln⟩:=at_of (habo i hi)
      rw[NH,eln,wf.lm]
      try first|apply Y10|apply Y6|apply Y4
      exact wf.line eln
    |false=>
     refine iteF ?_
     try first|apply Y6|apply Y4
     try refine sN fun _ Y10=>?_
     refine⟨_,rfl,(by show 1≤sizeLine;decide),fun p hp=>⟨p,[pa],[abt ps (kds B) ms.kind ms.lone S],rfl,kak hp,hp,kad, .cons (kak hp _ _ hpa) .nil,fun r hr=>.inl (by simpa using hr),by simp,fun g hg=>?_,by simpa using hand,by simpa using habl,by simp[want]⟩⟩
     rw[Mw] at hg
     rw[hg]
     try first|apply Y10|apply Y6|apply Y4
     exact lab
   rintro gv H1 ⟨gp,gl,gs,rfl,s1,f1,h1,hP,hor,lgs,lg,gnd,glt,gsp⟩
   have lgl:=hP.len
   have gok:∀g∈gs,∀i∈g,i<S.pr.length:=fun g hg i hi=>glt i (MB.mpr ⟨g,hg,hi⟩)
   try first|apply Y6|apply Y4
   try refine sN fun _ Y6=>?_
   refine⟨_,rfl,gp,rfl,⟨_,SqL.of h1⟩,kaZ (xs:=gl.map V.ref) (fun i σ ys H'=>Same H1 H'∧(∃v0:Option V,σ=[v0,some (.ref x),some (.ref v)])∧∃tl,ys=tl.map V.ref∧P2 (GrpAt H H' pa) tl ((gs.take i).map fun g=>((qs S.pr g).sum*sh/1000,g)))
    ⟨Same.refl _,⟨none,rfl⟩,[],rfl, .nil⟩ (by rw[Nh];exact Nw (kao (by omega))) ?_ ?_ ?_⟩
   ·rintro i σ ys H2 hi ⟨s2,_,tl,rfl,hT⟩
    try first|apply Y6|apply Y4
    try refine sN fun _ Y8=>?_
    refine⟨SqL.of (s2 _ _ h1),?_⟩
    rw[Nh,hT.len,Nh,Ny]
    rw[Nh] at hi
    omega
   ·rintro i y σ ys H2 hy ⟨s2,⟨v0,rfl⟩,tl,rfl,hT⟩
    obtain⟨r,er,rfl⟩:=kbJ hy
    obtain⟨g,eg,hr⟩:=hP.at er
    have s12:=s1.trans s2
    have hg:=Nt eg
    have sn:=kbq (qs_nn wf.nn g)
    have sl:=kje wf (lg g hg) (gok g hg)
    try first|apply Y8|apply Y6|apply Y4
    try refine sN fun _ Y8=>?_
    refine⟨_,rfl,_,rfl,x,r,S,g,rfl,hS.same s12,s2 _ _ hr,gok g hg,lg g hg,fun H3 s3=>?_⟩
    have s13:=s12.trans s3
    try first|apply Y8|apply Y6|apply Y4
    try refine sN fun _ Y8=>?_
    refine⟨_,rfl,v,d.ql,dxv,fsv,_,rfl,s13 _ _ hv,W.ql.cl,W.VF,hso.1,_,_,rfl,rfl, .inl ⟨by omega,by omega⟩,_,_,rfl,rfl,⟨by decide,by decide⟩,_,rfl,(by show 2≤sizeLine;decide),fun t ht=>?_⟩
    have s4:=kak (o:=.tup [.int ((qs S.pr g).sum*sh/1000), .ref r]) ht
    try first|apply Y8|apply Y6|apply Y4
    try refine sN fun _ Y8=>?_
    refine⟨(s2.trans s3).trans s4,⟨_,rfl⟩,tl++[t],by rw[Np];rfl,?_⟩
    rw[kbt eg,Np]
    try first|apply Y8|apply Y6|apply Y4
    refine P2.snoc (hT.mono fun t' q ⟨ga,a1,a2,a3⟩=>⟨ga,(s3.trans s4) _ _ a1,(s3.trans s4) _ _ a2,a3⟩) ⟨r,kad,((s2.trans s3).trans s4) _ _ hr,hor r (Nt er)⟩
   ·rintro σ ys H2 ⟨s2,⟨v0,rfl⟩,tl,rfl,hT⟩ D hD
    rw[Nh,lgl,NS] at hT
    have s3:=kak (o:=.lst (tl.map V.ref)) hD
    have e1:(gs.map fun g=>((qs S.pr g).sum*sh/1000,g)).map Prod.snd=gs:=by
     rw[NM]
     try first|apply Y8|apply Y6|apply Y4
     exact List.map_id' gs
    try first|apply Y8|apply Y6|apply Y4
    refine k _ D tl _ ((s1.trans s2).trans s3) (none_of (s1.trans s2) hD) kad (hT.mono fun t' q ⟨ga,a1,a2,a3⟩=>⟨ga,s3 _ _ a1,s3 _ _ a2,a3⟩) ?_ (by rw[e1];exact gnd) (by rw[e1];exact glt) (by rw[Nh];exact lgs) ?_
    ·intro c g hc
     obtain⟨g',hg',e⟩:=NJ.mp hc
     cases e
     have sn:=kbq (qs_nn wf.nn g)
     have:=kfA sn hsh.1 hsh.2
     try first|apply Y8|apply Y6|apply Y4
     exact⟨this.1,this.2,lg g hg'⟩
    ·rw[e1,NM]
     try first|apply Y8|apply Y6|apply Y4
     exact gsp
  | cheap n=>
   have hn:2≤n∧n≤20:=vo.so
   obtain⟨m,rfl⟩:∃m:Nat,n=m:=⟨n.toNat,by omega⟩
   refine iteF ?_
   try apply Y4
   refine⟨_,rfl,_,_,_,_,rfl, .inr ⟨_,rfl⟩,TyOf.ins hv (cl_of W hh) I.ha I.hn I.ht I.hm,kdF W hh,_,rfl,iteF ⟨_,rfl,_,_,_,_,rfl, .inr ⟨_,rfl⟩,TyOf.ins hv (cl_of W hh) I.ha I.hn I.ht I.hm,kcZ W hh,_,rfl,iteT ?_⟩⟩
   have hpw:(abt ps (kds B) ms.kind ms.lone S).Pairwise (· < ·):=MT.filter _ EU
   have l64:(abt ps (kds B) ms.kind ms.lone S).length<64:=Mt (ke6 _ _ _ _ _) wf.n64
   try apply Y4
   try refine sN fun _ Y6=>?_
   refine⟨_,rfl,_,rfl,_,rfl,v,d.qo,dxv,fsv,_,rfl,hv,W.qo.cl,W.VI,hso,x,pa,S,_,m,rfl,hS,hpa,hpw,habl,l64,by omega,by omega,htb,fun H1 gp gl s1 f1 h1 hP0 hg=>?_⟩
   have hP:P2 (fun r g=>H1 r=some (.lst (g.map iV))) gl (grp m (fallP S.pr (abt ps (kds B) ms.kind ms.lone S))):=hP0
   clear hP0
   have lgl:=hP.len
   have lG:=khi m (fallP S.pr (abt ps (kds B) ms.kind ms.lone S))
   have lf:(fallP S.pr (abt ps (kds B) ms.kind ms.lone S)).length=(abt ps (kds B) ms.kind ms.lone S).length:=(kbG _ _).length_eq
   have hgr:∀{i:Nat} {g:List Nat},(grp m (fallP S.pr (abt ps (kds B) ms.kind ms.lone S)))[i]?=some g→0<g.length∧g[g.length-1]?=some (g.getLastD 0)∧g.getLastD 0∈abt ps (kds B) ms.kind ms.lone S:=fun {i g} eg=>by
    obtain⟨h1,h2,h3⟩:=kh6 eg
    have h4:=khf (by omega) eg
    try first|apply Y6|apply Y4
    try refine sN fun _ Y8=>?_
    refine⟨by omega,?_,(kbG _ _).mem_iff.mp (Nt h4)⟩
    rw[h2,h3 _ (by omega)]
    try first|apply Y8|apply Y6|apply Y4
    exact h4
   have hla:∀a∈lasts (grp m (fallP S.pr (abt ps (kds B) ms.kind ms.lone S))),a∈abt ps (kds B) ms.kind ms.lone S:=fun a ha=>by
    obtain⟨g,hg',rfl⟩:=NJ.mp ha
    obtain⟨j,hj⟩:=Mr.mp hg'
    try first|apply Y6|apply Y4
    exact(hgr hj).2.2
   try first|apply Y6|apply Y4
   try refine sN fun _ Y6=>?_
   refine⟨gp,rfl,⟨_,SqL.of h1⟩,kaZ (xs:=gl.map V.ref) (fun i σ ys H'=>Same H1 H'∧(∃v0:Option V,σ=[v0])∧ys=((lasts (grp m (fallP S.pr (abt ps (kds B) ms.kind ms.lone S)))).take i).map iV)
    ⟨Same.refl _,⟨none,rfl⟩,rfl⟩ (by rw[Nh];exact Nw (kao (by omega))) ?_ ?_ ?_⟩
   ·rintro i σ ys H2 hi ⟨s2,_,rfl⟩
    try first|apply Y6|apply Y4
    try refine sN fun _ Y8=>?_
    refine⟨SqL.of (s2 _ _ h1),?_⟩
    rw[Nh,Ny,kdD]
    rw[Nh] at hi
    omega
   ·rintro i y σ ys H2 hy ⟨s2,⟨v0,rfl⟩,rfl⟩
    obtain⟨r,er,rfl⟩:=kbJ hy
    obtain⟨g,eg,hr⟩:=hP.at er
    obtain⟨g0,g1,g2⟩:=hgr eg
    have al:atI (g.map iV) (-1)=some (iV (g.getLastD 0)):=kj9 (by rw[Nh,Nv,g1];rfl) (by rw[Nh];exact g0)
    try first|apply Y8|apply Y6|apply Y4
    try refine sN fun _ Y8=>?_
    refine⟨_,rfl,1,rfl,r,_,_,_,rfl,rfl,SqL.of (s2 _ _ hr),al,s2,⟨_,rfl⟩,?_⟩
    rw[kbt (r:=g.getLastD 0) (by unfold lasts;rw[Nv,eg];rfl),Np]
    rfl
   rintro σ ys H2 ⟨s2,⟨v0,rfl⟩,rfl⟩ D hD
   rw[Nh,lgl,Mf (by rw[kdD];exact Nj _)]
   have s3:=s2.trans (kak (o:=.lst ((lasts (grp m (fallP S.pr (abt ps (kds B) ms.kind ms.lone S)))).map iV)) hD)
   have fD:H D=none:=none_of (s1.trans s2) hD
   have eD:(upd H2 D (.lst ((lasts (grp m (fallP S.pr (abt ps (kds B) ms.kind ms.lone S)))).map iV))) D=some (.lst ((lasts (grp m (fallP S.pr (abt ps (kds B) ms.kind ms.lone S)))).map iV)):=kad
   generalize upd H2 D (.lst ((lasts (grp m (fallP S.pr (abt ps (kds B) ms.kind ms.lone S)))).map iV))=H3 at *
   obtain⟨o,p,mk,⟨dxs,fss,hx,l1,l2,l3,l4,l5⟩,ho,hp,hmk⟩:=id hS
   have s13:=s1.trans s3
   have lL:=kdD (grp m (fallP S.pr (abt ps (kds B) ms.kind ms.lone S)))
   try first|apply Y6|apply Y4
   try refine sN fun _ Y6=>?_
   refine⟨_,rfl,D,rfl,⟨_,SqL.of eD⟩,kaZ (xs:=(lasts (grp m (fallP S.pr (abt ps (kds B) ms.kind ms.lone S)))).map iV) (fun i σ ys H'=>Same H3 H'∧(∃v0:Option V,σ=[v0,some (.ref x)])∧∃tl,ys=tl.map V.ref∧P2 (GrpAt H H' pa) tl (((lasts (grp m (fallP S.pr (abt ps (kds B) ms.kind ms.lone S)))).take i).map fun a=>(S.pr.getD a 0,[a])))
    ⟨Same.refl _,⟨none,rfl⟩,[],rfl, .nil⟩ (by rw[Nh];exact Nw (kao (by omega))) ?_ ?_ ?_⟩
   ·rintro i σ ys H4 hi ⟨s4,_,tl,rfl,hT⟩
    try first|apply Y6|apply Y4
    try refine sN fun _ Y8=>?_
    refine⟨SqL.of (s4 _ _ eD),?_⟩
    rw[Nh,hT.len,Nh,Ny]
    rw[Nh] at hi
    omega
   ·rintro i y σ ys H4 hy ⟨s4,⟨v0,rfl⟩,tl,rfl,hT⟩
    obtain⟨a,ea,rfl⟩:=kbL hy
    have ha:=hla a (Nt ea)
    obtain⟨z,ez⟩:=at_of (habl a ha)
    have ez':S.pr.getD a 0=z:=by rw[NH,ez];rfl
    have s14:=s13.trans s4
    try first|apply Y8|apply Y6|apply Y4
    try refine sN fun _ Y8=>?_
    refine⟨_,rfl,x,d.qe,dxs,fss,_,rfl,s14 _ _ hx,W.qe.cl,W.qC,l2,_,rfl,p,_,_,_,rfl,rfl,SqL.of (s14 _ _ hp),ka1 (v:=.int z) (by rw[Nv,ez];rfl),_,rfl,(by show 1≤sizeLine;decide),fun q hq=>⟨(by show 2≤sizeLine;decide),fun t ht=>?_⟩⟩
    have s5:=(kak (o:=.lst [iV a]) hq).trans (kak (o:=.tup [.int z, .ref q]) ht)
    try first|apply Y8|apply Y6|apply Y4
    try refine sN fun _ Y8=>?_
    refine⟨s4.trans s5,⟨_,rfl⟩,tl++[t],by rw[Np];rfl,?_⟩
    rw[kbt ea,Np]
    try first|apply Y8|apply Y6|apply Y4
    exact P2.snoc (hT.mono fun t' q' ⟨ga,a1,a2,a3⟩=>⟨ga,s5 _ _ a1,s5 _ _ a2,a3⟩) ⟨q,by show upd _ _ _ _=some (.tup [.int (S.pr.getD a 0), .ref q]);rw[ez'];exact kad,kak ht _ _ kad, .inr (none_of s14 hq)⟩
   ·rintro σ ys H4 ⟨s4,⟨v0,rfl⟩,tl,rfl,hT⟩ D2 hD2
    rw[Nh,NS] at hT
    have s5:=kak (o:=.lst (tl.map V.ref)) hD2
    have e1:((lasts (grp m (fallP S.pr (abt ps (kds B) ms.kind ms.lone S)))).map fun a=>(S.pr.getD a 0,[a])).map Prod.snd=(lasts (grp m (fallP S.pr (abt ps (kds B) ms.kind ms.lone S)))).map fun a=>[a]:=by
     rw[NM]
     rfl
    have e2:=ki4 (fun i=>S.pr.getD i 0) (lasts (grp m (fallP S.pr (abt ps (kds B) ms.kind ms.lone S))))
    try first|apply Y8|apply Y6|apply Y4
    refine k _ D2 tl _ ((s13.trans s4).trans s5) (none_of (s13.trans s4) hD2) kad (hT.mono fun t' q ⟨ga,a1,a2,a3⟩=>⟨ga,s5 _ _ a1,s5 _ _ a2,a3⟩) ?_ (by rw[e1,e2.1];exact khe (by omega) (keZ hand)) (by rw[e1,e2.1];exact fun i hi=>habl i (hla i hi)) (by rw[Nh];omega) ?_
    ·intro c g hc
     obtain⟨a,ha,e⟩:=NJ.mp hc
     cases e
     have q0:(qs S.pr [a]).sum=S.pr.getD a 0:=by simp[qs]
     have q1:=kbq (qs_nn wf.nn [a])
     rw[q0] at q1⊢
     try first|apply Y8|apply Y6|apply Y4
     exact⟨q1,Int.le_refl _,by simp⟩
    ·rw[e1,e2.1,NM]
     have e3:(lasts (grp m (fallP S.pr (abt ps (kds B) ms.kind ms.lone S)))).map ((fun p=>dl p.1 (qs S.pr p.2))∘fun a=>(S.pr.getD a 0,[a]))=(lasts (grp m (fallP S.pr (abt ps (kds B) ms.kind ms.lone S)))).map fun a=>[S.pr.getD a 0]:=
      Me fun a _=>kmx _
     rw[e3,e2.2]
     try first|apply Y8|apply Y6|apply Y4
     exact(kj5 (by omega) hand).symm
  | bund n pc=>
   have hn:2≤n∧n≤20∧0≤pc∧pc≤1000000000000:=vo.so
   obtain⟨m,rfl⟩:∃m:Nat,n=m:=⟨n.toNat,by omega⟩
   refine iteF ?_
   try apply Y4
   refine⟨_,rfl,_,_,_,_,rfl, .inr ⟨_,rfl⟩,TyOf.ins hv (cl_of W hh) I.ha I.hn I.ht I.hm,kdF W hh,_,rfl,iteF ⟨_,rfl,_,_,_,_,rfl, .inr ⟨_,rfl⟩,TyOf.ins hv (cl_of W hh) I.ha I.hn I.ht I.hm,kcZ W hh,_,rfl,iteF ⟨_,rfl,_,_,_,_,rfl, .inr ⟨_,rfl⟩,TyOf.ins hv (cl_of W hh) I.ha I.hn I.ht I.hm,kfj W hh,_,rfl,iteT ?_⟩⟩⟩
   have hpw:(abt ps (kds B) ms.kind ms.lone S).Pairwise (· < ·):=MT.filter _ EU
   have l64:(abt ps (kds B) ms.kind ms.lone S).length<64:=Mt (ke6 _ _ _ _ _) wf.n64
   try apply Y4
   try refine sN fun _ Y6=>?_
   refine⟨_,rfl,_,rfl,_,rfl,v,d.qm,dxv,fsv,_,rfl,hv,W.qm.cl,W.VL,hso.1,x,pa,S,_,m,rfl,hS,hpa,hpw,habl,l64,by omega,by omega,htb,fun H1 gp gl s1 f1 h1 hP0 hg=>?_⟩
   have hP:P2 (fun r g=>H1 r=some (.lst (g.map iV))) gl (grp m (fallP S.pr (abt ps (kds B) ms.kind ms.lone S))):=hP0
   clear hP0
   have lgl:=hP.len
   have lG:=khi m (fallP S.pr (abt ps (kds B) ms.kind ms.lone S))
   have lf:(fallP S.pr (abt ps (kds B) ms.kind ms.lone S)).length=(abt ps (kds B) ms.kind ms.lone S).length:=(kbG _ _).length_eq
   have gin:∀g∈grp m (fallP S.pr (abt ps (kds B) ms.kind ms.lone S)),∀i∈g,i∈abt ps (kds B) ms.kind ms.lone S:=fun g hg' i hi=>(kbG _ _).mem_iff.mp (kjO hg' i hi)
   have gok:∀g∈grp m (fallP S.pr (abt ps (kds B) ms.kind ms.lone S)),∀i∈g,i<S.pr.length:=fun g hg' i hi=>habl i (gin g hg' i hi)
   have lg:∀g∈grp m (fallP S.pr (abt ps (kds B) ms.kind ms.lone S)),g.length≤720:=fun g hg'=>by
    obtain⟨j,hj⟩:=Mr.mp hg'
    have:=(kh6 hj).2.1
    omega
   generalize egs:grp m (fallP S.pr (abt ps (kds B) ms.kind ms.lone S))=gs at *
   try first|apply Y6|apply Y4
   try refine sN fun _ Y6=>?_
   refine⟨_,rfl,gp,rfl,⟨_,SqL.of h1⟩,kaZ (xs:=gl.map V.ref) (fun i σ ys H'=>Same H1 H'∧(∃v0:Option V,σ=[v0,some (.ref x),some (.ref v)])∧∃tl,ys=tl.map V.ref∧P2 (GrpAt H H' pa) tl ((gs.take i).map fun g=>(max 0 ((qs S.pr g).sum-pc),g)))
    ⟨Same.refl _,⟨none,rfl⟩,[],rfl, .nil⟩ (by rw[Nh];exact Nw (kao (by omega))) ?_ ?_ ?_⟩
   ·rintro i σ ys H2 hi ⟨s2,_,tl,rfl,hT⟩
    try first|apply Y6|apply Y4
    try refine sN fun _ Y8=>?_
    refine⟨SqL.of (s2 _ _ h1),?_⟩
    rw[Nh,hT.len,Nh,Ny]
    rw[Nh] at hi
    omega
   ·rintro i y σ ys H2 hy ⟨s2,⟨v0,rfl⟩,tl,rfl,hT⟩
    obtain⟨r,er,rfl⟩:=kbJ hy
    obtain⟨g,eg,hr⟩:=hP.at er
    have s12:=s1.trans s2
    have hg':=Nt eg
    have sn:=kbq (qs_nn wf.nn g)
    try first|apply Y8|apply Y6|apply Y4
    try refine sN fun _ Y8=>?_
    refine⟨_,rfl,_,rfl,x,r,S,g,rfl,hS.same s12,s2 _ _ hr,gok g hg',lg g hg',fun H3 s3=>?_⟩
    have s13:=s12.trans s3
    try first|apply Y8|apply Y6|apply Y4
    try refine sN fun _ Y8=>?_
    refine⟨_,rfl,v,d.qm,dxv,fsv,_,rfl,s13 _ _ hv,W.qm.cl,W.VM,hso.2,_,_,rfl,rfl,?_⟩
    try first|apply Y8|apply Y6|apply Y4
    try refine sN fun _ Y8=>?_
    refine⟨_,_,rfl,_,rfl,(by show 2≤sizeLine;decide),fun t ht=>?_⟩
    have emax:(if(0:Int) > (qs S.pr g).sum-pc then 0 else(qs S.pr g).sum-pc)=max 0 ((qs S.pr g).sum-pc):=by
     split <;> omega
    rw[emax]
    have s4:=kak (o:=.tup [.int (max 0 ((qs S.pr g).sum-pc)), .ref r]) ht
    try first|apply Y8|apply Y6|apply Y4
    try refine sN fun _ Y8=>?_
    refine⟨(s2.trans s3).trans s4,⟨_,rfl⟩,tl++[t],by rw[Np];rfl,?_⟩
    rw[kbt eg,Np]
    try first|apply Y8|apply Y6|apply Y4
    refine P2.snoc (hT.mono fun t' q ⟨ga,a1,a2,a3⟩=>⟨ga,(s3.trans s4) _ _ a1,(s3.trans s4) _ _ a2,a3⟩) ⟨r,kad,((s2.trans s3).trans s4) _ _ hr, .inr (hg r (Nt er))⟩
   ·rintro σ ys H2 ⟨s2,⟨v0,rfl⟩,tl,rfl,hT⟩ D hD
    rw[Nh,lgl,NS] at hT
    have s3:=kak (o:=.lst (tl.map V.ref)) hD
    have e1:(gs.map fun g=>(max 0 ((qs S.pr g).sum-pc),g)).map Prod.snd=gs:=by
     rw[NM]
     try first|apply Y8|apply Y6|apply Y4
     exact List.map_id' gs
    try first|apply Y8|apply Y6|apply Y4
    refine k _ D tl _ ((s1.trans s2).trans s3) (none_of (s1.trans s2) hD) kad (hT.mono fun t' q ⟨ga,a1,a2,a3⟩=>⟨ga,s3 _ _ a1,s3 _ _ a2,a3⟩) ?_ (by rw[e1,←egs];exact kjN (keZ hand)) (by rw[e1];intro i hi;obtain⟨g,hg',hi'⟩:=MB.mp hi;exact gok g hg' i hi') (by rw[Nh];omega) ?_
    ·intro c g hc
     obtain⟨g',hg',e⟩:=NJ.mp hc
     cases e
     have sn:=kbq (qs_nn wf.nn g)
     try first|apply Y8|apply Y6|apply Y4
     exact⟨by omega,by omega,lg g hg'⟩
    ·rw[e1,NM,←egs]
     try first|apply Y8|apply Y6|apply Y4
     exact(kkP (fun z=>max 0 (z-pc)) hand).symm
  |carr=>
   refine iteF ?_
   try apply Y4
   refine⟨_,rfl,_,_,_,_,rfl, .inr ⟨_,rfl⟩,TyOf.ins hv (cl_of W hh) I.ha I.hn I.ht I.hm,kdF W hh,_,rfl,iteF ⟨_,rfl,_,_,_,_,rfl, .inr ⟨_,rfl⟩,TyOf.ins hv (cl_of W hh) I.ha I.hn I.ht I.hm,kcZ W hh,_,rfl,iteF ⟨_,rfl,_,_,_,_,rfl, .inr ⟨_,rfl⟩,TyOf.ins hv (cl_of W hh) I.ha I.hn I.ht I.hm,kfj W hh,_,rfl,iteF ?_⟩⟩⟩
   try apply Y4
   refine⟨by decide,fun l hl=>?_⟩
   try apply Y4
   refine k _ l [] [] (kak hl) hl kad .nil (fun c g hc=>by simp at hc) (by simp) (by simp) (by simp) ?_
   try apply Y4
   exact(spr_zero (k:=0)).trans spr_zero.symm
inductive ki1 (K:Ni) (d:D) (vs:List V) (H:Hp) (Q:VK) (E_:XK):Prop
 |ct (v a b x:Addr) (V:Vch) (ps:List (Option Nat)) (B:Bask) (S:Stnd) (_:vs=[.ref v, .ref a, .ref b, .ref x]) (_:VchIs d H v V) (_:SqL K H a (ps.map pV)) (_:BaskIs d.qf d.qg H b B) (_:StndIs d.qe H x S) (_:Wf ps B S) (_:VchOk ps V) (_:∀(H':Hp) (p:Addr),Same H H'→H p=none→H' p=some (.lst ((cutM V ps (kds B) S).1.map L2.V.int))→Q (.ref p) H'):ki1 K d vs H Q E_
theorem qP:kap ["voucher","parents","basket","standing","pieces","wanted","cut","group","piece","part","most"] ["voucher","parents","basket","standing"] (kah kbQ):=⟨rfl,rfl,rfl,by decide +kernel,rfl,by decide +kernel,by decide +kernel⟩
theorem kco(W:WB K mg d base):FnOk P w K mg base CX0 4 d.YB d.YC ["voucher","parents","basket","standing"] (ki1 K d):=by
 refine FunD.ok W.qT.F qP (fun vs H Q E h=>?_) (fun cdv A outer s H vs Q E hr h=>?_)
 ·obtain⟨v,a,b,x,V,ps,B,S,rfl,_⟩:=h
  rfl
 ·obtain⟨v,a,b,x,Vc,ps,B,S,rfl,hV,hA,hB,hS,wf,vo,k⟩:=h
  have X6:=khY (P:=P) (w:=w) (base:=base) W
  have UG:=ke9 (P:=P) (w:=w) (base:=base) W
  have VV:=kkt (P:=P) (w:=w) (base:=base) W
  have X4:=kd7 (P:=P) (w:=w) (base:=base) W
  have hr1:Room 1 _:=hr.mono (by decide)
  refine⟨_,kac (kas (i:=4) qP.nd rfl (Or.inl rfl) (kan X6 hr rfl W.qS.m W.qS.F.kp W.qS.b .nil pass0 (kaa (pv 0) (kaa (pv 1) (kaa (pv 2) (kaa (pv 3) kae))))))
   (kac (kdS (N:=["price"]) (CompScope.plain rfl (by decide +kernel) (by decide +kernel) (by decide +kernel) (nd1 _)) rfl (kaJ (K:=K) (kag (K:=K) (pv 3) rfl)) (fun _ _ _ _=>kar (i:=0) (nd1 _) rfl (Or.inl rfl)) (fun _ _ _ _=>kaf) (kar (i:=5) qP.nd rfl (Or.inl rfl)))
   (kac (kbA PassesOwn.never rfl (kaJ (K:=K) (kan UG hr rfl W.QT.m W.QT.F.kp W.QT.b .nil pass0 (kaa (pv 0) (kaa (pv 3) (kaa (pv 4) kae))))) (kbo (K:=K) (n:=2) rfl (kaA (kar (i:=6) qP.nd rfl (Or.inl rfl)) (kaA (kar (i:=7) qP.nd rfl (Or.inl rfl)) kbn)))
   (kai (kbA PassesOwn.never rfl (kdo rfl W.B.zip (kaa (pv 7) (kaa (kan VV hr1 rfl W.qR.m W.qR.F.kp W.qR.b .nil pass0 (kaa (pv 6) (kaa (kan X4 hr1 rfl W.qW.m W.qW.F.kp W.qW.b .nil pass0 (kaa (pv 3) (kaa (pv 7) kae))) kae))) kae))) (kbo (K:=K) (n:=2) rfl (kaA (kar (i:=8) qP.nd rfl (Or.inl rfl)) (kaA (kar (i:=9) qP.nd rfl (Or.inl rfl)) kbn)))
   (kai (khP (pv 9) (kjn (pv 5) (pv 8) set_list))))))
   (kac (kas (i:=10) qP.nd rfl (Or.inl rfl) (kag (K:=K) (kag (K:=K) (pv 0) rfl) rfl))
   (kac (ps_if (PW.pt (kbU (kat kcS (pv 10) ka5 (kax _)) (kbF (kat op_gt (kay (r:=rSum K) (kbz rfl) (by rfl) W.B.sum b_sum (kaa (pv 5) kae)) (pv 10) (kax _))))) (kai (kaq (kan VV hr1 rfl W.qR.m W.qR.F.kp W.qR.b .nil pass0 (kaa (pv 10) (kaa (pv 5) kae))))) (kaw))
   (kai (kaq (pv 5))))))),?_⟩
  have np:=wf.np
  have lp:=wf.lp
  try refine sN fun _ Y4=>?_
  refine⟨_,rfl,_,rfl,_,rfl,_,rfl,v,a,b,x,Vc,ps,B,S,rfl,hV,hA,hB,hS,wf,vo,fun H1 pa s1 f1 h1=>?_⟩
  have habl:∀i∈abt ps (kds B) Vc.ms.kind Vc.ms.lone S,i<S.pr.length:=fun i hi=>by rw[lp];exact kid hi
  have hand:=kgR ps (kds B) Vc.ms.kind Vc.ms.lone S
  have lab:(abt ps (kds B) Vc.ms.kind Vc.ms.lone S).length≤720:=Nm (ke6 _ _ _ _ _) np
  obtain⟨o,p,mk,⟨dxs,fss,hx,l1,l2,l3,l4,l5⟩,ho,hp,hmk⟩:=id (hS.same s1)
  try apply Y4
  try refine sN fun _ Y4=>?_
  refine⟨_,rfl,x,d.qe,dxs,fss,_,rfl,hx,W.qe.cl,W.qC,l2,p,rfl,⟨_,SqL.of hp⟩,kaZ (xs:=S.pr.map V.int) (fun i σ ys H'=>H'=H1∧ys=(Nl i (0:Int)).map V.int∧∃v,σ=[v]) ⟨rfl,rfl,none,rfl⟩ ?_ ?_ ?_ ?_⟩
  ·rw[Nh]
   try apply Y4
   exact Nw (kao (by omega))
  ·rintro i σ ys H' hi ⟨rfl,rfl,_⟩
   try apply Y4
   exact⟨SqL.of hp,by simp⟩
  ·rintro i y σ ys H' hy ⟨rfl,rfl,v,rfl⟩
   try apply Y4
   exact⟨rfl,by rw[E1,Np];rfl,_,rfl⟩
  rintro σ ys H' ⟨rfl,rfl,v0,rfl⟩ w hw
  rw[Nh]
  have s2:=s1.trans (kak (o:=.lst ((Nl S.pr.length (0:Int)).map V.int)) hw)
  have hw0:H w=none:=none_of s1 hw
  have ew:(upd H' w (.lst ((Nl S.pr.length (0:Int)).map V.int))) w=some (.lst ((Nl S.pr.length (0:Int)).map V.int)):=kad
  have h1o:=h1
  have h1:=kak (o:=.lst ((Nl S.pr.length (0:Int)).map V.int)) hw _ _ h1
  have nw:pa≠w:=kaj h1o hw
  generalize upd H' w (.lst ((Nl S.pr.length (0:Int)).map V.int))=H2 at *
  try apply Y4
  try refine sN fun _ Y4=>?_
  refine⟨_,rfl,_,rfl,_,rfl,v,x,pa,Vc,ps,B,S,rfl,hV.same s2,hS.same s2,h1,wf,vo,fun H3 gp tl gl s3 f3 h3 hP hc hnd hlt hgl hsp=>?_⟩
  have s03:=s2.trans s3
  have e3:=s3 _ _ ew
  have ngw:gp≠w:=fun e=>by rw[e,ew] at f3;cases f3
  try apply Y4
  try refine sN fun _ Y4=>?_
  refine⟨gp,rfl,⟨_,SqL.of h3⟩,kbV (K:=K) (a:=gp) (xs:=tl.map V.ref) (fun i σ H'=>(∃v8 v9 v10 v11 v12:Option V,σ=[some (.ref v),some (.ref a),some (.ref b),some (.ref x),some (.ref pa),some (.ref w),v8,v9,v10,v11,v12])∧But w H3 H'∧
    H' w=some (.lst ((spr S.pr.length ((gl.take i).map Prod.snd).flatten ((gl.take i).map fun p=>dl p.1 (qs S.pr p.2)).flatten).map V.int)))
   ⟨⟨none,none,none,none,none,rfl⟩,But.refl,by rw[e3];simp[klB]⟩ (fun i σ H' _ h=>SqL.of (h.2.1 _ _ ngw h3)) ?_ ?_⟩
  ·rintro i y σ H4 hy ⟨⟨v8,v9,v10,v11,v12,rfl⟩,b4,h4⟩
   obtain⟨t,et,rfl⟩:=kbJ hy
   obtain⟨⟨c,g⟩,eg,ga,ht,hga,hor⟩:=hP.at et
   have hcg:=hc c g (Nt eg)
   have hgl':∀i∈g,i<S.pr.length:=fun j hj=>hlt j (MB.mpr ⟨g,NJ.mpr ⟨(c,g),Nt eg,rfl⟩,hj⟩)
   have ngaw:ga≠w:=by
    rcases hor with rfl|hor
    ·exact nw
    ·exact fun e=>by rw[e,ew] at hor;cases hor
   have ntw:t≠w:=ne_of ht e3 (by intro z;cases z)
   have htt:H4 t=some (.tup [.int c, .ref ga]):=b4 _ _ ntw ht
   have hgg:H4 ga=some (.lst (g.map iV)):=b4 _ _ ngaw hga
   try apply Y4
   try refine sN fun _ Y6=>?_
   refine⟨t,_,rfl,SqT.of htt,rfl,_,_,rfl,_,_,rfl,rfl,?_⟩
   have hS4:StndIs d.qe H4 x S:=by
    try first|apply Y6|apply Y4
    exact StndIs.same (H:=H) (khH hw0 s03 b4) hS
   have gnn:=qs_nn wf.nn g
   have gsum:=kje wf hcg.2.2 hgl'
   have hg720:=hcg.2.2
   try first|apply Y6|apply Y4
   try refine sN fun _ Y6=>?_
   refine⟨_,rfl,_,rfl,_,rfl,_,rfl,x,ga,S,g,rfl,hS4,hgg,hgl',hg720,fun p5 hp5=>?_⟩
   have s5:=kak (o:=.lst ((qs S.pr g).map V.int)) hp5
   try first|apply Y6|apply Y4
   try refine sN fun _ Y6=>?_
   refine⟨c,p5,qs S.pr g,rfl,SqL.of kad,gnn,by omega,hcg.1,by omega,by rw[kb9];omega,fun p6 hp6=>?_⟩
   have s6:=s5.trans (kak (o:=.lst ((dl c (qs S.pr g)).map V.int)) hp6)
   have h6:(upd (upd H4 p5 (.lst ((qs S.pr g).map V.int))) p6 (.lst ((dl c (qs S.pr g)).map V.int))) p6=some (.lst ((dl c (qs S.pr g)).map V.int)):=kad
   have n6:H4 p6=none:=none_of s5 hp6
   generalize upd (upd H4 p5 (.lst ((qs S.pr g).map V.int))) p6 (.lst ((dl c (qs S.pr g)).map V.int))=H6 at *
   have b6:=b4.same s6
   have w6:=s6 _ _ h4
   have n6w:p6≠w:=fun e=>by rw[e,h4] at n6;cases n6
   have ldl:(dl c (qs S.pr g)).length=g.length:=by rw[kfm,kb9]
   have emin:min (g.map iV).length ((dl c (qs S.pr g)).map V.int).length=g.length:=by rw[Nh,Nh,ldl,Mu]
   have ndt:∀(j n:Nat),g[j]?=some n→(((gl.take i).map Prod.snd).flatten++g.take j++[n]).Nodup:=fun j n hj=>by
    rw[MH]
    try first|apply Y6|apply Y4
    exact kew hnd (i:=i) (by rw[Nv,eg];rfl) hj
   have lfl:((gl.take i).map Prod.snd).flatten.length=((gl.take i).map fun p=>dl p.1 (qs S.pr p.2)).flatten.length:=by
    rw[List.length_flatten,List.length_flatten,NM,NM]
    congr 1
    try first|apply Y6|apply Y4
    refine Me fun q _=>?_
    show q.2.length=(dl q.1 (qs S.pr q.2)).length
    rw[kfm,kb9]
   try first|apply Y6|apply Y4
   try refine sN fun _ Y6=>?_
   refine⟨ga,p6,_,_,rfl,s6 _ _ hgg,h6,khj (xs:=g.map iV) (ys:=(dl c (qs S.pr g)).map V.int) (fun j σ H'=>(∃v8 v9 v10 v11 v12:Option V,σ=[some (.ref v),some (.ref a),some (.ref b),some (.ref x),some (.ref pa),some (.ref w),v8,v9,v10,v11,v12])∧But w H3 H'∧H' ga=some (.lst (g.map iV))∧H' p6=some (.lst ((dl c (qs S.pr g)).map V.int))∧
     H' w=some (.lst ((spr S.pr.length (((gl.take i).map Prod.snd).flatten++g.take j) (((gl.take i).map fun p=>dl p.1 (qs S.pr p.2)).flatten++(dl c (qs S.pr g)).take j)).map V.int)))
    ⟨⟨_,_,_,_,_,rfl⟩,b6,s6 _ _ hgg,h6,by rw[w6];simp⟩ (fun j σ H' _ h=>⟨h.2.2.1,h.2.2.2.1⟩) ?_ ?_⟩
   ·rintro j y1 y2 t2 σ H7 hy1 hy2 ⟨⟨v8,v9,v10,v11,v12,rfl⟩,b7,g7,d7,w7⟩ ht2
    obtain⟨n,en,rfl⟩:=kbL hy1
    obtain⟨z,ez,rfl⟩:=kbL hy2
    have hn:=hgl' n (Nt en)
    have s8:=kak (o:=.tup [iV n,V.int z]) ht2
    try first|apply Y6|apply Y4
    try refine sN fun _ Y8=>?_
    refine⟨t2,_,rfl,SqT.of kad,rfl,_,_,rfl,_,_,rfl,rfl,?_⟩
    try first|apply Y8|apply Y6|apply Y4
    try refine sN fun _ Y8=>?_
    refine⟨_,rfl,_,rfl,_,rfl,w,_,_,n,rfl,rfl,s8 _ _ w7,khh (by rw[Nh,kdh];exact hn),⟨_,_,_,_,_,rfl⟩,(b7.same s8).trans kau,?_,?_,?_⟩
    ·rw[kam ngaw]
     try first|apply Y8|apply Y6|apply Y4
     exact s8 _ _ g7
    ·rw[kam n6w]
     try first|apply Y8|apply Y6|apply Y4
     exact s8 _ _ d7
    ·rw[kad,←E2,kbt en,kbt ez,←Mb,←Mb]
     rw[kkg (by rw[Nx,Nx,lfl,Ny,Ny,ldl]) (ndt j n en) hn]
   ·rintro σ H7 ⟨⟨v8,v9,v10,v11,v12,rfl⟩,b7,g7,d7,w7⟩
    try first|apply Y8|apply Y6|apply Y4
    try refine sN fun _ Y8=>?_
    refine⟨⟨_,_,_,_,_,rfl⟩,b7,?_⟩
    rw[w7,emin,NS,Mf (Eh ldl),kbt eg]
    simp
  rintro σ H4 ⟨⟨v8,v9,v10,v11,v12,rfl⟩,b4,h4⟩
  have ltl:(tl.map V.ref).length=gl.length:=by rw[Nh,hP.len]
  rw[ltl,NS,hsp] at h4
  have s04:Same H H4:=khH hw0 s03 b4
  obtain⟨mA,dxv,fsv,hv,lvm,_,⟨dxm,fsm,hm,m1,m2,m3,m4,m5,m6⟩,hh,htb⟩:=id (hV.same s04)
  try apply Y4
  try refine sN fun _ Y4=>?_
  refine⟨_,rfl,v,clsOf d Vc.so,dxv,fsv,_,rfl,hv,cl_of W hh,na_of W hh,lvm,mA,d.qj,dxm,fsm,_,rfl,hm,W.qj.cl,W.XG,m3,?_⟩
  have wle:=kiy (so:=Vc.so) (n:=S.mkd.length) (lines:=(abt ps (kds B) Vc.ms.kind Vc.ms.lone S).map fun i=>S.ow.getD i 0) (qs_nn wf.nn (abt ps (kds B) Vc.ms.kind Vc.ms.lone S)) vo.so
  have cn:=kkN (V:=Vc) (ps:=ps) (kk:=kds B) (S:=S)
  have cs:=fun(m:Int) (e:Vc.ms.most=some m) (h0:0≤m)=>kkM (V:=Vc) (ps:=ps) (kk:=kds B) (S:=S) lp wle e h0
  have sabs:=kje wf lab habl
  generalize ewant:want Vc.so S.mkd.length ((abt ps (kds B) Vc.ms.kind Vc.ms.lone S).map fun i=>S.ow.getD i 0) (qs S.pr (abt ps (kds B) Vc.ms.kind Vc.ms.lone S))=wn at *
  have fnn:Nn (spr S.pr.length (abt ps (kds B) Vc.ms.kind Vc.ms.lone S) wn):=(kgd wf.nn wle).nn
  have fsum:(spr S.pr.length (abt ps (kds B) Vc.ms.kind Vc.ms.lone S) wn).sum≤720000000000000:=by
   have h:=(kgd wf.nn wle).sum
   have h2:=kdL (b:=1000000000000) (q:=S.pr) fun z hz=>(wf.pr z hz).2
   omega
  cases em:Vc.ms.most with
  |none=>
   try apply Y4
   refine⟨_,rfl,rfl,_,rfl,?_⟩
   show if(!decide (V.non=V.non))=true then _ else _
   rw[klc]
   refine iteF (iteF ⟨_,rfl,k _ w s04 hw0 ?_⟩)
   rw[h4,cn em]
  | some m=>
   have hm0:=vo.ms.most m em
   try apply Y4
   refine⟨_,rfl,rfl,_,rfl,?_⟩
   show if(!decide (V.int m=V.non))=true then _ else _
   rw[kld]
   refine iteT ?_
   try apply Y4
   try refine sN fun _ Y6=>?_
   refine⟨_,rfl,w,_,rfl,SqL.of h4,_,rfl,_,_,rfl,rfl,_,rfl,?_⟩
   by_cases hgt:(spr S.pr.length (abt ps (kds B) Vc.ms.kind Vc.ms.lone S) wn).sum > m
   ·rw[decide_eq_true hgt]
    refine iteT ?_
    try first|apply Y6|apply Y4
    try refine sN fun _ Y8=>?_
    refine⟨_,rfl,_,rfl,m,w,_,rfl,SqL.of h4,fnn,by omega,hm0.1,by omega,by rw[kdh];omega,fun p7 hp7=>?_⟩
    try first|apply Y8|apply Y6|apply Y4
    refine k _ p7 (s04.trans (kak hp7)) (none_of s04 hp7) ?_
    rw[kad,cs m em hm0.1,if_pos hgt]
   ·rw[decide_eq_false hgt]
    refine iteF ?_
    try first|apply Y8|apply Y6|apply Y4
    refine⟨_,rfl,k _ w s04 hw0 ?_⟩
    rw[h4,cs m em hm0.1,if_neg hgt]
theorem klE:kap ["voucher","parents","basket","standing"] ["voucher","parents","basket","standing"] (kah ki8):=⟨rfl,rfl,rfl,by decide +kernel,rfl,by decide +kernel,by decide +kernel⟩
theorem klP(W:WB K mg d base):FnOk P w K mg base CX0 5 d.Yx d.Yy ["voucher","parents","basket","standing"] (kk7 K d):=by
 refine FunD.ok W.QR.F klE (fun vs H Q E h=>?_) (fun cdv A outer s H vs Q E hr h=>?_)
 ·obtain⟨v,a,b,x,V,ps,B,S,rfl,_⟩:=h
  rfl
 ·obtain⟨v,a,b,x,Vc,ps,B,S,rfl,hV,hA,hB,hS,wf,vo,k⟩:=h
  have X8:=kco (P:=P) (w:=w) (base:=base) W
  have X9:=kcd (P:=P) (w:=w) (base:=base) W
  have hr2:Room 2 _:=hr.mono (by decide)
  refine⟨_,kai (kaq (kca (kaa (kan X8 hr rfl W.qT.m W.qT.F.kp W.qT.b .nil pass0 (kaa (pv 0) (kaa (pv 1) (kaa (pv 2) (kaa (pv 3) kae))))) (kaa (kan X9 hr2 rfl W.qU.m W.qU.F.kp W.qU.b .nil pass0 (kaa (pv 0) (kaa (pv 3) kae))) kae)))),?_⟩
  refine⟨_,rfl,_,rfl,_,rfl,_,rfl,v,a,b,x,Vc,ps,B,S,rfl,hV,hA,hB,hS,wf,vo,fun H1 p s1 f1 h1=>?_⟩
  refine⟨_,rfl,_,rfl,v,x,Vc,S,rfl,hV.same s1,hS.same s1,(by show 2≤sizeLine;decide),fun t ht=>?_⟩
  rw[←kjT (ps:=ps) (kk:=kds B) (S:=S) vo]
  refine k _ t p (s1.trans (kak ht)) (none_of s1 ht) f1 ?_ (kak ht _ _ h1)
  exact kad
theorem kkR{l:List Nat}{f g:Nat→Bool}(h:∀x∈l,f x=g x):l.any f=l.any g:=by
 induction l with
 |nil=>rfl
 |cons a l ih=>rw[MJ,MJ,h a NL,ih fun x hx=>h x (NF _ hx)]
theorem khm{ow:List Nat}{cs:List Int}{i o l:Nat}(h:ow[i]?=some o):kdH (ow.take (i+1)) cs l=(kdH (ow.take i) cs l||(o==l&&decide (0<cs.getD i 0))):=by
 have hi:=at_lt h
 unfold kdH
 rw[Ny,Ny,MG (by omega),MG (by omega),Mx,List.any_append]
 congr 1
 ·refine kkR fun j hj=>?_
  have hj':j<i:=by simpa using hj
  simp only[NH,Ez]
  rw[if_pos (by omega),if_pos hj']
 ·simp only[MJ,List.any_nil,Bool.or_false]
  rw[NH,Ez,if_pos (by omega),h]
  rfl
inductive kdb (d:D) (vs:List V) (H:Hp) (Q:VK) (E_:XK):Prop
 |ct (v x c:Addr) (V:Vch) (S:Stnd) (cs:List Int) (_:vs=[.ref v, .ref x, .ref c]) (_:VchIs d H v V) (_:StndIs d.qe H x S) (_:H c=some (.lst (cs.map L2.V.int))) (_:cs.length=S.ow.length) (_:S.ow.length≤720) (_:S.mkd.length≤12) (_:(∀l∈S.ow,l<S.mkd.length)) (_:∀(H':Hp) (p:Addr),Same H H'→H p=none→H' p=some (.lst (((Nq S.mkd.length).map fun l=>S.mkd.getD l false||(V.ms.lone&&kdH S.ow cs l)).map L2.V.bl))→Q (.ref p) H'):kdb d vs H Q E_
theorem Xo:kap ["voucher","standing","piece_cuts","marked","owner","cut"] ["voucher","standing","piece_cuts"] (kah kbY):=⟨rfl,rfl,rfl,by decide +kernel,rfl,by decide +kernel,by decide +kernel⟩
theorem kej(W:WB K mg d base):FnOk P w K mg base CX0 1 d.YK d.YL ["voucher","standing","piece_cuts"] (kdb d):=by
 refine FunD.ok W.QV.F Xo (fun vs H Q E h=>?_) (fun cdv A outer s H vs Q E hr h=>?_)
 ·obtain⟨v,x,c,V,S,cs,rfl,_⟩:=h
  rfl
 ·obtain⟨v,x,c,Vc,S,cs,rfl,⟨mA,dxv,fsv,hv,lvm,_,⟨dxm,fsm,hm,m1,m2,m3,m4,m5,m6⟩,hh,htb⟩,⟨o,p,mk,⟨dxs,fss,hx,l1,l2,l3,l4,l5⟩,ho,hp,hmk⟩,hc,lc,lo,lmk,hw,k⟩:=h
  refine⟨_,kac (kas (i:=3) Xo.nd rfl (Or.inl rfl) (kaO (r:=kbE K) kaI (by rfl) W.B.list kcf (kaa (kag (K:=K) (pv 1) rfl) kae)))
   (kac (ps_if (kbg (kag (K:=K) (kag (K:=K) (pv 0) rfl) rfl)) (kai (kbA PassesOwn.never rfl (kdo rfl W.B.zip (kaa (kag (K:=K) (pv 1) rfl) (kaa (pv 2) kae))) (kbo (K:=K) (n:=2) rfl (kaA (kar (i:=4) Xo.nd rfl (Or.inl rfl)) (kaA (kar (i:=5) Xo.nd rfl (Or.inl rfl)) kbn)))
   (kai (ps_if (kat op_gt (pv 5) kaf (kax _)) (kai (khP pe_bl (kjn (pv 3) (pv 4) set_list))) (kaw))))) (kaw))
   (kai (kaq (pv 3)))),?_⟩
  have e0:S.mkd.map V.bl=((Nq S.mkd.length).map fun l=>S.mkd.getD l false||kdH (S.ow.take 0) cs l).map V.bl:=by
   congr 1
   apply MA
   ·simp
   ·intro j h1 h2
    simp[kdH,h1]
  try refine sN fun _ Y4=>?_
  refine⟨_,rfl,x,d.qe,dxs,fss,_,rfl,hx,W.qe.cl,W.Qs,l4,mk,_,rfl, .inl (SqL.of hmk),fun q hq=>?_⟩
  have s1:=kak (o:=.lst (S.mkd.map V.bl)) hq
  try apply Y4
  try refine sN fun _ Y4=>?_
  refine⟨_,rfl,v,clsOf d Vc.so,dxv,fsv,_,rfl,s1 _ _ hv,cl_of W hh,na_of W hh,lvm,mA,d.qj,dxm,fsm,_,rfl,s1 _ _ hm,W.qj.cl,W.XH,m6,_,rfl,?_⟩
  cases e:Vc.ms.lone with
  |false=>
   refine iteF ?_
   try apply Y4
   try refine sN fun _ Y6=>?_
   refine⟨_,rfl,k _ q s1 hq ?_⟩
   rw[e0]
   simp only[e,EE,Bool.or_false]
   rw[kad]
   congr 2
   simp[kdH]
  | true=>
   refine iteT ?_
   have emin:min (S.ow.map iV).length (cs.map V.int).length=S.ow.length:=by rw[Nh,Nh,lc,Mu]
   try apply Y4
   try refine sN fun _ Y6=>?_
   refine⟨_,rfl,x,d.qe,dxs,fss,_,rfl,s1 _ _ hx,W.qe.cl,W.qZ,l1,_,rfl,o,c,_,_,rfl,s1 _ _ ho,s1 _ _ hc,
    khj (xs:=S.ow.map iV) (ys:=cs.map V.int) (fun i σ H'=>(∃v4 v5:Option V,σ=[some (.ref v),some (.ref x),some (.ref c),some (.ref q),v4,v5])∧But q H H'∧H' q=some (.lst (((Nq S.mkd.length).map fun l=>S.mkd.getD l false||kdH (S.ow.take i) cs l).map V.bl)))
     ⟨⟨none,none,rfl⟩,But.of_same s1,by rw[kad,e0]⟩ (fun i σ H' _ h=>⟨h.2.1 _ _ (kaj ho hq) ho,h.2.1 _ _ (kaj hc hq) hc⟩) ?_ ?_⟩
   ·rintro i y z t σ H1 hy hz ⟨⟨v4,v5,rfl⟩,b1,h1⟩ ht
    obtain⟨ln,eln,rfl⟩:=kbL hy
    obtain⟨cz,ecz,rfl⟩:=kbL hz
    have hln:=hw ln (Nt eln)
    have st:=fun l=>khm (cs:=cs) (l:=l) eln
    have eg:cs.getD i 0=cz:=by rw[NH,ecz];rfl
    have tq:q≠t:=kaj h1 ht
    have b2:=b1.same (kak (o:=.tup [iV ln,V.int cz]) ht)
    have h2:=kak (o:=.tup [iV ln,V.int cz]) ht _ _ h1
    try first|apply Y6|apply Y4
    try refine sN fun _ Y8=>?_
    refine⟨t,_,rfl,SqT.of kad,rfl,_,_,rfl,_,_,rfl,rfl,?_⟩
    try first|apply Y8|apply Y6|apply Y4
    try refine sN fun _ Y8=>?_
    refine⟨_,rfl,_,_,rfl,rfl,_,rfl,?_⟩
    by_cases hc0:cz > 0
    ·rw[decide_eq_true hc0]
     refine iteT ?_
     try first|apply Y8|apply Y6|apply Y4
     try refine sN fun _ Y10=>?_
     refine⟨_,rfl,_,rfl,q,_,_,ln,rfl,rfl,h2,khh (by simpa using hln),⟨_,_,rfl⟩,b2.trans kau,?_⟩
     rw[kad,←E2]
     congr 3
     apply MA
     ·simp
     ·intro j g1 g2
      have hj:j<S.mkd.length:=by simpa using g1
      rw[ET]
      simp only[MV,Ea]
      rw[st j,eg]
      by_cases hjl:ln=j
      ·subst hjl
       simp[hc0]
      ·rw[if_neg hjl,show(ln==j)=false by simpa using hjl]
       simp
    ·rw[decide_eq_false hc0]
     refine iteF ?_
     try first|apply Y10|apply Y8|apply Y6|apply Y4
     try refine sN fun _ Y10=>?_
     refine⟨⟨_,_,rfl⟩,b2,?_⟩
     rw[h2]
     congr 3
     try first|apply Y10|apply Y8|apply Y6|apply Y4
     refine Me fun l _=>?_
     rw[st l,eg,show decide (0<cz)=false by simpa using hc0]
     simp
   ·rintro σ H1 ⟨⟨v4,v5,rfl⟩,b1,h1⟩
    rw[emin,NS] at h1
    try first|apply Y8|apply Y6|apply Y4
    try refine sN fun _ Y8=>?_
    refine⟨_,rfl,k _ q (kj6 b1 hq) hq ?_⟩
    rw[h1]
    simp only[e,Bool.true_and]
noncomputable def rmv(x:Addr)(H:Hp):Hp:=fun a=>if a=x then none else H a
theorem khK{x:Addr}{H:Hp}:rmv x H x=none:=if_pos rfl
theorem keD{x a:Addr}{H:Hp}(n:a≠x):rmv x H a=H a:=if_neg n
theorem kfG{x a:Addr}{H:Hp}{o:HO}(h:rmv x H a=some o):H a=some o:=by
 by_cases e:a=x
 ·subst e
  rw[khK] at h
  cases h
 ·rw[keD e] at h
  exact h
theorem kg6{x:Addr}{H:Hp}(hx:NX H x):But x H (rmv x H):=fun b u n e=>ev_eq (by rw[keD n];exact e) fun⟨ps,e1,t,hor⟩=>⟨ps,by rw[keD n];exact e1,t,fun pos c ec=>by
 obtain⟨c',rfl,z2⟩:=hor pos c ec
 exact⟨c',rfl,by rw[keD fun e=>hx _ (e▸z2)];exact z2⟩⟩
theorem rmv_sub{x:Addr}{H:Hp}:Same (rmv x H) H:=fun b u e=>ev_eq (kfG e) fun⟨ps,e1,t,hor⟩=>⟨ps,kfG e1,t,fun pos c ec=>by
 obtain⟨c',rfl,z2⟩:=hor pos c ec
 exact⟨c',rfl,kfG z2⟩⟩
theorem kba{Hs H H':Hp}{x:Addr}(s:Same Hs H)(b:But x H H')(f:Hs x=none):Same Hs H':=fun c u e=>kbI (s c u e) fun u' e'=>b c u' (kaj e f) e'
theorem ki6{Hs H:Hp}{p:Addr}{xs:List V}(s:Same Hs H)(hp:H p=some (.lst xs)):Same (upd Hs p (.lst xs)) H:=fun b u e=>by
 by_cases eb:b=p
 ·subst eb
  rw[kad] at e
  cases e
  exact hp
 ·rw[kam eb] at e
  have h:=s b u e
  cases u <;> first|exact h|refine⟨h.1,fun⟨ps,e1,t,hor⟩=>h.2 ⟨ps,by rw[kam eb] at e1;exact e1,t,fun pos c ec=>?_⟩⟩
  obtain⟨c',rfl,z2⟩:=hor pos c ec
  refine⟨c',rfl,?_⟩
  by_cases ec':c'=p
  ·subst ec'
   rw[kad] at z2
   cases z2
  ·rw[kam ec'] at z2
   exact z2
inductive StndN (C:Addr) (H0 H:Hp) (x:Addr) (S:Stnd):Prop
 |ct (_:H0 x=none) (o p mk:Addr) (_:StandAt C H x o p mk S.cg) (_:H0 o=none) (_:H0 p=none) (_:H0 mk=none) (_:H o=some (.lst (S.ow.map iV))) (_:H p=some (.lst (S.pr.map V.int))) (_:H mk=some (.lst (S.mkd.map V.bl))):StndN C H0 H x S
theorem StndN.is{C x:Addr}{H0 H:Hp}{S:Stnd}:StndN C H0 H x S→StndIs C H x S:=fun⟨_,o,p,mk,h,_,_,_,h1,h2,h3⟩=>⟨o,p,mk,h,h1,h2,h3⟩
theorem kbT{H0 H:Hp}{q a:Addr}(hq:H0 q≠none)(f:H0 a=none):rmv q H a=H a:=keD fun e=>hq (e▸f)
theorem StndN.rmv{C x q:Addr}{H0 H:Hp}{S:Stnd}(hq:H0 q≠none):StndN C H0 H x S→StndIs C (rmv q H) x S:=fun⟨f,o,p,mk,⟨dx,fs,hx,r⟩,f1,f2,f3,h1,h2,h3⟩=>⟨o,p,mk,⟨dx,fs,(kbT hq f).trans hx,r⟩,(kbT hq f1).trans h1,(kbT hq f2).trans h2,(kbT hq f3).trans h3⟩
inductive WayN (d:D) (m:Nat) (H0 H:Hp) (w t b x:Addr) (hand:List Int) (used:List Nat):Prop
 |ct (_:H0 w=none) (dx:Addr) (fs:List (Str×V)) (h u:Addr) (_:H0 h=none) (_:H0 u=none) (_:H w=some (.ins d.c_Way dx fs)) (_:fs.lookup ("till" :Str)=some (.ref t)) (_:fs.lookup ("basket" :Str)=some (.ref b)) (_:fs.lookup ("hand" :Str)=some (.ref h)) (_:fs.lookup ("used" :Str)=some (.ref u)) (_:fs.lookup ("standing" :Str)=some (.ref x)) (_:fs.lookup ("word_for" :Str)=none) (_:fs.lookup ("behind" :Str)=none) (_:fs.lookup ("is_let_by" :Str)=none) (_:fs.lookup ("followers" :Str)=none) (_:fs.length≤m) (_:H h=some (.lst (hand.map V.int))) (_:H u=some (.lst (used.map iV))):WayN d m H0 H w t b x hand used
theorem WayN.at{d:D}{m:Nat}{H0 H:Hp}{w t b x:Addr}{hand:List Int}{used:List Nat}:WayN d m H0 H w t b x hand used→WayAt d m H w t b x hand used:=fun⟨_,dx,fs,h,u,_,_,h1,h2,h3,h4,h5,h6,h7,h8,h9,h10,h11,h12,h13⟩=>⟨dx,fs,h,u,h1,h2,h3,h4,h5,h6,h7,h8,h9,h10,h11,h12,h13⟩
theorem WayN.rmv{d:D}{m:Nat}{H0 H:Hp}{w t b x q:Addr}{hand:List Int}{used:List Nat}(hq:H0 q≠none):WayN d m H0 H w t b x hand used→WayAt d m (rmv q H) w t b x hand used:=fun⟨f,dx,fs,h,u,f1,f2,g,h2,h3,h4,h5,h6,h7,h8,h9,h10,h11,h12,h13⟩=>⟨dx,fs,h,u,(kbT hq f).trans g,h2,h3,h4,h5,h6,h7,h8,h9,h10,h11,(kbT hq f1).trans h12,(kbT hq f2).trans h13⟩
inductive khG (K:Ni) (d:D) (vs:List V) (H:Hp) (Q:VK) (E_:XK):Prop
 |ct (v a b x:Addr) (V:Vch) (ps:List (Option Nat)) (B:Bask) (S:Stnd) (_:vs=[.ref v, .ref a, .ref b, .ref x]) (_:VchIs d H v V) (_:SqL K H a (ps.map pV)) (_:BaskIs d.qf d.qg H b B) (_:StndIs d.qe H x S) (_:Wf ps B S) (_:VchOk ps V) (_:∀(H':Hp) (x':Addr),Same H H'→H x'=none→StndN d.qe H H' x' (aftM V ps (kds B) S)→Q (.ref x') H'):khG K d vs H Q E_
theorem Ya:kap ["voucher","parents","basket","standing","piece_cuts","left"] ["voucher","parents","basket","standing"] (kah kg5):=⟨rfl,rfl,rfl,by decide +kernel,rfl,by decide +kernel,by decide +kernel⟩
theorem kku(W:WB K mg d base):FnOk P w K mg base CX0 5 d.Yz d.YA ["voucher","parents","basket","standing"] (khG K d):=by
 refine FunD.ok W.QS.F Ya (fun vs H Q E h=>?_) (fun cdv A outer s H vs Q E hr h=>?_)
 ·obtain⟨v,a,b,x,V,ps,B,S,rfl,_⟩:=h
  rfl
 ·obtain⟨v,a,b,x,Vc,ps,B,S,rfl,hV,hA,hB,hS,wf,vo,k⟩:=h
  have X8:=kco (P:=P) (w:=w) (base:=base) W
  have Yb:=kcC (P:=P) (w:=w) (base:=base) W
  have X9:=kcd (P:=P) (w:=w) (base:=base) W
  have UH:=kej (P:=P) (w:=w) (base:=base) W
  have hr1:Room 1 _:=hr.mono (by decide)
  have hr2:Room 2 _:=hr.mono (by decide)
  have hr3:Room 3 _:=hr.mono (by decide)
  refine⟨_,kac (kas (i:=4) Ya.nd rfl (Or.inl rfl) (kan X8 hr rfl W.qT.m W.qT.F.kp W.qT.b .nil pass0 (kaa (pv 0) (kaa (pv 1) (kaa (pv 2) (kaa (pv 3) kae))))))
   (kac (kas (i:=5) Ya.nd rfl (Or.inl rfl) (kaS (W.Qt.mk' W.qe) Yb hr3 rfl W.qe.m W.Qt.b .nil pass0 (kaa (pv 2) kae)))
   (kac (kaz (pv 5) (kaO (r:=kbE K) kaI (by rfl) W.B.list kcf (kaa (kag (K:=K) (pv 3) rfl) kae)) rfl)
   (kac (kaz (pv 5) (kbp (N:=["price","cut"]) (CompScope.plain rfl (by decide +kernel) (by decide +kernel) (by decide +kernel) (show(["price","cut"]:List Str).Nodup by decide +kernel)) rfl (kdo rfl W.B.zip (kaa (kag (K:=K) (pv 3) rfl) (kaa (pv 4) kae))) (fun _ _ _ _=>kbo (K:=K) (n:=2) rfl (kaA (kar (i:=0) (show(["price","cut"]:List Str).Nodup by decide +kernel) rfl (Or.inl rfl)) (kaA (kar (i:=1) (show(["price","cut"]:List Str).Nodup by decide +kernel) rfl (Or.inl rfl)) kbn))) (fun _ _ _ _=>(pe_op kdd (pv 0) (pv 1)))) rfl)
   (kac (kaz (pv 5) (pe_op kdd (kag (K:=K) (pv 3) rfl) (kan X9 hr2 rfl W.qU.m W.qU.F.kp W.qU.b .nil pass0 (kaa (pv 0) (kaa (pv 3) kae)))) rfl)
   (kac (kaz (pv 5) (kan UH hr1 rfl W.QV.m W.QV.F.kp W.QV.b .nil pass0 (kaa (pv 0) (kaa (pv 3) (kaa (pv 4) kae)))) rfl)
   (kai (kaq (pv 5)))))))),?_⟩
  have np:=wf.np
  have lp:=wf.lp
  have lcut:(cutM Vc ps (kds B) S).1.length=S.pr.length:=(klp wf.nn wf.cg.1 vo.so fun m e=>(vo.ms.most m e).1).1.1
  try refine sN fun _ Y4=>?_
  refine⟨_,rfl,_,rfl,_,rfl,_,rfl,v,a,b,x,Vc,ps,B,S,rfl,hV,hA,hB,hS,wf,vo,fun H1 pc s1 f1 h1=>?_⟩
  obtain⟨l,ls,hb1,hl1,hL1⟩:=id (hB.same s1)
  try apply Y4
  try refine sN fun _ Y4=>?_
  refine⟨_,rfl,kjw hb1 hl1 hL1 wf.nl wf.ok fun H2 y s2 f2 dxy fsy hy ly lyw=>?_⟩
  have fy:H y=none:=none_of s1 f2
  have s02:=s1.trans s2
  obtain⟨o,p,mk,⟨dxs,fss,hx,l1,l2,l3,l4,l5⟩,ho,hp,hmk⟩:=id hS
  try apply Y4
  try refine sN fun _ Y4=>?_
  refine⟨_,rfl,x,d.qe,dxs,fss,_,rfl,s02 _ _ hx,W.qe.cl,W.qZ,l1,o,_,rfl, .inl (SqL.of (s02 _ _ ho)),fun q1 hq1=>?_⟩
  have n1:q1≠y:=(kaj hy hq1).symm
  try apply Y4
  try refine sN fun _ Y4=>?_
  refine⟨_,rfl,y,d.qe,dxy,fsy,rfl,kak hq1 _ _ hy,W.qe.cl,W.qZ,few (by omega),?_⟩
  have s3:Same H (upd (upd H2 q1 (.lst (S.ow.map iV))) y (.ins d.qe dxy (putF "owners" (.ref q1) fsy))):=kav fy (s02.trans (kak hq1))
  have e3:(upd (upd H2 q1 (.lst (S.ow.map iV))) y (.ins d.qe dxy (putF "owners" (.ref q1) fsy))) q1=some (.lst (S.ow.map iV)):=by rw[kam n1,kad]
  have y3:(upd (upd H2 q1 (.lst (S.ow.map iV))) y (.ins d.qe dxy (putF "owners" (.ref q1) fsy))) y=some (.ins d.qe dxy (putF "owners" (.ref q1) fsy)):=kad
  have c3:(upd (upd H2 q1 (.lst (S.ow.map iV))) y (.ins d.qe dxy (putF "owners" (.ref q1) fsy))) pc=some (.lst ((cutM Vc ps (kds B) S).1.map V.int)):=by
   rw[kam (kaj h1 f2)]
   try apply Y4
   exact kak hq1 _ _ (s2 _ _ h1)
  have f3:=Nm (kal (f:="owners") (v:=.ref q1) ly) (by decide:11≤20)
  generalize upd (upd H2 q1 (.lst (S.ow.map iV))) y (.ins d.qe dxy (putF "owners" (.ref q1) fsy))=H3 at *
  have emin:min (S.pr.map V.int).length ((cutM Vc ps (kds B) S).1.map V.int).length=S.pr.length:=by rw[Nh,Nh,lcut,Mu]
  try apply Y4
  try refine sN fun _ Y4=>?_
  refine⟨_,rfl,x,d.qe,dxs,fss,_,rfl,s3 _ _ hx,W.qe.cl,W.qC,l2,_,rfl,p,pc,_,_,rfl,s3 _ _ hp,c3,
   ker (xs:=S.pr.map V.int) (ys:=(cutM Vc ps (kds B) S).1.map V.int) (fun i σ zs H'=>Same H3 H'∧zs=((NT (· - ·) S.pr (cutM Vc ps (kds B) S).1).take i).map V.int∧∃v0 v1:Option V,σ=[v0,v1])
    ⟨Same.refl _,rfl,none,none,rfl⟩ (by rw[emin];exact Nw (kao (by omega))) (fun i σ zs H' hi h=>⟨h.1 _ _ (s3 _ _ hp),h.1 _ _ c3,by rw[h.2.1,Nh,Ny,ML,lcut];rw[emin] at hi;omega⟩) ?_ ?_⟩
  ·rintro i y1 y2 t σ zs H4 hy1 hy2 ⟨s4,rfl,v0,v1,rfl⟩ ht
   obtain⟨z1,ez1,rfl⟩:=kbL hy1
   obtain⟨z2,ez2,rfl⟩:=kbL hy2
   try apply Y4
   try refine sN fun _ Y6=>?_
   refine⟨t,_,rfl,SqT.of kad,rfl,_,_,rfl,_,_,rfl,rfl,_,rfl,_,rfl,_,_,rfl,rfl,s4.trans (kak ht),?_,_,_,rfl⟩
   rw[kbt (r:=z1-z2) (by rw[MY,ez1,ez2]),Np]
   rfl
  rintro σ zs H4 ⟨s4,rfl,v0,v1,rfl⟩ q2 hq2
  rw[emin,Mf (by rw[ML,lcut];omega)]
  have n2:q2≠y:=(kaj (s4 _ _ y3) hq2).symm
  have n12:q1≠q2:=kaj (s4 _ _ e3) hq2
  have s5:=kak (o:=.lst ((NT (· - ·) S.pr (cutM Vc ps (kds B) S).1).map V.int)) hq2
  try apply Y4
  try refine sN fun _ Y4=>?_
  refine⟨_,rfl,y,d.qe,dxy,_,rfl,s5 _ _ (s4 _ _ y3),W.qe.cl,W.qC,few f3,?_⟩
  have s6:Same H (upd (upd H4 q2 (.lst ((NT (· - ·) S.pr (cutM Vc ps (kds B) S).1).map V.int))) y (.ins d.qe dxy (putF "prices" (.ref q2) (putF "owners" (.ref q1) fsy)))):=kav fy ((s3.trans s4).trans s5) (nx (s5 _ _ (s4 _ _ y3)))
  have e6:(upd (upd H4 q2 (.lst ((NT (· - ·) S.pr (cutM Vc ps (kds B) S).1).map V.int))) y (.ins d.qe dxy (putF "prices" (.ref q2) (putF "owners" (.ref q1) fsy)))) q1=some (.lst (S.ow.map iV)):=by
   rw[kam n1]
   try apply Y4
   exact s5 _ _ (s4 _ _ e3)
  have p6:(upd (upd H4 q2 (.lst ((NT (· - ·) S.pr (cutM Vc ps (kds B) S).1).map V.int))) y (.ins d.qe dxy (putF "prices" (.ref q2) (putF "owners" (.ref q1) fsy)))) q2=some (.lst ((NT (· - ·) S.pr (cutM Vc ps (kds B) S).1).map V.int)):=by rw[kam n2,kad]
  have y6:(upd (upd H4 q2 (.lst ((NT (· - ·) S.pr (cutM Vc ps (kds B) S).1).map V.int))) y (.ins d.qe dxy (putF "prices" (.ref q2) (putF "owners" (.ref q1) fsy)))) y=some (.ins d.qe dxy (putF "prices" (.ref q2) (putF "owners" (.ref q1) fsy))):=kad
  have c6:(upd (upd H4 q2 (.lst ((NT (· - ·) S.pr (cutM Vc ps (kds B) S).1).map V.int))) y (.ins d.qe dxy (putF "prices" (.ref q2) (putF "owners" (.ref q1) fsy)))) pc=some (.lst ((cutM Vc ps (kds B) S).1.map V.int)):=by
   rw[kam (kaj h1 f2)]
   try apply Y4
   exact s5 _ _ (s4 _ _ c3)
  have f6:=Nm (kal (f:="prices") (v:=.ref q2) (kal (f:="owners") (v:=.ref q1) ly)) (by decide:12≤20)
  generalize upd (upd H4 q2 (.lst ((NT (· - ·) S.pr (cutM Vc ps (kds B) S).1).map V.int))) y (.ins d.qe dxy (putF "prices" (.ref q2) (putF "owners" (.ref q1) fsy)))=H6 at *
  try apply Y4
  try refine sN fun _ Y4=>?_
  refine⟨_,rfl,x,d.qe,dxs,fss,_,rfl,s6 _ _ hx,W.qe.cl,W.Qk,l3,_,rfl,_,rfl,v,x,Vc,S,rfl,hV.same s6,hS.same s6,_,_,rfl,rfl,?_⟩
  rw[←kjT (ps:=ps) (kk:=kds B) (S:=S) vo]
  try apply Y4
  try refine sN fun _ Y4=>?_
  refine⟨_,rfl,y,d.qe,dxy,_,rfl,y6,W.qe.cl,W.Qk,few f6,?_⟩
  have s7:Same H (upd H6 y (.ins d.qe dxy (putF "carriage" (.int (S.cg-(cutM Vc ps (kds B) S).2)) (putF "prices" (.ref q2) (putF "owners" (.ref q1) fsy))))):=kav fy s6
  have e7:(upd H6 y (.ins d.qe dxy (putF "carriage" (.int (S.cg-(cutM Vc ps (kds B) S).2)) (putF "prices" (.ref q2) (putF "owners" (.ref q1) fsy))))) q1=some (.lst (S.ow.map iV)):=by rw[kam n1];exact e6
  have p7:(upd H6 y (.ins d.qe dxy (putF "carriage" (.int (S.cg-(cutM Vc ps (kds B) S).2)) (putF "prices" (.ref q2) (putF "owners" (.ref q1) fsy))))) q2=some (.lst ((NT (· - ·) S.pr (cutM Vc ps (kds B) S).1).map V.int)):=by rw[kam n2];exact p6
  have y7:(upd H6 y (.ins d.qe dxy (putF "carriage" (.int (S.cg-(cutM Vc ps (kds B) S).2)) (putF "prices" (.ref q2) (putF "owners" (.ref q1) fsy))))) y=some (.ins d.qe dxy (putF "carriage" (.int (S.cg-(cutM Vc ps (kds B) S).2)) (putF "prices" (.ref q2) (putF "owners" (.ref q1) fsy)))):=kad
  have c7:(upd H6 y (.ins d.qe dxy (putF "carriage" (.int (S.cg-(cutM Vc ps (kds B) S).2)) (putF "prices" (.ref q2) (putF "owners" (.ref q1) fsy))))) pc=some (.lst ((cutM Vc ps (kds B) S).1.map V.int)):=by rw[kam (kaj h1 f2)];exact c6
  have f7:=Nm (kal (f:="carriage") (v:=.int (S.cg-(cutM Vc ps (kds B) S).2)) (kal (f:="prices") (v:=.ref q2) (kal (f:="owners") (v:=.ref q1) ly))) (by decide:13≤20)
  generalize upd H6 y (.ins d.qe dxy (putF "carriage" (.int (S.cg-(cutM Vc ps (kds B) S).2)) (putF "prices" (.ref q2) (putF "owners" (.ref q1) fsy))))=H7 at *
  try apply Y4
  try refine sN fun _ Y4=>?_
  refine⟨_,rfl,_,rfl,_,rfl,v,x,pc,Vc,S,_,rfl,hV.same s7,hS.same s7,c7,by rw[lcut,lp],np,by rw[wf.lm];exact wf.nl,fun l hl=>?_,fun H8 q3 s8 f8 h8=>?_⟩
  ·obtain⟨i,hi⟩:=Mr.mp hl
   rw[wf.lm]
   try apply Y4
   exact wf.line hi
  have n3:q3≠y:=(kaj y7 f8).symm
  try apply Y4
  try refine sN fun _ Y4=>?_
  refine⟨_,rfl,y,d.qe,dxy,_,rfl,s8 _ _ y7,W.qe.cl,W.Qs,few f7,?_⟩
  try apply Y4
  try refine sN fun _ Y4=>?_
  refine⟨_,rfl,k _ y (kav fy (s7.trans s8) (nx (s8 _ _ y7))) fy ⟨fy,q1,q2,q3,⟨dxy,_,kad,?_,?_,?_,?_,?_⟩,none_of s02 hq1,none_of (s3.trans s4) hq2,none_of s7 f8,?_,?_,?_⟩⟩
  ·(repeat (first|rw[kab,if_pos rfl]|rw[kab,if_neg (by decide +kernel)]))
  ·(repeat (first|rw[kab,if_pos rfl]|rw[kab,if_neg (by decide +kernel)]))
  ·(repeat (first|rw[kab,if_pos rfl]|rw[kab,if_neg (by decide +kernel)]))
   rfl
  ·(repeat (first|rw[kab,if_pos rfl]|rw[kab,if_neg (by decide +kernel)]))
  ·rw[kab,if_neg (by decide +kernel),kab,if_neg (by decide +kernel),kab,if_neg (by decide +kernel),kab,if_neg (by decide +kernel)]
   try apply Y4
   exact lyw
  ·rw[kam n1]
   try apply Y4
   exact s8 _ _ e7
  ·rw[kam n2]
   try apply Y4
   exact s8 _ _ p7
  ·rw[kam n3]
   try apply Y4
   exact h8
inductive kfx (d:D) (vs:List V) (H:Hp) (Q:VK) (E_:XK):Prop
 |ct (H0:Hp) (x dx p vl rl:Addr) (ps vs' rs:List V) (bk:Str) (_:vs=[.ref x, .ref p, .ref vl, .ref rl, .str bk]) (_:H0 x=none) (_:Same H0 H) (_:H x=some (.ins d.qh dx [])) (_:H0 p=some (.lst ps)) (_:H0 vl=some (.lst vs')) (_:H0 rl=some (.lst rs)) (_:∀(H':Hp) (p' vl' rl':Addr) (fs:List (Str×V)),Same H0 H'→H0 p'=none→H0 vl'=none→H0 rl'=none→H' p'=some (.lst ps)→H' vl'=some (.lst vs')→H' rl'=some (.lst rs)→H' x=some (.ins d.qh dx fs)→fs.lookup ("parents" :Str)=some (.ref p')→fs.lookup ("vouchers" :Str)=some (.ref vl')→fs.lookup ("rules" :Str)=some (.ref rl')→fs.lookup ("back" :Str)=some (.str bk)→Q .non H'):kfx d vs H Q E_
theorem kgp:kap ["self","parents","vouchers","rules","back"] ["self","parents","vouchers","rules","back"] (kah kbb):=⟨rfl,rfl,rfl,by decide +kernel,rfl,by decide +kernel,by decide +kernel⟩
theorem kcU(W:WB K mg d base):FnOk P w K mg base CX0 1 d.Vk d.XF ["self","parents","vouchers","rules","back"] (kfx d):=by
 refine FunD.ok W.Qd.F kgp (fun vs H Q E h=>?_) (fun cdv A outer s H vs Q E hr h=>?_)
 ·obtain⟨H0,x,dx,p,vl,rl,ps,vs',rs,bk,rfl,_⟩:=h
  rfl
 ·obtain⟨H0,x,dx,p,vl,rl,ps,vs',rs,bk,rfl,fx,s0,hx,hp,hvl,hrl,k⟩:=h
  refine⟨_,kac (kaz (pv 0) (kaO (r:=kbE K) kaI (by rfl) W.B.list kcf (kaa (pv 1) kae)) rfl)
   (kac (kaz (pv 0) (kaO (r:=kbE K) kaI (by rfl) W.B.list kcf (kaa (pv 2) kae)) rfl)
   (kac (kaz (pv 0) (kaO (r:=kbE K) kaI (by rfl) W.B.list kcf (kaa (pv 3) kae)) rfl)
   (kai (kaz (pv 0) (pv 4) rfl)))),?_⟩
  try refine sN fun _ Y4=>?_
  refine⟨_,rfl,p,_,rfl, .inl (SqL.of (s0 _ _ hp)),fun p' hp'=>?_⟩
  have n1:=kak (o:=.lst ps) hp'
  have fp:=s0.free hp'
  have np:p'≠x:=(kaj hx hp').symm
  have e1:(upd H p' (.lst ps)) p'=some (.lst ps):=kad
  have s1:=s0.trans n1
  have hx1:=n1 _ _ hx
  clear n1
  generalize upd H p' (.lst ps)=H1 at *
  try apply Y4
  try refine sN fun _ Y4=>?_
  refine⟨_,rfl,x,d.qh,dx,[],rfl,hx1,W.qh.cl,W.Ql,by decide,?_⟩
  have s2:Same H0 (upd H1 x (.ins d.qh dx (putF "parents" (.ref p') []))):=kav fx s1 (nx hx1)
  have e2:(upd H1 x (.ins d.qh dx (putF "parents" (.ref p') []))) p'=some (.lst ps):=by rw[kam np];exact e1
  have hx2:(upd H1 x (.ins d.qh dx (putF "parents" (.ref p') []))) x=some (.ins d.qh dx (putF "parents" (.ref p') [])):=kad
  generalize upd H1 x (.ins d.qh dx (putF "parents" (.ref p') []))=H2 at *
  try apply Y4
  try refine sN fun _ Y4=>?_
  refine⟨_,rfl,vl,_,rfl, .inl (SqL.of (s2 _ _ hvl)),fun v' hv'=>?_⟩
  have n3:=kak (o:=.lst vs') hv'
  have fv:=s2.free hv'
  have nv:v'≠x:=(kaj hx2 hv').symm
  have s3:=s2.trans n3
  have e3:=n3 _ _ e2
  have ev3:(upd H2 v' (.lst vs')) v'=some (.lst vs'):=kad
  have hx3:=n3 _ _ hx2
  clear n3
  generalize upd H2 v' (.lst vs')=H3 at *
  try apply Y4
  try refine sN fun _ Y4=>?_
  refine⟨_,rfl,x,d.qh,dx,_,rfl,hx3,W.qh.cl,W.qI,few (Nm (kal (n:=0) (Nj _)) (by decide)),?_⟩
  have s4:Same H0 (upd H3 x (.ins d.qh dx (putF "vouchers" (.ref v') (putF "parents" (.ref p') [])))):=kav fx s3 (nx hx3)
  have e4:(upd H3 x (.ins d.qh dx (putF "vouchers" (.ref v') (putF "parents" (.ref p') [])))) p'=some (.lst ps):=by rw[kam np];exact e3
  have ev4:(upd H3 x (.ins d.qh dx (putF "vouchers" (.ref v') (putF "parents" (.ref p') [])))) v'=some (.lst vs'):=by rw[kam nv];exact ev3
  have hx4:(upd H3 x (.ins d.qh dx (putF "vouchers" (.ref v') (putF "parents" (.ref p') [])))) x=some (.ins d.qh dx (putF "vouchers" (.ref v') (putF "parents" (.ref p') []))):=kad
  generalize upd H3 x (.ins d.qh dx (putF "vouchers" (.ref v') (putF "parents" (.ref p') [])))=H4 at *
  try apply Y4
  try refine sN fun _ Y4=>?_
  refine⟨_,rfl,rl,_,rfl, .inl (SqL.of (s4 _ _ hrl)),fun r' hr'=>?_⟩
  have n5:=kak (o:=.lst rs) hr'
  have fr:=s4.free hr'
  have nr:r'≠x:=(kaj hx4 hr').symm
  have s5:=s4.trans n5
  have e5:=n5 _ _ e4
  have ev5:=n5 _ _ ev4
  have er5:(upd H4 r' (.lst rs)) r'=some (.lst rs):=kad
  have hx5:=n5 _ _ hx4
  clear n5
  generalize upd H4 r' (.lst rs)=H5 at *
  try apply Y4
  try refine sN fun _ Y4=>?_
  refine⟨_,rfl,x,d.qh,dx,_,rfl,hx5,W.qh.cl,W.qJ,few (Nm (kal (kal (n:=0) (Nj _))) (by decide)),?_⟩
  have s6:Same H0 (upd H5 x (.ins d.qh dx (putF "rules" (.ref r') (putF "vouchers" (.ref v') (putF "parents" (.ref p') []))))):=kav fx s5 (nx hx5)
  have hx6:(upd H5 x (.ins d.qh dx (putF "rules" (.ref r') (putF "vouchers" (.ref v') (putF "parents" (.ref p') []))))) x=some (.ins d.qh dx (putF "rules" (.ref r') (putF "vouchers" (.ref v') (putF "parents" (.ref p') [])))):=kad
  try apply Y4
  try refine sN fun _ Y4=>?_
  refine⟨_,rfl,_,rfl,x,d.qh,dx,_,rfl,hx6,W.qh.cl,W.XW,few (Nm (kal (kal (kal (n:=0) (Nj _)))) (by decide)),?_⟩
  try apply Y4
  refine k _ p' v' r' _ (kav fx s6 (nx hx6)) fp fv fr ?_ ?_ ?_ kad ?_ ?_ ?_ ?_
  ·rw[kam np,kam np];exact e5
  ·rw[kam nv,kam nv];exact ev5
  ·rw[kam nr,kam nr];exact er5
  ·(repeat (first|rw[kab,if_pos rfl]|rw[kab,if_neg (by decide +kernel)]))
  ·(repeat (first|rw[kab,if_pos rfl]|rw[kab,if_neg (by decide +kernel)]))
  ·(repeat (first|rw[kab,if_pos rfl]|rw[kab,if_neg (by decide +kernel)]))
  ·(repeat (first|rw[kab,if_pos rfl]|rw[kab,if_neg (by decide +kernel)]))
theorem kjv{d:D}{H:Hp}{p vl rl:Addr}{T:TillD}{va ra:List Addr}{R:Addr→Hp→Prop}{E:XK}(hp:H p=some (.lst (T.ps.map pV)))(hvl:H vl=some (.lst (va.map V.ref)))(hv:P2 (fun a V=>VchIs d H a V) va T.vs)(hrl:H rl=some (.lst (ra.map V.ref)))(hr:P2 (fun a r=>RulIs H a r) ra T.rs)
  (k:∀(H':Hp) (x:Addr),Same H H'→H x=none→TillIs d H' x T→R x H'):
  ∀x dx,H x=none→H dx=none→dx≠x→kfx d [.ref x, .ref p, .ref vl, .ref rl, .str T.bk] (upd (upd H dx (.own x)) x (.ins d.qh dx [])) (fun v H2=>v=.non∧R x H2) E:=
 fun x dx nx nd _=>⟨H,x,dx,p,vl,rl,_,_,_,_,rfl,nx,ka2 nx nd,kad,hp,hvl,hrl,fun H' p' vl' rl' fs s f1 f2 f3 h1 h2 h3 hx l1 l2 l3 l4=>⟨rfl,k H' x s nx ⟨dx,fs,p',vl',rl',va,ra,hx,l1,l2,l3,l4,h1,h2,hv.mono fun a V h=>h.same s,h3,hr.mono fun a r h=>s _ _ h⟩⟩⟩
inductive kgV (f:List Rul→List Nat→Nat→Bool) (vs:List V) (H:Hp) (Q:VK) (E_:XK):Prop
 |ct (rl u:Addr) (ra:List Addr) (rs:List Rul) (used:List Nat) (n:Nat) (_:vs=[.ref rl, .ref u,iV n]) (_:H rl=some (.lst (ra.map V.ref))) (_:P2 (fun a r=>RulIs H a r) ra rs) (_:H u=some (.lst (used.map iV))) (_:Q (.bl (f rs used n)) H):kgV f vs H Q E_
theorem kkc{f:Rul→Bool}{rs:List Rul}{i:Nat}{r:Rul}(e:rs[i]?=some r)(h:f r=true):rs.any f=true:=List.any_eq_true.mpr ⟨r,Nt e,h⟩
theorem kls{f:Rul→Bool}{rs:List Rul}{n:Nat}(hn:n=rs.length)(h:∀r∈rs.take n,f r=false):rs.any f=false:=by
 rw[hn,NS] at h
 cases e:rs.any f with
 |false=>rfl
 |true=>
  obtain⟨r,hr,e2⟩:=List.any_eq_true.mp e
  rw[h r hr] at e2
  cases e2
theorem kb5{f:Rul→Bool}{rs:List Rul}{i:Nat}{r:Rul}(e:rs[i]?=some r)(h:∀q∈rs.take i,f q=false)(hr:f r=false):∀q∈rs.take (i+1),f q=false:=fun q hq=>by
 rw[Mz,e] at hq
 rcases NU.mp hq with z|z
 ·exact h q z
 ·have e2:q=r:=by simpa using z
  rw[e2]
  exact hr
theorem Xp:kap ["rules","used","number","word","one","other"] ["rules","used","number"] (kah kcg):=⟨rfl,rfl,rfl,by decide +kernel,rfl,by decide +kernel,by decide +kernel⟩
theorem keM(W:WB K mg d base):FnOk P w K mg base CX0 1 d.YZ d.Y0 ["rules","used","number"] (kgV kfh):=by
 refine FunD.ok W.QZ.F Xp (fun vs H Q E h=>?_) (fun cdv A outer s H vs Q E hr h=>?_)
 ·obtain⟨rl,u,ra,rs,used,n,rfl,_⟩:=h
  rfl
 ·obtain⟨rl,u,ra,rs,used,n,rfl,hrl,hr,hu,k⟩:=h
  refine⟨_,kac (kbA PassesOwn.never rfl (kaJ (K:=K) (pv 0)) (kbo (K:=K) (n:=3) rfl (kaA (kar (i:=3) Xp.nd rfl (Or.inl rfl)) (kaA (kar (i:=4) Xp.nd rfl (Or.inl rfl)) (kaA (kar (i:=5) Xp.nd rfl (Or.inl rfl)) kbn))))
   (kai (ps_if (PW.pt (kbU (kat op_eq (pv 3) kbB (kax _)) (kbF (PW.pt (pw_or (PW.pt (kbU (kat op_eq (pv 4) (pv 2) (kax _)) (kbF (kat kcT (pv 5) (pv 1) (by with_unfolding_all rfl))))) (khN (PW.pt (kbU (kat op_eq (pv 5) (pv 2) (kax _)) (kbF (kat kcT (pv 4) (pv 1) (by with_unfolding_all rfl))))))))))) (kai (kaq pe_bl)) (kaw))))
   (kai (kaq pe_bl)),?_⟩
  refine⟨_,rfl,rl,rfl,⟨_,SqL.of hrl⟩,kbV (xs:=ra.map V.ref) (fun i σ H'=>H'=H∧(∀r∈rs.take i,nevR used n r=false)∧∃v3 v4 v5:Option V,σ=[some (.ref rl),some (.ref u),some (iV n),v3,v4,v5])
   ⟨rfl,(fun r hr=>by simp at hr),none,none,none,rfl⟩ (fun i σ H' _ h=>by rw[h.1];exact SqL.of hrl) ?_ ?_⟩
  ·rintro i y σ H' hy ⟨rfl,hno,v3,v4,v5,rfl⟩
   obtain⟨a,ea,rfl⟩:=kbJ hy
   obtain⟨r,er,hra⟩:=hr.at ea
   have yes:nevR used n r=true→Q (.bl true) H':=fun e=>by
    have z:=kkc (f:=nevR used n) er e
    unfold kfh at k
    rw[z] at k
    exact k
   refine⟨a,_,rfl,SqT.of hra,rfl,_,_,rfl,_,_,rfl,_,_,rfl,rfl,?_⟩
   refine⟨_,rfl,rfl,_,rfl,?_⟩
   show if decide (V.str r.w=V.str "never")=true then _ else _
   rw[eq_str]
   by_cases hw:r.w=("never" :Str)
   ·rw [decide_eq_true hw]
    refine iteT ⟨_,rfl,_,rfl,rfl,_,rfl,?_⟩
    show if decide (iV r.a=iV n)=true then _ else _
    rw[kgH]
    by_cases ha:r.a=n
    ·rw[decide_eq_true ha]
     refine iteT ⟨_,rfl,_,rfl,u,_,rfl, .inl (SqL.of hu),rfl,kc2 _,_,rfl,?_⟩
     rw[if_neg Nu,kc0]
     cases hb:used.contains r.b with
     |true=>exact iteT (iteT (yes (by unfold nevR;rw[decide_eq_true hw,decide_eq_true ha,hb];rfl)))
     | false=>
      refine iteF ⟨_,rfl,_,rfl,rfl,_,rfl,?_⟩
      show if decide (iV r.b=iV n)=true then _ else _
      rw[kgH]
      by_cases hc:r.b=n
      ·rw[decide_eq_true hc]
       refine iteT ⟨_,rfl,_,rfl,u,_,rfl, .inl (SqL.of hu),rfl,kc2 _,_,rfl,?_⟩
       rw[if_neg Nu,kc0]
       cases hd:used.contains r.a with
       |true=>exact iteT (yes (by unfold nevR;rw[decide_eq_true hw,decide_eq_true ha,hb,decide_eq_true hc,hd];rfl))
       |false=>exact iteF ⟨rfl,kb5 er hno (by unfold nevR;rw[decide_eq_true hw,decide_eq_true ha,hb,decide_eq_true hc,hd];rfl),_,_,_,rfl⟩
      ·rw[decide_eq_false hc]
       exact iteF (iteF ⟨rfl,kb5 er hno (by unfold nevR;rw[decide_eq_true hw,decide_eq_true ha,hb,decide_eq_false hc];rfl),_,_,_,rfl⟩)
    ·rw[decide_eq_false ha]
     refine iteF (iteF ⟨_,rfl,_,rfl,rfl,_,rfl,?_⟩)
     show if decide (iV r.b=iV n)=true then _ else _
     rw[kgH]
     by_cases hc:r.b=n
     ·rw[decide_eq_true hc]
      refine iteT ⟨_,rfl,_,rfl,u,_,rfl, .inl (SqL.of hu),rfl,kc2 _,_,rfl,?_⟩
      rw[if_neg Nu,kc0]
      cases hd:used.contains r.a with
      |true=>exact iteT (yes (by unfold nevR;rw[decide_eq_true hw,decide_eq_false ha,decide_eq_true hc,hd];rfl))
      |false=>exact iteF ⟨rfl,kb5 er hno (by unfold nevR;rw[decide_eq_true hw,decide_eq_false ha,decide_eq_true hc,hd];rfl),_,_,_,rfl⟩
     ·rw[decide_eq_false hc]
      exact iteF (iteF ⟨rfl,kb5 er hno (by unfold nevR;rw[decide_eq_true hw,decide_eq_false ha,decide_eq_false hc];rfl),_,_,_,rfl⟩)
   ·rw[decide_eq_false hw]
    refine iteF (iteF ⟨rfl,kb5 er hno ?_,_,_,_,rfl⟩)
    unfold nevR
    rw[decide_eq_false hw]
    rfl
  ·rintro σ H' ⟨rfl,hno,v3,v4,v5,rfl⟩
   have z:=kls (by rw[Nh];exact hr.len) hno
   unfold kfh at k
   rw[z] at k
   exact k
theorem Xq:kap ["rules","used","number","word","one","other"] ["rules","used","number"] (kah kch):=⟨rfl,rfl,rfl,by decide +kernel,rfl,by decide +kernel,by decide +kernel⟩
theorem keN(W:WB K mg d base):FnOk P w K mg base CX0 1 d.Y1 d.Y2 ["rules","used","number"] (kgV kfp):=by
 refine FunD.ok W.Q0.F Xq (fun vs H Q E h=>?_) (fun cdv A outer s H vs Q E hr h=>?_)
 ·obtain⟨rl,u,ra,rs,used,n,rfl,_⟩:=h
  rfl
 ·obtain⟨rl,u,ra,rs,used,n,rfl,hrl,hr,hu,k⟩:=h
  refine⟨_,kac (kbA PassesOwn.never rfl (kaJ (K:=K) (pv 0)) (kbo (K:=K) (n:=3) rfl (kaA (kar (i:=3) Xq.nd rfl (Or.inl rfl)) (kaA (kar (i:=4) Xq.nd rfl (Or.inl rfl)) (kaA (kar (i:=5) Xq.nd rfl (Or.inl rfl)) kbn))))
   (kai (ps_if (PW.pt (kbU (kat op_eq (pv 3) kbB (kax _)) (kbU (kat op_eq (pv 4) (pv 2) (kax _)) (kbF (kat kcT (pv 5) (pv 1) (by with_unfolding_all rfl)))))) (kai (kaq pe_bl)) (kaw))))
   (kai (kaq pe_bl)),?_⟩
  refine⟨_,rfl,rl,rfl,⟨_,SqL.of hrl⟩,kbV (xs:=ra.map V.ref) (fun i σ H'=>H'=H∧(∀r∈rs.take i,ahdR used n r=false)∧∃v3 v4 v5:Option V,σ=[some (.ref rl),some (.ref u),some (iV n),v3,v4,v5])
   ⟨rfl,(fun r hr=>by simp at hr),none,none,none,rfl⟩ (fun i σ H' _ h=>by rw[h.1];exact SqL.of hrl) ?_ ?_⟩
  ·rintro i y σ H' hy ⟨rfl,hno,v3,v4,v5,rfl⟩
   obtain⟨a,ea,rfl⟩:=kbJ hy
   obtain⟨r,er,hra⟩:=hr.at ea
   have yes:ahdR used n r=true→Q (.bl true) H':=fun e=>by
    have z:=kkc (f:=ahdR used n) er e
    unfold kfp at k
    rw[z] at k
    exact k
   refine⟨a,_,rfl,SqT.of hra,rfl,_,_,rfl,_,_,rfl,_,_,rfl,rfl,?_⟩
   refine⟨_,rfl,rfl,_,rfl,?_⟩
   show if decide (V.str r.w=V.str "ahead")=true then _ else _
   rw[eq_str]
   by_cases hw:r.w=("ahead" :Str)
   ·rw[decide_eq_true hw]
    refine iteT ⟨_,rfl,_,rfl,rfl,_,rfl,?_⟩
    show if decide (iV r.a=iV n)=true then _ else _
    rw[kgH]
    by_cases ha:r.a=n
    ·rw[decide_eq_true ha]
     refine iteT ⟨_,rfl,_,rfl,u,_,rfl, .inl (SqL.of hu),rfl,kc2 _,_,rfl,?_⟩
     rw[if_neg Nu,kc0]
     cases hb:used.contains r.b with
     |true=>exact iteT (yes (by unfold ahdR;rw[decide_eq_true hw,decide_eq_true ha,hb];rfl))
     |false=>exact iteF ⟨rfl,kb5 er hno (by unfold ahdR;rw[decide_eq_true hw,decide_eq_true ha,hb];rfl),_,_,_,rfl⟩
    ·rw[decide_eq_false ha]
     exact iteF (iteF ⟨rfl,kb5 er hno (by unfold ahdR;rw[decide_eq_true hw,decide_eq_false ha];rfl),_,_,_,rfl⟩)
   ·rw[decide_eq_false hw]
    refine iteF (iteF ⟨rfl,kb5 er hno ?_,_,_,_,rfl⟩)
    unfold ahdR
    rw[decide_eq_false hw]
    rfl
  ·rintro σ H' ⟨rfl,hno,v3,v4,v5,rfl⟩
   have z:=kls (by rw[Nh];exact hr.len) hno
   unfold kfp at k
   rw[z] at k
   exact k
inductive kgk (vs:List V) (H:Hp) (Q:VK) (E_:XK):Prop
 |ct (rl u:Addr) (ra:List Addr) (rs:List Rul) (order:List Nat) (_:vs=[.ref rl, .ref u]) (_:H rl=some (.lst (ra.map V.ref))) (_:P2 (fun a r=>RulIs H a r) ra rs) (_:H u=some (.lst (order.map iV))) (_:Q (pV (onlyM rs order)) H):kgk vs H Q E_
theorem kh7{f:Rul→Bool}:∀{rs:List Rul} {i:Nat} {r:Rul},rs[i]?=some r→f r=true→(∀q∈rs.take i,f q=false)→rs.find? f=some r
 |[],i,r,e,_,_=>by simp at e
 |q::rs,0,r,e,h,_=>by
  have e2:q=r:=by simpa using e
  subst e2
  simp[h]
 |q::rs,i+1,r,e,h,hno=>by
  have h1:=hno q (by simp)
  rw[List.find?_cons_of_neg (by rw[h1];simp)]
  exact kh7 (by simpa using e) h fun z hz=>hno z (by simp[hz])
theorem kl1{f:Rul→Bool}{rs:List Rul}{n:Nat}(hn:n=rs.length)(h:∀r∈rs.take n,f r=false):rs.find? f=none:=by
 rw[hn,NS] at h
 exact List.find?_eq_none.mpr fun r hr=>by rw[h r hr];simp
theorem Xr:kap ["rules","order","word","one","other"] ["rules","order"] (kah kbC):=⟨rfl,rfl,rfl,by decide +kernel,rfl,by decide +kernel,by decide +kernel⟩
theorem kcc(W:WB K mg d base):FnOk P w K mg base CX0 1 d.Y3 d.Y5 ["rules","order"] kgk:=by
 refine FunD.ok W.qX.F Xr (fun vs H Q E h=>?_) (fun cdv A outer s H vs Q E hr h=>?_)
 ·obtain⟨rl,u,ra,rs,order,rfl,_⟩:=h
  rfl
 ·obtain⟨rl,u,ra,rs,order,rfl,hrl,hr,hu,k⟩:=h
  refine⟨_,kac (kbA PassesOwn.never rfl (kaJ (K:=K) (pv 0)) (kbo (K:=K) (n:=3) rfl (kaA (kar (i:=2) Xr.nd rfl (Or.inl rfl)) (kaA (kar (i:=3) Xr.nd rfl (Or.inl rfl)) (kaA (kar (i:=4) Xr.nd rfl (Or.inl rfl)) kbn))))
   (kai (ps_if (PW.pt (kbU (kat op_eq (pv 2) kbB (kax _)) (kbU (kat kcT (pv 3) (pv 1) (by with_unfolding_all rfl)) (kbF (kat kgv (pv 4) (pv 1) (by with_unfolding_all rfl)))))) (kai (kaq (pv 3))) (kaw))))
   (kai (kaq ka5)),?_⟩
  refine⟨_,rfl,rl,rfl,⟨_,SqL.of hrl⟩,kbV (xs:=ra.map V.ref) (fun i σ H'=>H'=H∧(∀r∈rs.take i,loneM order r=false)∧∃v3 v4 v5:Option V,σ=[some (.ref rl),some (.ref u),v3,v4,v5])
   ⟨rfl,(fun r hr=>by simp at hr),none,none,none,rfl⟩ (fun i σ H' _ h=>by rw[h.1];exact SqL.of hrl) ?_ ?_⟩
  ·rintro i y σ H' hy ⟨rfl,hno,v3,v4,v5,rfl⟩
   obtain⟨a,ea,rfl⟩:=kbJ hy
   obtain⟨r,er,hra⟩:=hr.at ea
   refine⟨a,_,rfl,SqT.of hra,rfl,_,_,rfl,_,_,rfl,_,_,rfl,rfl,?_⟩
   refine⟨_,rfl,rfl,_,rfl,?_⟩
   show if decide (V.str r.w=V.str "only")=true then _ else _
   rw[eq_str]
   by_cases hw:r.w=("only" :Str)
   ·rw[decide_eq_true hw]
    refine iteT ⟨_,rfl,_,rfl,u,_,rfl, .inl (SqL.of hu),rfl,kc2 _,_,rfl,?_⟩
    rw[if_neg Nu,kc0]
    cases ha:order.contains r.a with
    | true=>
     refine iteT ⟨_,rfl,_,rfl,u,_,rfl, .inl (SqL.of hu),rfl,kc2 _,_,rfl,?_⟩
     rw[if_pos rfl,kc0]
     cases hb:order.contains r.b with
     |true=>exact iteF ⟨rfl,kb5 er hno (by unfold loneM;rw[decide_eq_true hw,ha,hb];rfl),_,_,_,rfl⟩
     |false=>
      refine iteT ⟨_,rfl,?_⟩
      have z:=kh7 (f:=loneM order) er (by unfold loneM;rw[decide_eq_true hw,ha,hb];rfl) hno
      unfold onlyM at k
      rw[z] at k
      exact k
    |false=>exact iteF (iteF ⟨rfl,kb5 er hno (by unfold loneM;rw[decide_eq_true hw,ha];rfl),_,_,_,rfl⟩)
   ·rw[decide_eq_false hw]
    refine iteF (iteF ⟨rfl,kb5 er hno ?_,_,_,_,rfl⟩)
    unfold loneM
    rw[decide_eq_false hw]
    rfl
  ·rintro σ H' ⟨rfl,hno,v3,v4,v5,rfl⟩
   have z:=kl1 (by rw[Nh];exact hr.len) hno
   unfold onlyM at k
   rw[z] at k
   exact k
inductive khu (d:D) (vs:List V) (H:Hp) (Q:VK) (E_:XK):Prop
 |ct (t h u:Addr) (T:TillD) (hand:List Int) (used:List Nat) (n:Nat) (V:Vch) (_:vs=[.ref t, .ref h, .ref u,iV n]) (_:TillIs d H t T) (_:H h=some (.lst (hand.map L2.V.int))) (_:H u=some (.lst (used.map iV))) (_:T.vs[n]?=some V) (_:hand.length=T.vs.length) (_:Q (sV (wordM V T.rs hand used n)) H):khu d vs H Q E_
theorem ked:kap ["till","hand","used","number"] ["till","hand","used","number"] (kah kbW):=⟨rfl,rfl,rfl,by decide +kernel,rfl,by decide +kernel,by decide +kernel⟩
theorem kei(W:WB K mg d base):FnOk P w K mg base CX0 2 d.YX d.YY ["till","hand","used","number"] (khu d):=by
 refine FunD.ok W.QY.F ked (fun vs H Q E h=>?_) (fun cdv A outer s H vs Q E hr h=>?_)
 ·obtain⟨t,h,u,T,hand,used,n,V,rfl,_⟩:=h
  rfl
 ·obtain⟨t,h,u,T,hand,used,n,Vc,rfl,hT,hh,hu,hn,hl,k⟩:=h
  obtain⟨dx,fs,p,vl,rl,va,ra,ht,t1,t2,t3,t4,hp,hvl,hva,hrl,hra⟩:=hT
  have UI:=keM (P:=P) (w:=w) (base:=base) W
  have UJ:=keN (P:=P) (w:=w) (base:=base) W
  refine⟨_,kac (ps_if (kat op_gt (pe_op kaB (pe_bm N1 Dm Do kh1 (pv 2) (kaa (pv 3) kae)) kaf) (pe_ix (r:=rIxL K) kaD (pv 1) (pv 3) (fun _ _=>rfl)) (kax _)) (kai (kaq kbB)) (kaw))
   (kac (ps_if (PW.pt (kbU (kbg (kag (K:=K) (kag (K:=K) (pe_ix (r:=rIxL K) kaD (kag (K:=K) (pv 0) rfl) (pv 3) (fun _ _=>rfl)) rfl) rfl)) (kbF (kat kcT (pv 3) (pv 2) (by with_unfolding_all rfl))))) (kai (kaq kbB)) (kaw))
   (kac (ps_if (kbg (kan UI hr rfl W.QZ.m W.QZ.F.kp W.QZ.b .nil pass0 (kaa (kag (K:=K) (pv 0) rfl) (kaa (pv 2) (kaa (pv 3) kae))))) (kai (kaq kbB)) (kaw))
   (kac (ps_if (kbg (kan UJ hr rfl W.Q0.m W.Q0.F.kp W.Q0.b .nil pass0 (kaa (kag (K:=K) (pv 0) rfl) (kaa (pv 2) (kaa (pv 3) kae))))) (kai (kaq kbB)) (kaw))
   (kai (kaq ka5))))),?_⟩
  obtain⟨v,ev⟩:=at_of (xs:=va) (i:=n) (by rw[hva.len];exact at_lt hn)
  obtain⟨Vc',eV',hV⟩:=hva.at ev
  rw[hn] at eV'
  cases eV'
  obtain⟨mA,dxv,fsv,hv,lvm,_,⟨dxm,fsm,hm,m1,m2,m3,m4,m5,m6⟩,hh',_⟩:=id hV
  obtain⟨z,ez⟩:=at_of (xs:=hand) (i:=n) (by rw[hl];exact at_lt hn)
  have eu:H u=some (.lst ((used.map fun(i:Nat)=>(i:Int)).map V.int)):=by rw[hu,NM];rfl
  have eg:hand.getD n 0=z:=by rw[NH,ez];rfl
  refine⟨_,rfl, .inl ⟨rfl,_,SqL.of hu⟩,_,rfl,u,_,_,rfl,rfl,eu,_,_,rfl,rfl,_,rfl,_,rfl,h,_,_,_,rfl,rfl,SqL.of hh,ka1 (v:=.int z) (by rw[Nv,ez];rfl),_,_,rfl,rfl,_,rfl,?_⟩
  rw[kf6]
  unfold wordM at k
  rw[eg] at k
  by_cases c1:z<(used.count n:Int)+1
  ·rw[if_pos c1] at k
   rw[show decide ((used.count n:Int)+1 > z)=true from decide_eq_true c1]
   exact iteT k
  rw[if_neg c1] at k
  rw[show decide ((used.count n:Int)+1 > z)=false from decide_eq_false c1]
  refine iteF ?_
  refine⟨_,rfl,t,d.qh,dx,fs,_,rfl,ht,W.qh.cl,W.qI,t2,_,rfl,vl,_,_,_,rfl,rfl,SqL.of hvl,ka1 (v:=.ref v) (by rw[Nv,ev];rfl),v,clsOf d Vc.so,dxv,fsv,_,rfl,hv,cl_of W hh',na_of W hh',lvm,mA,d.qj,dxm,fsm,_,rfl,hm,W.qj.cl,W.VC,m5,Vc.ms.once,rfl,?_⟩
  cases ho:Vc.ms.once with
  | true=>
   rw[ho,Bool.true_and] at k
   refine iteT ⟨_,rfl,_,rfl,u,_,rfl, .inl (SqL.of hu),rfl,kc2 _,_,rfl,?_⟩
   rw[if_neg Nu,kc0]
   cases hc:used.contains n with
   |true=>
    rw[hc,if_pos rfl] at k
    exact iteT k
   | false=>
    rw[hc,if_neg Nu] at k
    refine iteF ?_
    refine⟨_,rfl,t,d.qh,dx,fs,_,rfl,ht,W.qh.cl,W.qJ,t3,_,rfl,_,rfl,rl,u,ra,T.rs,used,n,rfl,hrl,hra,hu,_,rfl,?_⟩
    cases h1:kfh T.rs used n with
    |true=>
     rw[h1,if_pos rfl] at k
     exact iteT k
    | false=>
     rw[h1,if_neg Nu] at k
     refine iteF ⟨_,rfl,t,d.qh,dx,fs,_,rfl,ht,W.qh.cl,W.qJ,t3,_,rfl,_,rfl,rl,u,ra,T.rs,used,n,rfl,hrl,hra,hu,_,rfl,?_⟩
     cases h2:kfp T.rs used n with
     |true=>
      rw[h2,if_pos rfl] at k
      exact iteT k
     |false=>
      rw[h2,if_neg Nu] at k
      exact iteF k
  | false=>
   rw[ho,EE,if_neg Nu] at k
   refine iteF (iteF ?_)
   refine⟨_,rfl,t,d.qh,dx,fs,_,rfl,ht,W.qh.cl,W.qJ,t3,_,rfl,_,rfl,rl,u,ra,T.rs,used,n,rfl,hrl,hra,hu,_,rfl,?_⟩
   cases h1:kfh T.rs used n with
   |true=>
    rw[h1,if_pos rfl] at k
    exact iteT k
   | false=>
    rw[h1,if_neg Nu] at k
    refine iteF ⟨_,rfl,t,d.qh,dx,fs,_,rfl,ht,W.qh.cl,W.qJ,t3,_,rfl,_,rfl,rl,u,ra,T.rs,used,n,rfl,hrl,hra,hu,_,rfl,?_⟩
    cases h2:kfp T.rs used n with
    |true=>
     rw[h2,if_pos rfl] at k
     exact iteT k
    |false=>
     rw[h2,if_neg Nu] at k
     exact iteF k
inductive kiM (d:D) (vs:List V) (H:Hp) (Q:VK) (E_:XK):Prop
 |ct (H0:Hp) (w dx t b h:Addr) (hand:List Int) (B:Bask) (_:vs=[.ref w, .ref t, .ref b, .ref h]) (_:H0 w=none) (_:Same H0 H) (_:H w=some (.ins d.c_Way dx [])) (_:H0 h=some (.lst (hand.map V.int))) (_:BaskIs d.qf d.qg H0 b B) (_:B.rs.length≤12) (_:(∀r∈B.rs,r.Ok)) (_:∀(H':Hp) (x:Addr),Same H0 H'→H0 x=none→WayN d 5 H0 H' w t b x hand []→StndIs d.qe H' x (stnd0 B)→Q .non H'):kiM d vs H Q E_
theorem kg0:kap ["self","till","basket","hand"] ["self","till","basket","hand"] (kah kdP):=⟨rfl,rfl,rfl,by decide +kernel,rfl,by decide +kernel,by decide +kernel⟩
theorem kcx(W:WB K mg d base):FnOk P w K mg base CX0 4 d.Z9 d.Va ["self","till","basket","hand"] (kiM d):=by
 refine FunD.ok W.qH.F kg0 (fun vs H Q E h=>?_) (fun cdv A outer s H vs Q E hr h=>?_)
 ·obtain⟨H0,wy,dx,t,b,h,hand,B,rfl,_⟩:=h
  rfl
 ·obtain⟨H0,wy,dx,t,b,h,hand,B,rfl,fw,s0,hw,hh,hb,hB,hok,k⟩:=h
  have Yb:=kcC (P:=P) (w:=w) (base:=base) W
  refine⟨_,kac (kaz (pv 0) (pv 1) rfl)
   (kac (kaz (pv 0) (pv 2) rfl)
   (kac (kaz (pv 0) (kaO (r:=kbE K) kaI (by rfl) W.B.list kcf (kaa (pv 3) kae)) rfl)
   (kac (kaz (pv 0) (kaL kae) rfl)
   (kai (kaz (pv 0) (kaS (W.Qt.mk' W.qe) Yb hr rfl W.qe.m W.Qt.b .nil pass0 (kaa (pv 2) kae)) rfl))))),?_⟩
  try refine sN fun _ Y4=>?_
  refine⟨_,rfl,_,rfl,wy,d.c_Way,dx,[],rfl,hw,W.c_Way.cl,W.qO,by decide,?_⟩
  have s1:Same H0 (upd H wy (.ins d.c_Way dx (putF "till" (.ref t) []))):=kav fw s0 (nx hw)
  have hw1:(upd H wy (.ins d.c_Way dx (putF "till" (.ref t) []))) wy=some (.ins d.c_Way dx (putF "till" (.ref t) [])):=kad
  generalize upd H wy (.ins d.c_Way dx (putF "till" (.ref t) []))=H1 at *
  try apply Y4
  try refine sN fun _ Y4=>?_
  refine⟨_,rfl,_,rfl,wy,d.c_Way,dx,_,rfl,hw1,W.c_Way.cl,W.Xk,few (Nm (kal (n:=0) (Nj _)) (by decide)),?_⟩
  have s2:Same H0 (upd H1 wy (.ins d.c_Way dx (putF "basket" (.ref b) (putF "till" (.ref t) [])))):=kav fw s1 (nx hw1)
  have hw2:(upd H1 wy (.ins d.c_Way dx (putF "basket" (.ref b) (putF "till" (.ref t) [])))) wy=some (.ins d.c_Way dx (putF "basket" (.ref b) (putF "till" (.ref t) []))):=kad
  generalize upd H1 wy (.ins d.c_Way dx (putF "basket" (.ref b) (putF "till" (.ref t) [])))=H2 at *
  try apply Y4
  try refine sN fun _ Y4=>?_
  refine⟨_,rfl,h,_,rfl, .inl (SqL.of (s2 _ _ hh)),fun h' hh'=>?_⟩
  have n3:=kak (o:=.lst (hand.map V.int)) hh'
  have nh:h'≠wy:=(kaj hw2 hh').symm
  have s3:=s2.trans n3
  have e3:(upd H2 h' (.lst (hand.map V.int))) h'=some (.lst (hand.map V.int)):=kad
  have hw3:=n3 _ _ hw2
  clear n3
  generalize upd H2 h' (.lst (hand.map V.int))=H3 at *
  try apply Y4
  try refine sN fun _ Y4=>?_
  refine⟨_,rfl,wy,d.c_Way,dx,_,rfl,hw3,W.c_Way.cl,W.XR,few (Nm (kal (kal (n:=0) (Nj _))) (by decide)),?_⟩
  have s4:Same H0 (upd H3 wy (.ins d.c_Way dx (putF "hand" (.ref h') (putF "basket" (.ref b) (putF "till" (.ref t) []))))):=kav fw s3 (nx hw3)
  have e4:(upd H3 wy (.ins d.c_Way dx (putF "hand" (.ref h') (putF "basket" (.ref b) (putF "till" (.ref t) []))))) h'=some (.lst (hand.map V.int)):=by rw[kam nh];exact e3
  have hw4:(upd H3 wy (.ins d.c_Way dx (putF "hand" (.ref h') (putF "basket" (.ref b) (putF "till" (.ref t) []))))) wy=some (.ins d.c_Way dx (putF "hand" (.ref h') (putF "basket" (.ref b) (putF "till" (.ref t) [])))):=kad
  generalize upd H3 wy (.ins d.c_Way dx (putF "hand" (.ref h') (putF "basket" (.ref b) (putF "till" (.ref t) []))))=H4 at *
  try apply Y4
  try refine sN fun _ Y4=>?_
  refine⟨by decide,fun u hu=>?_⟩
  have n5:=kak (o:=.lst []) hu
  have nu:u≠wy:=(kaj hw4 hu).symm
  have s5:=s4.trans n5
  have e5:=n5 _ _ e4
  have eu5:(upd H4 u (.lst [])) u=some (.lst (([]:List Nat).map iV)):=kad
  have hw5:=n5 _ _ hw4
  clear n5
  generalize upd H4 u (.lst [])=H5 at *
  try apply Y4
  try refine sN fun _ Y4=>?_
  refine⟨_,rfl,wy,d.c_Way,dx,_,rfl,hw5,W.c_Way.cl,W.q9,few (Nm (kal (kal (kal (n:=0) (Nj _)))) (by decide)),?_⟩
  have s6:Same H0 (upd H5 wy (.ins d.c_Way dx (putF "used" (.ref u) (putF "hand" (.ref h') (putF "basket" (.ref b) (putF "till" (.ref t) [])))))):=kav fw s5 (nx hw5)
  have e6:(upd H5 wy (.ins d.c_Way dx (putF "used" (.ref u) (putF "hand" (.ref h') (putF "basket" (.ref b) (putF "till" (.ref t) [])))))) h'=some (.lst (hand.map V.int)):=by rw[kam nh];exact e5
  have eu6:(upd H5 wy (.ins d.c_Way dx (putF "used" (.ref u) (putF "hand" (.ref h') (putF "basket" (.ref b) (putF "till" (.ref t) [])))))) u=some (.lst (([]:List Nat).map iV)):=by rw[kam nu];exact eu5
  have hw6:(upd H5 wy (.ins d.c_Way dx (putF "used" (.ref u) (putF "hand" (.ref h') (putF "basket" (.ref b) (putF "till" (.ref t) [])))))) wy=some (.ins d.c_Way dx (putF "used" (.ref u) (putF "hand" (.ref h') (putF "basket" (.ref b) (putF "till" (.ref t) []))))):=kad
  generalize upd H5 wy (.ins d.c_Way dx (putF "used" (.ref u) (putF "hand" (.ref h') (putF "basket" (.ref b) (putF "till" (.ref t) [])))))=H6 at *
  try apply Y4
  try refine sN fun _ Y4=>?_
  refine⟨_,rfl,klS (hb.same s6) hB hok fun H7 x s7 f7 hx=>?_⟩
  have hw7:=s7 _ _ hw6
  have fx:H0 x=none:=s6.free f7
  have nxw:x≠wy:=(kaj hw6 f7).symm
  try apply Y4
  try refine sN fun _ Y4=>?_
  refine⟨_,rfl,wy,d.c_Way,dx,_,rfl,hw7,W.c_Way.cl,W.Qa,few (Nm (kal (kal (kal (kal (n:=0) (Nj _))))) (by decide)),?_⟩
  try apply Y4
  refine k _ x (kav fw (s6.trans s7) (nx hw7)) fx ⟨fw,dx,_,h',u,none_of s2 hh',none_of s4 hu,kad,?_,?_,?_,?_,?_,?_,?_,?_,?_,?_,?_,?_⟩ ?_
  ·(repeat (first|rw[kab,if_pos rfl]|rw[kab,if_neg (by decide +kernel)]))
  ·(repeat (first|rw[kab,if_pos rfl]|rw[kab,if_neg (by decide +kernel)]))
  ·(repeat (first|rw[kab,if_pos rfl]|rw[kab,if_neg (by decide +kernel)]))
  ·(repeat (first|rw[kab,if_pos rfl]|rw[kab,if_neg (by decide +kernel)]))
  ·(repeat (first|rw[kab,if_pos rfl]|rw[kab,if_neg (by decide +kernel)]))
  ·(repeat (first|rw[kab,if_pos rfl]|rw[kab,if_neg (by decide +kernel)]))
   rfl
  ·(repeat (first|rw[kab,if_pos rfl]|rw[kab,if_neg (by decide +kernel)]))
   rfl
  ·(repeat (first|rw[kab,if_pos rfl]|rw[kab,if_neg (by decide +kernel)]))
   rfl
  ·(repeat (first|rw[kab,if_pos rfl]|rw[kab,if_neg (by decide +kernel)]))
   rfl
  ·exact Nm (kal (kal (kal (kal (kal (n:=0) (Nj _)))))) (by decide)
  ·rw[kam nh];exact s7 _ _ e6
  ·rw[kam nu];exact s7 _ _ eu6
  ·obtain⟨o,pp,mm,⟨dxs,fss,hxs,q⟩,ho,hpp,hmm⟩:=hx
   try apply Y4
   exact⟨o,pp,mm,⟨dxs,fss,by rw[kam nxw];exact hxs,q⟩,by rw[kam (ne_of ho hw7 (by intro z;cases z))];exact ho,by rw[kam (ne_of hpp hw7 (by intro z;cases z))];exact hpp,by rw[kam (ne_of hmm hw7 (by intro z;cases z))];exact hmm⟩
theorem kh2{d:D}{H:Hp}{t b h:Addr}{hand:List Int}{B:Bask}{R:Addr→Hp→Prop}{E:XK}(hh:H h=some (.lst (hand.map V.int)))(hb:BaskIs d.qf d.qg H b B)(hB:B.rs.length≤12)(hok:∀r∈B.rs,r.Ok)
  (k:∀(H':Hp) (w x:Addr),Same H H'→H w=none→H x=none→WayN d 5 H H' w t b x hand []→StndIs d.qe H' x (stnd0 B)→R w H'):
  ∀w dx,H w=none→H dx=none→dx≠w→kiM d [.ref w, .ref t, .ref b, .ref h] (upd (upd H dx (.own w)) w (.ins d.c_Way dx [])) (fun v H2=>v=.non∧R w H2) E:=
 fun w dx nw nd _=>⟨H,w,dx,t,b,h,hand,B,rfl,nw,ka2 nw nd,kad,hh,hb,hB,hok,fun H' x s f hW hx=>⟨rfl,k H' w x s nw f hW hx⟩⟩
inductive kge (d:D) (vs:List V) (H:Hp) (Q:VK) (E_:XK):Prop
 |ct (wy t b x:Addr) (T:TillD) (B:Bask) (S:Stnd) (hand:List Int) (used:List Nat) (n:Nat) (V:Vch) (_:vs=[.ref wy,iV n]) (_:WayIs d H wy t b x hand used) (_:TillIs d H t T) (_:BaskIs d.qf d.qg H b B) (_:StndIs d.qe H x S) (_:Wf T.ps B S) (_:VchOk T.ps V) (_:T.vs[n]?=some V) (_:hand.length=T.vs.length) (_:∀(H':Hp),Same H H'→Q (dueM V T B hand used S n) H'):kge d vs H Q E_
theorem VW:kap ["self","number","word"] ["self","number"] (kah kcm):=⟨rfl,rfl,rfl,by decide +kernel,rfl,by decide +kernel,by decide +kernel⟩
theorem kb4(W:WB K mg d base):FnOk P w K mg base CX0 5 d.Vb d.Vd ["self","number"] (kge d):=by
 refine FunD.ok W.Qb.F VW (fun vs H Q E h=>?_) (fun cdv A outer s H vs Q E hr h=>?_)
 ·obtain⟨wy,t,b,x,T,B,S,hand,used,n,V,rfl,_⟩:=h
  rfl
 ·obtain⟨wy,t,b,x,T,B,S,hand,used,n,Vc,rfl,hW,hT,hB,hS,wf,vo,hn,hl,k⟩:=h
  obtain⟨dxw,fsw,h,u,hw,w1,w2,w3,w4,w5,w6,w7,w8,w9,w10,hh,hu⟩:=id hW
  obtain⟨dx,fs,p,vl,rl,va,ra,ht,t1,t2,t3,t4,hp,hvl,hva,hrl,hra⟩:=id hT
  have UK:=kei (P:=P) (w:=w) (base:=base) W
  have UL:=kgw (P:=P) (w:=w) (base:=base) W
  have hr2:Room 2 _:=hr.mono (by decide)
  refine⟨_,kac (kas (i:=2) VW.nd rfl (Or.inl rfl) (kan UK hr2 rfl W.QY.m W.QY.F.kp W.QY.b .nil pass0 (kaa (kag (K:=K) (pv 0) rfl) (kaa (kag (K:=K) (pv 0) rfl) (kaa (kag (K:=K) (pv 0) rfl) (kaa (pv 1) kae))))))
   (kac (ps_if (kat kcS (pv 2) ka5 (kax _)) (kai (kaq (pv 2))) (kaw))
   (kai (kaq (kan UL hr rfl W.QQ.m W.QQ.F.kp W.QQ.b .nil pass0 (kaa (pe_ix (r:=rIxL K) kaD (kag (K:=K) (kag (K:=K) (pv 0) rfl) rfl) (pv 1) (fun _ _=>rfl)) (kaa (kag (K:=K) (kag (K:=K) (pv 0) rfl) rfl) (kaa (kag (K:=K) (pv 0) rfl) (kaa (kag (K:=K) (pv 0) rfl) kae)))))))),?_⟩
  obtain⟨v,ev⟩:=at_of (xs:=va) (i:=n) (by rw[hva.len];exact at_lt hn)
  obtain⟨Vc',eV',hV⟩:=hva.at ev
  rw[hn] at eV'
  cases eV'
  refine⟨_,rfl,wy,d.c_Way,dxw,fsw,_,rfl,hw,W.c_Way.cl,W.qO,w1,_,rfl,wy,d.c_Way,dxw,fsw,_,rfl,hw,W.c_Way.cl,W.XR,w3,_,rfl,wy,d.c_Way,dxw,fsw,_,rfl,hw,W.c_Way.cl,W.q9,w4,_,rfl,t,h,u,T,hand,used,n,Vc,rfl,hT,hh,hu,hn,hl,?_⟩
  unfold dueM at k
  cases e:wordM Vc T.rs hand used n with
  |some z=>
   rw[e] at k
   refine⟨_,rfl,rfl,_,rfl,?_⟩
   show if(!decide (V.str z=V.non))=true then _ else _
   rw[show(!decide (V.str z=V.non))=true by simp]
   exact iteT ⟨_,rfl,k H (Same.refl _)⟩
  |none=>
   rw[e] at k
   refine⟨_,rfl,rfl,_,rfl,?_⟩
   show if(!decide (V.non=V.non))=true then _ else _
   rw[show(!decide (V.non=V.non))=false by simp]
   refine iteF ⟨_,rfl,wy,d.c_Way,dxw,fsw,_,rfl,hw,W.c_Way.cl,W.qO,w1,t,d.qh,dx,fs,_,rfl,ht,W.qh.cl,W.qI,t2,_,rfl,vl,_,_,_,rfl,rfl,SqL.of hvl,ka1 (v:=.ref v) (by rw[Nv,ev];rfl),?_⟩
   refine⟨_,rfl,wy,d.c_Way,dxw,fsw,_,rfl,hw,W.c_Way.cl,W.qO,w1,t,d.qh,dx,fs,_,rfl,ht,W.qh.cl,W.Ql,t1,_,rfl,wy,d.c_Way,dxw,fsw,_,rfl,hw,W.c_Way.cl,W.Xk,w2,_,rfl,wy,d.c_Way,dxw,fsw,_,rfl,hw,W.c_Way.cl,W.Qa,w5,?_⟩
   exact⟨v,p,b,x,Vc,T.ps,B,S,rfl,hV,SqL.of hp,hB,hS,wf,vo,k⟩
inductive khD (d:D) (vs:List V) (H:Hp) (Q:VK) (E_:XK):Prop
 |ct (wy t b x:Addr) (T:TillD) (B:Bask) (S:Stnd) (hand:List Int) (used:List Nat) (n:Nat) (V:Vch) (_:vs=[.ref wy,iV n]) (_:WayIs d H wy t b x hand used) (_:TillIs d H t T) (_:BaskIs d.qf d.qg H b B) (_:StndIs d.qe H x S) (_:Wf T.ps B S) (_:VchOk T.ps V) (_:T.vs[n]?=some V) (_:used.length<64) (_:∀(H':Hp) (wy' x':Addr),Same H H'→H wy'=none→WayN d 7 H H' wy' t b x' hand (used++[n])→StndN d.qe H H' x' (aftM V T.ps (kds B) S)→Q (.ref wy') H'):khD d vs H Q E_
theorem VX:kap ["self","number","further"] ["self","number"] (kah kcP):=⟨rfl,rfl,rfl,by decide +kernel,rfl,by decide +kernel,by decide +kernel⟩
theorem kcy(W:WB K mg d base):FnOk P w K mg base CX0 6 d.Ve d.Vf ["self","number"] (khD d):=by
 refine FunD.ok W.Qc.F VX (fun vs H Q E h=>?_) (fun cdv A outer s H vs Q E hr h=>?_)
 ·obtain⟨wy,t,b,x,T,B,S,hand,used,n,V,rfl,_⟩:=h
  rfl
 ·obtain⟨wy,t,b,x,T,B,S,hand,used,n,Vc,rfl,hW,hT,hB,hS,wf,vo,hn,hl,k⟩:=h
  obtain⟨dxw,fsw,h,u,hw,w1,w2,w3,w4,w5,w6,w7,w8,w9,w10,hh,hu⟩:=id hW
  obtain⟨dx,fs,p,vl,rl,va,ra,ht,t1,t2,t3,t4,hp,hvl,hva,hrl,hra⟩:=id hT
  have Qe:=kcx (P:=P) (w:=w) (base:=base) W
  have UM:=kku (P:=P) (w:=w) (base:=base) W
  refine⟨_,kac (kas (i:=2) VX.nd rfl (Or.inl rfl) (kaS (W.qH.mk' W.c_Way) Qe hr rfl W.c_Way.m W.qH.b .nil pass0 (kaa (kag (K:=K) (pv 0) rfl) (kaa (kag (K:=K) (pv 0) rfl) (kaa (kag (K:=K) (pv 0) rfl) kae)))))
   (kac (kaz (pv 2) (pe_op kd6 (kag (K:=K) (pv 0) rfl) (kaL (kaa (pv 1) kae))) rfl)
   (kac (kaz (pv 2) (kan UM hr rfl W.QS.m W.QS.F.kp W.QS.b .nil pass0 (kaa (pe_ix (r:=rIxL K) kaD (kag (K:=K) (kag (K:=K) (pv 0) rfl) rfl) (pv 1) (fun _ _=>rfl)) (kaa (kag (K:=K) (kag (K:=K) (pv 0) rfl) rfl) (kaa (kag (K:=K) (pv 0) rfl) (kaa (kag (K:=K) (pv 0) rfl) kae))))) rfl)
   (kai (kaq (pv 2))))),?_⟩
  obtain⟨v,ev⟩:=at_of (xs:=va) (i:=n) (by rw[hva.len];exact at_lt hn)
  obtain⟨Vc',eV',hV⟩:=hva.at ev
  rw[hn] at eV'
  cases eV'
  try refine sN fun _ Y4=>?_
  refine⟨_,rfl,wy,d.c_Way,dxw,fsw,_,rfl,hw,W.c_Way.cl,W.qO,w1,_,rfl,wy,d.c_Way,dxw,fsw,_,rfl,hw,W.c_Way.cl,W.Xk,w2,_,rfl,wy,d.c_Way,dxw,fsw,_,rfl,hw,W.c_Way.cl,W.XR,w3,kh2 hh hB wf.nl wf.ok fun H1 y x1 s1 fy fx1 hy hx1=>?_⟩
  obtain⟨_,dxy,fsy,h1,u1,fh1,_,hyy,y1,y2,y3,y4,y5,y6,y7,y8,y9,y10,hh1,hu1⟩:=hy
  try apply Y4
  try refine sN fun _ Y4=>?_
  refine⟨_,rfl,wy,d.c_Way,dxw,fsw,_,rfl,s1 _ _ hw,W.c_Way.cl,W.q9,w4,_,rfl,(by show 1≤sizeLine;decide),fun q1 hq1=>?_⟩
  have n2:=kak (o:=.lst [iV n]) hq1
  have eq1:(upd H1 q1 (.lst [iV n])) q1=some (.lst [iV n]):=kad
  have s2:=s1.trans n2
  have hy2:=n2 _ _ hyy
  have hh2:=n2 _ _ hh1
  clear n2
  generalize upd H1 q1 (.lst [iV n])=H2 at *
  try apply Y4
  try refine sN fun _ Y4=>?_
  refine⟨u,q1,_,_,rfl,rfl,s2 _ _ hu,eq1,Nw (kao (by rw[Nh];show _+1≤1000;omega)),fun q2 hq2=>?_⟩
  have n3:=kak (o:=.lst (used.map iV++[iV n])) hq2
  have eq2:(upd H2 q2 (.lst (used.map iV++[iV n]))) q2=some (.lst ((used++[n]).map iV)):=by rw[kad,Np];rfl
  have s3:=s2.trans n3
  have hy3:=n3 _ _ hy2
  have hh3:=n3 _ _ hh2
  have nq2:q2≠y:=(kaj hy2 hq2).symm
  clear n3
  generalize upd H2 q2 (.lst (used.map iV++[iV n]))=H3 at *
  have nh1:h1≠y:=ne_of hh3 hy3 (by intro z;cases z)
  try apply Y4
  try refine sN fun _ Y4=>?_
  refine⟨_,rfl,y,d.c_Way,dxy,fsy,rfl,hy3,W.c_Way.cl,W.q9,few (Nm y10 (by decide)),?_⟩
  have s4:Same H (upd H3 y (.ins d.c_Way dxy (putF "used" (.ref q2) fsy))):=kav fy s3 (nx hy3)
  have eq4:(upd H3 y (.ins d.c_Way dxy (putF "used" (.ref q2) fsy))) q2=some (.lst ((used++[n]).map iV)):=by rw[kam nq2];exact eq2
  have hh4:(upd H3 y (.ins d.c_Way dxy (putF "used" (.ref q2) fsy))) h1=some (.lst (hand.map V.int)):=by rw[kam nh1];exact hh3
  have hy4:(upd H3 y (.ins d.c_Way dxy (putF "used" (.ref q2) fsy))) y=some (.ins d.c_Way dxy (putF "used" (.ref q2) fsy)):=kad
  generalize upd H3 y (.ins d.c_Way dxy (putF "used" (.ref q2) fsy))=H4 at *
  try apply Y4
  try refine sN fun _ Y4=>?_
  refine⟨_,rfl,wy,d.c_Way,dxw,fsw,_,rfl,s4 _ _ hw,W.c_Way.cl,W.qO,w1,t,d.qh,dx,fs,_,rfl,s4 _ _ ht,W.qh.cl,W.qI,t2,_,rfl,vl,_,_,_,rfl,rfl,SqL.of (s4 _ _ hvl),ka1 (v:=.ref v) (by rw[Nv,ev];rfl),?_⟩
  try apply Y4
  try refine sN fun _ Y4=>?_
  refine⟨_,rfl,wy,d.c_Way,dxw,fsw,_,rfl,s4 _ _ hw,W.c_Way.cl,W.qO,w1,t,d.qh,dx,fs,_,rfl,s4 _ _ ht,W.qh.cl,W.Ql,t1,_,rfl,wy,d.c_Way,dxw,fsw,_,rfl,s4 _ _ hw,W.c_Way.cl,W.Xk,w2,_,rfl,wy,d.c_Way,dxw,fsw,_,rfl,s4 _ _ hw,W.c_Way.cl,W.Qa,w5,?_⟩
  try apply Y4
  try refine sN fun _ Y4=>?_
  refine⟨v,p,b,x,Vc,T.ps,B,S,rfl,hV.same s4,SqL.of (s4 _ _ hp),hB.same s4,hS.same s4,wf,vo,fun H5 x' s5 f5 ⟨_,o,pp,mm,⟨dxs,fss,hxs,q⟩,fo,fpp,fmm,ho,hpp,hmm⟩=>?_⟩
  have hy5:=s5 _ _ hy4
  have hh5:=s5 _ _ hh4
  have eq5:=s5 _ _ eq4
  have nx':x'≠y:=(kaj hy4 f5).symm
  try apply Y4
  try refine sN fun _ Y4=>?_
  refine⟨_,rfl,y,d.c_Way,dxy,_,rfl,hy5,W.c_Way.cl,W.Qa,few (Nm (kal y10) (by decide)),?_⟩
  try apply Y4
  try refine sN fun _ Y4=>?_
  refine⟨_,rfl,k _ y x' (kav fy (s4.trans s5) (nx hy5)) fy ⟨fy,dxy,_,h1,q2,fh1,none_of s2 hq2,kad,?_,?_,?_,?_,?_,?_,?_,?_,?_,?_,?_,?_⟩ ?_⟩
  ·(repeat (first|rw[kab,if_pos rfl]|rw[kab,if_neg (by decide +kernel)]))
   try apply Y4
   exact y1
  ·(repeat (first|rw[kab,if_pos rfl]|rw[kab,if_neg (by decide +kernel)]))
   try apply Y4
   exact y2
  ·(repeat (first|rw[kab,if_pos rfl]|rw[kab,if_neg (by decide +kernel)]))
   try apply Y4
   exact y3
  ·(repeat (first|rw[kab,if_pos rfl]|rw[kab,if_neg (by decide +kernel)]))
  ·(repeat (first|rw[kab,if_pos rfl]|rw[kab,if_neg (by decide +kernel)]))
  ·(repeat (first|rw[kab,if_pos rfl]|rw[kab,if_neg (by decide +kernel)]))
   try apply Y4
   exact y6
  ·(repeat (first|rw[kab,if_pos rfl]|rw[kab,if_neg (by decide +kernel)]))
   try apply Y4
   exact y7
  ·(repeat (first|rw[kab,if_pos rfl]|rw[kab,if_neg (by decide +kernel)]))
   try apply Y4
   exact y8
  ·(repeat (first|rw[kab,if_pos rfl]|rw[kab,if_neg (by decide +kernel)]))
   try apply Y4
   exact y9
  ·exact Nm (kal (kal y10)) (by decide)
  ·rw[kam nh1];exact hh5
  ·rw[kam nq2];exact eq5
  ·exact⟨none_of s4 f5,o,pp,mm,⟨dxs,fss,by rw[kam nx'];exact hxs,q⟩,none_of s4 fo,none_of s4 fpp,none_of s4 fmm,by rw[kam (ne_of ho hy5 (by intro z;cases z))];exact ho,by rw[kam (ne_of hpp hy5 (by intro z;cases z))];exact hpp,by rw[kam (ne_of hmm hy5 (by intro z;cases z))];exact hmm⟩
inductive kiV (d:D) (vs:List V) (H:Hp) (Q:VK) (E_:XK):Prop
 |ct (wy t b x:Addr) (T:TillD) (hand:List Int) (used:List Nat) (_:vs=[.ref wy]) (_:WayIs d H wy t b x hand used) (_:TillIs d H t T) (_:Q (.bl (onlyM T.rs used).isNone) H):kiV d vs H Q E_
theorem kef:kap ["self"] ["self"] (kah kbZ):=⟨rfl,rfl,rfl,by decide +kernel,rfl,by decide +kernel,by decide +kernel⟩
theorem kek(W:WB K mg d base):FnOk P w K mg base CX0 2 d.Vg d.Vh ["self"] (kiV d):=by
 refine FunD.ok W.XS.F kef (fun vs H Q E h=>?_) (fun cdv A outer s H vs Q E hr h=>?_)
 ·obtain⟨wy,t,b,x,T,hand,used,rfl,_⟩:=h
  rfl
 ·obtain⟨wy,t,b,x,T,hand,used,rfl,hW,hT,k⟩:=h
  obtain⟨dxw,fsw,h,u,hw,w1,w2,w3,w4,w5,w6,w7,w8,w9,w10,hh,hu⟩:=id hW
  obtain⟨dx,fs,p,vl,rl,va,ra,ht,t1,t2,t3,t4,hp,hvl,hva,hrl,hra⟩:=id hT
  have Yc:=kcc (P:=P) (w:=w) (base:=base) W
  refine⟨_,kai (kaq (ka7 kd5 (kan Yc hr rfl W.qX.m W.qX.F.kp W.qX.b .nil pass0 (kaa (kag (K:=K) (kag (K:=K) (pv 0) rfl) rfl) (kaa (kag (K:=K) (pv 0) rfl) kae))) ka5 (kax _))),?_⟩
  refine⟨_,rfl,wy,d.c_Way,dxw,fsw,_,rfl,hw,W.c_Way.cl,W.qO,w1,t,d.qh,dx,fs,_,rfl,ht,W.qh.cl,W.qJ,t3,_,rfl,wy,d.c_Way,dxw,fsw,_,rfl,hw,W.c_Way.cl,W.q9,w4,rl,u,ra,T.rs,used,rfl,hrl,hra,hu,rfl,?_⟩
  cases e:onlyM T.rs used with
  |none=>
   rw[e] at k
   show Q (.bl (decide (V.non=V.non))) H
   rw[show decide (V.non=V.non)=true by simp]
   exact k
  |some z=>
   rw[e] at k
   show Q (.bl (decide (V.int (z:Int)=V.non))) H
   rw[show decide (V.int (z:Int)=V.non)=false by simp]
   exact k
noncomputable def walkM(T:TillD)(B:Bask)(hand:List Int):List Nat→List Nat→Stnd→List Nat×Stnd
 |[],used,S=>(used,S)
 |n::ns,used,S=>match T.vs[n]? with
  |none=>(used,S)
  |some V=>if dueM V T B hand used S n=.non then walkM T B hand ns (used++[n]) (aftM V T.ps (kds B) S) else(used,S)
inductive kiN (d:D) (vs:List V) (H:Hp) (Q:VK) (E_:XK):Prop
 |ct (t b h o:Addr) (T:TillD) (B:Bask) (hand:List Int) (order:List Nat) (_:vs=[.ref t, .ref b, .ref h, .ref o]) (_:TillIs d H t T) (_:kbN T) (_:BaskIs d.qf d.qg H b B) (_:Wf T.ps B (stnd0 B)) (_:H h=some (.lst (hand.map V.int))) (_:H o=some (.lst (order.map iV))) (_:hand.length=T.vs.length) (_:(∀n∈order,n<T.vs.length)) (_:order.length<64) (_:∀(H':Hp) (wy x:Addr),Same H H'→H wy=none→WayIs d H' wy t b x hand (walkM T B hand order [] (stnd0 B)).1→StndIs d.qe H' x (walkM T B hand order [] (stnd0 B)).2→Wf T.ps B (walkM T B hand order [] (stnd0 B)).2→Q (.ref wy) H'):kiN d vs H Q E_
theorem Xs:kap ["till","basket","hand","order","way","number"] ["till","basket","hand","order"] (kah kfE):=⟨rfl,rfl,rfl,by decide +kernel,rfl,by decide +kernel,by decide +kernel⟩
theorem kjs(W:WB K mg d base):FnOk P w K mg base CX0 7 d.YV d.YW ["till","basket","hand","order"] (kiN d):=by
 refine FunD.ok W.QX.F Xs (fun vs H Q E h=>?_) (fun cdv A outer s H vs Q E hr h=>?_)
 ·obtain⟨t,b,h,o,T,B,hand,order,rfl,_⟩:=h
  rfl
 ·obtain⟨t,b,h,o,T,B,hand,order,rfl,hT,tok,hB,wf0,hh,ho,hl,hlt,h64,k⟩:=h
  have Qe:=kcx (P:=P) (w:=w) (base:=base) W
  have QD:=kb4 (P:=P) (w:=w) (base:=base) W
  have QE:=kcy (P:=P) (w:=w) (base:=base) W
  have hr5:Room 5 _:=hr.mono (by decide)
  refine⟨_,kac (kas (i:=4) Xs.nd rfl (Or.inl rfl) (kaS (W.qH.mk' W.c_Way) Qe hr5 rfl W.c_Way.m W.qH.b .nil pass0 (kaa (pv 0) (kaa (pv 1) (kaa (pv 2) kae)))))
   (kac (kbA PassesOwn.never rfl (kaJ (K:=K) (pv 3)) (kar (i:=5) Xs.nd rfl (Or.inl rfl))
   (kac (ps_if (kat kcS (kbw (pv 4) W.c_Way.cl W.Qb.me QD hr5 W.Qb.b .nil pass0 (kaa (pv 5) kae)) ka5 (kax _)) (kai (kaq (pv 4))) (kaw))
   (kai (kas (i:=4) Xs.nd rfl (Or.inl rfl) (kbw (pv 4) W.c_Way.cl W.Qc.me QE hr W.Qc.b .nil pass0 (kaa (pv 5) kae))))))
   (kai (kaq (pv 4)))),?_⟩
  generalize eR:walkM T B hand order [] (stnd0 B)=R at k
  try refine sN fun _ Y4=>?_
  refine⟨_,rfl,_,rfl,_,rfl,kh2 hh hB wf0.nl wf0.ok fun H1 y0 x0 s1 fy0 fx0 hy0N hx0=>?_⟩
  have hy0:=hy0N.at
  try apply Y4
  try refine sN fun _ Y4=>?_
  refine⟨_,rfl,o,rfl,⟨_,SqL.of (s1 _ _ ho)⟩,kbV (xs:=order.map iV) (fun i σ H'=>Same H H'∧∃(y x:Addr) (used:List Nat) (S:Stnd) (v5:Option V),WayIs d H' y t b x hand used∧H y=none∧StndIs d.qe H' x S∧Wf T.ps B S∧used.length=i∧walkM T B hand (order.drop i) used S=R∧σ=[some (.ref t),some (.ref b),some (.ref h),some (.ref o),some (.ref y),v5])
   ⟨s1,y0,x0,[],_,none,hy0.most (by decide),fy0,hx0,wf0,rfl,eR,rfl⟩ (fun i σ H' _ h=>SqL.of (h.1 _ _ ho)) ?_ ?_⟩
  ·rintro i yv σ H' hyv ⟨sI,y,x,used,S,v5,hY,fy,hx,wf,hul,hwalk,rfl⟩
   obtain⟨n,en,rfl⟩:∃n,order[i]?=some n∧yv=iV n:=kbL hyv
   have hi:=at_lt en
   obtain⟨Vc,hV⟩:=at_of (hlt n (Nt en))
   have vo:=tok.vs Vc (Nt hV)
   have ed:order.drop i=n::order.drop (i+1):=by
    obtain⟨h1,h2⟩:=Nz.mp en
    rw[E3 h1,h2]
   rw[ed] at hwalk
   have hwk:=hwalk
   unfold walkM at hwk
   rw[hV] at hwk
   simp only at hwk
   obtain⟨dxw,fsw,hd,u,hw,w1,w2,w3,w4,w5,w6,w7,w8,w9,w10,hh',hu⟩:=id hY
   try apply Y4
   try refine sN fun _ Y6=>?_
   refine⟨_,rfl,y,dxw,fsw,rfl,hw,w6,_,rfl,y,t,b,x,T,B,S,hand,used,n,Vc,rfl,hY,hT.same sI,hB.same sI,hx,wf,vo,hV,hl,fun H2 s2=>⟨rfl,_,rfl,?_⟩⟩
   have s02:=sI.trans s2
   by_cases hn:dueM Vc T B hand used S n=.non
   ·rw[if_pos hn] at hwk
    rw[hn]
    rw[show(!decide (V.non=V.non))=false by simp]
    refine iteF ?_
    try first|apply Y6|apply Y4
    try refine sN fun _ Y8=>?_
    refine⟨_,rfl,y,dxw,fsw,rfl,s2 _ _ hw,w7,_,rfl,y,t,b,x,T,B,S,hand,used,n,Vc,rfl,hY.same s2,hT.same s02,hB.same s02,hx.same s2,wf,vo,hV,by omega,fun H3 y' x' s3 fy' hY1 hx1=>?_⟩
    have hY':=hY1.at
    have hx':=hx1.is
    try first|apply Y8|apply Y6|apply Y4
    exact⟨s02.trans s3,y',x',used++[n],_,_,hY',s02.free fy',hx',wf.after vo,by rw[Nx,hul];rfl,hwk,rfl⟩
   ·rw[if_neg hn] at hwk
    rw[show(!decide (dueM Vc T B hand used S n=V.non))=true by simp[hn]]
    refine iteT ?_
    try first|apply Y8|apply Y6|apply Y4
    try refine sN fun _ Y8=>?_
    refine⟨_,rfl,k H2 y x s02 fy ?_ ?_ ?_⟩
    ·rw[←hwk];exact hY.same s2
    ·rw[←hwk];exact hx.same s2
    ·rw[←hwk];exact wf
  ·rintro σ H' ⟨sI,y,x,used,S,v5,hY,fy,hx,wf,hul,hwalk,rfl⟩
   rw[Nh,E4] at hwalk
   have hwk:=hwalk
   unfold walkM at hwk
   try first|apply Y6|apply Y4
   try refine sN fun _ Y6=>?_
   refine⟨_,rfl,k H' y x sI fy ?_ ?_ ?_⟩
   ·rw[←hwk];exact hY
   ·rw[←hwk];exact hx
   ·rw[←hwk];exact wf
noncomputable def kbh(T:TillD)(B:Bask)(hand:List Int)(order:List Nat):Option (Nat×L2.V):=
 let r:=walkM T B hand order [] (stnd0 B)
 if r.1.length<order.length then match T.vs[order.getD r.1.length 0]? with
  |none=>none
  |some V=>some (r.1.length,dueM V T B hand r.1 r.2 (order.getD r.1.length 0))
 else if(onlyM T.rs r.1).isNone=true then none else some (r.1.length, .str "only")
noncomputable def FltIs(H:Hp)(v:L2.V):Option (Nat×L2.V)→Prop
 |none=>v=.non
 |some (k,z)=>∃a,v=.ref a∧H a=some (.tup [iV k,z])
inductive kiY (d:D) (vs:List V) (H:Hp) (Q:VK) (E_:XK):Prop
 |ct (t b h o:Addr) (T:TillD) (B:Bask) (hand:List Int) (order:List Nat) (_:vs=[.ref t, .ref b, .ref h, .ref o]) (_:TillIs d H t T) (_:kbN T) (_:BaskIs d.qf d.qg H b B) (_:Wf T.ps B (stnd0 B)) (_:H h=some (.lst (hand.map V.int))) (_:H o=some (.lst (order.map iV))) (_:hand.length=T.vs.length) (_:(∀n∈order,n<T.vs.length)) (_:order.length<64) (_:∀(H':Hp) (v:L2.V),Same H H'→FltIs H' v (kbh T B hand order)→Q v H'):kiY d vs H Q E_
theorem Yd:kap ["till","basket","hand","order","way","place"] ["till","basket","hand","order"] (kah kg3):=⟨rfl,rfl,rfl,by decide +kernel,rfl,by decide +kernel,by decide +kernel⟩
theorem kep(W:WB K mg d base):FnOk P w K mg base CX0 8 d.YT d.YU ["till","basket","hand","order"] (kiY d):=by
 refine FunD.ok W.qt.F Yd (fun vs H Q E h=>?_) (fun cdv A outer s H vs Q E hr h=>?_)
 ·obtain⟨t,b,h,o,T,B,hand,order,rfl,_⟩:=h
  rfl
 ·obtain⟨t,b,h,o,T,B,hand,order,rfl,hT,tok,hB,wf0,hh,ho,hl,hlt,h64,k⟩:=h
  have UN:=kjs (P:=P) (w:=w) (base:=base) W
  have QD:=kb4 (P:=P) (w:=w) (base:=base) W
  have UO:=kek (P:=P) (w:=w) (base:=base) W
  have hr2:Room 2 _:=hr.mono (by decide)
  have hr5:Room 5 _:=hr.mono (by decide)
  refine⟨_,kac (kas (i:=4) Yd.nd rfl (Or.inl rfl) (kan UN hr rfl W.QX.m W.QX.F.kp W.QX.b .nil pass0 (kaa (pv 0) (kaa (pv 1) (kaa (pv 2) (kaa (pv 3) kae))))))
   (kac (kas (i:=5) Yd.nd rfl (Or.inl rfl) (kay (r:=kbm K) kaF (by rfl) W.B.len b_len (kaa (kag (K:=K) (pv 4) rfl) kae)))
   (kac (ps_if (kat op_lt (pv 5) (kay (r:=kbm K) kaF (by rfl) W.B.len b_len (kaa (pv 3) kae)) (kax _)) (kai (kaq (kca (kaa (pv 5) (kaa (kbw (pv 4) W.c_Way.cl W.Qb.me QD hr5 W.Qb.b .nil pass0 (kaa (pe_ix (r:=rIxL K) kaD (pv 3) (pv 5) (fun _ _=>rfl)) kae)) kae))))) (kaw))
   (kac (ps_if (kgs (kbg (keo (pv 4) W.c_Way.cl W.XS.me UO hr2 W.XS.b .nil pass0))) (kai (kaq (kca (kaa (pv 5) (kaa kbB kae))))) (kaw))
   (kai (kaq ka5))))),?_⟩
  try refine sN fun _ Y4=>?_
  refine⟨_,rfl,_,rfl,_,rfl,_,rfl,t,b,h,o,T,B,hand,order,rfl,hT,tok,hB,wf0,hh,ho,hl,hlt,h64,fun H1 y x s1 fy hY hx wf=>?_⟩
  unfold kbh at k
  simp only at k
  generalize walkM T B hand order [] (stnd0 B)=r at *
  obtain⟨used,S⟩:=r
  simp only at *
  obtain⟨dxw,fsw,hd,u,hw,w1,w2,w3,w4,w5,w6,w7,w8,w9,w10,hh',hu⟩:=id hY
  try apply Y4
  try refine sN fun _ Y4=>?_
  refine⟨_,rfl,y,d.c_Way,dxw,fsw,_,rfl,hw,W.c_Way.cl,W.q9,w4,u,_,rfl, .inl (SqL.of hu),?_⟩
  rw[Nh]
  try apply Y4
  try refine sN fun _ Y4=>?_
  refine⟨_,rfl,_,rfl,o,_,rfl, .inl (SqL.of (s1 _ _ ho)),_,_,rfl,rfl,_,rfl,?_⟩
  rw[Nh]
  by_cases hlen:used.length<order.length
  ·rw[if_pos hlen] at k
   rw[show decide ((used.length:Int)<(order.length:Int))=true by simp;exact hlen]
   obtain⟨n,en⟩:=at_of hlen
   have eg:order.getD used.length 0=n:=by rw[NH,en];rfl
   obtain⟨Vc,hV⟩:=at_of (hlt n (Nt en))
   rw[eg,hV] at k
   have vo:=tok.vs Vc (Nt hV)
   refine iteT ?_
   try apply Y4
   try refine sN fun _ Y6=>?_
   refine⟨_,rfl,_,rfl,y,dxw,fsw,rfl,hw,w6,_,rfl,_,rfl,o,_,_,_,rfl,rfl,SqL.of (s1 _ _ ho),ka1 (v:=iV n) (by rw[Nv,en];rfl),y,t,b,x,T,B,S,hand,used,n,Vc,rfl,hY,hT.same s1,hB.same s1,hx,wf,vo,hV,hl,fun H2 s2=>?_⟩
   try first|apply Y6|apply Y4
   try refine sN fun _ Y6=>?_
   refine⟨(by show 2≤sizeLine;decide),fun q hq=>?_⟩
   try first|apply Y6|apply Y4
   exact k _ _ ((s1.trans s2).trans (kak hq)) ⟨q,rfl,kad⟩
  ·rw[if_neg hlen] at k
   rw[show decide ((used.length:Int)<(order.length:Int))=false by simp;omega]
   refine iteF ?_
   try first|apply Y6|apply Y4
   try refine sN fun _ Y6=>?_
   refine⟨_,rfl,y,dxw,fsw,rfl,hw,w8,y,t,b,x,T,hand,used,rfl,hY,hT.same s1,_,rfl,?_⟩
   cases e:(onlyM T.rs used).isNone with
   |true=>
    rw[e,if_pos rfl] at k
    refine iteF ?_
    try first|apply Y6|apply Y4
    exact k H1 _ s1 rfl
   |false=>
    rw[e,if_neg Nu] at k
    refine iteT ?_
    try first|apply Y6|apply Y4
    try refine sN fun _ Y8=>?_
    refine⟨_,rfl,(by show 2≤sizeLine;decide),fun q hq=>?_⟩
    try first|apply Y8|apply Y6|apply Y4
    exact k _ _ (s1.trans (kak hq)) ⟨q,rfl,kad⟩
structure Step where
 n:Nat
 cs:List Int
 c:Int
noncomputable def StepIs(H:Hp)(a:Addr)(s:Step):Prop:=∃l,H a=some (.tup [iV s.n, .ref l, .int s.c])∧H l=some (.lst (s.cs.map V.int))
theorem StepIs.same{H H':Hp}{a:Addr}{t:Step}(s:Same H H'):StepIs H a t→StepIs H' a t:=fun⟨l,h1,h2⟩=>⟨l,s _ _ h1,s _ _ h2⟩
noncomputable def StepN(H0 H:Hp)(a:Addr)(s:Step):Prop:=H0 a=none∧∃l,H0 l=none∧H a=some (.tup [iV s.n, .ref l, .int s.c])∧H l=some (.lst (s.cs.map V.int))
theorem StepN.same{H0 H H':Hp}{a:Addr}{t:Step}(s:Same H H'):StepN H0 H a t→StepN H0 H' a t:=fun⟨f,l,g,h1,h2⟩=>⟨f,l,g,s _ _ h1,s _ _ h2⟩
theorem StepN.but{H0 H H':Hp}{a x:Addr}{t:Step}(b:But x H H')(hx:H0 x≠none):StepN H0 H a t→StepN H0 H' a t:=fun⟨f,l,g,h1,h2⟩=>⟨f,l,g,b _ _ (fun e=>hx (e▸f)) h1,b _ _ (fun e=>hx (e▸g)) h2⟩
structure BillD where
 order:List Nat
 steps:List Step
 pr:List Int
 cg:Int
 total:Int
inductive BillIs (d:D) (H0 H:Hp) (b:Addr) (B:BillD):Prop
 |ct (dx:Addr) (fs:List (Str×V)) (o s p:Addr) (sa:List Addr) (_:H b=some (.ins d.qi dx fs)) (_:fs.lookup ("order" :Str)=some (.ref o)) (_:fs.lookup ("steps" :Str)=some (.ref s)) (_:fs.lookup ("prices" :Str)=some (.ref p)) (_:fs.lookup ("carriage" :Str)=some (.int B.cg)) (_:fs.lookup ("total" :Str)=some (.int B.total)) (_:H0 b=none) (_:H0 o=none) (_:H0 s=none) (_:H0 p=none) (_:H o=some (.lst (B.order.map iV))) (_:H s=some (.lst (sa.map V.ref))) (_:P2 (fun a t=>StepN H0 H a t) sa B.steps) (_:H p=some (.lst (B.pr.map V.int))):BillIs d H0 H b B
theorem BillIs.same{d:D}{H0 H H':Hp}{b:Addr}{B:BillD}(z:Same H H'):BillIs d H0 H b B→BillIs d H0 H' b B:=fun⟨dx,fs,o,s,p,sa,h1,h2,h3,h4,h5,h6,f1,f2,f3,f4,h7,h8,h9,h10⟩=>
 ⟨dx,fs,o,s,p,sa,z _ _ h1,h2,h3,h4,h5,h6,f1,f2,f3,f4,z _ _ h7,z _ _ h8,h9.mono fun a t h=>h.same z,z _ _ h10⟩
theorem BillIs.but{d:D}{H0 H H':Hp}{b x:Addr}{B:BillD}(z:But x H H')(hx:H0 x≠none):BillIs d H0 H b B→BillIs d H0 H' b B:=fun⟨dx,fs,o,s,p,sa,h1,h2,h3,h4,h5,h6,f1,f2,f3,f4,h7,h8,h9,h10⟩=>
 ⟨dx,fs,o,s,p,sa,z _ _ (fun e=>hx (e▸f1)) h1,h2,h3,h4,h5,h6,f1,f2,f3,f4,z _ _ (fun e=>hx (e▸f2)) h7,z _ _ (fun e=>hx (e▸f3)) h8,h9.mono fun a t h=>h.but z hx,z _ _ (fun e=>hx (e▸f4)) h10⟩
inductive kgX (d:D) (vs:List V) (H:Hp) (Q:VK) (E_:XK):Prop
 |ct (H0:Hp) (b dx o s x:Addr) (order:List Nat) (steps:List Step) (S:Stnd) (sa:List Addr) (_:vs=[.ref b, .ref o, .ref s, .ref x]) (_:H0 b=none) (_:Same H0 H) (_:H b=some (.ins d.qi dx [])) (_:H0 o=some (.lst (order.map iV))) (_:H0 s=some (.lst (sa.map V.ref))) (_:P2 (fun a t=>StepIs H0 a t) sa steps) (_:steps.length<64) (_:StndIs d.qe H0 x S) (_:∀H',Same H0 H'→BillIs d H0 H' b ⟨order,steps,S.pr,S.cg,S.pr.sum+S.cg⟩→Q .non H'):kgX d vs H Q E_
theorem kgr:kap ["self","order","steps","standing"] ["self","order","steps","standing"] (kah kdm):=⟨rfl,rfl,rfl,by decide +kernel,rfl,by decide +kernel,by decide +kernel⟩
theorem kgA(W:WB K mg d base):FnOk P w K mg base CX0 2 d.Vi d.Vj ["self","order","steps","standing"] (kgX d):=by
 refine FunD.ok W.XU.F kgr (fun vs H Q E h=>?_) (fun cdv A outer s H vs Q E hr h=>?_)
 ·obtain⟨H0,b,dx,o,s,x,order,steps,S,sa,rfl,_⟩:=h
  rfl
 ·obtain⟨H0,b,dx,o,st,x,order,steps,S,sa,rfl,fb,s0,hb,ho,hst,hsa,h64,hS,kk⟩:=h
  obtain⟨ow,pp,mm,⟨dxs,fss,hxs,l1,l2,l3,l4,l5⟩,how,hpp,hmm⟩:=id hS
  have Ye:=kcp (P:=P) (w:=w) (base:=base) W
  refine⟨_,kac (kaz (pv 0) (kaO (r:=kbE K) kaI (by rfl) W.B.list kcf (kaa (pv 1) kae)) rfl)
   (kac (kaz (pv 0) (kbp (N:=["number","piece_cuts","carriage_cut"]) (CompScope.plain rfl (by decide +kernel) (by decide +kernel) (by decide +kernel) (show(["number","piece_cuts","carriage_cut"]:List Str).Nodup by decide +kernel)) rfl (kaJ (K:=K) (pv 2)) (fun _ _ _ _=>kbo (K:=K) (n:=3) rfl (kaA (kar (i:=0) (show(["number","piece_cuts","carriage_cut"]:List Str).Nodup by decide +kernel) rfl (Or.inl rfl)) (kaA (kar (i:=1) (show(["number","piece_cuts","carriage_cut"]:List Str).Nodup by decide +kernel) rfl (Or.inl rfl)) (kaA (kar (i:=2) (show(["number","piece_cuts","carriage_cut"]:List Str).Nodup by decide +kernel) rfl (Or.inl rfl)) kbn)))) (fun _ _ _ _=>(kca (kaa (pv 0) (kaa (kaO (r:=kbE K) kaI (by rfl) W.B.list kcf (kaa (pv 1) kae)) (kaa (pv 2) kae)))))) rfl)
   (kac (kaz (pv 0) (kaO (r:=kbE K) kaI (by rfl) W.B.list kcf (kaa (kag (K:=K) (pv 3) rfl) kae)) rfl)
   (kac (kaz (pv 0) (kag (K:=K) (pv 3) rfl) rfl)
   (kai (kaz (pv 0) (keo (pv 3) W.qe.cl W.Qu.me Ye hr W.Qu.b .nil pass0) rfl))))),?_⟩
  try refine sN fun _ Y4=>?_
  refine⟨_,rfl,o,_,rfl, .inl (SqL.of (s0 _ _ ho)),fun o' ho'=>?_⟩
  have n1:=kak (o:=.lst (order.map iV)) ho'
  have fo:=s0.free ho'
  have no:o'≠b:=(kaj hb ho').symm
  have e1:(upd H o' (.lst (order.map iV))) o'=some (.lst (order.map iV)):=kad
  have s1:=s0.trans n1
  have hb1:=n1 _ _ hb
  clear n1
  generalize upd H o' (.lst (order.map iV))=H1 at *
  try apply Y4
  try refine sN fun _ Y4=>?_
  refine⟨_,rfl,b,d.qi,dx,[],rfl,hb1,W.qi.cl,W.Uc,by decide,?_⟩
  have s2:Same H0 (upd H1 b (.ins d.qi dx (putF "order" (.ref o') []))):=kav fb s1 (nx hb1)
  have e2:(upd H1 b (.ins d.qi dx (putF "order" (.ref o') []))) o'=some (.lst (order.map iV)):=by rw[kam no];exact e1
  have hb2:(upd H1 b (.ins d.qi dx (putF "order" (.ref o') []))) b=some (.ins d.qi dx (putF "order" (.ref o') [])):=kad
  generalize upd H1 b (.ins d.qi dx (putF "order" (.ref o') []))=H2 at *
  try apply Y4
  try refine sN fun _ Y4=>?_
  refine⟨_,rfl,st,rfl,⟨_,SqL.of (s2 _ _ hst)⟩,kaZ (xs:=sa.map V.ref) (fun i σ ys H'=>Same H2 H'∧∃(ta:List Addr) (v0 v1 v2:Option V),ys=ta.map V.ref∧P2 (fun a t=>StepN H0 H' a t) ta (steps.take i)∧σ=[v0,v1,v2])
   ⟨Same.refl _,[],none,none,none,rfl, .nil,rfl⟩ (by rw[Nh,hsa.len];exact Nw (kao (by omega))) ?_ ?_ ?_⟩
  ·rintro i σ ys H' hi ⟨s3,ta,v0,v1,v2,rfl,hT,rfl⟩
   try apply Y4
   try refine sN fun _ Y6=>?_
   refine⟨SqL.of (s3 _ _ (s2 _ _ hst)),?_⟩
   rw[Nh,hT.len,Ny]
   rw[Nh,hsa.len] at hi
   omega
  ·rintro i y σ ys H' hy ⟨s3,ta,v0,v1,v2,rfl,hT,rfl⟩
   obtain⟨a,ea,rfl⟩:=kbJ hy
   obtain⟨t,et,l,ha,hl⟩:=hsa.at ea
   have s03:=s2.trans s3
   try first|apply Y6|apply Y4
   try refine sN fun _ Y6=>?_
   refine⟨a,_,rfl,SqT.of (s03 _ _ ha),rfl,_,_,rfl,_,_,rfl,_,_,rfl,rfl,?_⟩
   try first|apply Y6|apply Y4
   try refine sN fun _ Y6=>?_
   refine⟨_,rfl,_,rfl,l,_,rfl, .inl (SqL.of (s03 _ _ hl)),fun l' hl'=>⟨_,rfl,(by show 3≤sizeLine;decide),fun q hq=>?_⟩⟩
   have n4:=kak (o:=.lst (t.cs.map V.int)) hl'
   have n5:=kak (o:=.tup [iV t.n,V.ref l',V.int t.c]) hq
   try first|apply Y6|apply Y4
   try refine sN fun _ Y6=>?_
   refine⟨s3.trans (n4.trans n5),ta++[q],_,_,_,by rw[Np];rfl,?_,rfl⟩
   rw[kbt et]
   try first|apply Y6|apply Y4
   exact P2.snoc (hT.mono fun a t h=>h.same (n4.trans n5)) ⟨s03.free (n4.free hq),l',s03.free hl',kad,n5 _ _ kad⟩
  rintro σ ys H3 ⟨s3,ta,v0,v1,v2,rfl,hT,rfl⟩ sp hsp
  rw[Nh,hsa.len,NS] at hT
  have n4:=kak (o:=.lst (ta.map V.ref)) hsp
  have s03:=s2.trans s3
  have fsp:=s03.free hsp
  have hb3:=s3 _ _ hb2
  have nsp:sp≠b:=(kaj hb3 hsp).symm
  have s4:=s03.trans n4
  have e4:=n4 _ _ (s3 _ _ e2)
  have es4:(upd H3 sp (.lst (ta.map V.ref))) sp=some (.lst (ta.map V.ref)):=kad
  have hT4:P2 (fun a t=>StepN H0 (upd H3 sp (.lst (ta.map V.ref))) a t) ta steps:=hT.mono fun a t h=>h.same n4
  have hb4:=n4 _ _ hb3
  clear n4
  generalize upd H3 sp (.lst (ta.map V.ref))=H4 at *
  try apply Y4
  try refine sN fun _ Y4=>?_
  refine⟨_,rfl,b,d.qi,dx,_,rfl,hb4,W.qi.cl,W.Ud,few (Nm (kal (n:=0) (Nj _)) (by decide)),?_⟩
  have b5:But b H4 (upd H4 b (.ins d.qi dx (putF "steps" (.ref sp) (putF "order" (.ref o') [])))):=kau (nx hb4)
  have s5:Same H0 (upd H4 b (.ins d.qi dx (putF "steps" (.ref sp) (putF "order" (.ref o') [])))):=kav fb s4 (nx hb4)
  have e5:(upd H4 b (.ins d.qi dx (putF "steps" (.ref sp) (putF "order" (.ref o') [])))) o'=some (.lst (order.map iV)):=by rw[kam no];exact e4
  have es5:(upd H4 b (.ins d.qi dx (putF "steps" (.ref sp) (putF "order" (.ref o') [])))) sp=some (.lst (ta.map V.ref)):=by rw[kam nsp];exact es4
  have hb5:(upd H4 b (.ins d.qi dx (putF "steps" (.ref sp) (putF "order" (.ref o') [])))) b=some (.ins d.qi dx (putF "steps" (.ref sp) (putF "order" (.ref o') []))):=kad
  have stepb:∀{H5:Hp},But b H4 H5→P2 (fun a t=>StepN H0 H5 a t) ta steps:=fun {H5} bt=>hT4.mono fun a t ⟨f,l,g,h1,h2⟩=>⟨f,l,g,bt _ _ (ne_of h1 hb4 (by intro z;cases z)) h1,bt _ _ (ne_of h2 hb4 (by intro z;cases z)) h2⟩
  generalize upd H4 b (.ins d.qi dx (putF "steps" (.ref sp) (putF "order" (.ref o') [])))=H5 at *
  try apply Y4
  try refine sN fun _ Y4=>?_
  refine⟨_,rfl,x,d.qe,dxs,fss,_,rfl,s5 _ _ hxs,W.qe.cl,W.qC,l2,pp,_,rfl, .inl (SqL.of (s5 _ _ hpp)),fun p' hp'=>?_⟩
  have n6:=kak (o:=.lst (S.pr.map V.int)) hp'
  have fp:=s5.free hp'
  have np:p'≠b:=(kaj hb5 hp').symm
  have s6:=s5.trans n6
  have b6:=b5.same n6
  have e6:=n6 _ _ e5
  have es6:=n6 _ _ es5
  have ep6:(upd H5 p' (.lst (S.pr.map V.int))) p'=some (.lst (S.pr.map V.int)):=kad
  have hb6:=n6 _ _ hb5
  clear n6
  generalize upd H5 p' (.lst (S.pr.map V.int))=H6 at *
  try apply Y4
  try refine sN fun _ Y4=>?_
  refine⟨_,rfl,b,d.qi,dx,_,rfl,hb6,W.qi.cl,W.VP,few (Nm (kal (kal (n:=0) (Nj _))) (by decide)),?_⟩
  have b7:But b H4 (upd H6 b (.ins d.qi dx (putF "prices" (.ref p') (putF "steps" (.ref sp) (putF "order" (.ref o') []))))):=b6.trans (kau (nx hb6))
  have s7:Same H0 (upd H6 b (.ins d.qi dx (putF "prices" (.ref p') (putF "steps" (.ref sp) (putF "order" (.ref o') []))))):=kav fb s6 (nx hb6)
  have e7:(upd H6 b (.ins d.qi dx (putF "prices" (.ref p') (putF "steps" (.ref sp) (putF "order" (.ref o') []))))) o'=some (.lst (order.map iV)):=by rw[kam no];exact e6
  have es7:(upd H6 b (.ins d.qi dx (putF "prices" (.ref p') (putF "steps" (.ref sp) (putF "order" (.ref o') []))))) sp=some (.lst (ta.map V.ref)):=by rw[kam nsp];exact es6
  have ep7:(upd H6 b (.ins d.qi dx (putF "prices" (.ref p') (putF "steps" (.ref sp) (putF "order" (.ref o') []))))) p'=some (.lst (S.pr.map V.int)):=by rw[kam np];exact ep6
  have hb7:(upd H6 b (.ins d.qi dx (putF "prices" (.ref p') (putF "steps" (.ref sp) (putF "order" (.ref o') []))))) b=some (.ins d.qi dx (putF "prices" (.ref p') (putF "steps" (.ref sp) (putF "order" (.ref o') [])))):=kad
  generalize upd H6 b (.ins d.qi dx (putF "prices" (.ref p') (putF "steps" (.ref sp) (putF "order" (.ref o') []))))=H7 at *
  try apply Y4
  try refine sN fun _ Y4=>?_
  refine⟨_,rfl,x,d.qe,dxs,fss,_,rfl,s7 _ _ hxs,W.qe.cl,W.Qk,l3,_,rfl,b,d.qi,dx,_,rfl,hb7,W.qi.cl,W.XT,few (Nm (kal (kal (kal (n:=0) (Nj _)))) (by decide)),?_⟩
  have s8:Same H0 (upd H7 b (.ins d.qi dx (putF "carriage" (.int S.cg) (putF "prices" (.ref p') (putF "steps" (.ref sp) (putF "order" (.ref o') [])))))):=kav fb s7 (nx hb7)
  have hb8:(upd H7 b (.ins d.qi dx (putF "carriage" (.int S.cg) (putF "prices" (.ref p') (putF "steps" (.ref sp) (putF "order" (.ref o') [])))))) b=some (.ins d.qi dx (putF "carriage" (.int S.cg) (putF "prices" (.ref p') (putF "steps" (.ref sp) (putF "order" (.ref o') []))))):=kad
  try apply Y4
  try refine sN fun _ Y4=>?_
  refine⟨_,rfl,x,dxs,fss,rfl,s8 _ _ hxs,l5,x,ow,pp,mm,S.cg,S.pr,rfl,⟨dxs,fss,s8 _ _ hxs,l1,l2,l3,l4,l5⟩,s8 _ _ hpp,_,rfl,b,d.qi,dx,_,rfl,hb8,W.qi.cl,W.Qv,few (Nm (kal (kal (kal (kal (n:=0) (Nj _))))) (by decide)),?_⟩
  try apply Y4
  refine kk _ (kav fb s8 (nx hb8)) ⟨dx,_,o',sp,p',ta,kad,?_,?_,?_,?_,?_,fb,fo,fsp,fp,?_,?_,stepb ((b7.trans (kau (nx hb7))).trans (kau (nx hb8))),?_⟩
  ·(repeat (first|rw[kab,if_pos rfl]|rw[kab,if_neg (by decide +kernel)]))
  ·(repeat (first|rw[kab,if_pos rfl]|rw[kab,if_neg (by decide +kernel)]))
  ·(repeat (first|rw[kab,if_pos rfl]|rw[kab,if_neg (by decide +kernel)]))
  ·(repeat (first|rw[kab,if_pos rfl]|rw[kab,if_neg (by decide +kernel)]))
  ·(repeat (first|rw[kab,if_pos rfl]|rw[kab,if_neg (by decide +kernel)]))
  ·rw[kam no,kam no];exact e7
  ·rw[kam nsp,kam nsp];exact es7
  ·rw[kam np,kam np];exact ep7
theorem klT{d:D}{H:Hp}{o s x:Addr}{order:List Nat}{steps:List Step}{S:Stnd}{sa:List Addr}{R:Addr→Hp→Prop}{E:XK}(ho:H o=some (.lst (order.map iV)))(hs:H s=some (.lst (sa.map V.ref)))(hsa:P2 (fun a t=>StepIs H a t) sa steps)(h64:steps.length<64)(hS:StndIs d.qe H x S)
  (k:∀(H':Hp) (b:Addr),Same H H'→BillIs d H H' b ⟨order,steps,S.pr,S.cg,S.pr.sum+S.cg⟩→R b H'):
  ∀b dx,H b=none→H dx=none→dx≠b→kgX d [.ref b, .ref o, .ref s, .ref x] (upd (upd H dx (.own b)) b (.ins d.qi dx [])) (fun v H2=>v=.non∧R b H2) E:=
 fun b dx nb nd _=>⟨H,b,dx,o,s,x,order,steps,S,sa,rfl,nb,ka2 nb nd,kad,ho,hs,hsa,h64,hS,fun H' z hB=>⟨rfl,k H' b z hB⟩⟩
theorem kdQ{H:Hp}{sp o:Addr}{xs:List Addr}{ys:List V}(hsp:H sp=some (.lst (xs.map V.ref)))(h0:xs≠[])(ho:H o=some (.lst ys))(hy:∀y∈ys,∀r,y≠V.ref r):o≠sp:=fun z=>by
 rw[z,hsp] at ho
 injection ho with ho
 injection ho with ho
 cases xs with
 |nil=>exact h0 rfl
 |cons r xs=>exact hy (V.ref r) (by rw[←ho];simp) r rfl
theorem StndIs.butR{C sp x:Addr}{H H':Hp}{S:Stnd}{xs:List Addr}(b:But sp H H')(hsp:H sp=some (.lst (xs.map V.ref)))(h0:xs≠[]):StndIs C H x S→StndIs C H' x S:=fun⟨o,p,mk,⟨dx,fs,hx,q⟩,ho,hp,hm⟩=>
 ⟨o,p,mk,⟨dx,fs,b _ _ (ne_of hx hsp (by intro z;cases z)) hx,q⟩,
  b _ _ (kdQ hsp h0 ho fun y hy r e=>by obtain⟨n,_,rfl⟩:=NJ.mp hy;cases e) ho,
  b _ _ (kdQ hsp h0 hp fun y hy r e=>by obtain⟨n,_,rfl⟩:=NJ.mp hy;cases e) hp,
  b _ _ (kdQ hsp h0 hm fun y hy r e=>by obtain⟨n,_,rfl⟩:=NJ.mp hy;cases e) hm⟩
theorem WayAt.butR{d:D}{m:Nat}{sp w t b x:Addr}{H H':Hp}{hand:List Int}{used:List Nat}{xs:List Addr}(z:But sp H H')(hsp:H sp=some (.lst (xs.map V.ref)))(h0:xs≠[]):WayAt d m H w t b x hand used→WayAt d m H' w t b x hand used:=fun⟨dx,fs,h,u,h1,h2,h3,h4,h5,h6,h7,h8,h9,h10,h11,h12,h13⟩=>
 ⟨dx,fs,h,u,z _ _ (ne_of h1 hsp (by intro z;cases z)) h1,h2,h3,h4,h5,h6,h7,h8,h9,h10,h11,
  z _ _ (kdQ hsp h0 h12 fun y hy r e=>by obtain⟨n,_,rfl⟩:=NJ.mp hy;cases e) h12,
  z _ _ (kdQ hsp h0 h13 fun y hy r e=>by obtain⟨n,_,rfl⟩:=NJ.mp hy;cases e) h13⟩
noncomputable def billM(T:TillD)(B:Bask):List Nat→Stnd→List Step×Stnd
 |[],S=>([],S)
 |n::ns,S=>match T.vs[n]? with
  |none=>([],S)
  |some V=>(⟨n,(cutM V T.ps (kds B) S).1,(cutM V T.ps (kds B) S).2⟩::(billM T B ns (aftM V T.ps (kds B) S)).1,(billM T B ns (aftM V T.ps (kds B) S)).2)
noncomputable def kaR(T:TillD)(B:Bask)(order:List Nat):BillD:=⟨order,(billM T B order (stnd0 B)).1,(billM T B order (stnd0 B)).2.pr,(billM T B order (stnd0 B)).2.cg,(billM T B order (stnd0 B)).2.pr.sum+(billM T B order (stnd0 B)).2.cg⟩
inductive khx (d:D) (vs:List V) (H:Hp) (Q:VK) (E_:XK):Prop
 |ct (t b h o:Addr) (T:TillD) (B:Bask) (hand:List Int) (order:List Nat) (_:vs=[.ref t, .ref b, .ref h, .ref o]) (_:TillIs d H t T) (_:kbN T) (_:BaskIs d.qf d.qg H b B) (_:Wf T.ps B (stnd0 B)) (_:H h=some (.lst (hand.map V.int))) (_:H o=some (.lst (order.map iV))) (_:hand.length=T.vs.length) (_:(∀n∈order,n<T.vs.length)) (_:order.length<64) (_:kbh T B hand order=none) (_:∀(H0 H':Hp) (bl:Addr),Same H H0→Same H0 H'→BillIs d H0 H' bl (kaR T B order)→Q (.ref bl) H'):khx d vs H Q E_
theorem Qf:kap ["till","basket","hand","order","due","way","steps","number","told"] ["till","basket","hand","order"] (kah kfF):=⟨rfl,rfl,rfl,by decide +kernel,rfl,by decide +kernel,by decide +kernel⟩
theorem keL(W:WB K mg d base):FnOk P w K mg base CX0 9 d.Y7 d.Y9 ["till","basket","hand","order"] (khx d):=by
 refine FunD.ok W.qA.F Qf (fun vs H Q E h=>?_) (fun cdv A outer s H vs Q E hr h=>?_)
 ·obtain⟨t,b,h,o,T,B,hand,order,rfl,_⟩:=h
  rfl
 ·obtain⟨t,b,h,o,T,B,hand,order,rfl,hT,tok,hB,wf0,hh,ho,hl,hlt,h64,hf,kk⟩:=h
  have Qg:=kep (P:=P) (w:=w) (base:=base) W
  have Qe:=kcx (P:=P) (w:=w) (base:=base) W
  have UP:=klP (P:=P) (w:=w) (base:=base) W
  have QE:=kcy (P:=P) (w:=w) (base:=base) W
  have UQ:=kgA (P:=P) (w:=w) (base:=base) W
  have hr3:Room 3 _:=hr.mono (by decide)
  have hr5:Room 5 _:=hr.mono (by decide)
  have hr6:Room 6 _:=hr.mono (by decide)
  refine⟨_,kac (kas (i:=4) Qf.nd rfl (Or.inl rfl) (kan Qg hr rfl W.qt.m W.qt.F.kp W.qt.b .nil pass0 (kaa (pv 0) (kaa (pv 1) (kaa (pv 2) (kaa (pv 3) kae))))))
   (kac (ps_if (kat kcS (pv 4) ka5 (kax _)) (kai (ps_no)) (kaw))
   (kac (kas (i:=5) Qf.nd rfl (Or.inl rfl) (kaS (W.qH.mk' W.c_Way) Qe hr5 rfl W.c_Way.m W.qH.b .nil pass0 (kaa (pv 0) (kaa (pv 1) (kaa (pv 2) kae)))))
   (kac (kas (i:=6) Qf.nd rfl (Or.inl rfl) (kaL kae))
   (kac (kbA PassesOwn.never rfl (kaJ (K:=K) (pv 3)) (kar (i:=7) Qf.nd rfl (Or.inl rfl))
   (kac (kas (i:=8) Qf.nd rfl (Or.inl rfl) (kan UP hr5 rfl W.QR.m W.QR.F.kp W.QR.b .nil pass0 (kaa (pe_ix (r:=rIxL K) kaD (kag (K:=K) (pv 0) rfl) (pv 7) (fun _ _=>rfl)) (kaa (kag (K:=K) (pv 0) rfl) (kaa (pv 1) (kaa (kag (K:=K) (pv 5) rfl) kae))))))
   (kac (ka0 (pe_bm N1 Ml Mm ka9 (pv 6) (kaa (kca (kaa (pv 7) (kaa (pe_ix (r:=rIxT K) kd9 (pv 8) kaf (fun _ _=>rfl)) (kaa (pe_ix (r:=rIxT K) kd9 (pv 8) kaf (fun _ _=>rfl)) kae)))) kae)))
   (kai (kas (i:=5) Qf.nd rfl (Or.inl rfl) (kbw (pv 5) W.c_Way.cl W.Qc.me QE hr6 W.Qc.b .nil pass0 (kaa (pv 7) kae)))))))
   (kai (kaq (kaS (W.XU.mk' W.qi) UQ hr3 rfl W.qi.m W.XU.b .nil pass0 (kaa (pv 3) (kaa (pv 6) (kaa (kag (K:=K) (pv 5) rfl) kae)))))))))),?_⟩
  try refine sN fun _ Y4=>?_
  refine⟨_,rfl,_,rfl,_,rfl,_,rfl,t,b,h,o,T,B,hand,order,rfl,hT,tok,hB,wf0,hh,ho,hl,hlt,h64,fun H1 v s1 hF=>?_⟩
  rw[hf] at hF
  have ev:v=.non:=hF
  subst ev
  try apply Y4
  try refine sN fun _ Y4=>?_
  refine⟨_,rfl,rfl,_,rfl,?_⟩
  show if(!decide (V.non=V.non))=true then _ else _
  rw[show(!decide (V.non=V.non))=false by simp]
  refine iteF ?_
  try apply Y4
  try refine sN fun _ Y4=>?_
  refine⟨_,rfl,_,rfl,_,rfl,kh2 (s1 _ _ hh) (hB.same s1) wf0.nl wf0.ok fun H2 y0 x0 s2 fy0 fx0 hy0N hx0=>?_⟩
  have hy0:=hy0N.at
  have s02:=s1.trans s2
  try apply Y4
  try refine sN fun _ Y4=>?_
  refine⟨by decide,fun sp fsp=>?_⟩
  generalize hgH3:upd H2 sp _=H3
  obtain⟨n3,(esp0:H3 sp=some (.lst (([]:List Addr).map V.ref)))⟩:=kaK hgH3 fsp
  have fsp0:=s02.free fsp
  generalize eR:billM T B order (stnd0 B)=R at *
  try apply Y4
  try refine sN fun _ Y4=>?_
  refine⟨_,rfl,o,rfl,⟨_,SqL.of ((s02.trans n3) _ _ ho)⟩,kbV (xs:=order.map iV) (fun i σ H'=>Same H2 H'∧∃(y x:Addr) (used:List Nat) (S:Stnd) (sa:List Addr) (st:List Step) (v7 v8:Option V),WayIs d H' y t b x hand used∧StndIs d.qe H' x S∧(sa=[]→WayIs d H2 y t b x hand used∧StndIs d.qe H2 x S)∧Wf T.ps B S∧used.length=i∧H' sp=some (.lst (sa.map V.ref))∧P2 (fun a t=>StepIs H' a t) sa st∧st.length=i∧st++(billM T B (order.drop i) S).1=R.1∧(billM T B (order.drop i) S).2=R.2∧σ=[some (.ref t),some (.ref b),some (.ref h),some (.ref o),some .non,some (.ref y),some (.ref sp),v7,v8])
   ⟨n3,y0,x0,[],_,[],[],none,none,(hy0.most (by decide)).same n3,hx0.same n3,(fun _=>⟨hy0.most (by decide),hx0⟩),wf0,rfl,esp0, .nil,rfl,by rw[MU,eR];rfl,by rw[MU,eR],rfl⟩ (fun i σ H' _ h=>SqL.of ((s02.trans h.1) _ _ ho)) ?_ ?_⟩
  ·rintro i yv σ H' hyv ⟨sI,y,x,used,S,sa,st,v7,v8,hY,hx,h2,wf,hul,hsp,hsa,hsl,hR1,hR2,rfl⟩
   obtain⟨n,en,rfl⟩:∃n,order[i]?=some n∧yv=iV n:=kbL hyv
   have hi:=at_lt en
   obtain⟨Vc,hV⟩:=at_of (hlt n (Nt en))
   have vo:=tok.vs Vc (Nt hV)
   have ed:order.drop i=n::order.drop (i+1):=by
    obtain⟨z1,z2⟩:=Nz.mp en
    rw[E3 z1,z2]
   rw[ed] at hR1 hR2
   unfold billM at hR1 hR2
   rw[hV] at hR1 hR2
   simp only at hR1 hR2
   have s0I:=s02.trans sI
   obtain⟨dxw,fsw,hd,u,hw,w1,w2,w3,w4,w5,w6,w7,w8,w9,w10,hh',hu⟩:=id hY
   obtain⟨dx,fs,p,vl,rl,va,ra,ht,t1,t2,t3,t4,hp,hvl,hva,hrl,hra⟩:=id (hT.same s0I)
   obtain⟨vv,evv⟩:=at_of (xs:=va) (i:=n) (by rw[hva.len];exact at_lt hV)
   obtain⟨Vc',eV',hVv⟩:=hva.at evv
   rw[hV] at eV'
   cases eV'
   try apply Y4
   try refine sN fun _ Y6=>?_
   refine⟨_,rfl,t,d.qh,dx,fs,_,rfl,ht,W.qh.cl,W.qI,t2,_,rfl,vl,_,_,_,rfl,rfl,SqL.of hvl,ka1 (v:=.ref vv) (by rw[Nv,evv];rfl),?_⟩
   try first|apply Y6|apply Y4
   try refine sN fun _ Y6=>?_
   refine⟨_,rfl,t,d.qh,dx,fs,_,rfl,ht,W.qh.cl,W.Ql,t1,_,rfl,_,rfl,y,d.c_Way,dxw,fsw,_,rfl,hw,W.c_Way.cl,W.Qa,w5,?_⟩
   try first|apply Y6|apply Y4
   try refine sN fun _ Y6=>?_
   refine⟨vv,p,b,x,Vc,T.ps,B,S,rfl,hVv,SqL.of hp,hB.same s0I,hx,wf,vo,fun H4 tt pc s4 ft fpc htt hpc=>?_⟩
   have hsp4:=s4 _ _ hsp
   try first|apply Y6|apply Y4
   try refine sN fun _ Y6=>?_
   refine⟨_,rfl, .inl ⟨rfl,_,SqL.of hsp4⟩,_,rfl,_,rfl,tt,_,_,_,rfl,rfl,SqT.of htt,rfl,_,rfl,tt,_,_,_,rfl,rfl,SqT.of htt,rfl,(by show 3≤sizeLine;decide),fun q hq=>?_⟩
   have n5:=kak (o:=.tup [iV n,V.ref pc,V.int (cutM Vc T.ps (kds B) S).2]) hq
   have eq5:(upd H4 q (.tup [iV n,V.ref pc,V.int (cutM Vc T.ps (kds B) S).2])) q=some (.tup [iV n,V.ref pc,V.int (cutM Vc T.ps (kds B) S).2]):=kad
   have s5:=s4.trans n5
   have hsp5:=n5 _ _ hsp4
   have hpc5:=n5 _ _ hpc
   have npc:pc≠sp:=(kaj hsp fpc).symm
   clear n5
   generalize upd H4 q (.tup [iV n,V.ref pc,V.int (cutM Vc T.ps (kds B) S).2])=H5 at *
   try first|apply Y6|apply Y4
   try refine sN fun _ Y6=>?_
   refine⟨sp,_,_,rfl,rfl,hsp5,kao (by rw[Nh,hsa.len];omega),?_⟩
   have b6:But sp H5 (upd H5 sp (.lst (sa.map V.ref++[V.ref q]))):=kau (nx hsp5)
   have s6:Same H2 (upd H5 sp (.lst (sa.map V.ref++[V.ref q]))):=kav fsp (sI.trans s5) (nx hsp5)
   have esp6:(upd H5 sp (.lst (sa.map V.ref++[V.ref q]))) sp=some (.lst ((sa++[q]).map V.ref)):=by rw[kad,Np];rfl
   generalize upd H5 sp (.lst (sa.map V.ref++[V.ref q]))=H6 at *
   have hYx:WayIs d H6 y t b x hand used∧StndIs d.qe H6 x S:=by
    by_cases h0:sa=[]
    ·exact⟨(h2 h0).1.same s6,(h2 h0).2.same s6⟩
    ·exact⟨(hY.same s5).butR b6 hsp5 h0,(hx.same s5).butR b6 hsp5 h0⟩
   have hst:P2 (fun a t=>StepIs H6 a t) (sa++[q]) (st++[⟨n,(cutM Vc T.ps (kds B) S).1,(cutM Vc T.ps (kds B) S).2⟩]):=by
    try first|apply Y6|apply Y4
    refine P2.snoc ?_ ⟨pc,b6 _ _ (ne_of eq5 hsp5 (by intro z;cases z)) eq5,b6 _ _ npc hpc5⟩
    by_cases h0:sa=[]
    ·subst h0
     cases hsa
     try first|apply Y6|apply Y4
     exact .nil
    ·refine hsa.mono fun a t ⟨l,g1,g2⟩=>?_
     have g1':=s5 _ _ g1
     have g2':=s5 _ _ g2
     try first|apply Y6|apply Y4
     try refine sN fun _ Y10=>?_
     refine⟨l,b6 _ _ (ne_of g1' hsp5 (by intro z;cases z)) g1',b6 _ _ ?_ g2'⟩
     try first|apply Y10|apply Y6|apply Y4
     exact kdQ hsp5 h0 g2' fun y hy r e=>by obtain⟨n,_,rfl⟩:=NJ.mp hy;cases e
   have s06:=s02.trans s6
   obtain⟨dxw',fsw',hd',u',hw',_,_,_,_,_,_,w7',_⟩:=id hYx.1
   try first|apply Y6|apply Y4
   try refine sN fun _ Y6=>?_
   refine⟨_,rfl,y,dxw',fsw',rfl,hw',w7',_,rfl,y,t,b,x,T,B,S,hand,used,n,Vc,rfl,hYx.1,hT.same s06,hB.same s06,hYx.2,wf,vo,hV,by omega,fun H7 y' x' s7 fy' hY1 hx1=>?_⟩
   have hY':=hY1.at
   have hx':=hx1.is
   try first|apply Y6|apply Y4
   try refine sN fun _ Y6=>?_
   refine⟨s6.trans s7,y',x',used++[n],_,sa++[q],_,_,_,hY',hx',(fun e=>by simp at e),wf.after vo,by rw[Nx,hul];rfl,s7 _ _ esp6,hst.mono fun a t h=>h.same s7,by rw[Nx,hsl];rfl,?_,hR2,rfl⟩
   rw[Mb]
   try first|apply Y6|apply Y4
   exact hR1
  ·rintro σ H' ⟨sI,y,x,used,S,sa,st,v7,v8,hY,hx,h2,wf,hul,hsp,hsa,hsl,hR1,hR2,rfl⟩
   rw[Nh,E4] at hR1 hR2
   unfold billM at hR1 hR2
   have e1:st=R.1:=by simpa using hR1
   have e2:S=R.2:=hR2
   obtain⟨dxw,fsw,hd,u,hw,w1,w2,w3,w4,w5,w6,w7,w8,w9,w10,hh',hu⟩:=id hY
   rw[Nh] at hsl
   try first|apply Y6|apply Y4
   try refine sN fun _ Y6=>?_
   refine⟨_,rfl,_,rfl,_,rfl,y,d.c_Way,dxw,fsw,_,rfl,hw,W.c_Way.cl,W.Qa,w5,klT ((s02.trans sI) _ _ ho) hsp hsa (by omega) hx fun H8 bl s8 hBl=>?_⟩
   try first|apply Y6|apply Y4
   refine kk H' H8 bl (s02.trans sI) s8 ?_
   unfold kaR
   rw[eR,←e1,←e2]
   try first|apply Y6|apply Y4
   exact hBl
theorem kl4(xs:List V)(a m:Nat)(h:a+m≤xs.length):cutV xs (some (a:Int)) (some ((a+m:Nat):Int))=(xs.drop a).take m:=by
 unfold cutV
 rw[HT.sIx_nat,HT.sIx_nat,MG h,MG (show a≤xs.length by omega)]
 congr 1
 omega
noncomputable def mans(rs:List Row):List Nat:=rs.map fun r=>r.mn.toNat
theorem kgu:∀(rs:List Row) (k:Nat),((rs.zipIdx k).map fun p=>Nl p.1.mn.toNat p.2).flatten.length=(mans rs).sum
 |[],k=>rfl
 |r::rs,k=>by
  rw[Eu,NC,NR,Nx,Mi,kgu rs (k+1)]
  rfl
theorem kfK(rs:List Row):(ownN rs).length=(mans rs).sum:=kgu rs 0
theorem kgC{rs:List Row}{i:Nat}{r:Row}(h:rs[i]?=some r):mans (rs.take (i+1))=mans (rs.take i)++[r.mn.toNat]:=by
 rw[take_snoc h]
 unfold mans
 rw[Np]
 rfl
theorem kjy(rs:List Row)(i:Nat):(mans (rs.take i)).sum≤(mans rs).sum:=by
 conv=>rhs;rw[←Ex i rs]
 unfold mans
 rw[Np,Mg]
 omega
theorem kea{H:Hp}{x y C C' dx dx':Addr}{fs fs':List (Str×V)}{g:Str}{v:V}(hx:H x=some (.ins C dx fs))(hy:H y=some (.ins C' dx' fs'))(l:fs'.lookup g=some v)(n:fs.lookup g=none):y≠x:=fun e=>by
 subst e
 rw[hx] at hy
 injection hy with hy
 injection hy with _ _ c
 rw[c,l] at n
 cases n
theorem kc5{f:Str}{y:V}:∀{fs:List (Str×V)} {v:V},fs.lookup f=some v→(putF f y fs).length=fs.length
 |[],v,h=>by cases h
 | (g,z)::r,v,h=>by
  rw[show putF f y ((g,z)::r)=(if g=f then(g,y)::r else(g,z)::putF f y r) from rfl]
  by_cases e:g=f
  ·rw[if_pos e]
   rfl
  ·rw[if_neg e]
   have hb:(f==g)=false:=beq_eq_false_iff_ne.mpr (Ne.symm e)
   have h':r.lookup f=some v:=by simpa only[Mh,hb] using h
   show(putF f y r).length+1=r.length+1
   rw[kc5 h']
noncomputable def Foe(fs:List (Str×V)):Prop:=fs.lookup ("marks" :Str)=none∧fs.lookup ("kind" :Str)=none∧fs.lookup ("parents" :Str)=none∧fs.lookup ("lines" :Str)=none
section
variable {d:D} {H H':Hp} {x C dx:Addr} {fs:List (Str×V)}
theorem Tbs.butI(b:But x H H')(hx:H x=some (.ins C dx fs))(h:Tbs d H):Tbs d H':=by
 obtain⟨ps,e,t⟩:=id h
 exact(b _ _ (ne_of e hx (by intro z;cases z)) e).2 h
theorem VchIs.butI(b:But x H H')(hx:H x=some (.ins C dx fs))(foe:Foe fs){v:Addr}{V:Vch}:VchIs d H v V→VchIs d H' v V:=fun⟨mA,dv,fv,h1,h2,h3,⟨dm,fm,hm,l1,q⟩,h5,tb⟩=>
 ⟨mA,dv,fv,b _ _ (kea hx h1 h2 foe.1) h1,h2,h3,⟨dm,fm,b _ _ (kea hx hm l1 foe.2.1) hm,l1,q⟩,h5,tb.butI b hx⟩
theorem TillIs.butI(b:But x H H')(hx:H x=some (.ins C dx fs))(foe:Foe fs){t:Addr}{T:TillD}:TillIs d H t T→TillIs d H' t T:=by
 rintro⟨dt,ft,p,vl,rl,va,ra,h1,h2,h3,h4,h5,h6,h7,h8,h9,h10⟩
 exact⟨dt,ft,p,vl,rl,va,ra,b _ _ (kea hx h1 h2 foe.2.2.1) h1,h2,h3,h4,h5,b _ _ (ne_of h6 hx (by intro z;cases z)) h6,b _ _ (ne_of h7 hx (by intro z;cases z)) h7,h8.mono fun a V h=>h.butI b hx foe,b _ _ (ne_of h9 hx (by intro z;cases z)) h9,h10.mono fun a r h=>b _ _ (ne_of h hx (by intro z;cases z)) h⟩
theorem BaskIs.butI(b:But x H H')(hx:H x=some (.ins C dx fs))(foe:Foe fs){CL CB y:Addr}{B:Bask}:BaskIs CL CB H y B→BaskIs CL CB H' y B:=by
 rintro⟨l,ls,⟨db,fb,h1,h2,q⟩,h3,h4⟩
 exact⟨l,ls,⟨db,fb,b _ _ (kea hx h1 h2 foe.2.2.2) h1,h2,q⟩,b _ _ (ne_of h3 hx (by intro z;cases z)) h3,h4.mono fun a r ⟨dl,fl,g1,g2,g3⟩=>⟨dl,fl,b _ _ (kea hx g1 g2 foe.2.1) g1,g2,g3⟩⟩
theorem kaW(b:But x H H')(hx:H x=some (.ins C dx fs)){y:Addr}{xs:List V}(h:H y=some (.lst xs)):H' y=some (.lst xs):=b _ _ (ne_of h hx (by intro z;cases z)) h
end
structure AccD where
 T:TillD
 B:Bask
 pr:List Int
 hand:List Int
 order:List Nat
 fallen:List Nat
 many:List Int
 paid:Int
 owed:Int
noncomputable def accNo:List Str:=["take_back","has_left","pay_back","paid_behind","what_stays","due_again","go_through","marks","kind","parents","lines"]
structure AccF (fs:List (Str×V)) (t b h fp o fa m:Addr) (paid owed:Int):Prop where
 l1:fs.lookup ("till" :Str)=some (.ref t)
 l2:fs.lookup ("basket" :Str)=some (.ref b)
 l3:fs.lookup ("hand" :Str)=some (.ref h)
 l4:fs.lookup ("first_prices" :Str)=some (.ref fp)
 l5:fs.lookup ("order" :Str)=some (.ref o)
 l6:fs.lookup ("fallen" :Str)=some (.ref fa)
 l7:fs.lookup ("many" :Str)=some (.ref m)
 l8:fs.lookup ("paid" :Str)=some (.int paid)
 l9:fs.lookup ("owed" :Str)=some (.int owed)
 l10:fs.length≤10
 l11:∀z∈accNo,fs.lookup z=none
theorem kaH{fs:List (Str×V)}{v:V}{f g:Str}{r:Option V}(h:fs.lookup g=r)(n:g≠f:=by decide +kernel):(putF f v fs).lookup g=r:=by
 rw[kab,if_neg n]
 exact h
theorem lk_at{fs:List (Str×V)}{v:V}{f:Str}:(putF f v fs).lookup f=some v:=by rw[kab,if_pos rfl]
theorem kce{fs:List (Str×V)}{v:V}{f:Str}(h:∀z∈accNo,fs.lookup z=none)(n:f∉accNo:=by decide +kernel):∀z∈accNo,(putF f v fs).lookup z=none:=fun z hz=>kaH (h z hz) fun e=>n (e▸hz)
section
variable {fs:List (Str×V)} {t b h fp o fa m c:Addr} {p q z:Int}
theorem AccF.order(A:AccF fs t b h fp o fa m p q):AccF (putF "order" (.ref c) fs) t b h fp c fa m p q:=⟨kaH A.l1,kaH A.l2,kaH A.l3,kaH A.l4,lk_at,kaH A.l6,kaH A.l7,kaH A.l8,kaH A.l9,by rw[kc5 A.l5];exact A.l10,kce A.l11⟩
theorem AccF.fallen(A:AccF fs t b h fp o fa m p q):AccF (putF "fallen" (.ref c) fs) t b h fp o c m p q:=⟨kaH A.l1,kaH A.l2,kaH A.l3,kaH A.l4,kaH A.l5,lk_at,kaH A.l7,kaH A.l8,kaH A.l9,by rw[kc5 A.l6];exact A.l10,kce A.l11⟩
theorem AccF.many(A:AccF fs t b h fp o fa m p q):AccF (putF "many" (.ref c) fs) t b h fp o fa c p q:=⟨kaH A.l1,kaH A.l2,kaH A.l3,kaH A.l4,kaH A.l5,kaH A.l6,lk_at,kaH A.l8,kaH A.l9,by rw[kc5 A.l7];exact A.l10,kce A.l11⟩
theorem AccF.paid(A:AccF fs t b h fp o fa m p q):AccF (putF "paid" (.int z) fs) t b h fp o fa m z q:=⟨kaH A.l1,kaH A.l2,kaH A.l3,kaH A.l4,kaH A.l5,kaH A.l6,kaH A.l7,lk_at,kaH A.l9,by rw[kc5 A.l8];exact A.l10,kce A.l11⟩
theorem AccF.owed(A:AccF fs t b h fp o fa m p q):AccF (putF "owed" (.int z) fs) t b h fp o fa m p z:=⟨kaH A.l1,kaH A.l2,kaH A.l3,kaH A.l4,kaH A.l5,kaH A.l6,kaH A.l7,kaH A.l8,lk_at,by rw[kc5 A.l9];exact A.l10,kce A.l11⟩
theorem AccF.foe(A:AccF fs t b h fp o fa m p q):Foe fs:=⟨A.l11 _ (by decide +kernel),A.l11 _ (by decide +kernel),A.l11 _ (by decide +kernel),A.l11 _ (by decide +kernel)⟩
end
structure AccK (d:D) (Hs:Hp) (t b h fp o fa m:Addr) (A:AccD):Prop where
 T:TillIs d Hs t A.T
 B:BaskIs d.qf d.qg Hs b A.B
 h:Hs h=some (.lst (A.hand.map V.int))
 p:Hs fp=some (.lst (A.pr.map V.int))
 o:Hs o=some (.lst (A.order.map iV))
 f:Hs fa=some (.lst (A.fallen.map iV))
 m:Hs m=some (.lst (A.many.map V.int))
inductive AccIn (d:D) (Hs H:Hp) (x:Addr) (A:AccD):Prop
 |ct (dx t b h fp o fa m:Addr) (fs:List (Str×V)) (_:H x=some (.ins d.qc dx fs)) (_:AccF fs t b h fp o fa m A.paid A.owed) (_:AccK d Hs t b h fp o fa m A):AccIn d Hs H x A
section
variable {d:D} {Hs Hs' H H':Hp} {x:Addr} {A:AccD}
theorem AccK.kept{t b h fp o fa m:Addr}(s:Same Hs Hs')(k:AccK d Hs t b h fp o fa m A):AccK d Hs' t b h fp o fa m A:=⟨k.T.same s,k.B.same s,s _ _ k.h,s _ _ k.p,s _ _ k.o,s _ _ k.f,s _ _ k.m⟩
theorem AccIn.same(s:Same H H'):AccIn d Hs H x A→AccIn d Hs H' x A:=fun⟨dx,t,b,h,fp,o,fa,m,fs,hx,f,q⟩=>⟨dx,t,b,h,fp,o,fa,m,fs,s _ _ hx,f,q⟩
theorem AccIn.but{y:Addr}(z:But y H H')(n:x≠y):AccIn d Hs H x A→AccIn d Hs H' x A:=fun⟨dx,t,b,h,fp,o,fa,m,fs,hx,f,q⟩=>⟨dx,t,b,h,fp,o,fa,m,fs,z _ _ n hx,f,q⟩
theorem AccIn.kept(s:Same Hs Hs'):AccIn d Hs H x A→AccIn d Hs' H x A:=fun⟨dx,t,b,h,fp,o,fa,m,fs,hx,f,q⟩=>⟨dx,t,b,h,fp,o,fa,m,fs,hx,f,q.kept s⟩
theorem AccIn.obj(h:AccIn d Hs H x A):∃(dx:Addr) (fs:List (Str×V)),H x=some (.ins d.qc dx fs)∧Foe fs:=by
 obtain⟨dx,t,b,h,fp,o,fa,m,fs,hx,f,q⟩:=h
 exact⟨dx,fs,hx,f.foe⟩
theorem AccIn.rmv{y C dy:Addr}{gs:List (Str×V)}(hy:Hs y=some (.ins C dy gs))(foe:Foe gs):AccIn d Hs H x A→AccIn d (rmv y Hs) H x A:=fun⟨dx,t,b,h,fp,o,fa,m,fs,hx,f,q⟩=>
 have bt:=kg6 (nx hy)
 ⟨dx,t,b,h,fp,o,fa,m,fs,hx,f,q.T.butI bt hy foe,q.B.butI bt hy foe,kaW bt hy q.h,kaW bt hy q.p,kaW bt hy q.o,kaW bt hy q.f,kaW bt hy q.m⟩
end
inductive TillN (d:D) (H0 H:Hp) (t:Addr) (T:TillD):Prop
 |ct (dx:Addr) (fs:List (Str×V)) (p vl rl:Addr) (va ra:List Addr) (_:H0 p=none) (_:H0 vl=none) (_:H0 rl=none) (_:H t=some (.ins d.qh dx fs)) (_:fs.lookup ("parents" :Str)=some (.ref p)) (_:fs.lookup ("vouchers" :Str)=some (.ref vl)) (_:fs.lookup ("rules" :Str)=some (.ref rl)) (_:fs.lookup ("back" :Str)=some (.str T.bk)) (_:H p=some (.lst (T.ps.map pV))) (_:H vl=some (.lst (va.map V.ref))) (_:P2 (fun a V=>VchIs d H a V) va T.vs) (_:H rl=some (.lst (ra.map V.ref))) (_:P2 (fun a r=>RulIs H a r) ra T.rs):TillN d H0 H t T
inductive BaskN (CL CB:Addr) (H0 H:Hp) (b:Addr) (B:Bask):Prop
 |ct (l:Addr) (ls:List Addr) (_:H0 l=none) (_:BaskAt CB H b l B.cg B.m) (_:H l=some (.lst (ls.map V.ref))) (_:Lines CL H ls B.rs):BaskN CL CB H0 H b B
section
variable {d:D} {H0 H H':Hp} {x C dx q:Addr} {fs:List (Str×V)} {t:Addr} {T:TillD} {B:Bask} {CL CB:Addr} {xs:List V}
theorem TillN.is:TillN d H0 H t T→TillIs d H t T:=fun⟨dt,ft,p,vl,rl,va,ra,_,_,_,h1,h2,h3,h4,h5,h6,h7,h8,h9,h10⟩=>⟨dt,ft,p,vl,rl,va,ra,h1,h2,h3,h4,h5,h6,h7,h8,h9,h10⟩
theorem TillN.butI(b:But x H H')(hx:H x=some (.ins C dx fs))(foe:Foe fs):TillN d H0 H t T→TillN d H0 H' t T:=by
 rintro⟨dt,ft,p,vl,rl,va,ra,f1,f2,f3,h1,h2,h3,h4,h5,h6,h7,h8,h9,h10⟩
 exact⟨dt,ft,p,vl,rl,va,ra,f1,f2,f3,b _ _ (kea hx h1 h2 foe.2.2.1) h1,h2,h3,h4,h5,b _ _ (ne_of h6 hx (by intro z;cases z)) h6,b _ _ (ne_of h7 hx (by intro z;cases z)) h7,h8.mono fun a V h=>h.butI b hx foe,b _ _ (ne_of h9 hx (by intro z;cases z)) h9,h10.mono fun a r h=>b _ _ (ne_of h hx (by intro z;cases z)) h⟩
theorem BaskN.is:BaskN CL CB H0 H x B→BaskIs CL CB H x B:=fun⟨l,ls,_,h1,h2,h3⟩=>⟨l,ls,h1,h2,h3⟩
theorem BaskN.butI{y:Addr}(b:But x H H')(hx:H x=some (.ins C dx fs))(foe:Foe fs):BaskN CL CB H0 H y B→BaskN CL CB H0 H' y B:=by
 rintro⟨l,ls,f,⟨db,fb,h1,h2,q⟩,h3,h4⟩
 exact⟨l,ls,f,⟨db,fb,b _ _ (kea hx h1 h2 foe.2.2.2) h1,h2,q⟩,b _ _ (ne_of h3 hx (by intro z;cases z)) h3,h4.mono fun a r ⟨dl,fl,g1,g2,g3⟩=>⟨dl,fl,b _ _ (kea hx g1 g2 foe.2.1) g1,g2,g3⟩⟩
theorem VchIs.butL(b:But q H H')(hq:H q=some (.lst xs)){v:Addr}{V:Vch}:VchIs d H v V→VchIs d H' v V:=fun⟨mA,dv,fv,h1,h2,h3,⟨dm,fm,hm,l1,r⟩,h5,tb⟩=>by
 have hn:∀{a C dx:Addr} {fs:List (Str×L2.V)},H a=some (.ins C dx fs)→a≠q:=fun h=>ne_of h hq (by intro z;cases z)
 refine⟨mA,dv,fv,b _ _ (hn h1) h1,h2,h3,⟨dm,fm,b _ _ (hn hm) hm,l1,r⟩,h5,?_⟩
 obtain⟨ps,e,t⟩:=id tb
 exact(b _ _ (ne_of e hq (by intro z;cases z)) e).2 tb
theorem TillN.rmv(f0:H0 q≠none)(hq:H q=some (.lst xs)):TillN d H0 H t T→TillIs d (rmv q H) t T:=by
 rintro⟨dt,ft,p,vl,rl,va,ra,f1,f2,f3,h1,h2,h3,h4,h5,h6,h7,h8,h9,h10⟩
 have b:=kg6 (nx hq)
 exact⟨dt,ft,p,vl,rl,va,ra,b _ _ (ne_of h1 hq (by intro z;cases z)) h1,h2,h3,h4,h5,(kbT f0 f1).trans h6,(kbT f0 f2).trans h7,h8.mono fun a V h=>h.butL b hq,(kbT f0 f3).trans h9,h10.mono fun a r h=>b _ _ (ne_of h hq (by intro z;cases z)) h⟩
theorem BaskN.rmv(f0:H0 q≠none)(hq:H q=some (.lst xs)):BaskN CL CB H0 H x B→BaskIs CL CB (rmv q H) x B:=by
 rintro⟨l,ls,f,⟨db,fb,h1,h2,r⟩,h3,h4⟩
 have b:=kg6 (nx hq)
 exact⟨l,ls,⟨db,fb,b _ _ (ne_of h1 hq (by intro z;cases z)) h1,h2,r⟩,(kbT f0 f).trans h3,h4.mono fun a r ⟨dl,fl,g1,g2,g3⟩=>⟨dl,fl,b _ _ (ne_of g1 hq (by intro z;cases z)) g1,g2,g3⟩⟩
end
theorem kkv{d:D}{H0 H:Hp}{p vl rl:Addr}{T:TillD}{va ra:List Addr}{R:Addr→Hp→Prop}{E:XK}(s0:Same H0 H)(hp:H p=some (.lst (T.ps.map pV)))(hvl:H vl=some (.lst (va.map V.ref)))(hv:P2 (fun a V=>VchIs d H a V) va T.vs)(hrl:H rl=some (.lst (ra.map V.ref)))(hr:P2 (fun a r=>RulIs H a r) ra T.rs)
  (k:∀(H':Hp) (x:Addr),Same H H'→H x=none→TillN d H0 H' x T→R x H'):
  ∀x dx,H x=none→H dx=none→dx≠x→kfx d [.ref x, .ref p, .ref vl, .ref rl, .str T.bk] (upd (upd H dx (.own x)) x (.ins d.qh dx [])) (fun v H2=>v=.non∧R x H2) E:=
 fun x dx nx nd _=>⟨H,x,dx,p,vl,rl,_,_,_,_,rfl,nx,ka2 nx nd,kad,hp,hvl,hrl,fun H' p' vl' rl' fs s f1 f2 f3 h1 h2 h3 hx l1 l2 l3 l4=>⟨rfl,k H' x s nx ⟨dx,fs,p',vl',rl',va,ra,none_of s0 f1,none_of s0 f2,none_of s0 f3,hx,l1,l2,l3,l4,h1,h2,hv.mono fun a V h=>h.same s,h3,hr.mono fun a r h=>s _ _ h⟩⟩⟩
theorem kdv{Hk H0 H':Hp}{x C dx:Addr}{fs fs':List (Str×V)}(h:upd Hk x (.ins C dx fs')=H')(hx:Hk x=some (.ins C dx fs))(fx:H0 x=none)(s:Same H0 Hk):But x Hk H'∧Same H0 H'∧H' x=some (.ins C dx fs'):=by
 subst h
 exact⟨kau (nx hx),kav fx s (nx hx),kad⟩
noncomputable def acc0(T:TillD)(B:Bask)(hand:List Int)(order:List Nat):AccD:=⟨T,B,(kaR T B order).pr,hand,order,[],B.rs.map fun r=>r.mn,(kaR T B order).total,0⟩
inductive ki2 (d:D) (vs:List V) (H:Hp) (Q:VK) (E_:XK):Prop
 |ct (H0:Hp) (x dx t b h o:Addr) (T:TillD) (B:Bask) (hand:List Int) (order:List Nat) (_:vs=[.ref x, .ref t, .ref b, .ref h, .ref o]) (_:H0 x=none) (_:Same H0 H) (_:H x=some (.ins d.qc dx [])) (_:TillIs d H0 t T) (_:kbN T) (_:BaskIs d.qf d.qg H0 b B) (_:Wf T.ps B (stnd0 B)) (_:H0 h=some (.lst (hand.map V.int))) (_:H0 o=some (.lst (order.map iV))) (_:hand.length=T.vs.length) (_:(∀n∈order,n<T.vs.length)) (_:order.length<64) (_:kbh T B hand order=none) (_:∀H',Same H0 H'→AccIn d H' H' x (acc0 T B hand order)→(∀q xs,H0 q=some (.lst xs)→AccIn d (rmv q H') H' x (acc0 T B hand order))→Q .non H'):ki2 d vs H Q E_
theorem VY:kap ["self","till","basket","hand","order","bill"] ["self","till","basket","hand","order"] (kah kcn):=⟨rfl,rfl,rfl,by decide +kernel,rfl,by decide +kernel,by decide +kernel⟩
theorem keR(W:WB K mg d base):FnOk P w K mg base CX0 10 d.Vl d.Vm ["self","till","basket","hand","order"] (ki2 d):=by
 refine FunD.ok W.Qy.F VY (fun vs H Q E h=>?_) (fun cdv A outer s H vs Q E hr h=>?_)
 ·obtain⟨H0,x,dx,t,b,h,o,T,B,hand,order,rfl,_⟩:=h
  rfl
 ·obtain⟨H0,x,dx,t,b,h,o,T,B,hand,order,rfl,fx,s0,hx,hT,tok,hB,wf0,hh,ho,hhl,hlt,h64,hf,k⟩:=h
  have QF:=keL (P:=P) (w:=w) (base:=base) W
  have QG:=kcU (P:=P) (w:=w) (base:=base) W
  have Qh:=kbH (P:=P) (w:=w) (base:=base) W
  have hr2:Room 2 _:=hr.mono (by decide)
  refine⟨_,kac (kas (i:=5) VY.nd rfl (Or.inl rfl) (kan QF hr rfl W.qA.m W.qA.F.kp W.qA.b .nil pass0 (kaa (pv 1) (kaa (pv 2) (kaa (pv 3) (kaa (pv 4) kae))))))
   (kac (kaz (pv 0) (kaS (W.Qd.mk' W.qh) QG hr2 rfl W.qh.m W.Qd.b .nil pass0 (kaa (kag (K:=K) (pv 1) rfl) (kaa (kag (K:=K) (pv 1) rfl) (kaa (kag (K:=K) (pv 1) rfl) (kaa (kag (K:=K) (pv 1) rfl) kae))))) rfl)
   (kac (kaz (pv 0) (kaS (W.qG.mk' W.qg) Qh hr2 rfl W.qg.m W.qG.b .nil pass0 (kaa (kag (K:=K) (pv 2) rfl) (kaa (kag (K:=K) (pv 2) rfl) (kaa (kag (K:=K) (pv 2) rfl) kae)))) rfl)
   (kac (kaz (pv 0) (kaO (r:=kbE K) kaI (by rfl) W.B.list kcf (kaa (pv 3) kae)) rfl)
   (kac (kaz (pv 0) (kag (K:=K) (pv 5) rfl) rfl)
   (kac (kaz (pv 0) (kaO (r:=kbE K) kaI (by rfl) W.B.list kcf (kaa (pv 4) kae)) rfl)
   (kac (kaz (pv 0) (kaL kae) rfl)
   (kac (kaz (pv 0) (kbp (N:=["line"]) (CompScope.plain rfl (by decide +kernel) (by decide +kernel) (by decide +kernel) (nd1 _)) rfl (kaJ (K:=K) (kag (K:=K) (pv 2) rfl)) (fun _ _ _ _=>kar (i:=0) (nd1 _) rfl (Or.inl rfl)) (fun _ _ _ _=>(kag (K:=K) (pv 0) rfl))) rfl)
   (kac (kaz (pv 0) (kag (K:=K) (pv 5) rfl) rfl)
   (kai (kaz (pv 0) kaf rfl)))))))))),?_⟩
  try refine sN fun _ Y4=>?_
  refine⟨_,rfl,_,rfl,_,rfl,_,rfl,t,b,h,o,T,B,hand,order,rfl,hT.same s0,tok,hB.same s0,wf0,s0 _ _ hh,s0 _ _ ho,hhl,hlt,h64,hf,fun Hz H1 bl z0 z1 hBl=>?_⟩
  have len0:([]:List (Str×V)).length≤0:=Nj _
  have hzx:Hz x≠none:=by
   rw[z0 _ _ hx]
   intro z
   cases z
  have S1:=(s0.trans z0).trans z1
  have hx1:=(z0.trans z1) _ _ hx
  obtain⟨dxt,fst,tp,vl,rl,va,ra,ht,t1,t2,t3,t4,htp,hvl,hva,hrl,hra⟩:=id (hT.same S1)
  try apply Y4
  try refine sN fun _ Y4=>?_
  refine⟨_,rfl,t,d.qh,dxt,fst,_,rfl,ht,W.qh.cl,W.Ql,t1,_,rfl,t,d.qh,dxt,fst,_,rfl,ht,W.qh.cl,W.qI,t2,_,rfl,t,d.qh,dxt,fst,_,rfl,ht,W.qh.cl,W.qJ,t3,_,rfl,t,d.qh,dxt,fst,_,rfl,ht,W.qh.cl,W.XW,t4,kkv (T:=T) S1 htp hvl hva hrl hra fun H2 t' s2 ft' hT'=>?_⟩
  have S2:=S1.trans s2
  have hx2:=s2 _ _ hx1
  try apply Y4
  try refine sN fun _ Y4=>?_
  refine⟨_,rfl,x,d.qc,dx,_,rfl,hx2,W.qc.cl,W.Xl,(by have:=len0;omega),?_⟩
  generalize hH3:upd H2 x _=H3
  obtain⟨b3,S3,hx3⟩:=kdv hH3 hx2 fx S2
  have len1:=kal (f:="till") (v:=.ref t') len0
  obtain⟨l,ls,⟨dxb,fsb,hb,lbl,lbc,lbm⟩,hl,hL⟩:=id (hB.same S3)
  try apply Y4
  try refine sN fun _ Y4=>?_
  refine⟨_,rfl,b,d.qg,dxb,fsb,_,rfl,hb,W.qg.cl,W.qy,lbl,_,rfl,b,d.qg,dxb,fsb,_,rfl,hb,W.qg.cl,W.Qr,lbc,_,rfl,b,d.qg,dxb,fsb,_,rfl,hb,W.qg.cl,W.Qj,lbm,kfY (SqL.of hl) fun H4 b' l' s4 fb' fl' hl' hb'=>?_⟩
  have S4:=S3.trans s4
  have hx4:=s4 _ _ hx3
  have hB':BaskN d.qf d.qg H0 H4 b' B:=⟨l',ls,none_of S3 fl',hb',hl',hL.same s4⟩
  try apply Y4
  try refine sN fun _ Y4=>?_
  refine⟨_,rfl,x,d.qc,dx,_,rfl,hx4,W.qc.cl,W.Qw,(by have:=len1;omega),?_⟩
  generalize hH5:upd H4 x _=H5
  obtain⟨b5,S5,hx5⟩:=kdv hH5 hx4 fx S4
  have len2:=kal (f:="basket") (v:=.ref b') len1
  try apply Y4
  try refine sN fun _ Y4=>?_
  refine⟨_,rfl,h,_,rfl, .inl (SqL.of (S5 _ _ hh)),fun h' fh'=>?_⟩
  generalize hgH6:upd H5 h' _=H6
  obtain⟨s6,eh⟩:=kaK hgH6 fh'
  have S6:=S5.trans s6
  have hx6:=s6 _ _ hx5
  try apply Y4
  try refine sN fun _ Y4=>?_
  refine⟨_,rfl,x,d.qc,dx,_,rfl,hx6,W.qc.cl,W.VQ,(by have:=len2;omega),?_⟩
  generalize hH7:upd H6 x _=H7
  obtain⟨b7,S7,hx7⟩:=kdv hH7 hx6 fx S6
  have len3:=kal (f:="hand") (v:=.ref h') len2
  obtain⟨dx2,fs2,o2,sp,pp,sa,g1,g2,g3,g4,g5,g6,_,_,_,fpp,g7,g8,g9,g10⟩:=id ((((((hBl.same s2).but b3 hzx).same s4).but b5 hzx).same s6).but b7 hzx)
  try apply Y4
  try refine sN fun _ Y4=>?_
  refine⟨_,rfl,bl,d.qi,dx2,fs2,_,rfl,g1,W.qi.cl,W.VP,g4,?_⟩
  try apply Y4
  try refine sN fun _ Y4=>?_
  refine⟨_,rfl,x,d.qc,dx,_,rfl,hx7,W.qc.cl,W.VR,(by have:=len3;omega),?_⟩
  generalize hH8:upd H7 x _=H8
  obtain⟨b8,S8,hx8⟩:=kdv hH8 hx7 fx S7
  have len4:=kal (f:="first_prices") (v:=.ref pp) len3
  try apply Y4
  try refine sN fun _ Y4=>?_
  refine⟨_,rfl,o,_,rfl, .inl (SqL.of (S8 _ _ ho)),fun o' fo'=>?_⟩
  generalize hgH9:upd H8 o' _=H9
  obtain⟨s9,eo⟩:=kaK hgH9 fo'
  have S9:=S8.trans s9
  have hx9:=s9 _ _ hx8
  try apply Y4
  try refine sN fun _ Y4=>?_
  refine⟨_,rfl,x,d.qc,dx,_,rfl,hx9,W.qc.cl,W.qD,(by have:=len4;omega),?_⟩
  generalize hH10:upd H9 x _=H10
  obtain⟨b10,S10,hx10⟩:=kdv hH10 hx9 fx S9
  have len5:=kal (f:="order") (v:=.ref o') len4
  try apply Y4
  try refine sN fun _ Y4=>?_
  refine⟨by decide,fun fa ffa=>?_⟩
  generalize hgH11:upd H10 fa _=H11
  obtain⟨s11,efa⟩:=kaK hgH11 ffa
  have S11:=S10.trans s11
  have hx11:=s11 _ _ hx10
  try apply Y4
  try refine sN fun _ Y4=>?_
  refine⟨_,rfl,x,d.qc,dx,_,rfl,hx11,W.qc.cl,W.Qm,(by have:=len5;omega),?_⟩
  generalize hH12:upd H11 x _=H12
  obtain⟨b12,S12,hx12⟩:=kdv hH12 hx11 fx S11
  have len6:=kal (f:="fallen") (v:=.ref fa) len5
  obtain⟨l2,ls2,⟨dxb2,fsb2,hb2,lbl2,lbc2,lbm2⟩,hl2,hL2⟩:=id (hB.same S12)
  have hll:=hL2.len
  have hnl:=wf0.nl
  try apply Y4
  try refine sN fun _ Y4=>?_
  refine⟨_,rfl,b,d.qg,dxb2,fsb2,_,rfl,hb2,W.qg.cl,W.qy,lbl2,l2,rfl,⟨_,SqL.of hl2⟩,kaZ (xs:=ls2.map V.ref) (fun i σ ys H'=>H'=H12∧ys=((B.rs.take i).map fun r=>r.mn).map V.int∧∃v,σ=[v]) ⟨rfl,rfl,none,rfl⟩ (by rw[Nh,hll];exact Nw (kao (by omega))) ?_ ?_ ?_⟩
  ·rintro i σ ys H' hi ⟨rfl,rfl,_⟩
   try apply Y4
   exact⟨SqL.of hl2,by rw[Nh,Nh,Ny];rw[Nh] at hi;omega⟩
  ·rintro i y σ ys H' hy ⟨rfl,rfl,v,rfl⟩
   obtain⟨lx,el,rfl⟩:=kbJ hy
   obtain⟨r,er⟩:=at_of (xs:=B.rs) (i:=i) (by have:=at_lt el;omega)
   obtain⟨dxl,fsl,hlx,lk1,lk2,lk3,lk4⟩:=hL2.get el er
   try apply Y4
   try refine sN fun _ Y6=>?_
   refine⟨_,rfl,lx,d.qf,dxl,fsl,_,rfl,hlx,W.qf.cl,W.qF,lk3,rfl,?_,_,rfl⟩
   rw[take_snoc er,Np,Np]
   rfl
  ·rintro σ ys H' ⟨rfl,rfl,v,rfl⟩ m' fm'
   rw[Nh,hll,NS]
   generalize hgH13:upd H' m' _=H13
   obtain⟨s13,em⟩:=kaK hgH13 fm'
   have S13:=S12.trans s13
   have hx13:=s13 _ _ hx12
   try first|apply Y6|apply Y4
   try refine sN fun _ Y6=>?_
   refine⟨_,rfl,x,d.qc,dx,_,rfl,hx13,W.qc.cl,W.qz,(by have:=len6;omega),?_⟩
   generalize hH14:upd H13 x _=H14
   obtain⟨b14,S14,hx14⟩:=kdv hH14 hx13 fx S13
   have len7:=kal (f:="many") (v:=.ref m') len6
   obtain⟨dx3,fs3,o3,sp3,pp3,sa3,k1,_,_,_,_,k6,_⟩:=id ((((((((((hBl.same s2).but b3 hzx).same s4).but b5 hzx).same s6).but b7 hzx).but b8 hzx).same s9).but b10 hzx).same s11 |>.but b12 hzx |>.same s13 |>.but b14 hzx)
   try first|apply Y6|apply Y4
   try refine sN fun _ Y6=>?_
   refine⟨_,rfl,bl,d.qi,dx3,fs3,_,rfl,k1,W.qi.cl,W.Qv,k6,?_⟩
   try first|apply Y6|apply Y4
   try refine sN fun _ Y6=>?_
   refine⟨_,rfl,x,d.qc,dx,_,rfl,hx14,W.qc.cl,W.qK,(by have:=len7;omega),?_⟩
   generalize hH15:upd H14 x _=H15
   obtain⟨b15,S15,hx15⟩:=kdv hH15 hx14 fx S14
   have len8:=kal (f:="paid") (v:=.int (kaR T B order).total) len7
   try first|apply Y6|apply Y4
   try refine sN fun _ Y6=>?_
   refine⟨_,rfl,x,d.qc,dx,_,rfl,hx15,W.qc.cl,W.Qx,(by have:=len8;omega),?_⟩
   generalize hH16:upd H15 x _=H16
   obtain⟨b16,S16,hx16⟩:=kdv hH16 hx15 fx S15
   have len9:=kal (f:="owed") (v:=.int 0) len8
   have c13:=(b14.trans b15).trans b16
   have c11:=(b12.same s13).trans c13
   have c9:=(b10.same s11).trans c11
   have c7:=(b8.same s9).trans c9
   have c6:=b7.trans c7
   have c4:=(b5.same s6).trans c6
   have c2:=(b3.same s4).trans c4
   have foe0:Foe ([]:List (Str×V)):=⟨rfl,rfl,rfl,rfl⟩
   have foe1:Foe (putF "till" (.ref t') []):=⟨rfl,rfl,rfl,rfl⟩
   have fin:AccF (putF "owed" (.int 0) (putF "paid" (.int (kaR T B order).total) (putF "many" (.ref m') (putF "fallen" (.ref fa) (putF "order" (.ref o') (putF "first_prices" (.ref pp) (putF "hand" (.ref h') (putF "basket" (.ref b') (putF "till" (.ref t') []))))))))) t' b' h' pp o' fa m' (kaR T B order).total 0:=by
    try first|apply Y6|apply Y4
    try refine sN fun _ Y8=>?_
    refine⟨?_,?_,?_,?_,?_,?_,?_,?_,?_,(by have:=len9;omega),?_⟩
    ·(repeat (first|rw[kab,if_pos rfl]|rw[kab,if_neg (by decide +kernel)]))
    ·(repeat (first|rw[kab,if_pos rfl]|rw[kab,if_neg (by decide +kernel)]))
    ·(repeat (first|rw[kab,if_pos rfl]|rw[kab,if_neg (by decide +kernel)]))
    ·(repeat (first|rw[kab,if_pos rfl]|rw[kab,if_neg (by decide +kernel)]))
    ·(repeat (first|rw[kab,if_pos rfl]|rw[kab,if_neg (by decide +kernel)]))
    ·(repeat (first|rw[kab,if_pos rfl]|rw[kab,if_neg (by decide +kernel)]))
    ·(repeat (first|rw[kab,if_pos rfl]|rw[kab,if_neg (by decide +kernel)]))
    ·(repeat (first|rw[kab,if_pos rfl]|rw[kab,if_neg (by decide +kernel)]))
    ·(repeat (first|rw[kab,if_pos rfl]|rw[kab,if_neg (by decide +kernel)]))
    ·exact kce (kce (kce (kce (kce (kce (kce (kce (kce fun _ _=>rfl))))))))
   have zT:=hT'.butI c2 hx2 foe0
   have zB:=hB'.butI c4 hx4 foe1
   have z1:=kaW c6 hx6 eh
   have z2:=kaW c7 hx7 g10
   have z3:=kaW c9 hx9 eo
   have z4:=kaW c11 hx11 efa
   have z5:=kaW c13 hx13 em
   try first|apply Y6|apply Y4
   refine k H16 S16 ⟨dx,t',b',h',pp,o',fa,m',_,hx16,fin,zT.is,zB.is,z1,z2,z3,z4,z5⟩ fun q xs hq=>?_
   have hq0:H0 q≠none:=by rw[hq];intro z;cases z
   have hq1:=S16 _ _ hq
   try first|apply Y6|apply Y4
   exact⟨dx,t',b',h',pp,o',fa,m',_,hx16,fin,zT.rmv hq0 hq1,zB.rmv hq0 hq1,(kbT hq0 (none_of S5 fh')).trans z1,(kbT hq0 (none_of (s0.trans z0) fpp)).trans z2,(kbT hq0 (none_of S8 fo')).trans z3,(kbT hq0 (none_of S10 ffa)).trans z4,(kbT hq0 (none_of S12 fm')).trans z5⟩
theorem klf{d:D}{H:Hp}{t b h o:Addr}{T:TillD}{B:Bask}{hand:List Int}{order:List Nat}{R:Addr→Hp→Prop}{E:XK}(hT:TillIs d H t T)(tok:kbN T)(hB:BaskIs d.qf d.qg H b B)(wf0:Wf T.ps B (stnd0 B))(hh:H h=some (.lst (hand.map V.int)))(ho:H o=some (.lst (order.map iV)))(hhl:hand.length=T.vs.length)(hlt:∀n∈order,n<T.vs.length)(h64:order.length<64)(hf:kbh T B hand order=none)
  (k:∀(H':Hp) (x:Addr),Same H H'→H x=none→AccIn d H' H' x (acc0 T B hand order)→(∀q xs,H q=some (.lst xs)→AccIn d (rmv q H') H' x (acc0 T B hand order))→R x H'):
  ∀x dx,H x=none→H dx=none→dx≠x→ki2 d [.ref x, .ref t, .ref b, .ref h, .ref o] (upd (upd H dx (.own x)) x (.ins d.qc dx [])) (fun v H2=>v=.non∧R x H2) E:=
 fun x dx nx nd _=>⟨H,x,dx,t,b,h,o,T,B,hand,order,rfl,nx,ka2 nx nd,kad,hT,tok,hB,wf0,hh,ho,hhl,hlt,h64,hf,fun H' s hA hA'=>⟨rfl,k H' x s nx hA hA'⟩⟩
inductive kgh (d:D) (vs:List V) (H:Hp) (Q:VK) (E_:XK):Prop
 |ct (Hs:Hp) (x:Addr) (l:Nat) (n z:Int) (A:AccD) (_:vs=[.ref x,iV l, .int n]) (_:Same Hs H) (_:AccIn d Hs H x A) (_:A.many[l]?=some z) (_:1≤n) (_:n≤z) (_:Q (.bl true) H):kgh d vs H Q E_
theorem kdj:kap ["self","line","many"] ["self","line","many"] (kah kbv):=⟨rfl,rfl,rfl,by decide +kernel,rfl,by decide +kernel,by decide +kernel⟩
theorem kdq(W:WB K mg d base):FnOk P w K mg base CX0 1 d.Vp d.Vq ["self","line","many"] (kgh d):=by
 refine FunD.ok W.XY.F kdj (fun vs H Q E h=>?_) (fun cdv A outer s H vs Q E hr h=>?_)
 ·obtain⟨Hs,x,l,n,z,A,rfl,_⟩:=h
  rfl
 ·obtain⟨Hs,x,l,n,z,A,rfl,sS,⟨dx,t,b,hd,fp,o',fa',m',fs,hx,F,k⟩,hz,hn1,hn2,kk⟩:=h
  refine⟨_,kai (kaq (khV (khU op_le op_lt kaf (pv 1) (kay (r:=kbm K) kaF (by rfl) W.B.len b_len (kaa (kag (K:=K) (pv 0) rfl) kae))) (kgt (khU op_le op_le kaf (pv 2) (pe_ix (r:=rIxL K) kaD (kag (K:=K) (pv 0) rfl) (pv 1) (fun _ _=>rfl)))))),?_⟩
  refine⟨_,rfl,_,_,rfl,rfl,_,rfl,?_⟩
  have hl:=at_lt hz
  have hm':=k.m
  rw[show decide ((0:Int)≤((l:Nat):Int))=true from decide_eq_true (by omega)]
  refine iteT ⟨_,rfl,x,d.qc,dx,fs,_,rfl,hx,W.qc.cl,W.qz,F.l7,m',_,rfl, .inl (SqL.of (sS _ _ hm')),_,_,rfl,rfl,_,rfl,?_⟩
  rw[show decide (((l:Nat):Int)<(((A.many.map V.int).length:Nat):Int))=true from decide_eq_true (by rw[Nh];omega)]
  refine iteT ⟨_,rfl,_,_,rfl,rfl,_,rfl,?_⟩
  rw[show decide ((1:Int)≤n)=true from decide_eq_true hn1]
  refine iteT ⟨_,rfl,x,d.qc,dx,fs,_,rfl,hx,W.qc.cl,W.qz,F.l7,_,rfl,m',_,_,_,rfl,rfl,SqL.of (sS _ _ hm'),ka1 (v:=.int z) (by rw[Nv,hz];rfl),_,_,rfl,rfl,?_⟩
  show Q (.bl (decide (n≤z))) H
  rw[decide_eq_true hn2]
  exact kk
inductive kgf (d:D) (vs:List V) (H:Hp) (Q:VK) (E_:XK):Prop
 |ct (Hs:Hp) (x:Addr) (n:Int) (A:AccD) (_:vs=[.ref x, .int n]) (_:AccIn d Hs H x A) (_:∀H',But x H H'→AccIn d Hs H' x {A with paid:=A.paid-n}→Q (.int n) H'):kgf d vs H Q E_
theorem kdi:kap ["self","back"] ["self","back"] (kah kbu):=⟨rfl,rfl,rfl,by decide +kernel,rfl,by decide +kernel,by decide +kernel⟩
theorem kdp(W:WB K mg d base):FnOk P w K mg base CX0 1 d.Vr d.Vt ["self","back"] (kgf d):=by
 refine FunD.ok W.Qz.F kdi (fun vs H Q E h=>?_) (fun cdv A outer s H vs Q E hr h=>?_)
 ·obtain⟨Hs,x,n,A,rfl,_⟩:=h
  rfl
 ·obtain⟨Hs,x,n,A,rfl,⟨dx,t,b,hd,fp,o',fa',m',fs,hx,F,k⟩,kk⟩:=h
  refine⟨_,kac (kjg (pv 0) (pv 1) kmu)
   (kai (kaq (pv 1))),?_⟩
  refine⟨_,rfl,x,d.qc,dx,fs,_,rfl,hx,W.qc.cl,W.qK,F.l8,_,rfl,_,_,rfl,rfl,dx,fs,hx,by have:=F.l10;omega,?_⟩
  exact⟨_,rfl,kk _ (kau (nx hx)) ⟨dx,t,b,hd,fp,o',fa',m',_,kad,F.paid,k.T,k.B,k.h,k.p,k.o,k.f,k.m⟩⟩
inductive kd4 (d:D) (vs:List V) (H:Hp) (Q:VK) (E_:XK):Prop
 |ct (Hs:Hp) (x:Addr) (l:Nat) (e n:Nat) (A:AccD) (_:vs=[.ref x,iV l,iV e,iV n]) (_:Same Hs H) (_:AccIn d Hs H x A) (_:A.B.rs.length≤12) (_:(∀r∈A.B.rs,r.Ok)) (_:(mans (A.B.rs.take l)).sum+e+n≤A.pr.length) (_:∀H',Same H H'→Q (.int ((A.pr.drop ((mans (A.B.rs.take l)).sum+e)).take n).sum) H'):kd4 d vs H Q E_
theorem VZ:kap ["self","line","left","many","start"] ["self","line","left","many"] (kah kbd):=⟨rfl,rfl,rfl,by decide +kernel,rfl,by decide +kernel,by decide +kernel⟩
theorem kcF(W:WB K mg d base):FnOk P w K mg base CX0 1 d.Vu d.Vv ["self","line","left","many"] (kd4 d):=by
 refine FunD.ok W.XZ.F VZ (fun vs H Q E h=>?_) (fun cdv A outer s H vs Q E hr h=>?_)
 ·obtain⟨Hs,x,l,e,n,A,rfl,_⟩:=h
  rfl
 ·obtain⟨Hs,x,l,e,n,A,rfl,sS,⟨dx,t,b,hd,fp,o',fa',m',fs,hx,F,k⟩,h12,hok,hle,kk⟩:=h
  refine⟨_,kac (kas (i:=4) VZ.nd rfl (Or.inl rfl) (pe_op kaB (kay (r:=rSum K) (kbz rfl) (by rfl) W.B.sum b_sum (kaa (kbp (N:=["each"]) (CompScope.plain rfl (by decide +kernel) (by decide +kernel) (by decide +kernel) (nd1 _)) rfl (kaJ (K:=K) (kc6 (r:=rSlL K) kdM (kag (K:=K) (kag (K:=K) (pv 0) rfl) rfl) kfI (kcQ (pv 1)))) (fun _ _ _ _=>kar (i:=0) (nd1 _) rfl (Or.inl rfl)) (fun _ _ _ _=>(kag (K:=K) (pv 0) rfl))) kae)) (pv 2)))
   (kai (kaq (kay (r:=rSum K) (kbz rfl) (by rfl) W.B.sum b_sum (kaa (kc6 (r:=rSlL K) kdM (kag (K:=K) (pv 0) rfl) (kcQ (pv 4)) (kcQ (pe_op kaB (pv 4) (pv 3)))) kae)))),?_⟩
  obtain⟨lb,ls,⟨dxb,fsb,hb,lbl,lbc,lbm⟩,hl,hL⟩:=id (k.B.same sS)
  have hll:=hL.len
  refine⟨_,rfl,x,d.qc,dx,fs,_,rfl,hx,W.qc.cl,W.Qw,F.l2,b,d.qg,dxb,fsb,_,rfl,hb,W.qg.cl,W.qy,lbl,_,rfl,_,rfl,lb,_,rfl,SqL.of hl,fun p1 fp1=>?_⟩
  rw[kj1,←MH]
  generalize hgH1:upd H p1 _=H1
  obtain⟨n1,e1⟩:=kaK hgH1 fp1
  refine⟨p1,rfl,⟨_,SqL.of e1⟩,kaZ (xs:=(ls.take l).map V.ref) (fun i σ ys H'=>H'=H1∧ys=(((A.B.rs.take l).take i).map fun r=>r.mn).map V.int∧∃v,σ=[v]) ⟨rfl,rfl,none,rfl⟩ (by rw[Nh,Ny,hll];exact Nw (kao (by omega))) ?_ ?_ ?_⟩
  ·rintro i σ ys H' hi ⟨rfl,rfl,_⟩
   exact⟨SqL.of e1,by rw[Nh,Nh,Ny,Ny];rw[Nh,Ny,hll] at hi;omega⟩
  ·rintro i y σ ys H' hy ⟨rfl,rfl,v,rfl⟩
   obtain⟨lx,el,rfl⟩:=kbJ hy
   have hil:i<l:=by
    have:=at_lt el
    rw[Ny] at this
    omega
   have el':ls[i]?=some lx:=by
    rw[Ez,if_pos hil] at el
    exact el
   obtain⟨r,er⟩:=at_of (xs:=A.B.rs) (i:=i) (by have:=at_lt el';omega)
   obtain⟨dxl,fsl,hlx,lk1,lk2,lk3,lk4⟩:=hL.get el' er
   refine⟨_,rfl,lx,d.qf,dxl,fsl,_,rfl,n1 _ _ hlx,W.qf.cl,W.qF,lk3,rfl,?_,_,rfl⟩
   rw[take_snoc (rs:=A.B.rs.take l) (by rw[Ez,if_pos hil];exact er),Np,Np]
   rfl
  ·rintro σ ys H' ⟨rfl,rfl,v,rfl⟩ D hD
   rw[Nh,show(A.B.rs.take l).take (ls.take l).length=A.B.rs.take l by rw[Mf (by rw[Ny,Ny,hll];exact Nj _)]]
   generalize hgH2:upd H' D _=H2
   obtain⟨n2,e2⟩:=kaK hgH2 hD
   have s2:=n1.trans n2
   have esum:∀rs:List Row,(∀r∈rs,r.Ok)→(rs.map fun r=>r.mn).sum=(((mans rs).sum:Nat):Int):=fun rs hr=>by
    induction rs with
    |nil=>rfl
    |cons r rs ih=>
     have h0:=(hr r NL).mn0
     have:=ih fun r h=>hr r (NF _ h)
     unfold mans at this⊢
     rw[NC,NC,N9,N9,this]
     omega
   refine⟨D,_,rfl,SqL.of e2,_,rfl,_,_,rfl,rfl,?_⟩
   rw[esum (A.B.rs.take l) fun r h=>hok r (MM h)]
   refine⟨_,rfl,x,d.qc,dx,fs,_,rfl,s2 _ _ hx,W.qc.cl,W.VR,F.l4,_,rfl,_,rfl,_,rfl,_,rfl,_,_,rfl,rfl,_,rfl,fp,_,rfl,SqL.of ((sS.trans s2) _ _ k.p),fun p3 fp3=>?_⟩
   rw[show(((mans (A.B.rs.take l)).sum:Nat):Int)+((e:Nat):Int)=(((mans (A.B.rs.take l)).sum+e:Nat):Int) by omega,show(((mans (A.B.rs.take l)).sum+e:Nat):Int)+((n:Nat):Int)=(((mans (A.B.rs.take l)).sum+e+n:Nat):Int) by omega,kl4 _ _ _ (by rw[Nh];exact hle),←Ec,←MH]
   exact⟨p3,_,rfl,SqL.of kad,kk _ (s2.trans (kak fp3))⟩
noncomputable def kaV(B:Bask)(many:List Int):Bask:={B with rs:=NT (fun(r:Row) (m:Int)=>{r with mn:=m}) B.rs many}
theorem kix{rs:List Row}{many:List Int}{i:Nat}{r:Row}{z:Int}(h1:rs[i]?=some r)(h2:many[i]?=some z):(NT (fun(r:Row) (m:Int)=>{r with mn:=m}) rs many)[i]?=some {r with mn:=z}:=by
 rw[MY,h1,h2]
inductive kex (d:D) (vs:List V) (H:Hp) (Q:VK) (E_:XK):Prop
 |ct (Hs:Hp) (x:Addr) (A:AccD) (_:vs=[.ref x]) (_:Same Hs H) (_:AccIn d Hs H x A) (_:A.many.length=A.B.rs.length) (_:A.B.rs.length≤12) (_:∀H' b',Same H H'→H b'=none→BaskIs d.qf d.qg H' b' (kaV A.B A.many)→Q (.ref b') H'):kex d vs H Q E_
theorem V0:kap ["self","lines"] ["self"] (kah kbi):=⟨rfl,rfl,rfl,by decide +kernel,rfl,by decide +kernel,by decide +kernel⟩
theorem kcW(W:WB K mg d base):FnOk P w K mg base CX0 3 d.Vw d.Vx ["self"] (kex d):=by
 refine FunD.ok W.X0.F V0 (fun vs H Q E h=>?_) (fun cdv A outer s H vs Q E hr h=>?_)
 ·obtain⟨Hs,x,A,rfl,_⟩:=h
  rfl
 ·obtain⟨Hs,x,A,rfl,sS,⟨dx,t,b,hd,fp,o',fa',m',fs,hx,F,k⟩,hml,h12,kk⟩:=h
  have QH:=kcV (P:=P) (w:=w) (base:=base) W
  have Qh:=kbH (P:=P) (w:=w) (base:=base) W
  refine⟨_,kac (kdS (N:=["line","left"]) (CompScope.plain rfl (by decide +kernel) (by decide +kernel) (by decide +kernel) (show(["line","left"]:List Str).Nodup by decide +kernel)) rfl (kdo rfl W.B.zip (kaa (kag (K:=K) (kag (K:=K) (pv 0) rfl) rfl) (kaa (kag (K:=K) (pv 0) rfl) kae))) (fun _ _ _ _=>kbo (K:=K) (n:=2) rfl (kaA (kar (i:=0) (show(["line","left"]:List Str).Nodup by decide +kernel) rfl (Or.inl rfl)) (kaA (kar (i:=1) (show(["line","left"]:List Str).Nodup by decide +kernel) rfl (Or.inl rfl)) kbn))) (fun _ _ _ _=>(kaS (W.qY.mk' W.qf) QH hr rfl W.qf.m W.qY.b .nil pass0 (kaa (kag (K:=K) (pv 0) rfl) (kaa (kag (K:=K) (pv 0) rfl) (kaa (pv 1) (kaa (kag (K:=K) (pv 0) rfl) kae)))))) (kar (i:=1) V0.nd rfl (Or.inl rfl)))
   (kai (kaq (kaS (W.qG.mk' W.qg) Qh hr rfl W.qg.m W.qG.b .nil pass0 (kaa (pv 1) (kaa (kag (K:=K) (kag (K:=K) (pv 0) rfl) rfl) (kaa (kag (K:=K) (kag (K:=K) (pv 0) rfl) rfl) kae)))))),?_⟩
  obtain⟨l,ls,⟨dxb,fsb,hb,lbl,lbc,lbm⟩,hl,hL⟩:=id (k.B.same sS)
  have hm:=sS _ _ k.m
  have hll:=hL.len
  have emin:min (ls.map V.ref).length (A.many.map V.int).length=A.B.rs.length:=by rw[Nh,Nh,hll,hml,Mu]
  have lzw:(kaV A.B A.many).rs.length=A.B.rs.length:=by unfold kaV;rw[ML,hml,Mu]
  refine⟨_,rfl,x,d.qc,dx,fs,_,rfl,hx,W.qc.cl,W.Qw,F.l2,b,d.qg,dxb,fsb,_,rfl,hb,W.qg.cl,W.qy,lbl,_,rfl,x,d.qc,dx,fs,_,rfl,hx,W.qc.cl,W.qz,F.l7,l,m',_,_,rfl,hl,hm,
   ker (xs:=ls.map V.ref) (ys:=A.many.map V.int) (fun i σ zs H'=>Same H H'∧∃ns:List Addr,zs=ns.map V.ref∧Lines d.qf H' ns ((kaV A.B A.many).rs.take i)∧∃v0 v1:Option V,σ=[v0,v1])
    ⟨Same.refl _,[],rfl, .nil,none,none,rfl⟩ (by rw[emin];exact Nw (kao (by omega))) (fun i σ zs H' hi ⟨s,ns,e,hn,_⟩=>⟨s _ _ hl,s _ _ hm,by rw[e,Nh,hn.len,Ny,lzw];rw[emin] at hi;omega⟩) ?_ ?_⟩
  ·rintro i y1 y2 tt σ zs H4 hy1 hy2 ⟨s4,ns,rfl,hn,v0,v1,rfl⟩ ht
   obtain⟨lx,el,rfl⟩:=kbJ hy1
   obtain⟨z,ez,rfl⟩:=kbL hy2
   obtain⟨r,er⟩:=at_of (xs:=A.B.rs) (i:=i) (by have:=at_lt el;omega)
   have n5:=kak (o:=.tup [.ref lx, .int z]) ht
   have s5:=s4.trans n5
   obtain⟨dxl,fsl,hlx,lk1,lk2,lk3,lk4⟩:=(hL.get el er).same s5
   refine⟨tt,_,rfl,SqT.of kad,rfl,_,_,rfl,_,_,rfl,rfl,_,rfl,lx,d.qf,dxl,fsl,_,rfl,hlx,W.qf.cl,W.Xj,lk1,_,rfl,lx,d.qf,dxl,fsl,_,rfl,hlx,W.qf.cl,W.Qi,lk2,_,rfl,_,rfl,lx,d.qf,dxl,fsl,_,rfl,hlx,W.qf.cl,W.Qq,lk4,kha (r:={r with mn:=z}) fun H6 y s6 fy hy=>?_⟩
   refine⟨s5.trans s6,ns++[y],by rw[Np];rfl,?_,_,_,rfl⟩
   rw[take_snoc (show(kaV A.B A.many).rs[i]?=_ from kix er ez)]
   exact(hn.same (n5.trans s6)).snoc hy
  rintro σ zs H4 ⟨s4,ns,rfl,hn,v0,v1,rfl⟩ q hq
  rw[emin,←lzw,NS] at hn
  generalize hgH5:upd H4 q _=H5
  obtain⟨n5,e5⟩:=kaK hgH5 hq
  have s5:=s4.trans n5
  refine⟨_,rfl,_,rfl,x,d.qc,dx,fs,_,rfl,s5 _ _ hx,W.qc.cl,W.Qw,F.l2,b,d.qg,dxb,fsb,_,rfl,s5 _ _ hb,W.qg.cl,W.Qr,lbc,_,rfl,x,d.qc,dx,fs,_,rfl,s5 _ _ hx,W.qc.cl,W.Qw,F.l2,b,d.qg,dxb,fsb,_,rfl,s5 _ _ hb,W.qg.cl,W.Qj,lbm,kfY (SqL.of e5) fun H6 y l' s6 fy fl' hl' hy=>?_⟩
  exact kk H6 y (s5.trans s6) (none_of s5 fy) ⟨l',ns,hy,hl',hn.same (n5.trans s6)⟩
noncomputable def thrM(T:TillD)(B:Bask)(hand:List Int):List Nat→List Nat→Stnd→List Nat×List Nat×Stnd
 |[],u,S=>(u,[],S)
 |n::ns,u,S=>match T.vs[n]? with
  |none=>(u,[],S)
  |some V=>if dueM V T B hand u S n=.non then thrM T B hand ns (u++[n]) (aftM V T.ps (kds B) S) else((thrM T B hand ns u S).1,n::(thrM T B hand ns u S).2.1,(thrM T B hand ns u S).2.2)
theorem kf0{Hs H H':Hp}{p:Addr}{xs:List V}(s:Same Hs H)(f:H p=none)(e:H' p=some (.lst xs))(s':Same H H'):Same Hs (upd Hs p (.lst xs))∧Same (upd Hs p (.lst xs)) H'∧(upd Hs p (.lst xs)) p=some (.lst xs)∧∀a,H a≠none→Hs a=none→(upd Hs p (.lst xs)) a=none:=
 ⟨kak (none_of s f),ki6 (s.trans s') e,kad,fun a ha hs=>by rw[kam fun z:a=p=>ha (by rw[z];exact f)];exact hs⟩
theorem WayAt.butI{d:D}{m:Nat}{w t b x y C dx:Addr}{fs:List (Str×V)}{H H':Hp}{hand:List Int}{used:List Nat}(z:But y H H')(hy:H y=some (.ins C dx fs))(n:w≠y):WayAt d m H w t b x hand used→WayAt d m H' w t b x hand used:=fun⟨dw,fw,h,u,h1,h2,h3,h4,h5,h6,h7,h8,h9,h10,h11,h12,h13⟩=>
 ⟨dw,fw,h,u,z _ _ n h1,h2,h3,h4,h5,h6,h7,h8,h9,h10,h11,kaW z hy h12,kaW z hy h13⟩
theorem StndIs.butI{S C x y dx:Addr}{fs:List (Str×V)}{H H':Hp}{T:Stnd}(z:But y H H')(hy:H y=some (.ins C dx fs))(n:x≠y):StndIs S H x T→StndIs S H' x T:=fun⟨o,p,mk,⟨ds,fs,h,r⟩,h1,h2,h3⟩=>⟨o,p,mk,⟨ds,fs,z _ _ n h,r⟩,kaW z hy h1,kaW z hy h2,kaW z hy h3⟩
noncomputable def thrOf(A:AccD)(B':Bask):List Nat×List Nat×Stnd:=thrM A.T B' A.hand A.order [] (stnd0 B')
inductive spThr (d:D) (vs:List V) (H:Hp) (Q:VK) (E_:XK):Prop
 |ct (Hs:Hp) (x bs:Addr) (A:AccD) (B':Bask) (_:vs=[.ref x, .ref bs]) (_:Same Hs H) (_:Hs x=none) (_:AccIn d Hs H x A) (_:kbN A.T) (_:BaskIs d.qf d.qg H bs B') (_:Wf A.T.ps B' (stnd0 B')) (_:A.hand.length=A.T.vs.length) (_:(∀n∈A.order,n<A.T.vs.length)) (_:A.order.length+A.fallen.length≤8) (_:∀(Hs' H':Hp) (wy t xs:Addr),Same Hs Hs'→Same Hs' H'→(∀a,H a≠none→Hs a=none→Hs' a=none)→But x H H'→AccIn d Hs' H' x {A with order:=(thrOf A B').1,fallen:=A.fallen++(thrOf A B').2.1}→WayIs d H' wy t bs xs A.hand (thrOf A B').1→StndIs d.qe H' xs (thrOf A B').2.2→Q (.ref wy) H'):spThr d vs H Q E_
theorem QI:kap ["self","stays","way","falling","number"] ["self","stays"] (kah kbj):=⟨rfl,rfl,rfl,by decide +kernel,rfl,by decide +kernel,by decide +kernel⟩
theorem kcX(W:WB K mg d base):FnOk P w K mg base CX0 7 d.Vy d.Vz ["self","stays"] (spThr d):=by
 refine FunD.ok W.X1.F QI (fun vs H Q E h=>?_) (fun cdv A outer s H vs Q E hr h=>?_)
 ·obtain⟨Hs,x,bs,A,B',rfl,_⟩:=h
  rfl
 ·obtain⟨Hs,x,bs,A,B',rfl,sS,fS,hA,tok,hB,wf0,hhl,hlt,h8,kk⟩:=h
  have Qe:=kcx (P:=P) (w:=w) (base:=base) W
  have QD:=kb4 (P:=P) (w:=w) (base:=base) W
  have QE:=kcy (P:=P) (w:=w) (base:=base) W
  have hr5:Room 5 _:=hr.mono (by decide)
  refine⟨_,kac (kas (i:=2) QI.nd rfl (Or.inl rfl) (kaS (W.qH.mk' W.c_Way) Qe hr5 rfl W.c_Way.m W.qH.b .nil pass0 (kaa (kag (K:=K) (pv 0) rfl) (kaa (pv 1) (kaa (kag (K:=K) (pv 0) rfl) kae)))))
   (kac (kas (i:=3) QI.nd rfl (Or.inl rfl) (kaL kae))
   (kac (kbA PassesOwn.never rfl (kaJ (K:=K) (kag (K:=K) (pv 0) rfl)) (kar (i:=4) QI.nd rfl (Or.inl rfl))
   (kai (ps_if (kat kd5 (kbw (pv 2) W.c_Way.cl W.Qb.me QD hr5 W.Qb.b .nil pass0 (kaa (pv 4) kae)) ka5 (kax _)) (kai (kas (i:=2) QI.nd rfl (Or.inl rfl) (kbw (pv 2) W.c_Way.cl W.Qc.me QE hr W.Qc.b .nil pass0 (kaa (pv 4) kae)))) (kai (ka0 (pe_bm N1 Ml Mm ka9 (pv 3) (kaa (pv 4) kae)))))))
   (kac (kaz (pv 0) (kaO (r:=kbE K) kaI (by rfl) W.B.list kcf (kaa (kag (K:=K) (pv 2) rfl) kae)) rfl)
   (kac (kaz (pv 0) (pe_op kd6 (kag (K:=K) (pv 0) rfl) (pv 3)) rfl)
   (kai (kaq (pv 2))))))),?_⟩
  obtain⟨dx,t,b,hd,fpp,o',fa',m',fs,hx,F,k⟩:=id hA
  have hT:=k.T.same sS
  try refine sN fun _ Y4=>?_
  refine⟨_,rfl,x,d.qc,dx,fs,_,rfl,hx,W.qc.cl,W.Xl,F.l1,_,rfl,_,rfl,x,d.qc,dx,fs,_,rfl,hx,W.qc.cl,W.VQ,F.l3,kh2 (sS _ _ k.h) hB wf0.nl wf0.ok fun H1 y0 x0 s1 fy0 fx0 hy0 hx0=>?_⟩
  try apply Y4
  try refine sN fun _ Y4=>?_
  refine⟨by decide,fun p fp=>?_⟩
  generalize hgH2:upd H1 p _=H2
  obtain⟨n2,(ep0:H2 p=some (.lst (([]:List Nat).map iV)))⟩:=kaK hgH2 fp
  have s12:=s1.trans n2
  have ho:=(sS.trans s12) _ _ k.o
  have fpS:=none_of (sS.trans s1) fp
  generalize eR:thrOf A B'=R at *
  unfold thrOf at eR
  try apply Y4
  try refine sN fun _ Y4=>?_
  refine⟨_,rfl,x,d.qc,dx,fs,_,rfl,s12 _ _ hx,W.qc.cl,W.qD,F.l5,o',rfl,⟨_,SqL.of ho⟩,kbV (xs:=A.order.map iV) (fun i σ H'=>Same H1 H'∧∃(Hw:Hp) (y xx:Addr) (used fell:List Nat) (S:Stnd) (v4:Option V),Same Hw H'∧Hw p=none∧y≠x∧xx≠x∧WayIs d Hw y t bs xx A.hand used∧StndIs d.qe Hw xx S∧Wf A.T.ps B' S∧H' p=some (.lst (fell.map iV))∧used.length+fell.length=i∧(thrM A.T B' A.hand (A.order.drop i) used S).1=R.1∧fell++(thrM A.T B' A.hand (A.order.drop i) used S).2.1=R.2.1∧(thrM A.T B' A.hand (A.order.drop i) used S).2.2=R.2.2∧σ=[some (.ref x),some (.ref bs),some (.ref y),some (.ref p),v4])
   ⟨n2,H1,y0,x0,[],[],_,none,n2,fp,(kaj hx fy0).symm,(kaj hx fx0).symm,hy0.at.most (by decide),hx0,wf0,ep0,rfl,by rw[MU,eR],by rw[MU,eR];rfl,by rw[MU,eR],rfl⟩ (fun i σ H' _ h=>SqL.of ((sS.trans (s1.trans h.1)) _ _ k.o)) ?_ ?_⟩
  ·rintro i yv σ H' hyv ⟨sI,Hw,y,xx,used,fell,S,v4,sw,fw,ny,nxx,hY,hS,wf,ep,hul,hR1,hR2,hR3,rfl⟩
   obtain⟨n,en,rfl⟩:∃n,A.order[i]?=some n∧yv=iV n:=kbL hyv
   have hi:=at_lt en
   obtain⟨Vc,hV⟩:=at_of (hlt n (Nt en))
   have vo:=tok.vs Vc (Nt hV)
   have ed:A.order.drop i=n::A.order.drop (i+1):=by
    obtain⟨h1,h2⟩:=Nz.mp en
    rw[E3 h1,h2]
   rw[ed] at hR1 hR2 hR3
   unfold thrM at hR1 hR2 hR3
   rw[hV] at hR1 hR2 hR3
   simp only at hR1 hR2 hR3
   have s0I:=s1.trans sI
   have hYI:=hY.same sw
   have hSI:=hS.same sw
   obtain⟨dxw,fsw,hd',u,hw,w1,w2,w3,w4,w5,w6,w7,w8,w9,w10,hh',hu⟩:=id hYI
   try apply Y4
   try refine sN fun _ Y6=>?_
   refine⟨_,rfl,y,dxw,fsw,rfl,hw,w6,_,rfl,y,t,bs,xx,A.T,B',S,A.hand,used,n,Vc,rfl,hYI,hT.same s0I,hB.same s0I,hSI,wf,vo,hV,hhl,fun H3 s3=>⟨rfl,_,rfl,?_⟩⟩
   have s03:=s0I.trans s3
   have ep3:=s3 _ _ ep
   by_cases hn:dueM Vc A.T B' A.hand used S n=.non
   ·rw[if_pos hn] at hR1 hR2 hR3
    rw[hn,show decide (V.non=V.non)=true by simp]
    refine iteT ?_
    try first|apply Y6|apply Y4
    try refine sN fun _ Y8=>?_
    refine⟨_,rfl,y,dxw,fsw,rfl,s3 _ _ hw,w7,_,rfl,y,t,bs,xx,A.T,B',S,A.hand,used,n,Vc,rfl,hYI.same s3,hT.same s03,hB.same s03,hSI.same s3,wf,vo,hV,by omega,fun H4 y' x' s4 fy' hY' hx'=>?_⟩
    have hp3:H3 p≠none:=by rw[ep3];intro z;cases z
    try first|apply Y8|apply Y6|apply Y4
    exact⟨(sI.trans s3).trans s4,Vs.rmv p H4,y',x',used++[n],fell,_,_,rmv_sub,khK,(kaj (s03 _ _ hx) fy').symm,(kaj (s03 _ _ hx) hx'.1).symm,hY'.rmv hp3,hx'.rmv hp3,wf.after vo,s4 _ _ ep3,by rw[Nx];show _+1+_=_;omega,hR1,hR2,hR3,rfl⟩
   ·rw[if_neg hn] at hR1 hR2 hR3
    rw[show decide (dueM Vc A.T B' A.hand used S n=V.non)=false by simp[hn]]
    refine iteF ?_
    try first|apply Y8|apply Y6|apply Y4
    try refine sN fun _ Y8=>?_
    refine⟨_,rfl, .inl ⟨rfl,_,SqL.of ep3⟩,_,rfl,p,_,_,rfl,rfl,ep3,kao (by rw[Nh];omega),?_⟩
    try first|apply Y8|apply Y6|apply Y4
    try refine sN fun _ Y8=>?_
    refine⟨kav fp (sI.trans s3) (nx ep3),Hw,y,xx,used,fell++[n],S,_,kba (sw.trans s3) (kau (nx ep3)) fw,fw,ny,nxx,hY,hS,wf,?_,by rw[Nx];show _+(_+1)=_;omega,hR1,?_,hR3,rfl⟩
    ·rw[kad,Np]
     rfl
    ·rw[Mb]
     try first|apply Y8|apply Y6|apply Y4
     exact hR2
  ·rintro σ H' ⟨sI,Hw,y,xx,used,fell,S,v4,sw,fw,ny,nxx,hY,hS,wf,ep,hul,hR1,hR2,hR3,rfl⟩
   rw[Nh,E4] at hR1 hR2 hR3
   unfold thrM at hR1 hR2 hR3
   rw[MQ] at hR2
   simp only at hR1 hR2 hR3
   obtain⟨r1,r2,r3⟩:=R
   simp only at hR1 hR2 hR3 kk
   subst hR1 hR2 hR3
   rw[Nh] at hul
   have s0I:=s1.trans sI
   have hYI:=hY.same sw
   obtain⟨dxw,fsw,hd',u,hw,w1,w2,w3,w4,w5,w6,w7,w8,w9,w10,hh',hu⟩:=id hYI
   try first|apply Y6|apply Y4
   try refine sN fun _ Y6=>?_
   refine⟨_,rfl,y,d.c_Way,dxw,fsw,_,rfl,hw,W.c_Way.cl,W.q9,w4,u,_,rfl, .inl (SqL.of hu),fun q hq=>?_⟩
   generalize hgH5:upd H' q _=H5
   obtain⟨n5,e5⟩:=kaK hgH5 hq
   have hx5:=(s0I.trans n5) _ _ hx
   try first|apply Y6|apply Y4
   try refine sN fun _ Y6=>?_
   refine⟨_,rfl,x,d.qc,dx,fs,rfl,hx5,W.qc.cl,W.qD,by have:=F.l10;omega,?_⟩
   have nqx:q≠x:=(kaj (s0I _ _ hx) hq).symm
   have b6:But x H5 (upd H5 x (.ins d.qc dx (putF "order" (.ref q) fs))):=kau (nx hx5)
   have hx6:(upd H5 x (.ins d.qc dx (putF "order" (.ref q) fs))) x=some (.ins d.qc dx (putF "order" (.ref q) fs)):=kad
   generalize upd H5 x (.ins d.qc dx (putF "order" (.ref q) fs))=H6 at *
   obtain⟨sk,sk',ek,fk⟩:=kf0 (sS.trans s0I) hq e5 n5
   generalize upd Hs q (.lst (used.map iV))=Hs6 at *
   have fx6:Hs6 x=none:=fk x (by rw[s0I _ _ hx];intro z;cases z) fS
   have S6:=kba sk' b6 fx6
   have F6:=F.order (c:=q)
   have ep6:=b6 _ _ (ne_of (n5 _ _ ep) hx5 (by intro z;cases z)) (n5 _ _ ep)
   try first|apply Y6|apply Y4
   try refine sN fun _ Y6=>?_
   refine⟨_,rfl,x,d.qc,dx,_,_,rfl,hx6,W.qc.cl,W.Qm,F6.l6,_,rfl,fa',p,_,_,rfl,rfl,S6 _ _ (sk _ _ k.f),ep6,Nw (kao (by rw[Nh,Nh];omega)),fun q2 hq2=>?_⟩
   rw[←Np]
   generalize hgH7:upd H6 q2 _=H7
   obtain⟨n7,e7⟩:=kaK hgH7 hq2
   have hx7:=n7 _ _ hx6
   try first|apply Y6|apply Y4
   try refine sN fun _ Y6=>?_
   refine⟨_,rfl,x,d.qc,dx,_,rfl,hx7,W.qc.cl,W.Qm,by have:=F6.l10;omega,?_⟩
   have b8:But x H7 (upd H7 x (.ins d.qc dx (putF "fallen" (.ref q2) (putF "order" (.ref q) fs)))):=kau (nx hx7)
   have hx8:(upd H7 x (.ins d.qc dx (putF "fallen" (.ref q2) (putF "order" (.ref q) fs)))) x=some (.ins d.qc dx (putF "fallen" (.ref q2) (putF "order" (.ref q) fs))):=kad
   generalize upd H7 x (.ins d.qc dx (putF "fallen" (.ref q2) (putF "order" (.ref q) fs)))=H8 at *
   obtain⟨sl,sl',el,fl⟩:=kf0 S6 hq2 e7 n7
   generalize upd Hs6 q2 (.lst ((A.fallen++fell).map iV))=Hs8 at *
   have fx8:Hs8 x=none:=fl x (by rw[hx6];intro z;cases z) fx6
   have S8:=kba sl' b8 fx8
   have bw:=(b6.same n7).trans b8
   have foe:=F.foe
   try first|apply Y6|apply Y4
   try refine sN fun _ Y6=>?_
   refine⟨_,rfl,kk Hs8 H8 y t xx (sk.trans sl) S8 (fun a ha hs=>fl a ?_ (fk a ?_ hs)) ((But.of_same (s0I.trans n5)).trans bw) ⟨dx,t,b,hd,fpp,q,q2,m',_,hx8,F6.fallen,k.T.same (sk.trans sl),k.B.same (sk.trans sl),(sk.trans sl) _ _ k.h,(sk.trans sl) _ _ k.p,sl _ _ ek,el,(sk.trans sl) _ _ k.m⟩ ((hYI.same n5).butI bw hx5 ny) (((hS.same sw).same n5).butI bw hx5 nxx)⟩
   ·exact fun z=>ha (none_of (s0I.trans n5) (But.free b6 hx6 z))
   ·exact fun z=>ha (none_of s0I z)
noncomputable def dueA(T:TillD)(B:Bask)(hand:List Int):Nat→List Nat→List Nat×List Nat×Stnd
 |0,o=>(o,[],stnd0 B)
 |n+1,o=>match onlyM T.rs (thrM T B hand o [] (stnd0 B)).1 with
  |none=>thrM T B hand o [] (stnd0 B)
  |some l=>((dueA T B hand n ((thrM T B hand o [] (stnd0 B)).1.filter fun m=>decide (m≠l))).1,(thrM T B hand o [] (stnd0 B)).2.1++(Nl ((thrM T B hand o [] (stnd0 B)).1.count l) l++(dueA T B hand n ((thrM T B hand o [] (stnd0 B)).1.filter fun m=>decide (m≠l))).2.1),(dueA T B hand n ((thrM T B hand o [] (stnd0 B)).1.filter fun m=>decide (m≠l))).2.2)
theorem kev{T:TillD}{B:Bask}{hand:List Int}:∀{o u:List Nat} {S:Stnd},(∀n∈o,n<T.vs.length)→(thrM T B hand o u S).1.length+(thrM T B hand o u S).2.1.length=u.length+o.length
 |[],u,S,_=>by unfold thrM;rfl
 | n::o,u,S,h=>by
  obtain⟨V,hV⟩:=at_of (h n NL)
  have h':∀m∈o,m<T.vs.length:=fun m hm=>h m (NF _ hm)
  unfold thrM
  rw[hV]
  simp only
  by_cases e:dueM V T B hand u S n=.non
  ·rw[if_pos e,kev h']
   simp only[Nx,NQ,MC]
   omega
  ·rw[if_neg e]
   have:=kev (T:=T) (B:=B) (hand:=hand) (u:=u) (S:=S) h'
   simp only[NQ]
   omega
theorem keu{T:TillD}{B:Bask}{hand:List Int}:∀{o u:List Nat} {S:Stnd} {m:Nat},m∈(thrM T B hand o u S).1→m∈u∨m∈o
 |[],u,S,m,h=>by unfold thrM at h;exact .inl h
 | n ::o,u,S,m,h=>by
  unfold thrM at h
  split at h
  ·exact .inl h
  ·split at h
   ·rcases keu h with h|h
    ·rcases NU.mp h with h|h
     ·exact .inl h
     ·exact .inr (by rw[show m=n by simpa using h];simp)
    ·exact .inr (NF _ h)
   ·rcases keu h with h|h
    ·exact .inl h
    ·exact .inr (NF _ h)
theorem kfL{rs:List Rul}{o:List Nat}{l:Nat}(h:onlyM rs o=some l):l∈o:=by
 unfold onlyM at h
 obtain⟨r,h1,rfl⟩:=Option.map_eq_some_iff.mp h
 have h2:=List.find?_some h1
 unfold loneM at h2
 rw[MF,MF] at h2
 simpa using h2.2.1
theorem filter_lt{o:List Nat}{l:Nat}(h:l∈o):(o.filter fun m=>decide (m≠l)).length<o.length:=by
 have h1:(o.filter fun m=>decide (m≠l)).length≤o.length:=MW _ _
 have h2:(o.filter fun m=>decide (m≠l)).length≠o.length:=fun e=>by
  have h3:=List.length_filter_eq_length_iff.mp e l h
  simp at h3
 omega
section
variable {d:D} {Hs Hs' H H1:Hp} {x t b h fp o fa m q C dx:Addr} {A A':AccD} {fs gs:List (Str×V)} {xs:List V}
theorem khq(sS:Same Hs H)(fx:Hs x=none)(hx:H x=some (.ins d.qc dx fs))(n:Same H H1)(hq:H q=none)(eq:H1 q=some (.lst xs))(mk:∀Hs',Same Hs Hs'→Hs' q=some (.lst xs)→AccIn d Hs' (upd H1 x (.ins d.qc dx gs)) x A'):
  ∃Hs',Same Hs Hs'∧Same Hs' (upd H1 x (.ins d.qc dx gs))∧Hs' x=none∧(∀a,H a≠none→Hs a=none→Hs' a=none)∧But x H (upd H1 x (.ins d.qc dx gs))∧AccIn d Hs' (upd H1 x (.ins d.qc dx gs)) x A':=by
 obtain⟨s1,s2,e,f⟩:=kf0 sS hq eq n
 have bt:But x H1 (upd H1 x (.ins d.qc dx gs)):=kau (nx (n _ _ hx))
 have f2:=f x (by rw[hx];intro z;cases z) fx
 exact⟨_,s1,kba s2 bt f2,f2,f,(But.of_same n).trans bt,mk _ s1 e⟩
theorem AccK.fallen{L:List Nat}(k:AccK d Hs t b h fp o fa m A)(s:Same Hs Hs')(e:Hs' q=some (.lst (L.map iV))):AccK d Hs' t b h fp o q m {A with fallen:=L}:=⟨k.T.same s,k.B.same s,s _ _ k.h,s _ _ k.p,s _ _ k.o,e,s _ _ k.m⟩
theorem AccK.order{L:List Nat}(k:AccK d Hs t b h fp o fa m A)(s:Same Hs Hs')(e:Hs' q=some (.lst (L.map iV))):AccK d Hs' t b h fp q fa m {A with order:=L}:=⟨k.T.same s,k.B.same s,s _ _ k.h,s _ _ k.p,e,s _ _ k.f,s _ _ k.m⟩
theorem AccK.many{L:List Int}(k:AccK d Hs t b h fp o fa m A)(s:Same Hs Hs')(e:Hs' q=some (.lst (L.map V.int))):AccK d Hs' t b h fp o fa q {A with many:=L}:=⟨k.T.same s,k.B.same s,s _ _ k.h,s _ _ k.p,s _ _ k.o,s _ _ k.f,e⟩
end
noncomputable def dueOf(n:Nat)(A:AccD)(B':Bask):List Nat×List Nat×Stnd:=dueA A.T B' A.hand n A.order
inductive spDue (d:D) (n:Nat) (vs:List V) (H:Hp) (Q:VK) (E_:XK):Prop
 |ct (Hs:Hp) (x bs:Addr) (A:AccD) (B':Bask) (_:vs=[.ref x, .ref bs]) (_:A.order.length<n) (_:Same Hs H) (_:Hs x=none) (_:AccIn d Hs H x A) (_:kbN A.T) (_:BaskIs d.qf d.qg H bs B') (_:Wf A.T.ps B' (stnd0 B')) (_:A.hand.length=A.T.vs.length) (_:(∀n∈A.order,n<A.T.vs.length)) (_:A.order.length+A.fallen.length≤8) (_:∀(Hs' H':Hp),Same Hs Hs'→Same Hs' H'→(∀a,H a≠none→Hs a=none→Hs' a=none)→But x H H'→AccIn d Hs' H' x {A with order:=(dueOf n A B').1,fallen:=A.fallen++(dueOf n A B').2.1}→Q (.int ((dueOf n A B').2.2.pr.sum+(dueOf n A B').2.2.cg)) H'):spDue d n vs H Q E_
theorem kk6{d:D}{vs:List V}{H:Hp}{Q:VK}{E:XK}(h:spDue d 0 vs H Q E):False:=by
 obtain⟨_,_,_,_,_,_,h,_⟩:=h
 omega
theorem kib{x a:Addr}{H H':Hp}{o:HO}(b:But x H H')(hx:H' x=some o)(ha:H a≠none):H' a≠none:=fun z=>ha (But.free b hx z)
theorem kj4{l:Nat}{o:List Nat}:o.count l+(o.filter fun m=>decide (m≠l)).length=o.length:=by
 induction o with
 |nil=>rfl
 | cons a o ih=>
  rw[M9,Ed,NQ]
  by_cases e:a=l
  ·subst e
   rw[beq_self_eq_true,if_pos rfl,decide_eq_false (fun h=>h rfl),if_neg Nu]
   omega
  ·have e1:(a==l)=false:=beq_eq_false_iff_ne.mpr e
   rw[e1,if_neg Nu,decide_eq_true e,if_pos rfl,NQ]
   omega
theorem kkJ{l n:Nat}:(Nl n [pV (some l)]).flatten=(Nl n l).map iV:=by
 induction n with
 |zero=>rfl
 |succ n ih=>rw[Mq,Mq,NR,ih,NC];rfl
theorem Yf:kap ["self","stays","way","lonely"] ["self","stays"] (kah ka6):=⟨rfl,rfl,rfl,by decide +kernel,rfl,by decide +kernel,by decide +kernel⟩
theorem kcE(W:WB K mg d base)(n:Nat)(G_rec:FnOk P w K mg base CX0 (7+n) d.Qo d.Qp ["self","stays"] (spDue d n)):FnOk P w K mg base CX0 (7+n+1) d.Qo d.Qp ["self","stays"] (spDue d (n+1)):=by
 refine FunD.ok W.QA.F Yf (fun vs H Q E h=>?_) (fun cdv A outer s H vs Q E hr h=>?_)
 ·obtain⟨Hs,x,bs,A,B',rfl,_⟩:=h
  rfl
 ·obtain⟨Hs,x,bs,A,B',rfl,hn,sS,fS,hA,tok,hB,wf0,hhl,hlt,h8,kk⟩:=h
  have UR:=kcX (P:=P) (w:=w) (base:=base) W
  have Yc:=kcc (P:=P) (w:=w) (base:=base) W
  have Ye:=kcp (P:=P) (w:=w) (base:=base) W
  have hr1:Room 1 _:=hr.mono (by omega)
  have hr7:Room 7 _:=hr.mono (by omega)
  refine⟨_,kac (kas (i:=2) Yf.nd rfl (Or.inl rfl) (kbw (pv 0) W.qc.cl W.X1.me UR hr7 W.X1.b .nil pass0 (kaa (pv 1) kae)))
   (kac (kas (i:=3) Yf.nd rfl (Or.inr rfl) (kan Yc hr1 rfl W.qX.m W.qX.F.kp W.qX.b .nil pass0 (kaa (kag (K:=K) (kag (K:=K) (pv 0) rfl) rfl) (kaa (kag (K:=K) (pv 0) rfl) kae))))
   (kac (ps_if (kat kd5 (pv 3) ka5 (kax _)) (kai (kaq (keo (kag (K:=K) (pv 2) rfl) W.qe.cl W.Qu.me Ye hr1 W.Qu.b .nil pass0))) (kaw))
   (kac (kaz (pv 0) (pe_op kd6 (kag (K:=K) (pv 0) rfl) (pe_op kjr (kaL (kaa (pv 3) kae)) (pe_bm N1 Dm Do kh1 (kag (K:=K) (pv 0) rfl) (kaa (pv 3) kae)))) rfl)
   (kac (kaz (pv 0) (khT (N:=["number","lonely"]) (CompScope.of (N:=["number","lonely"]) (cap:=[none,some 3]) (kah ka6).names ["self","stays","way","lonely"] rfl rfl (by decide +kernel)) rfl (kaJ (K:=K) (kag (K:=K) (pv 0) rfl)) (fun _ _ _ _=>kar (i:=0) (show(["number","lonely"]:List Str).Nodup by decide +kernel) rfl (Or.inl rfl)) (fun _ _ _ _=>kg7 (kat op_ne (pv 0) (pv 1) (kax _))) (fun _ _ _ _=>(pv 0))) rfl)
   (kai (kaq (kbw (pv 0) W.qc.cl W.QA.me G_rec hr W.QA.b .nil pass0 (kaa (pv 1) kae)))))))),?_⟩
  obtain⟨dx,t,b,hd,fpp,o',fa',m',fs,hx,F,k⟩:=id hA
  try refine sN fun _ Y4=>?_
  refine⟨_,rfl,x,dx,fs,rfl,hx,F.l11 _ (by decide +kernel),_,rfl,Hs,x,bs,A,B',rfl,sS,fS,hA,tok,hB,wf0,hhl,hlt,h8,fun Hs1 H1 wy t1 xs s1 S1 f1 b1 hA1 hY hS=>?_⟩
  have hlen:=kev (T:=A.T) (B:=B') (hand:=A.hand) (u:=[]) (S:=stnd0 B') hlt
  have hmem:=fun m=>keu (T:=A.T) (B:=B') (hand:=A.hand) (o:=A.order) (u:=[]) (S:=stnd0 B') (m:=m)
  have eU:dueOf (n+1) A B'=(match onlyM A.T.rs (thrOf A B').1 with
   |none=>thrOf A B'
   |some l=>((dueA A.T B' A.hand n ((thrOf A B').1.filter fun m=>decide (m≠l))).1,(thrOf A B').2.1++(Nl ((thrOf A B').1.count l) l++(dueA A.T B' A.hand n ((thrOf A B').1.filter fun m=>decide (m≠l))).2.1),(dueA A.T B' A.hand n ((thrOf A B').1.filter fun m=>decide (m≠l))).2.2)):=rfl
  rw[eU] at kk
  rw[show thrM A.T B' A.hand A.order [] (stnd0 B')=thrOf A B' from rfl] at hlen hmem
  clear eU
  generalize thrOf A B'=R at *
  obtain⟨r1,r2,S'⟩:=R
  simp only at *
  obtain⟨dx1,t2,b2,hd1,fp1,o1,fa1,m1,fs1,hx1,F1,k1⟩:=id hA1
  obtain⟨dxt,fst,tp,vl,rl,va,ra,ht,t1',t2',t3',t4',htp,hvl,hva,hrl,hra⟩:=id (k1.T.same S1)
  have ho1:=S1 _ _ k1.o
  try apply Y4
  try refine sN fun _ Y4=>?_
  refine⟨_,rfl,x,d.qc,dx1,fs1,_,rfl,hx1,W.qc.cl,W.Xl,F1.l1,t2,d.qh,dxt,fst,_,rfl,ht,W.qh.cl,W.qJ,t3',_,rfl,x,d.qc,dx1,fs1,_,rfl,hx1,W.qc.cl,W.qD,F1.l5,rl,o1,ra,A.T.rs,r1,rfl,hrl,hra,ho1,?_⟩
  try apply Y4
  try refine sN fun _ Y4=>?_
  refine⟨_,rfl,rfl,_,rfl,?_⟩
  cases e:onlyM A.T.rs r1 with
  |none=>
   rw[e] at kk
   simp only at kk
   show if decide (V.non=V.non)=true then _ else _
   rw[show decide (V.non=V.non)=true by simp]
   obtain⟨dxw,fsw,hd',u,hw,w1,w2,w3,w4,w5,w6,w7,w8,w9,w10,hh',hu⟩:=id hY
   obtain⟨ow,pp,mm,⟨dxs,fss,hxs,l1,l2,l3,l4,l5⟩,how,hpp,hmm⟩:=id hS
   refine iteT ?_
   try apply Y4
   exact⟨_,rfl,wy,d.c_Way,dxw,fsw,_,rfl,hw,W.c_Way.cl,W.Qa,w5,xs,dxs,fss,rfl,hxs,l5,xs,ow,pp,mm,S'.cg,S'.pr,rfl,⟨dxs,fss,hxs,l1,l2,l3,l4,l5⟩,hpp,kk Hs1 H1 s1 S1 f1 b1 hA1⟩
  | some l=>
   rw[e] at kk
   simp only at kk
   have hl:=kfL e
   have hcl:=kj4 (l:=l) (o:=r1)
   have hlt1:=filter_lt hl
   show if decide (iV l=V.non)=true then _ else _
   rw[show decide (iV l=V.non)=false from decide_eq_false (by intro z;cases z)]
   refine iteF ?_
   have eo1:H1 o1=some (.lst ((r1.map fun(i:Nat)=>(i:Int)).map V.int)):=by rw[ho1,NM];rfl
   try apply Y4
   try refine sN fun _ Y6=>?_
   refine⟨_,rfl,x,d.qc,dx1,fs1,_,rfl,hx1,W.qc.cl,W.Qm,F1.l6,_,rfl,(by show 1≤sizeLine;decide),fun q1 hq1=>?_⟩
   generalize hgH2:upd H1 q1 _=H2
   obtain⟨n2,e2⟩:=kaK hgH2 hq1
   have hc8:r1.count l≤8:=by simp only[MC] at hlen;omega
   try first|apply Y6|apply Y4
   try refine sN fun _ Y6=>?_
   refine⟨_,rfl,x,d.qc,dx1,fs1,_,rfl,n2 _ _ hx1,W.qc.cl,W.qD,F1.l5, .inl ⟨rfl,_,SqL.of (n2 _ _ ho1)⟩,_,rfl,o1,_,_,rfl,rfl,n2 _ _ eo1,q1,_,_,rfl,rfl,e2,by omega,by rw[kf6];omega,by rw[kf6,Int.toNat_natCast];exact Nw (kao (by show 1*_≤1000;omega)),fun q2 hq2=>?_⟩
   rw[kf6,Int.toNat_natCast,kkJ]
   generalize hg3:upd H2 q2 _=H3
   obtain⟨n3,e3⟩:=kaK hg3 hq2
   have s13:=n2.trans n3
   try first|apply Y6|apply Y4
   try refine sN fun _ Y6=>?_
   refine⟨fa1,q2,_,_,rfl,rfl,(S1.trans s13) _ _ k1.f,e3,Nw (kao (by rw[Nh,Nh,Nx,Mi];simp only[MC] at hlen;omega)),fun q3 hq3=>?_⟩
   rw[←Np]
   generalize hg4:upd H3 q3 _=H4
   obtain⟨n4,e4⟩:=kaK hg4 hq3
   try first|apply Y6|apply Y4
   try refine sN fun _ Y6=>?_
   refine⟨_,rfl,x,d.qc,dx1,fs1,rfl,(s13.trans n4) _ _ hx1,W.qc.cl,W.Qm,by have:=F1.l10;omega,?_⟩
   obtain⟨Hs5,p1,p2,p3,p4,p5,hA5⟩:=khq (A':={A with order:=r1,fallen:=A.fallen++r2++Nl (r1.count l) l}) (gs:=putF "fallen" (.ref q3) fs1) (S1.trans s13) (f1 x (by rw[hx];intro z;cases z) fS) (s13 _ _ hx1) n4 hq3 e4 fun Hs' s e=>⟨dx1,t2,b2,hd1,fp1,o1,q3,m1,_,kad,F1.fallen,k1.fallen s e⟩
   generalize upd H4 x (.ins d.qc dx1 (putF "fallen" (.ref q3) fs1))=H5 at *
   obtain⟨dx5,t5,b5,hd5,fp5,o5,fa5,m5,fs5,hx5,F5,k5⟩:=id hA5
   have ho5:=p2 _ _ k5.o
   try first|apply Y6|apply Y4
   try refine sN fun _ Y6=>?_
   refine⟨_,rfl,x,d.qc,dx5,fs5,_,rfl,hx5,W.qc.cl,W.qD,F5.l5,o5,rfl,⟨_,SqL.of ho5⟩,kf5 (J:=Itl K o5) (n:=(r1.map iV).length) (fun i σ ys H'=>H'=H5∧ys=((r1.take i).filter fun m=>decide (m≠l)).map iV∧∃v,σ=[v,some (iV l)]) ⟨rfl,rfl,none,rfl⟩ (by rw[Nh];exact Nw (kao (by simp only[MC] at hlen;omega))) ?_ (fun i σ ys H' hi p=>⟨_,_,SqL.of (p.1▸ho5),Mv hi⟩) (fun σ ys H' p=>⟨_,SqL.of (p.1▸ho5),Nj _⟩) ?_ ?_⟩
   ·rintro i σ ys H' hi ⟨rfl,rfl,_⟩
    rw[Nh]
    try first|apply Y6|apply Y4
    exact Nm (MW _ _) (by rw[Ny];omega)
   ·rintro i σ ys H' y H'' hi ⟨rfl,rfl,v,rfl⟩ ⟨rfl,hy⟩
    obtain⟨m,em,rfl⟩:∃m,r1[i]?=some m∧y=iV m:=kbL (hy _ (SqL.of ho5))
    try first|apply Y6|apply Y4
    try refine sN fun _ Y8=>?_
    refine⟨_,rfl,_,rfl,rfl,_,rfl,?_⟩
    rw[take_snoc em,MZ,Np]
    by_cases e1:m=l
    ·subst e1
     rw[show(!decide (iV m=iV m))=false by simp]
     refine iteF ?_
     try first|apply Y8|apply Y6|apply Y4
     try refine sN fun _ Y10=>?_
     refine⟨rfl,?_,_,rfl⟩
     rw[Ed,decide_eq_false (fun h=>h rfl),if_neg Nu]
     try first|apply Y10|apply Y8|apply Y6|apply Y4
     exact(MQ _).symm
    ·show if(!decide (iV m=iV l))=true then _ else _
     rw[show(!decide (iV m=iV l))=true from by rw[kgH,decide_eq_false e1];rfl]
     refine iteT ?_
     try first|apply Y10|apply Y8|apply Y6|apply Y4
     try refine sN fun _ Y10=>?_
     refine⟨_,rfl,rfl,?_,_,rfl⟩
     rw[Ed,decide_eq_true e1,if_pos rfl]
     rfl
   ·rintro σ ys H' ⟨rfl,rfl,v,rfl⟩ q6 hq6
    rw[Nh,NS]
    generalize hg7:upd H' q6 _=H7
    obtain⟨n7,e7⟩:=kaK hg7 hq6
    try first|apply Y8|apply Y6|apply Y4
    try refine sN fun _ Y8=>?_
    refine⟨_,rfl,x,d.qc,dx5,fs5,rfl,n7 _ _ hx5,W.qc.cl,W.qD,by have:=F5.l10;omega,?_⟩
    obtain⟨Hs8,u1,u2,u3,u4,u5,hA8⟩:=khq (A':={A with order:=r1.filter fun m=>decide (m≠l),fallen:=A.fallen++r2++Nl (r1.count l) l}) (gs:=putF "order" (.ref q6) fs5) p2 p3 hx5 n7 hq6 e7 fun Hs' s e=>⟨dx5,t5,b5,hd5,fp5,q6,fa5,m5,_,kad,F5.order,k5.order s e⟩
    generalize upd H7 x (.ins d.qc dx5 (putF "order" (.ref q6) fs5))=H8 at *
    obtain⟨dx8,t8,b8,hd8,fp8,o8,fa8,m8,fs8,hx8,F8,k8⟩:=id hA8
    have hc1:=(b1.same s13)
    have hc2:=hc1.trans p5
    have hc3:=hc2.trans u5
    try first|apply Y8|apply Y6|apply Y4
    try refine sN fun _ Y8=>?_
    refine⟨_,rfl,x,dx8,fs8,rfl,hx8,F8.l11 _ (by decide +kernel),_,rfl,Hs8,x,bs,_,B',rfl,?_,u2,u3,hA8,tok,hB.butI hc3 hx F.foe,wf0,hhl,?_,?_,fun Hs9 H9 v1 v2 v3 v4 hA9=>?_⟩
    ·show(r1.filter fun m=>decide (m≠l)).length<n
     simp only[MC] at hlen
     omega
    ·intro m hm
     have h1:=(Mc.mp hm).1
     rcases hmem m h1 with h|h
     ·cases h
     ·exact hlt m h
    ·show(r1.filter fun m=>decide (m≠l)).length+(A.fallen++r2++Nl (r1.count l) l).length≤8
     rw[Nx,Nx,Mi]
     simp only[MC] at hlen
     omega
    ·refine kk Hs9 H9 (((s1.trans p1).trans u1).trans v1) v2 (fun a ha hs=>v3 a (kib hc3 hx8 ha) (u4 a (kib hc2 hx5 ha) (p4 a (kib hc1 (s13 _ _ hx1) ha) (f1 a ha hs)))) (hc3.trans v4) ?_
     rw[←Mb,←Mb]
     try first|apply Y8|apply Y6|apply Y4
     exact hA9
theorem kbK(W:WB K mg d base):∀n:Nat,FnOk P w K mg base CX0 (7+n) d.Qo d.Qp ["self","stays"] (spDue d n)
 |0=>⟨fun _ _ _ _ h=>(kk6 h).elim,fun _ _ _ _ _ _ _ _ _ _ _ _ _ h=>(kk6 h).elim⟩
 |n+1=>kcE W n (kbK W n)
theorem kda(W:WB K mg d base):FnOk P w K mg base CX0 16 d.Qo d.Qp ["self","stays"] (spDue d 9):=kbK W 9
theorem klj(i j:Int):(if j > i then j else i)=max i j:=by split <;> omega
noncomputable def due1(A:AccD)(l:Nat)(k:Int):List Nat×List Nat×Stnd:=dueOf 9 {A with many:=A.many.set l k} (kaV A.B (A.many.set l k))
noncomputable def owes(r:List Nat×List Nat×Stnd):Int:=r.2.2.pr.sum+r.2.2.cg
noncomputable def backA(A:AccD)(l:Nat)(k:Int):Int:=max (A.paid-owes (due1 A l k)) 0
noncomputable def tookA(A:AccD)(l:Nat)(k:Int):AccD:={A with many:=A.many.set l k,order:=(due1 A l k).1,fallen:=A.fallen++(due1 A l k).2.1,paid:=A.paid-backA A l k,owed:=max (owes (due1 A l k)-(A.paid-backA A l k)) 0}
structure AccOk (A:AccD):Prop where
 tok:kbN A.T
 nl:A.B.rs.length≤12
 ml:A.many.length=A.B.rs.length
 hl:A.hand.length=A.T.vs.length
 lt:∀n∈A.order,n<A.T.vs.length
 l8:A.order.length+A.fallen.length≤8
noncomputable def bkS(A:AccD)(l:Nat)(k:Int)(n:Nat):Int:=((A.pr.drop ((mans (A.B.rs.take l)).sum+k.toNat)).take n).sum
noncomputable def backB(A:AccD)(l:Nat)(k:Int)(n:Nat):Int:=if A.T.bk=("again" :Str) then backA A l k else bkS A l k n
noncomputable def tookB(A:AccD)(l:Nat)(k:Int)(n:Nat):AccD:=if A.T.bk=("again" :Str) then tookA A l k else {A with many:=A.many.set l k,paid:=A.paid-bkS A l k n}
inductive kiR (d:D) (vs:List V) (H:Hp) (Q:VK) (E_:XK):Prop
 |ct (Hs:Hp) (x:Addr) (l n:Nat) (z:Int) (A:AccD) (_:vs=[.ref x,iV l,iV n]) (_:Same Hs H) (_:Hs x=none) (_:AccIn d Hs H x A) (_:AccOk A) (_:((A.T.bk=("again" :Str)∧Wf A.T.ps (kaV A.B (A.many.set l (z-n))) (stnd0 (kaV A.B (A.many.set l (z-n)))))∨(A.T.bk=("shares" :Str)∧(∀r∈A.B.rs,r.Ok)∧(mans (A.B.rs.take l)).sum+z.toNat≤A.pr.length))) (_:A.many[l]?=some z) (_:1≤n) (_:(n:Int)≤z) (_:∀Hs' H',Same Hs Hs'→Same Hs' H'→(∀a,H a≠none→Hs a=none→Hs' a=none)→But x H H'→AccIn d Hs' H' x (tookB A l (z-n) n)→Q (.int (backB A l (z-n) n)) H'):kiR d vs H Q E_
theorem Xt:kap ["self","line","many","left","due","back"] ["self","line","many"] (kah kbl):=⟨rfl,rfl,rfl,by decide +kernel,rfl,by decide +kernel,by decide +kernel⟩
theorem kc9(W:WB K mg d base):FnOk P w K mg base CX0 17 d.Vn d.Vo ["self","line","many"] (kiR d):=by
 refine FunD.ok W.XX.F Xt (fun vs H Q E h=>?_) (fun cdv A outer s H vs Q E hr h=>?_)
 ·obtain⟨Hs,x,l,n,z,A,rfl,_⟩:=h
  rfl
 ·obtain⟨Hs,x,l,n,z,A,rfl,sS,fS,hA,ok,hmode,hz,hn1,hn2,kk⟩:=h
  have US:=kdq (P:=P) (w:=w) (base:=base) W
  have V1:=kdp (P:=P) (w:=w) (base:=base) W
  have UT:=kcF (P:=P) (w:=w) (base:=base) W
  have UU:=kda (P:=P) (w:=w) (base:=base) W
  have UV:=kcW (P:=P) (w:=w) (base:=base) W
  have hr1:Room 1 _:=hr.mono (by decide)
  have hr3:Room 3 _:=hr.mono (by decide)
  refine⟨_,kac (ps_if (kgs (kbg (kbw (pv 0) W.qc.cl W.XY.me US hr1 W.XY.b .nil pass0 (kaa (pv 1) (kaa (pv 2) kae))))) (kai (ps_no)) (kaw))
   (kac (kas (i:=3) Xt.nd rfl (Or.inl rfl) (pe_op kdd (pe_ix (r:=rIxL K) kaD (kag (K:=K) (pv 0) rfl) (pv 1) (fun _ _=>rfl)) (pv 2)))
   (kac (kaz (pv 0) (pe_op kd6 (pe_op kd6 (kc6 (r:=rSlL K) kdM (kag (K:=K) (pv 0) rfl) kfI (kcQ (pv 1))) (kaL (kaa (pv 3) kae))) (kc6 (r:=rSlL K) kdM (kag (K:=K) (pv 0) rfl) (kcQ (pe_op kaB (pv 1) kaf)) kfI)) rfl)
   (kac (ps_if (kat op_eq (kag (K:=K) (kag (K:=K) (pv 0) rfl) rfl) kbB (kax _)) (kai (kaq (kbw (pv 0) W.qc.cl W.Qz.me V1 hr1 W.Qz.b .nil pass0 (kaa (kbw (pv 0) W.qc.cl W.XZ.me UT hr1 W.XZ.b .nil pass0 (kaa (pv 1) (kaa (pv 3) (kaa (pv 2) kae)))) kae)))) (kaw))
   (kac (kas (i:=4) Xt.nd rfl (Or.inl rfl) (kbw (pv 0) W.qc.cl W.QA.me UU hr W.QA.b .nil pass0 (kaa (keo (pv 0) W.qc.cl W.X0.me UV hr3 W.X0.b .nil pass0) kae)))
   (kac (kas (i:=5) Xt.nd rfl (Or.inl rfl) (kbw (pv 0) W.qc.cl W.Qz.me V1 hr1 W.Qz.b .nil pass0 (kaa (kay (ke2 rfl) (by rfl) W.B.max b_max (kaa (pe_op kdd (kag (K:=K) (pv 0) rfl) (pv 4)) (kaa kaf kae))) kae)))
   (kac (kaz (pv 0) (kay (ke2 rfl) (by rfl) W.B.max b_max (kaa (pe_op kdd (pv 4) (kag (K:=K) (pv 0) rfl)) (kaa kaf kae))) rfl)
   (kai (kaq (pv 5))))))))),?_⟩
  obtain⟨dx,t,b,hd,fp,o',fa',m',fs,hx,F,k⟩:=id hA
  have hl:=at_lt hz
  have hm':=sS _ _ k.m
  try refine sN fun _ Y4=>?_
  refine⟨_,rfl,x,dx,fs,rfl,hx,F.l11 _ (by decide +kernel),_,rfl,_,rfl,Hs,x,l,n,z,A,rfl,sS,hA,hz,by omega,hn2,_,rfl,iteF ?_⟩
  have hat:atI (A.many.map V.int) ((l:Nat):Int)=some (V.int z):=ka1 (v:=V.int z) (by rw[Nv,hz];rfl)
  try apply Y4
  try refine sN fun _ Y4=>?_
  refine⟨_,rfl,x,d.qc,dx,fs,_,rfl,hx,W.qc.cl,W.qz,F.l7,_,rfl,m',_,_,_,rfl,rfl,SqL.of hm',hat,_,rfl,_,_,rfl,rfl,?_⟩
  have ht12:A.many.length≤12:=by rw[ok.ml];exact ok.nl
  try apply Y4
  try refine sN fun _ Y4=>?_
  refine⟨_,rfl,x,d.qc,dx,fs,_,rfl,hx,W.qc.cl,W.qz,F.l7,_,rfl,_,rfl,m',_,rfl,SqL.of hm',fun p1 fp1=>?_⟩
  rw[kj1,←MH]
  generalize hg1:upd H p1 _=H1
  obtain⟨n1,e1⟩:=kaK hg1 fp1
  try apply Y4
  try refine sN fun _ Y4=>?_
  refine⟨_,rfl,(by show 1≤sizeLine;decide),fun p2 fp2=>?_⟩
  generalize hg2:upd H1 p2 _=H2
  obtain⟨n2,e2⟩:=kaK hg2 fp2
  try apply Y4
  try refine sN fun _ Y4=>?_
  refine⟨p1,p2,_,_,rfl,rfl,n2 _ _ e1,e2,Nw (kao (by rw[Nh,Ny];show _+1≤1000;omega)),fun p3 fp3=>?_⟩
  generalize hg3:upd H2 p3 _=H3
  obtain⟨n3,e3⟩:=kaK hg3 fp3
  have s3:=(n1.trans n2).trans n3
  try apply Y4
  try refine sN fun _ Y4=>?_
  refine⟨_,rfl,x,d.qc,dx,fs,_,rfl,s3 _ _ hx,W.qc.cl,W.qz,F.l7,_,rfl,_,_,rfl,rfl,_,rfl,m',_,rfl,SqL.of (s3 _ _ hm'),fun p4 fp4=>?_⟩
  rw[show((l:Nat):Int)+1=((l+1:Nat):Int) by omega,kkO,←Ec]
  generalize hg4:upd H3 p4 _=H4
  obtain⟨n4,e4⟩:=kaK hg4 fp4
  have emany:(A.many.take l).map V.int++[V.int (z-n)]++(A.many.drop (l+1)).map V.int=(A.many.set l (z-n)).map V.int:=by
   rw[List.set_eq_take_append_cons_drop,if_pos hl,Np,NC,Mb]
   rfl
  try apply Y4
  try refine sN fun _ Y4=>?_
  refine⟨p3,p4,_,_,rfl,rfl,n4 _ _ e3,e4,Nw (kao (by rw[Nx,Nh,Nh,Ny,M4];show _+1+_≤1000;omega)),fun p5 fp5=>?_⟩
  rw[emany]
  generalize hg5:upd H4 p5 _=H5
  obtain⟨n5,e5⟩:=kaK hg5 fp5
  have s4:=s3.trans n4
  have hx4:=s4 _ _ hx
  try apply Y4
  try refine sN fun _ Y4=>?_
  refine⟨_,rfl,x,d.qc,dx,fs,rfl,n5 _ _ hx4,W.qc.cl,W.qz,by have:=F.l10;omega,?_⟩
  obtain⟨Hs6,p1',p2',p3',p4',p5',hA6⟩:=khq (A':={A with many:=A.many.set l (z-n)}) (gs:=putF "many" (.ref p5) fs) (sS.trans s4) fS hx4 n5 fp5 e5 fun Hs' s e=>⟨dx,t,b,hd,fp,o',fa',p5,_,kad,F.many,k.many s e⟩
  generalize upd H5 x (.ins d.qc dx (putF "many" (.ref p5) fs))=H6 at *
  obtain⟨dx6,t6,b6,hd6,fp6,o6,fa6,m6,fs6,hx6,F6,k6⟩:=id hA6
  have c6:But x H H6:=(But.of_same s4).trans p5'
  have f6:∀a,H a≠none→Hs a=none→Hs6 a=none:=fun a ha hs=>p4' a (fun z=>ha (none_of s4 z)) hs
  obtain⟨dxt,fst,tp,vl,rl,va,ra,ht,t1,t2,t3,t4,_⟩:=k6.T.same p2'
  try apply Y4
  try refine sN fun _ Y4=>?_
  refine⟨_,rfl,x,d.qc,dx6,fs6,_,rfl,hx6,W.qc.cl,W.Xl,F6.l1,t6,d.qh,dxt,fst,_,rfl,ht,W.qh.cl,W.XW,t4,rfl,_,rfl,?_⟩
  show if decide (V.str A.T.bk=V.str "shares")=true then _ else _
  rcases hmode with⟨hbk,wf⟩|⟨hbk,hok,hle⟩
  case inr=>
   rw[hbk,show decide (V.str "shares"=V.str "shares")=true by simp]
   have nag:¬A.T.bk=("again" :Str):=by rw[hbk];decide +kernel
   obtain⟨zk,ezk⟩:=Int.eq_ofNat_of_zero_le (show 0≤z-(n:Int) by omega)
   have etk:backB A l (z-n) n=((A.pr.drop ((mans (A.B.rs.take l)).sum+zk)).take n).sum:=by
    unfold backB bkS
    rw[if_neg nag,ezk,Int.toNat_natCast]
   have ett:tookB A l (z-n) n= {A with many:=A.many.set l (z-n),paid:=A.paid-backB A l (z-n) n}:=by
    unfold tookB backB
    rw[if_neg nag,if_neg nag]
   rw[etk] at ett kk
   rw[ett] at kk
   refine iteT ?_
   try apply Y4
   try refine sN fun _ Y6=>?_
   refine⟨_,rfl,x,dx6,fs6,rfl,hx6,F6.l11 _ (by decide +kernel),_,rfl,x,dx6,fs6,rfl,hx6,F6.l11 _ (by decide +kernel),_,rfl,_,rfl,_,rfl,Hs6,x,l,zk,n,_,?_,p2',hA6,ok.nl,hok,(by show(mans (A.B.rs.take l)).sum+zk+n≤A.pr.length;omega),fun H7 s7=>?_⟩
   ·show [V.ref x,iV l,V.int (z-n),iV n]=[V.ref x,iV l,V.int ((zk:Nat):Int),iV n]
    rw[ezk]
   ·exact⟨Hs6,x,_,_,rfl,hA6.same s7,fun H8 b8 hA8=>kk Hs6 H8 p1' (kba (p2'.trans s7) b8 p3') f6 ((c6.same s7).trans b8) hA8⟩
  have ett:tookB A l (z-n) n=tookA A l (z-n):=by unfold tookB;rw[if_pos hbk]
  have etk:backB A l (z-n) n=backA A l (z-n):=by unfold backB;rw[if_pos hbk]
  rw[ett,etk] at kk
  rw[hbk,show decide (V.str "again"=V.str "shares")=false by rw[eq_str];decide +kernel]
  have ml':(A.many.set l (z-n)).length=A.B.rs.length:=by rw[MS];exact ok.ml
  refine iteF ?_
  try apply Y4
  try refine sN fun _ Y4=>?_
  refine⟨_,rfl,x,dx6,fs6,rfl,hx6,F6.l11 _ (by decide +kernel),_,rfl,x,dx6,fs6,rfl,hx6,F6.l11 _ (by decide +kernel),Hs6,x,_,rfl,p2',hA6,ml',ok.nl,fun H7 bs s7 fbs hBs=>?_⟩
  try apply Y4
  try refine sN fun _ Y4=>?_
  refine⟨Hs6,x,bs,_,_,rfl,(by have:=ok.l8;show A.order.length<9;omega),p2'.trans s7,p3',hA6.same s7,ok.tok,hBs,wf,ok.hl,ok.lt,ok.l8,fun Hs8 H8 v1 v2 v3 v4 hA8=>?_⟩
  have c8:But x H H8:=(c6.same s7).trans v4
  have f8:∀a,H a≠none→Hs a=none→Hs8 a=none:=fun a ha hs=>v3 a (fun z=>kib c6 hx6 ha (none_of s7 z)) (f6 a ha hs)
  obtain⟨dx8,t8,b8,hd8,fp8,o8,fa8,m8,fs8,hx8,F8,k8⟩:=id hA8
  try apply Y4
  try refine sN fun _ Y4=>?_
  refine⟨_,rfl,x,dx8,fs8,rfl,hx8,F8.l11 _ (by decide +kernel),_,rfl,x,d.qc,dx8,fs8,_,rfl,hx8,W.qc.cl,W.qK,F8.l8,_,rfl,_,_,rfl,rfl,_,_,rfl,Hs8,x,_,_,rfl,hA8,fun H9 b9 hA9=>?_⟩
  rw[klj] at hA9⊢
  obtain⟨dx9,t9,b9',hd9,fp9,o9,fa9,m9,fs9,hx9,F9,k9⟩:=id hA9
  try apply Y4
  try refine sN fun _ Y4=>?_
  refine⟨_,rfl,_,rfl,x,d.qc,dx9,fs9,_,rfl,hx9,W.qc.cl,W.qK,F9.l8,_,_,rfl,rfl,_,_,rfl,_,rfl,x,d.qc,dx9,fs9,rfl,hx9,W.qc.cl,W.Qx,by have:=F9.l10;omega,?_⟩
  rw[klj]
  have b10:But x H9 (upd H9 x (.ins d.qc dx9 (putF "owed" (.int (max (owes (due1 A l (z-n))-(A.paid-backA A l (z-n))) 0)) fs9))):=kau (nx hx9)
  have fx8:Hs8 x=none:=f8 x (by rw[hx];intro z;cases z) fS
  try apply Y4
  exact⟨_,rfl,kk Hs8 _ (p1'.trans v1) (kba (kba v2 b9 fx8) b10 fx8) f8 ((c8.trans b9).trans b10) ⟨dx9,t9,b9',hd9,fp9,o9,fa9,m9,_,kad,F9.owed,k9.T,k9.B,k9.h,k9.p,k9.o,k9.f,k9.m⟩⟩
inductive khC (K:Ni) (vs:List V) (H:Hp) (Q:VK) (E_:XK):Prop
 |ct (a:Addr) (ns:List Int) (n:Int) (_:vs=[.ref a, .int n]) (_:SqL K H a (ns.map V.int)) (_:0≤n) (_:∀z:Int,Q (.int z) H):khC K vs H Q E_
theorem kez:kap ["_law_script","_law_k"] ["_law_script","_law_k"] (kah kcl):=⟨rfl,rfl,rfl,by decide +kernel,rfl,by decide +kernel,by decide +kernel⟩
theorem keQ(W:WB K mg d base):FnOk P w K mg base CX0 1 d.Za d.Zb ["_law_script","_law_k"] (khC K):=by
 refine FunD.ok W.Q1.F kez (fun vs H Q E h=>?_) (fun cdv A outer s H vs Q E hr h=>?_)
 ·obtain⟨a,ns,n,rfl,_⟩:=h
  rfl
 ·obtain⟨a,ns,n,rfl,hS,n0,kk⟩:=h
  refine⟨_,kac (ps_if (kat op_lt (pv 1) (kay (r:=kbm K) kaF (by rfl) W.B.len b_len (kaa (pv 0) kae)) (kax _)) (kai (kaq (pe_ix (r:=rIxL K) kaD (pv 0) (pv 1) (fun _ _=>rfl)))) (kaw))
   (kai (kaq kaf)),?_⟩
  obtain⟨m,rfl⟩:=Int.eq_ofNat_of_zero_le n0
  refine⟨_,rfl,_,rfl,a,_,rfl, .inl hS,_,_,rfl,rfl,_,rfl,ite2 (fun h=>?_) (fun _=>kk 0)⟩
  have hn:m<ns.length:=by
   have:(m:Int)<((ns.map V.int).length:Nat):=by simpa using h
   rw[Nh] at this
   omega
  obtain⟨z,ez⟩:=at_of hn
  exact⟨_,rfl,_,rfl,a,_,_,_,rfl,rfl,hS,ka1 (v:=.int z) (by rw[Nv,ez];rfl),kk z⟩
inductive kk1 (K:Ni) (vs:List V) (H:Hp) (Q:VK) (E_:XK):Prop
 |ct (a:Addr) (ns:List Int) (k t m:Int) (_:vs=[.ref a, .int k, .int t, .int m]) (_:SqL K H a (ns.map V.int)) (_:(0≤k∧k≤1000)) (_:(0≤t∧t≤1000)) (_:0<m) (_:∀z:Int,0≤z→z<m→Q (.int z) H):kk1 K vs H Q E_
theorem Yg:kap ["_law_script","_law_k","_law_salt","_law_many","_law_cell","_law_mixed"] ["_law_script","_law_k","_law_salt","_law_many"] (kah kdl):=⟨rfl,rfl,rfl,by decide +kernel,rfl,by decide +kernel,by decide +kernel⟩
theorem kaP(W:WB K mg d base):FnOk P w K mg base CX0 2 d.Zc d.Zd ["_law_script","_law_k","_law_salt","_law_many"] (kk1 K):=by
 refine FunD.ok W.qd.F Yg (fun vs H Q E h=>?_) (fun cdv A outer s H vs Q E hr h=>?_)
 ·obtain⟨a,ns,k,t,m,rfl,_⟩:=h
  rfl
 ·obtain⟨a,ns,k,t,m,rfl,hS,hk,ht,hm,kk⟩:=h
  have UW:=keQ (P:=P) (w:=w) (base:=base) W
  refine⟨_,kac (kas (i:=4) Yg.nd rfl (Or.inl rfl) (pe_op kaB (pe_op keK (kan UW hr rfl W.Q1.m W.Q1.F.kp W.Q1.b .nil pass0 (kaa (pv 0) (kaa (pv 1) kae))) kaf) kaf))
   (kac (kas (i:=5) Yg.nd rfl (Or.inl rfl) (pe_op keK (pe_op kcb (pv 4) (pe_op kaB (pe_op kaB kaf (pe_op kcb (pe_op kcb kaf (pv 1)) (pv 1))) (pe_op kcb (pe_op kcb kaf (pv 2)) (pv 2)))) kaf))
   (kai (kaq (pe_op keK (pe_op kdU (pe_op keK (pe_op kcb (pv 5) (pv 5)) kaf) kaf) (pv 3))))),?_⟩
  refine⟨_,rfl,_,rfl,a,ns,k,rfl,hS,hk.1,fun z=>⟨_,_,rfl,rfl,(by show(0:Int)<1000003;decide),_,_,rfl,rfl,?_⟩⟩
  refine⟨_,rfl,_,rfl,_,_,rfl,rfl, .inl ⟨by decide,by decide⟩,_,rfl,_,_,rfl,rfl, .inr ⟨by omega,by omega⟩,_,_,rfl,rfl,_,rfl,_,_,rfl,rfl, .inl ⟨by decide,by decide⟩,_,rfl,_,_,rfl,rfl, .inr ⟨by omega,by omega⟩,_,_,rfl,rfl,_,_,rfl,rfl, .inl ⟨by omega,by omega⟩,_,_,rfl,rfl,(by show(0:Int)<2147483647;decide),?_⟩
  generalize hx:(z%1000003+1)*(48271+1000*k*k+69621*t*t)%2147483647=x
  have x0:0≤x∧x<2147483647:=by omega
  refine⟨_,rfl,_,rfl,_,_,rfl,rfl, .inl ⟨by omega,by omega⟩,_,_,rfl,rfl,(by show(0:Int)<2147483629;decide),_,_,rfl,rfl,⟨by decide,by decide⟩,_,rfl,_,_,rfl,rfl,hm,?_⟩
  exact kk _ (Int.emod_nonneg _ (by omega)) (Int.emod_lt_of_pos _ hm)
inductive khy (K:Ni) (vs:List V) (H:Hp) (Q:VK) (E_:XK):Prop
 |ct (a:Addr) (ns:List Int) (k t:Int) (_:vs=[.ref a, .int k, .int t]) (_:SqL K H a (ns.map V.int)) (_:(0≤k∧k≤1000)) (_:(0≤t∧t≤900)) (_:∀z:Int,0≤z→z≤1000000000000→Q (.int z) H):khy K vs H Q E_
theorem V2:kap ["_law_script","_law_k","_law_salt","_law_how"] ["_law_script","_law_k","_law_salt"] (kah kcK):=⟨rfl,rfl,rfl,by decide +kernel,rfl,by decide +kernel,by decide +kernel⟩
theorem kfQ(W:WB K mg d base):FnOk P w K mg base CX0 3 d.Ze d.Zf ["_law_script","_law_k","_law_salt"] (khy K):=by
 refine FunD.ok W.qB.F V2 (fun vs H Q E h=>?_) (fun cdv A outer s H vs Q E hr h=>?_)
 ·obtain⟨a,ns,k,t,rfl,_⟩:=h
  rfl
 ·obtain⟨a,ns,k,t,rfl,hS,hk,ht,kk⟩:=h
  have qk:=kaP (P:=P) (w:=w) (base:=base) W
  refine⟨_,kac (kas (i:=3) V2.nd rfl (Or.inl rfl) (kan qk hr rfl W.qd.m W.qd.F.kp W.qd.b .nil pass0 (kaa (pv 0) (kaa (pv 1) (kaa (pv 2) (kaa kaf kae))))))
   (kac (ps_if (kat op_lt (pv 3) kaf (kax _)) (kai (kaq (kan qk hr rfl W.qd.m W.qd.F.kp W.qd.b .nil pass0 (kaa (pv 0) (kaa (pv 1) (kaa (pe_op kaB (pv 2) kaf) (kaa kaf kae))))))) (kaw))
   (kac (ps_if (kat op_eq (pv 3) kaf (kax _)) (kai (kaq (pe_op kcb kaf (kan qk hr rfl W.qd.m W.qd.F.kp W.qd.b .nil pass0 (kaa (pv 0) (kaa (pv 1) (kaa (pe_op kaB (pv 2) kaf) (kaa kaf kae)))))))) (kaw))
   (kai (kaq (pe_op kaB (pe_op kcb (kan qk hr rfl W.qd.m W.qd.F.kp W.qd.b .nil pass0 (kaa (pv 0) (kaa (pv 1) (kaa (pe_op kaB (pv 2) kaf) (kaa kaf kae))))) kaf) (kan qk hr rfl W.qd.m W.qd.F.kp W.qd.b .nil pass0 (kaa (pv 0) (kaa (pv 1) (kaa (pe_op kaB (pv 2) kaf) (kaa kaf kae)))))))))),?_⟩
  refine⟨_,rfl,_,rfl,_,rfl,a,ns,k,t,4,rfl,hS,hk,⟨by omega,by omega⟩,by decide,fun w w0 w1=>?_⟩
  refine⟨_,rfl,_,_,rfl,rfl,_,rfl,ite2 (fun _=>?_) (fun _=>?_)⟩
  ·exact⟨_,rfl,_,rfl,_,rfl,_,_,rfl,rfl,a,ns,k,t+1,10,rfl,hS,hk,⟨by omega,by omega⟩,by decide,fun z z0 z1=>kk z z0 (by omega)⟩
  refine⟨_,rfl,rfl,_,rfl,ite2 (fun _=>?_) (fun _=>?_)⟩
  ·exact⟨_,rfl,_,rfl,_,rfl,_,_,rfl,rfl,a,ns,k,t+1,40,rfl,hS,hk,⟨by omega,by omega⟩,by decide,fun z z0 z1=>⟨_,_,rfl,rfl, .inl ⟨by decide,by decide⟩,kk _ (by omega) (by omega)⟩⟩
  exact⟨_,rfl,_,rfl,_,rfl,_,_,rfl,rfl,a,ns,k,t+1,1000000,rfl,hS,hk,⟨by omega,by omega⟩,by decide,fun z z0 z1=>⟨_,_,rfl,rfl, .inr ⟨by decide,by decide⟩,_,rfl,_,rfl,_,rfl,_,_,rfl,rfl,a,ns,k,t+2,1000001,rfl,hS,hk,⟨by omega,by omega⟩,by decide,fun y y0 y1=>⟨_,_,rfl,rfl,kk _ (by omega) (by omega)⟩⟩⟩
inductive kk2 (K:Ni) (vs:List V) (H:Hp) (Q:VK) (E_:XK):Prop
 |ct (a:Addr) (ns:List Int) (_:vs=[.ref a]) (_:SqL K H a (ns.map V.int)) (_:∀(H':Hp) (p:Addr) (ps:List (Option Nat)),Same H H'→H p=none→H' p=some (.lst (ps.map pV))→Good ps→ps.length≤20→0<ps.length→Q (.ref p) H'):kk2 K vs H Q E_
theorem Yh:kap ["_law_script","_law_parents_here","_law_j"] ["_law_script"] (kah kck):=⟨rfl,rfl,rfl,by decide +kernel,rfl,by decide +kernel,by decide +kernel⟩
theorem keP(W:WB K mg d base):FnOk P w K mg base CX0 3 d.Zg d.Zh ["_law_script"] (kk2 K):=by
 refine FunD.ok W.Q2.F Yh (fun vs H Q E h=>?_) (fun cdv A outer s H vs Q E hr h=>?_)
 ·obtain⟨a,ns,rfl,_⟩:=h
  rfl
 ·obtain⟨a,ns,rfl,hS,kk⟩:=h
  have qk:=kaP (P:=P) (w:=w) (base:=base) W
  refine⟨_,kac (kas (i:=1) Yh.nd rfl (Or.inl rfl) (kaL kae))
   (kac (kbA PassesOwn.never rfl (kb3 rfl W.B.range (kaa (pe_op kaB kaf (kan qk hr rfl W.qd.m W.qd.F.kp W.qd.b .nil pass0 (kaa (pv 0) (kaa kaf (kaa kaf (kaa kaf kae)))))) kae)) (kar (i:=2) Yh.nd rfl (Or.inl rfl))
   (kai (ps_if (PW.pt (pw_or (kat op_eq (pv 2) kaf (kax _)) (khN (kat op_eq (kan qk hr rfl W.qd.m W.qd.F.kp W.qd.b .nil pass0 (kaa (pv 0) (kaa kaf (kaa (pe_op kaB kaf (pv 2)) (kaa kaf kae))))) kaf (kax _))))) (kai (ka0 (pe_bm N1 Ml Mm ka9 (pv 1) (kaa ka5 kae)))) (kai (ka0 (pe_bm N1 Ml Mm ka9 (pv 1) (kaa (kan qk hr rfl W.qd.m W.qd.F.kp W.qd.b .nil pass0 (kaa (pv 0) (kaa kaf (kaa (pe_op kaB kaf (pv 2)) (kaa (pv 2) kae))))) kae)))))))
   (kai (kaq (pv 1)))),?_⟩
  refine⟨by decide,fun p hp=>?_⟩
  generalize hgH1:upd H p _=H1
  obtain⟨s1,(hp1:H1 p=some (.lst (([]:List (Option Nat)).map pV)))⟩:=kaK hgH1 hp
  refine⟨_,rfl,a,ns,0,1,6,rfl,s1.seq hS,⟨by decide,by decide⟩,⟨by decide,by decide⟩,by decide,fun m m0 m1=>⟨_,_,rfl,rfl,_,rfl,by omega,by omega,?_⟩⟩
  refine kc1 (fun i σ H'=>Same H H'∧∃(ps:List (Option Nat)) (v2:Option V),σ=[some (.ref a),some (.ref p),v2]∧H' p=some (.lst (ps.map pV))∧ps.length=i∧Good ps)
   ⟨s1,[],none,rfl,hp1,rfl,kkG⟩ ?_ ?_
  ·rintro i σ H' hi ⟨s2,ps,v2,rfl,hp2,hl,hg⟩
   rw[Int.zero_add]
   have hi6:i<7:=by omega
   have fin:∀(o:Option Nat) (v2:Option V),(∀k,o=some k→k<ps.length)→kjd (.ref p) [pV o] H' (fun _ H1=>Same H H1∧∃(ps':List (Option Nat)) (v2':Option V),([some (.ref a),some (.ref p),v2]:St)=[some (.ref a),some (.ref p),v2']∧H1 p=some (.lst (ps'.map pV))∧ps'.length=i+1∧Good ps'):=by
    intro o v2 h
    refine⟨p,_,_,rfl,rfl,hp2,kao (by rw[Nh];omega),kav hp s2,ps++[o],v2,rfl,?_,by simp[hl],kjR hg h⟩
    rw[kad]
    simp
   refine⟨_,rfl,rfl,_,rfl,ite2 (fun _=>iteT ⟨_,rfl, .inl ⟨rfl,_,SqL.of hp2⟩,fin none _ (fun k e=>by cases e)⟩) (fun h0=>?_)⟩
   refine⟨_,rfl,_,rfl,_,_,rfl,rfl,a,ns,0,10+(i:Int),3,rfl,s2.seq hS,⟨by decide,by decide⟩,⟨by omega,by omega⟩,by decide,fun y y0 y1=>⟨rfl,_,rfl,ite2 (fun _=>⟨_,rfl, .inl ⟨rfl,_,SqL.of hp2⟩,fin none _ (fun k e=>by cases e)⟩) (fun _=>?_)⟩⟩
   have hi0:0<i:=by
    rcases Nat.eq_zero_or_pos i with e|e
    ·exact absurd (by rw[e];decide) h0
    ·exact e
   refine⟨_,rfl, .inl ⟨rfl,_,SqL.of hp2⟩,_,rfl,_,rfl,_,_,rfl,rfl,_,rfl,a,ns,0,20+(i:Int),(i:Int),rfl,s2.seq hS,⟨by decide,by decide⟩,⟨by omega,by omega⟩,by omega,fun y y0 y1=>?_⟩
   obtain⟨n,en⟩:=Int.eq_ofNat_of_zero_le y0
   have q:=fin (some n) (some (.int i)) (fun k e=>by cases e;omega)
   rw[show pV (some n)=V.int y by rw[en];rfl] at q
   exact q
  ·rintro σ H' ⟨s2,ps,v2,rfl,hp2,hl,hg⟩
   exact⟨_,rfl,kk H' p ps s2 hp hp2 hg (by omega) (by omega)⟩
noncomputable def wrth(rs:List Row):List Int:=rs.map fun r=>r.pr*r.mn
inductive kiK (d:D) (vs:List V) (H:Hp) (Q:VK) (E_:XK):Prop
 |ct (b:Addr) (B:Bask) (_:vs=[.ref b]) (_:BaskIs d.qf d.qg H b B) (_:B.rs.length≤12) (_:(∀r∈B.rs,r.Ok)) (_:∀(H':Hp),Same H H'→0≤(wrth B.rs).sum→Q (.int (wrth B.rs).sum) H'):kiK d vs H Q E_
theorem kfB:kap ["_law_basket_here"] ["_law_basket_here"] (kah kcG):=⟨rfl,rfl,rfl,by decide +kernel,rfl,by decide +kernel,by decide +kernel⟩
theorem kfM(W:WB K mg d base):FnOk P w K mg base CX0 1 d.Zs d.Zt ["_law_basket_here"] (kiK d):=by
 refine FunD.ok W.Q7.F kfB (fun vs H Q E h=>?_) (fun cdv A outer s H vs Q E hr h=>?_)
 ·obtain⟨b,B,rfl,_⟩:=h
  rfl
 ·obtain⟨b,B,rfl,hB,h12,hok,kk⟩:=h
  obtain⟨l,ls,⟨dxb,fsb,hb,lb1,lb2,lb3⟩,hl,hL⟩:=id hB
  refine⟨_,kai (kaq (kay (r:=rSum K) (kbz rfl) (by rfl) W.B.sum b_sum (kaa (kbp (N:=["_law_line"]) (CompScope.plain rfl (by decide +kernel) (by decide +kernel) (by decide +kernel) (nd1 _)) rfl (kaJ (K:=K) (kag (K:=K) (pv 0) rfl)) (fun _ _ _ _=>kar (i:=0) (nd1 _) rfl (Or.inl rfl)) (fun _ _ _ _=>(pe_op kcb (kag (K:=K) (pv 0) rfl) (kag (K:=K) (pv 0) rfl)))) kae))),?_⟩
  refine⟨_,rfl,b,d.qg,dxb,fsb,_,rfl,hb,W.qg.cl,W.qy,lb1,l,rfl,⟨_,SqL.of hl⟩,kaZ (xs:=ls.map V.ref) (fun i σ ys H'=>H'=H∧ys=((wrth B.rs).take i).map V.int∧∃v0:Option V,σ=[v0]) ⟨rfl,rfl,none,rfl⟩ (by rw[Nh,hL.len];exact Nw (kao (by omega))) ?_ ?_ ?_⟩
  ·rintro i σ ys H' hi ⟨rfl,rfl,v0,rfl⟩
   refine⟨SqL.of hl,?_⟩
   rw[Nh,Ny]
   unfold wrth
   rw[Nh,hL.len] at hi
   rw[Nh]
   omega
  ·rintro i y σ ys H' hy ⟨rfl,rfl,v0,rfl⟩
   obtain⟨a,ea,rfl⟩:=kbJ hy
   obtain⟨r,er,dxl,fsl,ha,q1,q2,q3,q4⟩:=hL.at ea
   have ro:=hok r (Nt er)
   refine⟨_,rfl,a,d.qf,dxl,fsl,_,rfl,ha,W.qf.cl,W.Qi,q2,_,rfl,a,d.qf,dxl,fsl,_,rfl,ha,W.qf.cl,W.qF,q3,_,_,rfl,rfl, .inl ⟨by have:=ro.pr0;omega,by have:=ro.pr1;omega⟩,rfl,?_,_,rfl⟩
   rw[kbt (r:=r.pr*r.mn) (by unfold wrth;rw[Nv,er];rfl),Np]
   rfl
  ·rintro σ ys H' ⟨rfl,rfl,v0,rfl⟩ D hD
   rw[Nh,Mf (by unfold wrth;rw[Nh,hL.len];exact Nj _)]
   refine⟨D,_,rfl,SqL.of kad,kk _ (kak hD) (kbq fun z hz=>?_)⟩
   obtain⟨r,hr,rfl⟩:=NJ.mp hz
   have ro:=hok r hr
   exact Int.mul_nonneg ro.pr0 ro.mn0
theorem at5N{a b c e f:V}{i:Int}(h0:0≤i)(h5:i<5):∃v,atI [a,b,c,e,f] i=some v∧(v=a∨v=b∨v=c∨v=e∨v=f):=by
 obtain⟨n,rfl⟩:=Int.eq_ofNat_of_zero_le h0
 have hn:n<5:=by omega
 match n,hn with
 |0,_=>exact⟨a,rfl, .inl rfl⟩
 |1,_=>exact⟨b,rfl, .inr (.inl rfl)⟩
 |2,_=>exact⟨c,rfl, .inr (.inr (.inl rfl))⟩
 |3,_=>exact⟨e,rfl, .inr (.inr (.inr (.inl rfl)))⟩
 |4,_=>exact⟨f,rfl, .inr (.inr (.inr (.inr rfl)))⟩
inductive kiW (K:Ni) (vs:List V) (H:Hp) (Q:VK) (E_:XK):Prop
 |ct (a:Addr) (ns:List Int) (m:Nat) (_:vs=[.ref a,iV m]) (_:SqL K H a (ns.map V.int)) (_:m≤8) (_:∀(H':Hp) (h:Addr) (hand:List Int),Same H H'→H h=none→H' h=some (.lst (hand.map V.int))→hand.length=m→Q (.ref h) H'):kiW K vs H Q E_
theorem kgo:kap ["_law_script","_law_many"] ["_law_script","_law_many"] (kah kcu):=⟨rfl,rfl,rfl,by decide +kernel,rfl,by decide +kernel,by decide +kernel⟩
theorem kgz(W:WB K mg d base):FnOk P w K mg base CX0 3 d.Zw d.Zx ["_law_script","_law_many"] (kiW K):=by
 refine FunD.ok W.Q9.F kgo (fun vs H Q E h=>?_) (fun cdv A outer s H vs Q E hr h=>?_)
 ·obtain⟨a,ns,m,rfl,_⟩:=h
  rfl
 ·obtain⟨a,ns,m,rfl,hS,hm,kk⟩:=h
  have qk:=kaP (P:=P) (w:=w) (base:=base) W
  refine⟨_,kai (kaq (kbp (N:=["_law_j","_law_script"]) (CompScope.of (N:=["_law_j","_law_script"]) (cap:=[none,some 0]) (kah kcu).names ["_law_script","_law_many"] rfl rfl (by decide +kernel)) rfl (kb3 rfl W.B.range (kaa (pv 1) kae)) (fun _ _ _ _=>kar (i:=0) (show(["_law_j","_law_script"]:List Str).Nodup by decide +kernel) rfl (Or.inl rfl)) (fun _ _ _ _=>(pe_ix (r:=rIxL K) kaD (kaL (kaa kaf (kaa kaf (kaa kaf (kaa kaf (kaa kaf kae)))))) (kan qk hr rfl W.qd.m W.qd.F.kp W.qd.b .nil pass0 (kaa (pv 1) (kaa kaf (kaa (pe_op kaB kaf (pv 0)) (kaa kaf kae))))) (fun _ _=>rfl))))),?_⟩
  refine⟨_,rfl,_,rfl,by omega,by omega,?_⟩
  rw[Int.toNat_natCast]
  refine kfn (fun i σ ys H'=>Same H H'∧∃(hand:List Int) (v0:Option V),ys=hand.map V.int∧hand.length=i∧σ=[v0,some (.ref a)])
   ⟨Same.refl _,[],none,rfl,rfl,rfl⟩ (Nw (kao (by omega))) (fun i σ ys H' hi h=>by obtain⟨_,o,v0,rfl,hl,_⟩:=h;rw[Nh];exact hl) ?_ ?_
  ·rintro i σ ys H' hi ⟨s1,hand,v0,rfl,hl,rfl⟩
   rw[Int.zero_add]
   refine⟨(by show 5≤sizeLine;decide),fun l hl'=>?_⟩
   have n2:=kak (o:=.lst [V.int 1,V.int 1,V.int 2,V.int 0,V.int 3]) hl'
   refine⟨_,rfl,_,rfl,_,_,rfl,rfl,a,ns,7,1+(i:Int),5,rfl,(s1.trans n2).seq hS,⟨by decide,by decide⟩,⟨by omega,by omega⟩,by decide,fun z z0 z1=>?_⟩
   obtain⟨v,e,hv⟩:=at5N (a:=.int 1) (b:=.int 1) (c:=.int 2) (e:=.int 0) (f:=.int 3) z0 z1
   obtain⟨k,rfl⟩:∃k:Int,v=.int k:=by rcases hv with rfl|rfl|rfl|rfl|rfl <;> exact⟨_,rfl⟩
   exact⟨l,_,_,_,rfl,rfl,SqL.of kad,e,s1.trans n2,hand++[k],_,by rw[Np];rfl,by simp[hl],rfl⟩
  ·rintro σ ys H' ⟨s1,hand,v0,rfl,hl,rfl⟩ D hD
   exact kk _ D hand (s1.trans (kak hD)) (s1.free hD) kad hl
noncomputable def goM(T:TillD)(B:Bask)(hand:List Int)(order:List Nat):Bool:=match kbh T B hand order with
 |none=>true
 |some (_,z)=>decide (z=.str "only")
inductive kiX (d:D) (vs:List V) (H:Hp) (Q:VK) (E_:XK):Prop
 |ct (t b h o:Addr) (T:TillD) (B:Bask) (hand:List Int) (order:List Nat) (_:vs=[.ref t, .ref b, .ref h, .ref o]) (_:TillIs d H t T) (_:kbN T) (_:BaskIs d.qf d.qg H b B) (_:Wf T.ps B (stnd0 B)) (_:H h=some (.lst (hand.map V.int))) (_:H o=some (.lst (order.map iV))) (_:hand.length=T.vs.length) (_:(∀n∈order,n<T.vs.length)) (_:order.length<64) (_:∀(H':Hp) (g:Bool),Same H H'→g=goM T B hand order→Q (.bl g) H'):kiX d vs H Q E_
theorem kjU{T:TillD}{B:Bask}{hand:List Int}{order:List Nat}{k:Nat}{z:L2.V}(hf:kbh T B hand order=some (k,z)):(∃s,z=.str s)∨z=.non:=by
 unfold kbh at hf
 simp only at hf
 split at hf
 ·split at hf
  ·cases hf
  ·injection hf with hf
   injection hf with _ hz
   subst hz
   unfold dueM
   split
   ·exact .inl ⟨_,rfl⟩
   ·unfold hindM
    split
    ·exact .inl ⟨_,rfl⟩
    ·split
     ·exact .inl ⟨_,rfl⟩
     ·split
      ·exact .inl ⟨_,rfl⟩
      ·exact .inr rfl
 ·split at hf
  ·cases hf
  ·injection hf with hf
   injection hf with _ hz
   exact .inl ⟨_,hz.symm⟩
theorem V3:kap ["_law_till_here","_law_basket_here","_law_hand_here","_law_order_here","_law_found"] ["_law_till_here","_law_basket_here","_law_hand_here","_law_order_here"] (kah kcN):=⟨rfl,rfl,rfl,by decide +kernel,rfl,by decide +kernel,by decide +kernel⟩
theorem kfT(W:WB K mg d base):FnOk P w K mg base CX0 9 d.Zy d.Zz ["_law_till_here","_law_basket_here","_law_hand_here","_law_order_here"] (kiX d):=by
 refine FunD.ok W.Xa.F V3 (fun vs H Q E h=>?_) (fun cdv A outer s H vs Q E hr h=>?_)
 ·obtain⟨t,b,h,o,T,B,hand,order,rfl,_⟩:=h
  rfl
 ·obtain⟨t,b,h,o,T,B,hand,order,rfl,hT,tok,hB,wf0,hh,ho,hl,hlt,h64,kk⟩:=h
  have Qg:=kep (P:=P) (w:=w) (base:=base) W
  refine⟨_,kac (kas (i:=4) V3.nd rfl (Or.inl rfl) (kan Qg hr rfl W.qt.m W.qt.F.kp W.qt.b .nil pass0 (kaa (pv 0) (kaa (pv 1) (kaa (pv 2) (kaa (pv 3) kae))))))
   (kai (kaq (pe_or (ka7 kd5 (pv 4) ka5 (kax _)) (kgt (ka7 op_eq (pe_ix (r:=rIxT K) kd9 (pv 4) kaf (fun _ _=>rfl)) kbB (kax _)))))),?_⟩
  refine⟨_,rfl,_,rfl,_,rfl,_,rfl,t,b,h,o,T,B,hand,order,rfl,hT,tok,hB,wf0,hh,ho,hl,hlt,h64,fun H1 v s1 hF=>?_⟩
  cases e:kbh T B hand order with
  |none=>
   rw[e] at hF
   have ev:v=.non:=hF
   subst ev
   refine⟨_,rfl,rfl,_,rfl,?_⟩
   show if decide (V.non=V.non)=true then _ else _
   rw[show decide (V.non=V.non)=true by simp]
   exact iteT (kk H1 _ s1 (by unfold goM;rw[e]))
  |some p=>
   obtain⟨k,z⟩:=p
   rw[e] at hF
   obtain⟨a,rfl,ha⟩:=hF
   refine⟨_,rfl,rfl,_,rfl,?_⟩
   show if decide (V.ref a=V.non)=true then _ else _
   rw[show decide (V.ref a=V.non)=false by simp]
   refine iteF ⟨_,rfl,a,_,_,_,rfl,rfl,SqT.of ha,rfl,?_,kk H1 _ s1 (by unfold goM;rw[e])⟩
   rcases kjU e with⟨s,rfl⟩|rfl <;> rfl
theorem kjV{T:TillD}{B:Bask}{hand:List Int}:kbh T B hand []=none:=by
 have e:onlyM T.rs []=none:=by
  unfold onlyM
  rw[List.find?_eq_none.mpr fun r _=>by unfold loneM;simp]
  rfl
 have ew:walkM T B hand [] [] (stnd0 B)=([],stnd0 B):=rfl
 unfold kbh
 rw[ew]
 simp[e]
inductive khA (K:Ni) (d:D) (vs:List V) (H:Hp) (Q:VK) (E_:XK):Prop
 |ct (a t b h:Addr) (ns:List Int) (k:Int) (T:TillD) (B:Bask) (hand:List Int) (_:vs=[.ref a, .int k, .ref t, .ref b, .ref h]) (_:SqL K H a (ns.map V.int)) (_:(0≤k∧k≤900)) (_:TillIs d H t T) (_:kbN T) (_:0<T.vs.length) (_:BaskIs d.qf d.qg H b B) (_:Wf T.ps B (stnd0 B)) (_:H h=some (.lst (hand.map V.int))) (_:hand.length=T.vs.length) (_:∀(H':Hp) (o:Addr) (order:List Nat),Same H H'→H o=none→H' o=some (.lst (order.map iV))→(∀n∈order,n<T.vs.length)→order.length≤8→kbh T B hand order=none→Q (.ref o) H'):khA K d vs H Q E_
theorem Qn:kap ["_law_script","_law_k","_law_till_here","_law_basket_here","_law_hand_here","_law_order_here","_law_most","_law_j","_law_number"] ["_law_script","_law_k","_law_till_here","_law_basket_here","_law_hand_here"] (kah kcL):=⟨rfl,rfl,rfl,by decide +kernel,rfl,by decide +kernel,by decide +kernel⟩
theorem kfR(W:WB K mg d base):FnOk P w K mg base CX0 10 d.ZA d.ZC ["_law_script","_law_k","_law_till_here","_law_basket_here","_law_hand_here"] (khA K d):=by
 refine FunD.ok W.Xb.F Qn (fun vs H Q E h=>?_) (fun cdv A outer s H vs Q E hr h=>?_)
 ·obtain⟨a,t,b,h,ns,k,T,B,hand,rfl,_⟩:=h
  rfl
 ·obtain⟨a,t,b,h,ns,k,T,B,hand,rfl,hS,hk,hT,tok,hv0,hB,wf0,hh,hl,kk⟩:=h
  have qk:=kaP (P:=P) (w:=w) (base:=base) W
  have UX:=kfT (P:=P) (w:=w) (base:=base) W
  have Qg:=kep (P:=P) (w:=w) (base:=base) W
  have hr2:Room 2 _:=hr.mono (by decide)
  have hr8:Room 8 _:=hr.mono (by decide)
  refine⟨_,kac (kas (i:=5) Qn.nd rfl (Or.inl rfl) (kaL kae))
   (kac (kas (i:=6) Qn.nd rfl (Or.inl rfl) kaf)
   (kac (kdc (ps_if (PW.pt (kbU (kat op_lt (kay (r:=rSum K) (kbz rfl) (by rfl) W.B.sum b_sum (kaa (kbp (N:=["_law_line"]) (CompScope.plain rfl (by decide +kernel) (by decide +kernel) (by decide +kernel) (nd1 _)) rfl (kaJ (K:=K) (kag (K:=K) (pv 3) rfl)) (fun _ _ _ _=>kar (i:=0) (nd1 _) rfl (Or.inl rfl)) (fun _ _ _ _=>(kag (K:=K) (pv 0) rfl))) kae)) kaf (kax _)) (kbF (kat op_eq (kan qk hr2 rfl W.qd.m W.qd.F.kp W.qd.b .nil pass0 (kaa (pv 0) (kaa kaf (kaa kaf (kaa kaf kae))))) kaf (kax _))))) (kai (kas (i:=6) Qn.nd rfl (Or.inl rfl) kaf)) (kaw)))
   (kac (kbA PassesOwn.never rfl (kb3 rfl W.B.range (kaa (pe_ix (r:=rIxL K) kaD (kaL (kaa kaf (kaa kaf kae))) (kaO kdI (by rfl) W.B.int b_int (kaa (ka7 op_eq (pv 6) kaf (kax _)) kae)) (fun _ _=>rfl)) kae)) (kar (i:=7) Qn.nd rfl (Or.inl rfl))
   (kac (kas (i:=8) Qn.nd rfl (Or.inl rfl) (kan qk hr2 rfl W.qd.m W.qd.F.kp W.qd.b .nil pass0 (kaa (pv 0) (kaa (pe_op kaB (pv 1) (pv 7)) (kaa kaf (kaa (kay (r:=kbm K) kaF (by rfl) W.B.len b_len (kaa (kag (K:=K) (pv 2) rfl) kae)) kae))))))
   (kai (ps_if (PW.pt (kbU (kat op_lt (kay (r:=kbm K) kaF (by rfl) W.B.len b_len (kaa (pv 5) kae)) (pv 6) (kax _)) (kbF (kbg (kan UX hr rfl W.Xa.m W.Xa.F.kp W.Xa.b .nil pass0 (kaa (pv 2) (kaa (pv 3) (kaa (pv 4) (kaa (pe_op kd6 (pv 5) (kaL (kaa (pv 8) kae))) kae))))))))) (kai (ka0 (pe_bm N1 Ml Mm ka9 (pv 5) (kaa (pv 8) kae)))) (kaw)))))
   (kac (khO PassesOwn.never (kat kcS (kan Qg hr8 rfl W.qt.m W.qt.F.kp W.qt.b .nil pass0 (kaa (pv 2) (kaa (pv 3) (kaa (pv 4) (kaa (pv 5) kae))))) ka5 (kax _))
   (kai (ka0 (kmj N1 PySem.F.slot_list_pop PySem.F.type_list_pop kmm (pv 5)))))
   (kai (kaq (pv 5))))))),?_⟩
  try refine sN fun _ Y4=>?_
  refine⟨by decide,fun o fo=>?_⟩
  generalize hgH1:upd H o _=H1
  obtain⟨s1,(eo1:H1 o=some (.lst (([]:List Nat).map iV)))⟩:=kaK hgH1 fo
  try apply Y4
  refine⟨fun σ H'=>Same H H'∧H' o=some (.lst (([]:List Nat).map iV))∧∃m:Int,(m=5∨m=8)∧σ=[some (.ref a),some (.int k),some (.ref t),some (.ref b),some (.ref h),some (.ref o),some (.int m),none,none],?_,?_⟩
  ·obtain⟨l,ls,⟨dxb,fsb,hb,lbl,lbc,lbm⟩,hlb,hL⟩:=id (hB.same s1)
   have hll:=hL.len
   have hnl:=wf0.nl
   try apply Y4
   try refine sN fun _ Y6=>?_
   refine⟨_,rfl,b,d.qg,dxb,fsb,_,rfl,hb,W.qg.cl,W.qy,lbl,l,rfl,⟨_,SqL.of hlb⟩,kaZ (xs:=ls.map V.ref) (fun i σ ys H'=>H'=H1∧(∃zs:List Int,ys=zs.map V.int∧zs.length=i)∧∃v,σ=[v]) ⟨rfl,⟨[],rfl,rfl⟩,none,rfl⟩ (by rw[Nh,hll];exact Nw (kao (by omega))) ?_ ?_ ?_⟩
   ·rintro i σ ys H' hi ⟨rfl,⟨zs,rfl,hz⟩,_⟩
    try first|apply Y6|apply Y4
    exact⟨SqL.of hlb,by rw[Nh];exact hz⟩
   ·rintro i y σ ys H' hy ⟨rfl,⟨zs,rfl,hz⟩,v,rfl⟩
    obtain⟨lx,el,rfl⟩:=kbJ hy
    obtain⟨r,er⟩:=at_of (xs:=B.rs) (i:=i) (by have:=at_lt el;omega)
    obtain⟨dxl,fsl,hlx,lk1,lk2,lk3,lk4⟩:=hL.get el er
    try first|apply Y6|apply Y4
    exact⟨_,rfl,lx,d.qf,dxl,fsl,_,rfl,hlx,W.qf.cl,W.qF,lk3,rfl,⟨zs++[r.mn],by rw[Np];rfl,by rw[Nx,hz];rfl⟩,_,rfl⟩
   ·rintro σ ys H' ⟨rfl,⟨zs,rfl,hz⟩,v,rfl⟩ D hD
    generalize hgH2:upd H' D _=H2
    obtain⟨n2,u2⟩:=kaK hgH2 hD
    have s2:=s1.trans n2
    try first|apply Y6|apply Y4
    try refine sN fun _ Y8=>?_
    refine⟨D,_,rfl,SqL.of u2,_,_,rfl,rfl,_,rfl,ite2 (fun _=>?_) (fun _=>?_)⟩
    ·refine⟨_,rfl,a,ns,7,20,4,rfl,s2.seq hS,⟨by decide,by decide⟩,⟨by decide,by decide⟩,by decide,fun z z0 z1=>⟨rfl,_,rfl,ite2 (fun _=>?_) (fun _=>?_)⟩⟩
     ·exact⟨s2,n2 _ _ eo1,8, .inr rfl,rfl⟩
     ·exact⟨s2,n2 _ _ eo1,5, .inl rfl,rfl⟩
    ·exact iteF ⟨s2,n2 _ _ eo1,5, .inl rfl,rfl⟩
  rintro σ H1' ⟨s1',eo1',m,hm,rfl⟩
  try apply Y4
  refine⟨(by show 2≤sizeLine;decide),fun q0 hq0=>?_⟩
  generalize hgH2p:upd H1' q0 _=H2'
  obtain⟨n2,u2⟩:=kaK hgH2p hq0
  try apply Y4
  try refine sN fun _ Y4=>?_
  refine⟨_,rfl,rfl, .inr ⟨_,rfl,?_⟩⟩
  generalize decide (V.int m=V.int 8)=dm
  obtain⟨c,ec,hc⟩:∃c:Int,atI [V.int 5,V.int 12] (if dm=true then(1:Int) else 0)=some (.int c)∧0≤c∧c≤12:=by
   cases dm with
   |true=>exact⟨12,rfl,by omega,by omega⟩
   |false=>exact⟨5,rfl,by omega,by omega⟩
  try apply Y4
  try refine sN fun _ Y4=>?_
  refine⟨q0,_,_,_,rfl,rfl,SqL.of u2,ec,_,rfl,by omega,by omega,?_⟩
  try apply Y4
  refine kc1 (fun i σ H'=>Same H H'∧∃(order:List Nat) (v7 v8:Option V),H' o=some (.lst (order.map iV))∧(∀n∈order,n<T.vs.length)∧order.length≤8∧σ=[some (.ref a),some (.int k),some (.ref t),some (.ref b),some (.ref h),some (.ref o),some (.int m),v7,v8])
   ⟨s1'.trans n2,[],none,none,n2 _ _ eo1',(fun n hn=>by simp at hn),by simp,rfl⟩ ?_ ?_
  ·rintro i σ H' hi ⟨s2,order,v7,v8,eo,hlt,hle,rfl⟩
   have hi12:i<12:=by omega
   rw[Int.zero_add]
   obtain⟨dx,fs,p,vl,rl,va,ra,ht,t1,t2,t3,t4,hp,hvl,hva,hrl,hra⟩:=id (hT.same s2)
   have lva:=hva.len
   try apply Y4
   try refine sN fun _ Y6=>?_
   refine⟨_,rfl,_,rfl,_,rfl,_,_,rfl,rfl,_,rfl,t,d.qh,dx,fs,_,rfl,ht,W.qh.cl,W.qI,t2,vl,_,rfl, .inl (SqL.of hvl),a,ns,k+(i:Int),1,_,rfl,s2.seq hS,⟨by omega,by omega⟩,⟨by decide,by decide⟩,(by rw[Nh];omega),fun z z0 z1=>?_⟩
   rw[Nh,lva] at z1
   obtain⟨n,rfl⟩:=Int.eq_ofNat_of_zero_le z0
   have hn:n<T.vs.length:=by omega
   try first|apply Y6|apply Y4
   try refine sN fun _ Y6=>?_
   refine⟨_,rfl,o,_,rfl, .inl (SqL.of eo),_,rfl,_,_,rfl,rfl,_,rfl,ite2 (fun hlm=>?_) (fun _=>iteF ⟨s2,order,_,_,eo,hlt,hle,rfl⟩)⟩
   have hlm':order.length<8:=by
    have h1:(((order.map iV).length:Nat):Int)<m:=by simpa using hlm
    rw[Nh] at h1
    omega
   try first|apply Y6|apply Y4
   try refine sN fun _ Y6=>?_
   refine⟨_,rfl,_,rfl,_,rfl,_,rfl,_,rfl,(by show 1≤sizeLine;decide),fun q1 hq1=>?_⟩
   have n3:=kak (o:=.lst [V.int (n:Int)]) hq1
   try first|apply Y6|apply Y4
   try refine sN fun _ Y6=>?_
   refine⟨o,q1,_,_,rfl,rfl,n3 _ _ eo,kad,Nw (kao (by rw[Nh];show _+1≤1000;omega)),fun q2 hq2=>?_⟩
   have n4:=kak (o:=.lst (order.map iV++[V.int (n:Int)])) hq2
   have eq2:(upd (upd H' q1 (.lst [V.int (n:Int)])) q2 (.lst (order.map iV++[V.int (n:Int)]))) q2=some (.lst ((order++[n]).map iV)):=by rw[kad,Np];rfl
   have s34:=n3.trans n4
   generalize upd (upd H' q1 (.lst [V.int (n:Int)])) q2 (.lst (order.map iV++[V.int (n:Int)]))=H4 at *
   have s4:=s2.trans s34
   have eo4:=s34 _ _ eo
   have hlt':∀m∈order++[n],m<T.vs.length:=fun m hm=>by
    rcases NU.mp hm with h|h
    ·exact hlt m h
    ·have:m=n:=by simpa using h
     omega
   try first|apply Y6|apply Y4
   try refine sN fun _ Y6=>?_
   refine⟨t,b,h,q2,T,B,hand,order++[n],rfl,hT.same s4,tok,hB.same s4,wf0,s4 _ _ hh,eq2,hl,hlt',by rw[Nx];show _+1<64;omega,fun H5 g s5 _=>⟨g,rfl,?_⟩⟩
   have s05:=s4.trans s5
   have eo5:=s5 _ _ eo4
   cases g with
   |true=>
    refine iteT ?_
    try first|apply Y6|apply Y4
    try refine sN fun _ Y8=>?_
    refine⟨_,rfl, .inl ⟨rfl,_,SqL.of eo5⟩,_,rfl,o,_,_,rfl,rfl,eo5,kao (by rw[Nh];omega),?_⟩
    try first|apply Y8|apply Y6|apply Y4
    try refine sN fun _ Y8=>?_
    refine⟨kav fo s05 (nx eo5),order++[n],_,_,?_,hlt',by rw[Nx];show _+1≤_;omega,rfl⟩
    rw[kad,Np]
    rfl
   |false=>exact iteF ⟨s05,order,_,_,eo5,hlt,by omega,rfl⟩
  ·rintro σ H' ⟨s2,order,v7,v8,eo,hlt,hle,rfl⟩
   have hle8:order.length≤8:=hle
   try first|apply Y6|apply Y4
   refine khr (fun σ H'=>Same H H'∧∃(order:List Nat) (v7 v8:Option V),H' o=some (.lst (order.map iV))∧(∀n∈order,n<T.vs.length)∧order.length≤8∧σ=[some (.ref a),some (.int k),some (.ref t),some (.ref b),some (.ref h),some (.ref o),some (.int m),v7,v8])
    (fun _ H'=>match H' o with|some (.lst xs)=>xs.length|_=>0) ⟨s2,order,v7,v8,eo,hlt,hle8,rfl⟩ ?_ ?_
   ·rintro σ H3 ⟨s3,order,v7,v8,eo3,hlt,hle,rfl⟩
    try first|apply Y6|apply Y4
    try refine sN fun _ Y8=>?_
    refine⟨_,rfl,_,rfl,_,rfl,_,rfl,t,b,h,o,T,B,hand,order,rfl,hT.same s3,tok,hB.same s3,wf0,s3 _ _ hh,eo3,hl,hlt,by omega,fun H4 v s4 hF=>⟨rfl,_,rfl,?_⟩⟩
    have eo4:=s4 _ _ eo3
    cases e:kbh T B hand order with
    |none=>
     rw[e] at hF
     have ev:v=.non:=hF
     subst ev
     rw[show(!decide (V.non=V.non))=false by simp]
     refine iteF ?_
     try first|apply Y8|apply Y6|apply Y4
     exact⟨_,rfl,kk H4 o order (s3.trans s4) fo eo4 hlt hle e⟩
    | some pz=>
     obtain⟨kz,z⟩:=pz
     rw[e] at hF
     obtain⟨fa,rfl,hfa⟩:=hF
     rw[show(!decide (V.ref fa=V.non))=true by simp]
     have h0:order≠[]:=fun z=>by
      rw[z,kjV] at e
      cases e
     have hpos:0<order.length:=List.length_pos_iff.mpr h0
     obtain⟨y,ey⟩:=at_of (xs:=order) (i:=order.length-1) (by omega)
     refine iteT ?_
     try first|apply Y8|apply Y6|apply Y4
     try refine sN fun _ Y10=>?_
     refine⟨_,rfl, .inl ⟨rfl,_,SqL.of eo4⟩,o,_,iV y,rfl,rfl,eo4,(by rw[Nh,Nv,ey];rfl),?_⟩
     rw[←List.map_dropLast]
     try first|apply Y10|apply Y8|apply Y6|apply Y4
     try refine sN fun _ Y10=>?_
     refine⟨⟨kav fo (s3.trans s4) (nx eo4),order.dropLast,_,_,kad,fun n hn=>hlt n ((List.dropLast_sublist order).subset hn),by rw[EN];omega,rfl⟩,?_⟩
     show(match(upd H4 o _) o with|some (.lst xs)=>xs.length|_=>0)<(match H3 o with|some (.lst xs)=>xs.length|_=>0)
     rw[kad,eo3]
     show(order.dropLast.map iV).length<(order.map iV).length
     rw[Nh,Nh,EN]
     omega
   ·rintro σ H' Q' Q'' hq ⟨x0,g0,x1,g1,x2,g2,x3,g3,t',b',h',o',T',B',hd',od',e,a1,a2,a3,a4,a5,a6,a7,a8,a9,kz⟩
    try first|apply Y8|apply Y6|apply Y4
    try refine sN fun _ Y8=>?_
    refine⟨x0,g0,x1,g1,x2,g2,x3,g3,t',b',h',o',T',B',hd',od',e,a1,a2,a3,a4,a5,a6,a7,a8,a9,fun H1 v z1 hF=>?_⟩
    obtain⟨r,c,e2,q⟩:=kz H1 v z1 hF
    try first|apply Y8|apply Y6|apply Y4
    exact⟨r,c,e2,hq _ _ q⟩
inductive khw (K:Ni) (vs:List V) (H:Hp) (Q:VK) (E_:XK):Prop
 |ct (a:Addr) (ns:List Int) (m:Nat) (_:vs=[.ref a,iV m]) (_:SqL K H a (ns.map V.int)) (_:0<m) (_:∀(H':Hp) (l:Addr) (ra:List Addr) (rs:List Rul),Same H H'→H l=none→H' l=some (.lst (ra.map V.ref))→P2 (fun a r=>RulIs H' a r) ra rs→rs.length≤20→Q (.ref l) H'):khw K vs H Q E_
theorem Xu:kap ["_law_script","_law_many","_law_rules_here","_law_j","_law_word"] ["_law_script","_law_many"] (kah kcJ):=⟨rfl,rfl,rfl,by decide +kernel,rfl,by decide +kernel,by decide +kernel⟩
theorem kfP(W:WB K mg d base):FnOk P w K mg base CX0 3 d.Zq d.Zr ["_law_script","_law_many"] (khw K):=by
 refine FunD.ok W.Q6.F Xu (fun vs H Q E h=>?_) (fun cdv A outer s H vs Q E hr h=>?_)
 ·obtain⟨a,ns,m,rfl,_⟩:=h
  rfl
 ·obtain⟨a,ns,m,rfl,hS,hm,kk⟩:=h
  have qk:=kaP (P:=P) (w:=w) (base:=base) W
  refine⟨_,kac (kas (i:=2) Xu.nd rfl (Or.inl rfl) (kaL kae))
   (kac (kbA PassesOwn.never rfl (kb3 rfl W.B.range (kaa (kan qk hr rfl W.qd.m W.qd.F.kp W.qd.b .nil pass0 (kaa (pv 0) (kaa kaf (kaa kaf (kaa kaf kae))))) kae)) (kar (i:=3) Xu.nd rfl (Or.inl rfl))
   (kac (kas (i:=4) Xu.nd rfl (Or.inl rfl) (pe_ix (r:=rIxL K) kaD (kaL (kaa kbB (kaa kbB (kaa kbB kae)))) (kan qk hr rfl W.qd.m W.qd.F.kp W.qd.b .nil pass0 (kaa (pv 0) (kaa kaf (kaa (pe_op kaB kaf (pv 3)) (kaa kaf kae))))) (fun _ _=>rfl)))
   (kai (ka0 (pe_bm N1 Ml Mm ka9 (pv 2) (kaa (kca (kaa (pv 4) (kaa (kan qk hr rfl W.qd.m W.qd.F.kp W.qd.b .nil pass0 (kaa (pv 0) (kaa kaf (kaa (pe_op kaB kaf (pv 3)) (kaa (pv 1) kae))))) (kaa (kan qk hr rfl W.qd.m W.qd.F.kp W.qd.b .nil pass0 (kaa (pv 0) (kaa kaf (kaa (pe_op kaB kaf (pv 3)) (kaa (pv 1) kae))))) kae)))) kae))))))
   (kai (kaq (pv 2)))),?_⟩
  try refine sN fun _ Y4=>?_
  refine⟨by decide,fun l fl=>?_⟩
  generalize hgH1:upd H l _=H1
  obtain⟨s1,(el1:H1 l=some (.lst (([]:List Addr).map V.ref)))⟩:=kaK hgH1 fl
  try apply Y4
  try refine sN fun _ Y4=>?_
  refine⟨_,rfl,a,ns,5,1,4,rfl,s1.seq hS,⟨by decide,by decide⟩,⟨by decide,by decide⟩,by decide,fun c c0 c1=>⟨_,rfl,by omega,by omega,?_⟩⟩
  try apply Y4
  refine kc1 (fun i σ H'=>Same H H'∧∃(ra:List Addr) (rs:List Rul) (v3 v4:Option V),H' l=some (.lst (ra.map V.ref))∧P2 (fun a r=>RulIs H' a r) ra rs∧rs.length=i∧σ=[some (.ref a),some (iV m),some (.ref l),v3,v4])
   ⟨s1,[],[],none,none,el1, .nil,rfl,rfl⟩ ?_ ?_
  ·rintro i σ H' hi ⟨s2,ra,rs,v3,v4,el,hr,hlen,rfl⟩
   have hi4:i<4:=by omega
   rw[Int.zero_add]
   try apply Y4
   try refine sN fun _ Y6=>?_
   refine⟨(by show 3≤sizeLine;decide),fun q1 hq1=>?_⟩
   have n3:=kak (o:=.lst [V.str "only",V.str "never",V.str "ahead"]) hq1
   have e3:(upd H' q1 (.lst [V.str "only",V.str "never",V.str "ahead"])) q1=some (.lst [V.str "only",V.str "never",V.str "ahead"]):=kad
   have el3:=n3 _ _ el
   have s3:=s2.trans n3
   have hr3:P2 (fun a r=>RulIs (upd H' q1 (.lst [V.str "only",V.str "never",V.str "ahead"])) a r) ra rs:=hr.mono fun a r h=>n3 _ _ h
   clear n3
   generalize upd H' q1 (.lst [V.str "only",V.str "never",V.str "ahead"])=H3 at *
   try first|apply Y6|apply Y4
   try refine sN fun _ Y6=>?_
   refine⟨_,rfl,_,rfl,_,_,rfl,rfl,a,ns,5,10+(i:Int),3,rfl,s3.seq hS,⟨by decide,by decide⟩,⟨by omega,by omega⟩,by decide,fun z z0 z1=>?_⟩
   obtain⟨v,ev,hv⟩:∃v,atI [V.str "only",V.str "never",V.str "ahead"] z=some v∧∃w:Str,v=.str w:=by
    obtain⟨n,rfl⟩:=Int.eq_ofNat_of_zero_le z0
    have hn:n<3:=by omega
    match n,hn with
    |0,_=>exact⟨_,rfl,_,rfl⟩
    |1,_=>exact⟨_,rfl,_,rfl⟩
    |2,_=>exact⟨_,rfl,_,rfl⟩
   obtain⟨wd,rfl⟩:=hv
   try first|apply Y6|apply Y4
   try refine sN fun _ Y6=>?_
   refine⟨q1,_,_,_,rfl,rfl,SqL.of e3,ev,?_⟩
   try first|apply Y6|apply Y4
   try refine sN fun _ Y6=>?_
   refine⟨_,rfl, .inl ⟨rfl,_,SqL.of el3⟩,_,rfl,_,rfl,_,rfl,_,_,rfl,rfl,_,rfl,a,ns,5,20+(i:Int),(m:Int),rfl,s3.seq hS,⟨by decide,by decide⟩,⟨by omega,by omega⟩,by omega,fun x x0 x1=>?_⟩
   try first|apply Y6|apply Y4
   try refine sN fun _ Y6=>?_
   refine⟨_,rfl,_,rfl,_,_,rfl,rfl,_,rfl,a,ns,5,30+(i:Int),(m:Int),rfl,s3.seq hS,⟨by decide,by decide⟩,⟨by omega,by omega⟩,by omega,fun y y0 y1=>⟨(by show 3≤sizeLine;decide),fun q hq=>?_⟩⟩
   obtain⟨xn,rfl⟩:=Int.eq_ofNat_of_zero_le x0
   obtain⟨yn,rfl⟩:=Int.eq_ofNat_of_zero_le y0
   have n4:=kak (o:=.tup [V.str wd,V.int (xn:Int),V.int (yn:Int)]) hq
   have e4:(upd H3 q (.tup [V.str wd,V.int (xn:Int),V.int (yn:Int)])) q=some (.tup [V.str wd,V.int (xn:Int),V.int (yn:Int)]):=kad
   have el4:=n4 _ _ el3
   have s4:=s3.trans n4
   have hr4:P2 (fun a r=>RulIs (upd H3 q (.tup [V.str wd,V.int (xn:Int),V.int (yn:Int)])) a r) ra rs:=hr3.mono fun a r h=>n4 _ _ h
   clear n4
   generalize upd H3 q (.tup [V.str wd,V.int (xn:Int),V.int (yn:Int)])=H4 at *
   try first|apply Y6|apply Y4
   try refine sN fun _ Y6=>?_
   refine⟨l,_,_,rfl,rfl,el4,kao (by rw[Nh,hr.len];omega),?_⟩
   have b5:But l H4 (upd H4 l (.lst (ra.map V.ref++[V.ref q]))):=kau (nx el4)
   try first|apply Y6|apply Y4
   try refine sN fun _ Y6=>?_
   refine⟨kav fl s4 (nx el4),ra++[q],rs++[⟨wd,xn,yn⟩],_,_,by rw[kad,Np];rfl,P2.snoc (hr4.mono fun a r h=>b5 _ _ (ne_of h el4 (by intro z;cases z)) h) (b5 _ _ (ne_of e4 el4 (by intro z;cases z)) e4),by rw[Nx,hlen];rfl,rfl⟩
  ·rintro σ H' ⟨s2,ra,rs,v3,v4,el,hr,hlen,rfl⟩
   try first|apply Y6|apply Y4
   exact⟨_,rfl,kk H' l ra rs s2 fl el hr (by omega)⟩
inductive khF (K:Ni) (vs:List V) (H:Hp) (Q:VK) (E_:XK):Prop
 |ct (a:Addr) (ns:List Int) (k t w:Int) (_:vs=[.ref a, .int k, .int t, .int w]) (_:SqL K H a (ns.map V.int)) (_:(0≤k∧k≤1000)) (_:(0≤t∧t≤900)) (_:0≤w) (_:∀(H':Hp) (z:Int),Same H H'→0≤z→z≤1000000000000→Q (.int z) H'):khF K vs H Q E_
theorem Yi:kap ["_law_script","_law_k","_law_salt","_law_worth_here","_law_how","_law_some_here"] ["_law_script","_law_k","_law_salt","_law_worth_here"] (kah kcw):=⟨rfl,rfl,rfl,by decide +kernel,rfl,by decide +kernel,by decide +kernel⟩
theorem kde(W:WB K mg d base):FnOk P w K mg base CX0 3 d.Zk d.Zl ["_law_script","_law_k","_law_salt","_law_worth_here"] (khF K):=by
 refine FunD.ok W.qu.F Yi (fun vs H Q E h=>?_) (fun cdv A outer s H vs Q E hr h=>?_)
 ·obtain⟨a,ns,k,t,w,rfl,_⟩:=h
  rfl
 ·obtain⟨a,ns,k,t,wo,rfl,hS,hk,ht,hw,kk⟩:=h
  have qk:=kaP (P:=P) (w:=w) (base:=base) W
  refine⟨_,kac (kas (i:=4) Yi.nd rfl (Or.inl rfl) (kan qk hr rfl W.qd.m W.qd.F.kp W.qd.b .nil pass0 (kaa (pv 0) (kaa (pv 1) (kaa (pv 2) (kaa kaf kae))))))
   (kac (kas (i:=5) Yi.nd rfl (Or.inl rfl) (kaL (kaa (kan qk hr rfl W.qd.m W.qd.F.kp W.qd.b .nil pass0 (kaa (pv 0) (kaa (pv 1) (kaa (pe_op kaB (pv 2) kaf) (kaa kaf kae))))) (kaa (pv 3) (kaa (pe_op kaB (pv 3) kaf) (kaa (pe_op kdU (pv 3) kaf) (kaa (pe_op kdU (pv 3) kaf) kae)))))))
   (kac (ka0 (pe_bm N1 Ml Mm ka9 (pv 5) (kaa (kan qk hr rfl W.qd.m W.qd.F.kp W.qd.b .nil pass0 (kaa (pv 0) (kaa (pv 1) (kaa (pe_op kaB (pv 2) kaf) (kaa kaf kae))))) kae)))
   (kai (kaq (kay (ke1 rfl) (by rfl) W.B.min b_min (kaa kaf (kaa (pe_ix (r:=rIxL K) kaD (pv 5) (pv 4) (fun _ _=>rfl)) kae))))))),?_⟩
  refine⟨_,rfl,_,rfl,_,rfl,a,ns,k,t,6,rfl,hS,hk,⟨by omega,by omega⟩,by decide,fun c c0 c1=>?_⟩
  refine⟨_,rfl,_,rfl,_,rfl,_,_,rfl,rfl,a,ns,k,t+1,10,rfl,hS,hk,⟨by omega,by omega⟩,by decide,fun x x0 x1=>⟨_,rfl,_,rfl,_,_,rfl,rfl,_,rfl,_,_,rfl,rfl,⟨by decide,by decide⟩,_,rfl,_,_,rfl,rfl,⟨by decide,by decide⟩,(by show 5≤sizeLine;decide),fun l fl=>?_⟩⟩
  generalize hgH1:upd H l _=H1
  obtain⟨s1,(e1:H1 l=some (.lst ([x,wo,wo+1,wo/2,wo/5].map V.int)))⟩:=kaK hgH1 fl
  refine⟨_,rfl, .inl ⟨rfl,_,SqL.of e1⟩,_,rfl,_,rfl,_,rfl,_,_,rfl,rfl,a,ns,k,t+1,1000000,rfl,s1.seq hS,hk,⟨by omega,by omega⟩,by decide,fun y y0 y1=>⟨l,_,_,rfl,rfl,e1,kao (by show 5≤1000;decide),?_⟩⟩
  have s2:Same H (upd H1 l (.lst ([x,wo,wo+1,wo/2,wo/5].map V.int++[V.int y]))):=kav fl s1 (nx e1)
  have e2:(upd H1 l (.lst ([x,wo,wo+1,wo/2,wo/5].map V.int++[V.int y]))) l=some (.lst ([x,wo,wo+1,wo/2,wo/5,y].map V.int)):=kad
  generalize upd H1 l (.lst ([x,wo,wo+1,wo/2,wo/5].map V.int++[V.int y]))=H2 at *
  obtain⟨z,ez,hz⟩:=pickI (zs:=[x,wo,wo+1,wo/2,wo/5,y]) (m:=c) c0 (by show _<(6:Int);exact c1)
  have hz0:0≤z:=by
   simp only[NI,Mj,or_false] at hz
   omega
  refine⟨_,rfl,_,rfl,l,_,_,_,rfl,rfl,SqL.of e2,ez,_,_,rfl,kk H2 _ s2 ?_ ?_⟩
  ·split <;> omega
  ·split <;> omega
noncomputable def MkV(d:D)(H:Hp)(v:V)(M:Mks):Prop:=(v=.non∧M=mks0)∨∃mA,v=.ref mA∧MksIs d.qj H mA M
theorem MkV.same{d:D}{H H':Hp}{v:V}{M:Mks}(s:Same H H'):MkV d H v M→MkV d H' v M
 | .inl h=>.inl h
 | .inr ⟨mA,e,h⟩=>.inr ⟨mA,e,h.same s⟩
inductive khB (K:Ni) (d:D) (vs:List V) (H:Hp) (Q:VK) (E_:XK):Prop
 |ct (a:Addr) (ns:List Int) (k w:Int) (ps:List (Option Nat)) (_:vs=[.ref a, .int k,iV ps.length, .int w]) (_:SqL K H a (ns.map V.int)) (_:(0≤k∧k≤1000)) (_:0<ps.length) (_:0≤w) (_:∀(H':Hp) (v:V) (M:Mks),Same H H'→MkV d H' v M→MksOk ps M→Q v H'):khB K d vs H Q E_
theorem qQ:kap ["_law_script","_law_k","_law_kinds","_law_worth_here","_law_kind","_law_least","_law_bound","_law_bits"] ["_law_script","_law_k","_law_kinds","_law_worth_here"] (kah kcM):=⟨rfl,rfl,rfl,by decide +kernel,rfl,by decide +kernel,by decide +kernel⟩
theorem kfS(W:WB K mg d base):FnOk P w K mg base CX0 4 d.Zm d.Zn ["_law_script","_law_k","_law_kinds","_law_worth_here"] (khB K d):=by
 refine FunD.ok W.Q4.F qQ (fun vs H Q E h=>?_) (fun cdv A outer s H vs Q E hr h=>?_)
 ·obtain⟨a,ns,k,w,ps,rfl,_⟩:=h
  rfl
 ·obtain⟨a,ns,k,wo,ps,rfl,hS,hk,hp0,hw,kk⟩:=h
  have qk:=kaP (P:=P) (w:=w) (base:=base) W
  have QJ:=kde (P:=P) (w:=w) (base:=base) W
  have X3:=kdz (P:=P) (w:=w) (base:=base) W
  have hr2:Room 2 _:=hr.mono (by decide)
  refine⟨_,kac (ps_if (kat op_eq (kan qk hr2 rfl W.qd.m W.qd.F.kp W.qd.b .nil pass0 (kaa (pv 0) (kaa (pv 1) (kaa kaf (kaa kaf kae))))) kaf (kax _)) (kai (kaq ka5)) (kaw))
   (kac (kas (i:=4) qQ.nd rfl (Or.inl rfl) ka5)
   (kac (kdc (ps_if (kat op_eq (kan qk hr2 rfl W.qd.m W.qd.F.kp W.qd.b .nil pass0 (kaa (pv 0) (kaa (pv 1) (kaa kaf (kaa kaf kae))))) kaf (kax _)) (kai (kas (i:=4) qQ.nd rfl (Or.inl rfl) (kan qk hr2 rfl W.qd.m W.qd.F.kp W.qd.b .nil pass0 (kaa (pv 0) (kaa (pv 1) (kaa kaf (kaa (pv 2) kae))))))) (kaw)))
   (kac (kas (i:=5) qQ.nd rfl (Or.inl rfl) kaf)
   (kac (kdc (ps_if (kat op_eq (kan qk hr2 rfl W.qd.m W.qd.F.kp W.qd.b .nil pass0 (kaa (pv 0) (kaa (pv 1) (kaa kaf (kaa kaf kae))))) kaf (kax _)) (kai (kas (i:=5) qQ.nd rfl (Or.inl rfl) (kan QJ hr rfl W.qu.m W.qu.F.kp W.qu.b .nil pass0 (kaa (pv 0) (kaa (pv 1) (kaa kaf (kaa (pv 3) kae))))))) (kaw)))
   (kac (kas (i:=6) qQ.nd rfl (Or.inl rfl) ka5)
   (kac (kdc (ps_if (kat op_eq (kan qk hr2 rfl W.qd.m W.qd.F.kp W.qd.b .nil pass0 (kaa (pv 0) (kaa (pv 1) (kaa kaf (kaa kaf kae))))) kaf (kax _)) (kai (kas (i:=6) qQ.nd rfl (Or.inl rfl) (kan QJ hr rfl W.qu.m W.qu.F.kp W.qu.b .nil pass0 (kaa (pv 0) (kaa (pv 1) (kaa kaf (kaa (pv 3) kae))))))) (kaw)))
   (kac (kas (i:=7) qQ.nd rfl (Or.inl rfl) (kan qk hr2 rfl W.qd.m W.qd.F.kp W.qd.b .nil pass0 (kaa (pv 0) (kaa (pv 1) (kaa kaf (kaa kaf kae))))))
   (kai (kaq (kaS (W.Xi.mk' W.qj) X3 hr2 rfl W.qj.m W.Xi.b .nil pass0 (kaa (pv 4) (kaa (pv 5) (kaa (pv 6) (kaa (ka7 op_eq (pe_op keK (pv 7) kaf) kaf (kax _)) (kaa (ka7 op_eq (pe_op keK (pv 7) kaf) kaf (kax _)) (kaa (ka7 op_eq (pe_op keK (pv 7) kaf) kaf (kax _)) kae)))))))))))))))),?_⟩
  refine⟨_,rfl,_,rfl,a,ns,k,1,3,rfl,hS,hk,⟨by decide,by decide⟩,by decide,fun c c0 c1=>⟨rfl,_,rfl,ite2 (fun _=>?_) (fun _=>?_)⟩⟩
  ·exact kk H _ mks0 (Same.refl _) (.inl ⟨rfl,rfl⟩) ⟨(fun k e=>by cases e),⟨by decide,by decide⟩,(fun m e=>by cases e)⟩
  refine⟨fun σ H'=>H'=H∧∃kd:Option Nat,(∀k,kd=some k→k<ps.length)∧σ=[some (.ref a),some (.int k),some (iV ps.length),some (.int wo),some (pV kd),none,none,none],?_,?_⟩
  ·refine⟨_,rfl,_,rfl,a,ns,k,2,3,rfl,hS,hk,⟨by decide,by decide⟩,by decide,fun c c0 c1=>⟨rfl,_,rfl,ite2 (fun _=>?_) (fun _=>⟨rfl,none,(fun k e=>by cases e),rfl⟩)⟩⟩
   refine⟨_,rfl,_,rfl,_,rfl,a,ns,k,3,_,rfl,hS,hk,⟨by decide,by decide⟩,(by show(0:Int)<(ps.length:Int);omega),fun z z0 z1=>?_⟩
   obtain⟨n,rfl⟩:=Int.eq_ofNat_of_zero_le z0
   exact⟨rfl,some n,(fun k e=>by cases e;have:(n:Int)<(ps.length:Int):=z1;omega),rfl⟩
  rintro σ H' ⟨rfl,kd,hkd,rfl⟩
  refine⟨fun σ H1=>Same H' H1∧∃nd:Int,(0≤nd∧nd≤1000000000000)∧σ=[some (.ref a),some (.int k),some (iV ps.length),some (.int wo),some (pV kd),some (.int nd),none,none],?_,?_⟩
  ·refine⟨_,rfl,_,rfl,a,ns,k,4,4,rfl,hS,hk,⟨by decide,by decide⟩,by decide,fun c c0 c1=>⟨rfl,_,rfl,ite2 (fun _=>?_) (fun _=>⟨Same.refl _,0,⟨by decide,by decide⟩,rfl⟩)⟩⟩
   exact⟨_,rfl,_,rfl,_,rfl,a,ns,k,5,wo,rfl,hS,hk,⟨by decide,by decide⟩,hw,fun H1 z s1 z0 z1=>⟨s1,z,⟨z0,z1⟩,rfl⟩⟩
  rintro σ H1 ⟨s1,nd,hnd,rfl⟩
  refine⟨fun σ H2=>Same H1 H2∧∃mo:Option Int,(∀m,mo=some m→0≤m∧m≤1000000000000)∧σ=[some (.ref a),some (.int k),some (iV ps.length),some (.int wo),some (pV kd),some (.int nd),some (oV mo),none],?_,?_⟩
  ·refine⟨_,rfl,_,rfl,a,ns,k,8,3,rfl,s1.seq hS,hk,⟨by decide,by decide⟩,by decide,fun c c0 c1=>⟨rfl,_,rfl,ite2 (fun _=>?_) (fun _=>⟨Same.refl _,none,(fun m e=>by cases e),rfl⟩)⟩⟩
   exact⟨_,rfl,_,rfl,_,rfl,a,ns,k,9,wo,rfl,s1.seq hS,hk,⟨by decide,by decide⟩,hw,fun H2 z s2 z0 z1=>⟨s2,some z,(fun m e=>by cases e;exact⟨z0,z1⟩),rfl⟩⟩
  rintro σ H2 ⟨s2,mo,hmo,rfl⟩
  have s12:=s1.trans s2
  refine⟨_,rfl,_,rfl,a,ns,k,12,60,rfl,s12.seq hS,hk,⟨by decide,by decide⟩,by decide,fun bt b0 b1=>?_⟩
  refine⟨_,rfl,_,rfl,_,rfl,_,rfl,_,_,rfl,rfl,(by show(0:Int)<5;decide),rfl,_,rfl,_,_,rfl,rfl,(by show(0:Int)<4;decide),rfl,_,rfl,_,_,rfl,rfl,(by show(0:Int)<3;decide),rfl,?_⟩
  generalize decide (V.int (bt%5)=V.int 0)=m1
  generalize decide (V.int (bt%4)=V.int 0)=m2
  generalize decide (V.int (bt%3)=V.int 0)=m3
  exact kh3 (M:=⟨kd,nd,mo,m1,m2,m3⟩) fun H3 mA s3 f3 hM=>kk H3 _ _ (s12.trans s3) (.inr ⟨mA,rfl,hM⟩) ⟨hkd,hnd,hmo⟩
theorem keS{d:D}{H:Hp}{so:Srt}{is:Srt→Prop}{mv:V}{M:Mks}{R:Addr→Hp→Prop}{E:XK}(hi:is so)(hh:here so=true)(hM:MkV d H mv M)(k:∀(H':Hp) (x:Addr),Same H H'→H x=none→VchIs d H' x ⟨so,M⟩→R x H')(htb:Tbs d H:=by assumption):
  ∀x dx,H x=none→H dx=none→dx≠x→kdu (clsOf d so) d.qj is (.ref x::(kfw so++[mv])) (upd (upd H dx (.own x)) x (.ins (clsOf d so) dx [])) (fun v H2=>v=.non∧R x H2) E:=by
 rcases hM with⟨rfl,rfl⟩|⟨mA,rfl,h⟩
 ·exact klR hi hh k htb
 ·exact kmn hi hh h k htb
inductive kkZ (K:Ni) (d:D) (vs:List V) (H:Hp) (Q:VK) (E_:XK):Prop
 |ct (a:Addr) (ns:List Int) (k w:Int) (ps:List (Option Nat)) (_:vs=[.ref a, .int k,iV ps.length, .int w]) (_:SqL K H a (ns.map V.int)) (_:(0≤k∧k≤1000)) (_:0<ps.length) (_:0≤w) (_:Tbs d H) (_:∀(H':Hp) (v:Addr) (V:Vch),Same H H'→H v=none→VchIs d H' v V→VchOk ps V→Q (.ref v) H'):kkZ K d vs H Q E_
theorem Xv:kap ["_law_script","_law_k","_law_kinds","_law_worth_here","_law_marks_here","_law_how","_law_share"] ["_law_script","_law_k","_law_kinds","_law_worth_here"] (kah kci):=⟨rfl,rfl,rfl,by decide +kernel,rfl,by decide +kernel,by decide +kernel⟩
theorem keO(W:WB K mg d base):FnOk P w K mg base CX0 6 d.Zo d.Zp ["_law_script","_law_k","_law_kinds","_law_worth_here"] (kkZ K d):=by
 refine FunD.ok W.Q5.F Xv (fun vs H Q E h=>?_) (fun cdv A outer s H vs Q E hr h=>?_)
 ·obtain⟨a,ns,k,w,ps,rfl,_⟩:=h
  rfl
 ·obtain⟨a,ns,k,wo,ps,rfl,hS,hk,hp0,hw,htb0,kk⟩:=h
  have UY:=kfS (P:=P) (w:=w) (base:=base) W
  have qk:=kaP (P:=P) (w:=w) (base:=base) W
  have UZ:=kg9 (P:=P) (w:=w) (base:=base) W
  have QJ:=kde (P:=P) (w:=w) (base:=base) W
  have U0:=kfV (P:=P) (w:=w) (base:=base) W
  have U1:=kel (P:=P) (w:=w) (base:=base) W
  have U2:=kfb (P:=P) (w:=w) (base:=base) W
  have U3:=kem (P:=P) (w:=w) (base:=base) W
  have hr2:Room 2 _:=hr.mono (by decide)
  have hr3:Room 3 _:=hr.mono (by decide)
  have hr4:Room 4 _:=hr.mono (by decide)
  refine⟨_,kac (kas (i:=4) Xv.nd rfl (Or.inl rfl) (kan UY hr4 rfl W.Q4.m W.Q4.F.kp W.Q4.b .nil pass0 (kaa (pv 0) (kaa (pv 1) (kaa (pv 2) (kaa (pv 3) kae))))))
   (kac (kas (i:=5) Xv.nd rfl (Or.inl rfl) (kan qk hr2 rfl W.qd.m W.qd.F.kp W.qd.b .nil pass0 (kaa (pv 0) (kaa (pv 1) (kaa kaf (kaa kaf kae))))))
   (kac (ps_if (kat op_eq (pv 5) kaf (kax _)) (kai (kaq (kaS (W.XI.mk' W.c_Off) UZ hr rfl W.c_Off.m W.XI.b .nil pass0 (kaa (kan QJ hr3 rfl W.qu.m W.qu.F.kp W.qu.b .nil pass0 (kaa (pv 0) (kaa (pv 1) (kaa kaf (kaa (pv 3) kae))))) (kaa (pv 4) kae))))) (kaw))
   (kac (ps_if (kat op_eq (pv 5) kaf (kax _)) (kac (kas (i:=6) Xv.nd rfl (Or.inl rfl) (pe_ix (r:=rIxL K) kaD (kaL (kaa kaf (kaa kaf (kaa (pe_op kaB kaf (kan qk hr2 rfl W.qd.m W.qd.F.kp W.qd.b .nil pass0 (kaa (pv 0) (kaa (pv 1) (kaa kaf (kaa kaf kae)))))) kae)))) (kan qk hr2 rfl W.qd.m W.qd.F.kp W.qd.b .nil pass0 (kaa (pv 0) (kaa (pv 1) (kaa kaf (kaa kaf kae))))) (fun _ _=>rfl)))
   (kai (kaq (kaS (W.XJ.mk' W.ql) U0 hr rfl W.ql.m W.XJ.b .nil pass0 (kaa (pv 6) (kaa (ka7 op_eq (kan qk hr2 rfl W.qd.m W.qd.F.kp W.qd.b .nil pass0 (kaa (pv 0) (kaa (pv 1) (kaa kaf (kaa kaf kae))))) kaf (kax _)) (kaa (pv 4) kae))))))) (kaw))
   (kac (ps_if (kat op_eq (pv 5) kaf (kax _)) (kai (kaq (kaS (W.XM.mk' W.qo) U1 hr rfl W.qo.m W.XM.b .nil pass0 (kaa (pe_op kaB kaf (kan qk hr2 rfl W.qd.m W.qd.F.kp W.qd.b .nil pass0 (kaa (pv 0) (kaa (pv 1) (kaa kaf (kaa (pe_ix (r:=rIxL K) kaD (kaL (kaa kaf (kaa kaf kae))) (kan qk hr2 rfl W.qd.m W.qd.F.kp W.qd.b .nil pass0 (kaa (pv 0) (kaa (pv 1) (kaa kaf (kaa kaf kae))))) (fun _ _=>rfl)) kae)))))) (kaa (pv 4) kae))))) (kaw))
   (kac (ps_if (kat op_eq (pv 5) kaf (kax _)) (kai (kaq (kaS (W.XO.mk' W.qm) U2 hr rfl W.qm.m W.XO.b .nil pass0 (kaa (pe_op kaB kaf (kan qk hr2 rfl W.qd.m W.qd.F.kp W.qd.b .nil pass0 (kaa (pv 0) (kaa (pv 1) (kaa kaf (kaa kaf kae)))))) (kaa (kan QJ hr3 rfl W.qu.m W.qu.F.kp W.qu.b .nil pass0 (kaa (pv 0) (kaa (pv 1) (kaa kaf (kaa (pe_op kdU (pv 3) kaf) kae))))) (kaa (pv 4) kae)))))) (kaw))
   (kai (kaq (kaS (W.XQ.mk' W.qp) U3 hr rfl W.qp.m W.XQ.b .nil pass0 (kaa (pv 4) kae))))))))),?_⟩
  try refine sN fun _ Y4=>?_
  refine⟨_,rfl,_,rfl,_,rfl,_,rfl,a,ns,k,wo,ps,rfl,hS,hk,hp0,hw,fun H1 mv M s1 hM mok=>?_⟩
  try apply Y4
  try refine sN fun _ Y4=>?_
  refine⟨_,rfl,_,rfl,a,ns,k,20,5,rfl,s1.seq hS,hk,⟨by decide,by decide⟩,by decide,fun c c0 c1=>?_⟩
  have fin:∀{so:Srt} {H2:Hp},Same H H2→SrtOk so→∀(H3:Hp) (x:Addr),Same H2 H3→H2 x=none→VchIs d H3 x ⟨so,M⟩→Q (.ref x) H3:=fun {so H2} z ho H3 x s3 f3 hV=>kk H3 x _ (z.trans s3) (z.free f3) hV ⟨ho,mok⟩
  try apply Y4
  try refine sN fun _ Y4=>?_
  refine⟨_,rfl,rfl,_,rfl,ite2 (fun _=>?_) (fun _=>?_)⟩
  ·refine⟨_,rfl,_,rfl,_,rfl,a,ns,k,21,wo,rfl,s1.seq hS,hk,⟨by decide,by decide⟩,hw,fun H2 z s2 z0 z1=>⟨_,rfl,keS (so:=.off z) ⟨_,rfl⟩ rfl (hM.same s2) (fin (s1.trans s2) ⟨z0,z1⟩) (Tbs.same (s1.trans s2) htb0)⟩⟩
  try apply Y4
  try refine sN fun _ Y4=>?_
  refine⟨_,rfl,rfl,_,rfl,ite2 (fun _=>?_) (fun _=>?_)⟩
  ·refine⟨_,rfl,_,rfl,a,ns,k,23,1000,rfl,s1.seq hS,hk,⟨by decide,by decide⟩,by decide,fun x x0 x1=>⟨_,_,rfl,rfl,(by show 3≤sizeLine;decide),fun l hl=>?_⟩⟩
   have n2:=kak (o:=.lst [V.int 1,V.int 1000,V.int (1+x)]) hl
   try apply Y4
   try refine sN fun _ Y6=>?_
   refine⟨_,rfl,_,rfl,a,ns,k,24,3,rfl,(s1.trans n2).seq hS,hk,⟨by decide,by decide⟩,by decide,fun y y0 y1=>?_⟩
   obtain⟨z,ez,hz⟩:=pickI (zs:=[1,1000,1+x]) (m:=y) y0 (by show _<(3:Int);exact y1)
   have hz:1≤z∧z≤1000:=by
    simp only[NI,Mj,or_false] at hz
    omega
   try first|apply Y6|apply Y4
   try refine sN fun _ Y6=>?_
   refine⟨l,_,_,_,rfl,rfl,SqL.of kad,ez,?_⟩
   try first|apply Y6|apply Y4
   refine⟨_,rfl,_,rfl,_,rfl,a,ns,k,25,2,rfl,(s1.trans n2).seq hS,hk,⟨by decide,by decide⟩,by decide,fun b b0 b1=>⟨rfl,_,rfl,keS (so:=.share z _) ⟨_,_,rfl⟩ rfl (hM.same n2) (fin (s1.trans n2) hz) (Tbs.same (s1.trans n2) htb0)⟩⟩
  try apply Y4
  try refine sN fun _ Y4=>?_
  refine⟨_,rfl,rfl,_,rfl,ite2 (fun _=>?_) (fun _=>?_)⟩
  ·refine⟨_,rfl,_,rfl,(by show 2≤sizeLine;decide),fun l hl=>?_⟩
   have n2:=kak (o:=.lst [V.int 3,V.int 19]) hl
   try apply Y4
   try refine sN fun _ Y6=>?_
   refine⟨_,rfl,_,rfl,a,ns,k,27,2,rfl,(s1.trans n2).seq hS,hk,⟨by decide,by decide⟩,by decide,fun y y0 y1=>?_⟩
   obtain⟨z,ez,hz⟩:=pickI (zs:=[3,19]) (m:=y) y0 (by show _<(2:Int);exact y1)
   have hz:0<z∧z≤19:=by
    simp only[NI,Mj,or_false] at hz
    omega
   try first|apply Y6|apply Y4
   try refine sN fun _ Y6=>?_
   refine⟨l,_,_,_,rfl,rfl,SqL.of kad,ez,a,ns,k,26,z,rfl,(s1.trans n2).seq hS,hk,⟨by decide,by decide⟩,hz.1,fun x x0 x1=>⟨_,_,rfl,rfl,_,rfl,keS (so:=.cheap (2+x)) ⟨_,rfl⟩ rfl (hM.same n2) (fin (s1.trans n2) ⟨by omega,by omega⟩) (Tbs.same (s1.trans n2) htb0)⟩⟩
  try apply Y4
  try refine sN fun _ Y4=>?_
  refine⟨_,rfl,rfl,_,rfl,ite2 (fun _=>?_) (fun _=>?_)⟩
  ·refine⟨_,rfl,_,rfl,a,ns,k,28,4,rfl,s1.seq hS,hk,⟨by decide,by decide⟩,by decide,fun x x0 x1=>⟨_,_,rfl,rfl,_,rfl,_,rfl,_,rfl,_,_,rfl,rfl,⟨by decide,by decide⟩,a,ns,k,30,wo/3,rfl,s1.seq hS,hk,⟨by decide,by decide⟩,by omega,fun H2 z s2 z0 z1=>⟨_,rfl,keS (so:=.bund (2+x) z) ⟨_,_,rfl⟩ rfl (hM.same s2) (fin (s1.trans s2) ⟨by omega,by omega,z0,z1⟩) (Tbs.same (s1.trans s2) htb0)⟩⟩⟩
  try apply Y4
  exact⟨_,rfl,keS (so:=.carr) (is:=fun so=>so=.carr) rfl rfl hM (fin s1 trivial) (Tbs.same s1 htb0)⟩
inductive kiP (K:Ni) (d:D) (vs:List V) (H:Hp) (Q:VK) (E_:XK):Prop
 |ct (a p b:Addr) (ns:List Int) (ps:List (Option Nat)) (B:Bask) (bk:Str) (_:vs=[.ref a, .ref p, .ref b, .str bk]) (_:SqL K H a (ns.map V.int)) (_:H p=some (.lst (ps.map pV))) (_:0<ps.length) (_:BaskIs d.qf d.qg H b B) (_:B.rs.length≤12) (_:(∀r∈B.rs,r.Ok)) (_:Tbs d H) (_:∀(H':Hp) (t:Addr) (vs:List Vch) (rs:List Rul),Same H H'→H t=none→TillIs d H' t ⟨ps,vs,rs,bk⟩→kbN ⟨ps,vs,rs,bk⟩→0<vs.length→Q (.ref t) H'):kiP K d vs H Q E_
theorem Yj:kap ["_law_script","_law_parents_here","_law_basket_here","_law_back","_law_many","_law_vouchers"] ["_law_script","_law_parents_here","_law_basket_here","_law_back"] (kah kcs):=⟨rfl,rfl,rfl,by decide +kernel,rfl,by decide +kernel,by decide +kernel⟩
theorem kgx(W:WB K mg d base):FnOk P w K mg base CX0 7 d.Zu d.Zv ["_law_script","_law_parents_here","_law_basket_here","_law_back"] (kiP K d):=by
 refine FunD.ok W.Q8.F Yj (fun vs H Q E h=>?_) (fun cdv A outer s H vs Q E hr h=>?_)
 ·obtain⟨a,p,b,ns,ps,B,bk,rfl,_⟩:=h
  rfl
 ·obtain⟨a,p,b,ns,ps,B,bk,rfl,hS,hp,hp0,hB,h12,hok,htb0,kk⟩:=h
  have qk:=kaP (P:=P) (w:=w) (base:=base) W
  have U4:=keO (P:=P) (w:=w) (base:=base) W
  have U5:=kfM (P:=P) (w:=w) (base:=base) W
  have QG:=kcU (P:=P) (w:=w) (base:=base) W
  have U6:=kfP (P:=P) (w:=w) (base:=base) W
  have hr1:Room 1 _:=hr.mono (by decide)
  have hr2:Room 2 _:=hr.mono (by decide)
  have hr3:Room 3 _:=hr.mono (by decide)
  refine⟨_,kac (kas (i:=4) Yj.nd rfl (Or.inl rfl) (pe_op kaB kaf (kan qk hr2 rfl W.qd.m W.qd.F.kp W.qd.b .nil pass0 (kaa (pv 0) (kaa kaf (kaa kaf (kaa kaf kae)))))))
   (kac (kdS (N:=["_law_j","_law_script","_law_parents_here","_law_basket_here"]) (CompScope.of (N:=["_law_j","_law_script","_law_parents_here","_law_basket_here"]) (cap:=[none,some 0,some 1,some 2]) (kah kcs).names ["_law_script","_law_parents_here","_law_basket_here","_law_back","_law_many","_law_vouchers"] rfl rfl (by decide +kernel)) rfl (kb3 rfl W.B.range (kaa (pv 4) kae)) (fun _ _ _ _=>kar (i:=0) (show(["_law_j","_law_script","_law_parents_here","_law_basket_here"]:List Str).Nodup by decide +kernel) rfl (Or.inl rfl)) (fun _ _ _ _=>(kan U4 hr rfl W.Q5.m W.Q5.F.kp W.Q5.b .nil pass0 (kaa (pv 1) (kaa (pe_op kaB kaf (pv 0)) (kaa (kay (r:=kbm K) kaF (by rfl) W.B.len b_len (kaa (pv 2) kae)) (kaa (kan U5 hr1 rfl W.Q7.m W.Q7.F.kp W.Q7.b .nil pass0 (kaa (pv 3) kae)) kae)))))) (kar (i:=5) Yj.nd rfl (Or.inl rfl)))
   (kai (kaq (kaS (W.Qd.mk' W.qh) QG hr2 rfl W.qh.m W.Qd.b .nil pass0 (kaa (pv 1) (kaa (pv 5) (kaa (kan U6 hr3 rfl W.Q6.m W.Q6.F.kp W.Q6.b .nil pass0 (kaa (pv 0) (kaa (pv 4) kae))) (kaa (pv 3) kae)))))))),?_⟩
  try refine sN fun _ Y4=>?_
  refine⟨_,rfl,a,ns,0,2,4,rfl,hS,⟨by decide,by decide⟩,⟨by decide,by decide⟩,by decide,fun z z0 z1=>⟨_,_,rfl,rfl,?_⟩⟩
  obtain⟨zn,rfl⟩:=Int.eq_ofNat_of_zero_le z0
  dsimp only
  rw[show(1:Int)+(zn:Int)=((1+zn:Nat):Int) by omega]
  have hm:1+zn≤4:=by omega
  have hm0:0<1+zn:=by omega
  generalize 1+zn=m at *
  try apply Y4
  try refine sN fun _ Y4=>?_
  refine⟨_,rfl,_,rfl,by omega,by omega,?_⟩
  rw[Int.toNat_natCast]
  try apply Y4
  refine kfn (fun i σ ys H'=>Same H H'∧∃(va:List Addr) (Vs:List Vch) (v0:Option V),ys=va.map V.ref∧P2 (fun a V=>VchIs d H' a V) va Vs∧(∀V∈Vs,VchOk ps V)∧Vs.length=i∧σ=[v0,some (.ref a),some (.ref p),some (.ref b)])
   ⟨Same.refl _,[],[],none,rfl, .nil,(fun V hV=>by simp at hV),rfl,rfl⟩ (Nw (kao (by omega))) (fun i σ ys H' hi h=>by obtain⟨_,va,Vs,v0,rfl,hP,_,hl,_⟩:=h;rw[Nh,hP.len];exact hl) ?_ ?_
  ·rintro i σ ys H' hi ⟨s1,va,Vs,v0,rfl,hP,hvo,hl,rfl⟩
   rw[Int.zero_add]
   try apply Y4
   try refine sN fun _ Y6=>?_
   refine⟨_,rfl,_,rfl,_,_,rfl,rfl,_,rfl,p,_,rfl, .inl (SqL.of (s1 _ _ hp)),_,rfl,b,B,rfl,hB.same s1,h12,hok,fun H3 s3 hw=>?_⟩
   have s13:=s1.trans s3
   try first|apply Y6|apply Y4
   try refine sN fun _ Y6=>?_
   refine⟨a,ns,1+(i:Int),_,ps,(by rw[Nh];rfl),s13.seq hS,⟨by omega,by omega⟩,hp0,hw,Tbs.same s13 htb0,fun H4 v Vc s4 f4 hV vo=>?_⟩
   try first|apply Y6|apply Y4
   try refine sN fun _ Y6=>?_
   refine⟨s13.trans s4,va++[v],Vs++[Vc],_,by rw[Np];rfl,P2.snoc (hP.mono fun a V h=>(h.same s3).same s4) hV,fun V hV'=>?_,by simp[hl],rfl⟩
   rcases NU.mp hV' with h|h
   ·exact hvo V h
   ·have e:V=Vc:=by simpa using h
    rw[e]
    try first|apply Y6|apply Y4
    exact vo
  ·rintro σ ys H' ⟨s1,va,Vs,v0,rfl,hP,hvo,hl,rfl⟩ D hD
   have n2:=kak (o:=.lst (va.map V.ref)) hD
   have s2:=s1.trans n2
   have eD:(upd H' D (.lst (va.map V.ref))) D=some (.lst (va.map V.ref)):=kad
   have hP2:P2 (fun a c=>VchIs d (upd H' D (.lst (va.map V.ref))) a c) va Vs:=hP.mono fun a c h=>h.same n2
   clear n2
   generalize upd H' D (.lst (va.map V.ref))=H2 at *
   try first|apply Y6|apply Y4
   try refine sN fun _ Y6=>?_
   refine⟨_,rfl,_,rfl,_,rfl,_,rfl,a,ns,m,rfl,s2.seq hS,hm0,fun H5 rl ra rs s5 f5 h5 hr hlen=>⟨_,rfl,kjv (T:=⟨ps,Vs,rs,bk⟩) ((s2.trans s5) _ _ hp) (s5 _ _ eD) (hP2.mono fun a V h=>h.same s5) h5 hr fun H6 t s6 f6 hT=>?_⟩⟩
   have s26:=(s2.trans s5).trans s6
   try first|apply Y6|apply Y4
   exact kk H6 t Vs rs s26 ((s2.trans s5).free f6) hT ⟨hvo,by show Vs.length≤8;omega⟩ (by omega)
theorem P2.ins{α β:Type}{R: α→β→Prop}{a: α}{b: β}(hab:R a b):∀{as:List α} {bs:List β},P2 R as bs→∀k,P2 R (as.take k++a::as.drop k) (bs.take k++b::bs.drop k)
 |_,_, .nil,k=>by
  cases k <;> exact .cons hab .nil
 |_,_, .cons h t,0=>.cons hab (.cons h t)
 |_,_, .cons h t,k+1=>.cons h (P2.ins hab t k)
theorem P2.app{α β:Type}{R: α→β→Prop}{as':List α}{bs':List β}(h':P2 R as' bs'):∀{as:List α} {bs:List β},P2 R as bs→P2 R (as++as') (bs++bs')
 |_,_, .nil=>h'
 |_,_, .cons h t=>.cons h (P2.app h' t)
theorem P2.tk{α β:Type}{R: α→β→Prop}:∀{as:List α} {bs:List β},P2 R as bs→∀k,P2 R (as.take k) (bs.take k)
 |_,_, .nil,k=>by
  rw[List.take_nil,List.take_nil]
  exact .nil
 |_,_, .cons _ _,0=>.nil
 |_,_, .cons h t,k+1=>.cons h (P2.tk t k)
theorem khW:∀(rs:List Row) (k:Nat),(∀r∈rs,0≤r.mn)→(((rs.zipIdx k).map fun p=>Nl p.1.mn.toNat p.2).flatten.length:Int)=(rs.map fun r=>r.mn).sum
 |[],_,_=>by simp
 |r::rs,k,h=>by
  have h1:=h r NL
  have ih:=khW rs (k+1) fun q hq=>h q (NF _ hq)
  rw[Eu,NC,NR,Nx,Mi,NC,N9]
  simp only
  omega
theorem kjp(rs:List Row)(h:∀r∈rs,0≤r.mn):((ownN rs).length:Int)=(rs.map fun r=>r.mn).sum:=khW rs 0 h
theorem kkD{α:Type}{a x: α}{l:List α}{k:Nat}(h:x∈l.take k++a::l.drop k):x=a∨x∈l:=by
 rcases NU.mp h with h|h
 ·exact .inr (MM h)
 ·rcases NI.mp h with h|h
  ·exact .inl h
  ·exact .inr (Ey h)
theorem klz{r:Row}{rs:List Row}{k:Nat}:((rs.take k++r::rs.drop k).map fun r=>r.mn).sum=(rs.map fun r=>r.mn).sum+r.mn:=by
 have e:(rs.map fun r=>r.mn).sum=((rs.take k).map fun r=>r.mn).sum+((rs.drop k).map fun r=>r.mn).sum:=by
  rw[←Mg,←Np,Ex]
 rw[e,Np,NC,Mg,N9]
 omega
inductive kk8 (K:Ni) (CL CB:Addr) (vs:List V) (H:Hp) (Q:VK) (E_:XK):Prop
 |ct (a:Addr) (ns:List Int) (n:Nat) (_:vs=[.ref a,iV n]) (_:SqL K H a (ns.map V.int)) (_:0<n) (_:∀(H':Hp) (b:Addr) (B:Bask),Same H H'→H b=none→BaskIs CL CB H' b B→B.rs.length≤12→(∀r∈B.rs,r.Ok)→(∀r∈B.rs,0≤r.kd∧r.kd<(n:Int))→0≤B.cg∧B.cg≤1000000000000→(ownN B.rs).length<64→Q (.ref b) H'):kk8 K CL CB vs H Q E_
theorem qw:kap ["_law_script","_law_kinds","_law_lines","_law_wide","_law_salt","_law_j","_law_many","_law_extra","_law_price_here","_law_pieces"] ["_law_script","_law_kinds"] (kah kcv):=⟨rfl,rfl,rfl,by decide +kernel,rfl,by decide +kernel,by decide +kernel⟩
theorem kfa(W:WB K mg d base):FnOk P w K mg base CX0 4 d.Zi d.Zj ["_law_script","_law_kinds"] (kk8 K d.qf d.qg):=by
 refine FunD.ok W.Q3.F qw (fun vs H Q E h=>?_) (fun cdv A outer s H vs Q E hr h=>?_)
 ·obtain⟨a,ns,n,rfl,_⟩:=h
  rfl
 ·obtain⟨a,ns,n,rfl,hS,hn0,kk⟩:=h
  have qk:=kaP (P:=P) (w:=w) (base:=base) W
  have Yk:=kfQ (P:=P) (w:=w) (base:=base) W
  have QH:=kcV (P:=P) (w:=w) (base:=base) W
  have Qh:=kbH (P:=P) (w:=w) (base:=base) W
  have hr2:Room 2 _:=hr.mono (by decide)
  refine⟨_,kac (kas (i:=2) qw.nd rfl (Or.inl rfl) (kaL kae))
   (kac (kas (i:=3) qw.nd rfl (Or.inl rfl) (ka7 op_eq (kan qk hr2 rfl W.qd.m W.qd.F.kp W.qd.b .nil pass0 (kaa (pv 0) (kaa kaf (kaa kaf (kaa kaf kae))))) kaf (kax _)))
   (kac (kas (i:=4) qw.nd rfl (Or.inl rfl) (pe_op kcb kaf (kaO kdI (by rfl) W.B.int b_int (kaa (pv 3) kae))))
   (kac (kbA PassesOwn.never rfl (kb3 rfl W.B.range (kaa (pe_ix (r:=rIxL K) kaD (kaL (kaa (kan qk hr2 rfl W.qd.m W.qd.F.kp W.qd.b .nil pass0 (kaa (pv 0) (kaa kaf (kaa kaf (kaa kaf kae))))) (kaa (pe_op kaB kaf (kan qk hr2 rfl W.qd.m W.qd.F.kp W.qd.b .nil pass0 (kaa (pv 0) (kaa kaf (kaa kaf (kaa kaf kae)))))) kae))) (kaO kdI (by rfl) W.B.int b_int (kaa (pv 3) kae)) (fun _ _=>rfl)) kae)) (kar (i:=5) qw.nd rfl (Or.inl rfl))
   (kac (kas (i:=6) qw.nd rfl (Or.inl rfl) (pe_op kaB kaf (kan qk hr2 rfl W.qd.m W.qd.F.kp W.qd.b .nil pass0 (kaa (pv 0) (kaa kaf (kaa (pe_op kaB kaf (pv 5)) (kaa kaf kae)))))))
   (kac (kdc (ps_if (kat op_lt (kan qk hr2 rfl W.qd.m W.qd.F.kp W.qd.b .nil pass0 (kaa (pv 0) (kaa kaf (kaa (pe_op kaB kaf (pv 5)) (kaa kaf kae))))) kaf (kax _)) (kai (kas (i:=6) qw.nd rfl (Or.inl rfl) (pe_ix (r:=rIxL K) kaD (kaL (kaa kaf (kaa (pe_ix (r:=rIxL K) kaD (kaL (kaa kaf (kaa kaf kae))) (kaO kdI (by rfl) W.B.int b_int (kaa (ka7 op_gt (pv 5) kaf (kax _)) kae)) (fun _ _=>rfl)) kae))) (kan qk hr2 rfl W.qd.m W.qd.F.kp W.qd.b .nil pass0 (kaa (pv 0) (kaa kaf (kaa (pe_op kaB kaf (pv 5)) (kaa kaf kae))))) (fun _ _=>rfl)))) (kaw)))
   (kac (kdc (ps_if (kbg (pv 3)) (kai (kas (i:=6) qw.nd rfl (Or.inl rfl) (kan qk hr2 rfl W.qd.m W.qd.F.kp W.qd.b .nil pass0 (kaa (pv 0) (kaa kaf (kaa (pe_op kaB (pe_op kaB (pv 4) kaf) (pv 5)) (kaa kaf kae))))))) (kaw)))
   (kac (kas (i:=7) qw.nd rfl (Or.inl rfl) ka5)
   (kac (kdc (ps_if (kat op_eq (kan qk hr2 rfl W.qd.m W.qd.F.kp W.qd.b .nil pass0 (kaa (pv 0) (kaa kaf (kaa (pe_op kaB (pe_op kaB (pv 4) kaf) (pv 5)) (kaa kaf kae))))) kaf (kax _)) (kai (kas (i:=7) qw.nd rfl (Or.inl rfl) (kan Yk hr rfl W.qB.m W.qB.F.kp W.qB.b .nil pass0 (kaa (pv 0) (kaa kaf (kaa (pe_op kaB (pe_op kaB (pv 4) kaf) (pe_op kcb kaf (pv 5))) kae)))))) (kaw)))
   (kac (kas (i:=8) qw.nd rfl (Or.inl rfl) (kan Yk hr rfl W.qB.m W.qB.F.kp W.qB.b .nil pass0 (kaa (pv 0) (kaa kaf (kaa (pe_op kaB (pe_op kaB (pv 4) kaf) (pe_op kcb kaf (pv 5))) kae)))))
   (kai (ka0 (pe_bm N1 Ml Mm ka9 (pv 2) (kaa (kaS (W.qY.mk' W.qf) QH hr2 rfl W.qf.m W.qY.b .nil pass0 (kaa (kan qk hr2 rfl W.qd.m W.qd.F.kp W.qd.b .nil pass0 (kaa (pv 0) (kaa kaf (kaa (pe_op kaB (pe_op kaB (pv 4) kaf) (pv 5)) (kaa (pv 1) kae))))) (kaa (pv 8) (kaa (pv 6) (kaa (pv 7) kae))))) kae)))))))))))
   (kac (kas (i:=9) qw.nd rfl (Or.inl rfl) (kay (r:=rSum K) (kbz rfl) (by rfl) W.B.sum b_sum (kaa (kbp (N:=["_law_line"]) (CompScope.plain rfl (by decide +kernel) (by decide +kernel) (by decide +kernel) (nd1 _)) rfl (kaJ (K:=K) (pe_op kd6 (pv 2) (kc6 (r:=rSlL K) kdM (pv 2) kfI (kcQ kaf)))) (fun _ _ _ _=>kar (i:=0) (nd1 _) rfl (Or.inl rfl)) (fun _ _ _ _=>(kag (K:=K) (pv 0) rfl))) kae)))
   (kac (kdc (ps_if (PW.pt (kbU (kki op_lt op_lt kaf (kay (r:=kbm K) kaF (by rfl) W.B.len b_len (kaa (pv 2) kae)) kaf) (kbU (kat op_lt (pv 9) kaf (kax _)) (kbF (kat op_eq (kan qk hr2 rfl W.qd.m W.qd.F.kp W.qd.b .nil pass0 (kaa (pv 0) (kaa kaf (kaa kaf (kaa kaf kae))))) kaf (kax _)))))) (kai (ka0 (pe_bm N1 PySem.F.slot_list_insert PySem.F.type_list_insert kju (pv 2) (kaa (kan qk hr2 rfl W.qd.m W.qd.F.kp W.qd.b .nil pass0 (kaa (pv 0) (kaa kaf (kaa kaf (kaa (pe_op kaB (kay (r:=kbm K) kaF (by rfl) W.B.len b_len (kaa (pv 2) kae)) kaf) kae))))) (kaa (pe_ix (r:=rIxL K) kaD (pv 2) kaf (fun _ _=>rfl)) kae))))) (kaw)))
   (kai (kaq (kaS (W.qG.mk' W.qg) Qh hr2 rfl W.qg.m W.qG.b .nil pass0 (kaa (pv 2) (kaa (kan Yk hr rfl W.qB.m W.qB.F.kp W.qB.b .nil pass0 (kaa (pv 0) (kaa kaf (kaa kaf kae)))) (kaa (ka7 op_eq (kan qk hr2 rfl W.qd.m W.qd.F.kp W.qd.b .nil pass0 (kaa (pv 0) (kaa kaf (kaa kaf (kaa kaf kae))))) kaf (kax _)) kae))))))))))),?_⟩
  try refine sN fun _ Y4=>?_
  refine⟨by decide,fun l fl=>?_⟩
  generalize hgH1:upd H l _=H1
  obtain⟨s1,(el1:H1 l=some (.lst (([]:List Addr).map V.ref)))⟩:=kaK hgH1 fl
  try apply Y4
  try refine sN fun _ Y4=>?_
  refine⟨_,rfl,a,ns,6,99,16,rfl,s1.seq hS,⟨by decide,by decide⟩,⟨by decide,by decide⟩,by decide,fun w0 _ _=>⟨rfl,?_⟩⟩
  generalize decide (V.int w0=V.int 0)=wd
  try apply Y4
  try refine sN fun _ Y4=>?_
  refine⟨_,rfl, .inr ⟨wd,rfl,_,_,rfl,rfl, .inl ⟨by decide,by decide⟩,?_⟩⟩
  dsimp only
  have hsl:0≤200*(if wd=true then(1:Int) else 0)∧200*(if wd=true then(1:Int) else 0)≤200:=by split <;> omega
  generalize 200*(if wd=true then(1:Int) else 0)=sl at *
  try apply Y4
  try refine sN fun _ Y4=>?_
  refine⟨_,rfl,a,ns,6,1,5,rfl,s1.seq hS,⟨by decide,by decide⟩,⟨by decide,by decide⟩,by decide,fun x x0 x1=>⟨_,rfl,a,ns,6,1,5,rfl,s1.seq hS,⟨by decide,by decide⟩,⟨by decide,by decide⟩,by decide,fun y y0 y1=>⟨_,_,rfl,rfl,(by show 2≤sizeLine;decide),fun q0 hq0=>?_⟩⟩⟩
  have n2:=kak (o:=.lst [V.int x,V.int (8+y)]) hq0
  obtain⟨c,ec,hc0,hc1,hcw⟩:∃c:Int,atI [V.int x,V.int (8+y)] (if wd=true then(1:Int) else 0)=some (.int c)∧0≤c∧c≤12∧(wd=false→c≤4):=by
   cases wd with
   |true=>exact⟨8+y,rfl,by omega,by omega,fun e=>by cases e⟩
   |false=>exact⟨x,rfl,by omega,by omega,fun _=>by omega⟩
  try apply Y4
  try refine sN fun _ Y4=>?_
  refine⟨_,rfl, .inr ⟨wd,rfl,q0,_,_,_,rfl,rfl,SqL.of kad,ec,_,rfl,by omega,by omega,?_⟩⟩
  have s2:=s1.trans n2
  have el2:=n2 _ _ el1
  clear n2
  generalize upd H1 q0 (.lst [V.int x,V.int (8+y)])=H2 at *
  try apply Y4
  refine kc1 (fun i σ H'=>Same H H'∧∃(ls:List Addr) (rs:List Row) (v5 v6 v7 v8:Option V),H' l=some (.lst (ls.map V.ref))∧Lines d.qf H' ls rs∧rs.length=i∧(∀r∈rs,r.Ok)∧(∀r∈rs,0≤r.kd∧r.kd<(n:Int))∧(rs.map fun r=>r.mn).sum≤(if wd=true then 1 else 15)*(i:Int)∧σ=[some (.ref a),some (iV n),some (.ref l),some (.bl wd),some (.int sl),v5,v6,v7,v8,none])
   ⟨s2,[],[],none,none,none,none,el2, .nil,rfl,(fun r hr=>by simp at hr),(fun r hr=>by simp at hr),by simp,rfl⟩ ?_ ?_
  ·rintro i σ H' hi ⟨s3,ls,rs,v5,v6,v7,v8,el,hL,hlen,hok,hkd,hsum,rfl⟩
   have hi12:i<12:=by omega
   rw[Int.zero_add]
   try apply Y4
   try refine sN fun _ Y6=>?_
   refine⟨_,rfl,_,rfl,_,_,rfl,rfl,a,ns,6,10+(i:Int),4,rfl,s3.seq hS,⟨by decide,by decide⟩,⟨by omega,by omega⟩,by decide,fun m0 m00 m01=>⟨_,_,rfl,rfl,?_⟩⟩
   try first|apply Y6|apply Y4
   try refine sN fun _ Y6=>?_
   refine⟨fun σ H4=>Same H' H4∧∃m:Int,0≤m∧m≤15∧σ=[some (.ref a),some (iV n),some (.ref l),some (.bl wd),some (.int sl),some (.int (i:Int)),some (.int m),v7,v8,none],?_,?_⟩
   ·refine⟨_,rfl,_,rfl,_,_,rfl,rfl,a,ns,6,20+(i:Int),8,rfl,s3.seq hS,⟨by decide,by decide⟩,⟨by omega,by omega⟩,by decide,fun t t0 t1=>⟨_,_,rfl,rfl,_,rfl,ite2 (fun _=>?_) (fun _=>⟨Same.refl _,1+m0,by omega,by omega,rfl⟩)⟩⟩
    try first|apply Y6|apply Y4
    try refine sN fun _ Y8=>?_
    refine⟨(by show 2≤sizeLine;decide),fun q' hq'=>?_⟩
    generalize hgH3:upd H' q' _=H3
    obtain⟨n3,u3⟩:=kaK hgH3 hq'
    try first|apply Y8|apply Y6|apply Y4
    try refine sN fun _ Y8=>?_
    refine⟨_,rfl,_,_,rfl,rfl, .inr ⟨_,rfl,?_⟩⟩
    generalize decide ((i:Int) > 0)=dj
    obtain⟨c',ec',hc'⟩:∃c':Int,atI [V.int 15,V.int 3] (if dj=true then(1:Int) else 0)=some (.int c')∧0≤c'∧c'≤15:=by
     cases dj with
     |true=>exact⟨3,rfl,by omega,by omega⟩
     |false=>exact⟨15,rfl,by omega,by omega⟩
    try first|apply Y8|apply Y6|apply Y4
    try refine sN fun _ Y8=>?_
    refine⟨q',_,_,_,rfl,rfl,SqL.of u3,ec',(by show 2≤sizeLine;decide),fun q hq=>?_⟩
    have n4:=n3.trans (kak (o:=.lst [V.int 0,V.int c']) hq)
    try first|apply Y8|apply Y6|apply Y4
    try refine sN fun _ Y8=>?_
    refine⟨_,rfl,_,rfl,_,_,rfl,rfl,a,ns,6,25+(i:Int),2,rfl,(s3.trans n4).seq hS,⟨by decide,by decide⟩,⟨by omega,by omega⟩,by decide,fun u u0 u1=>?_⟩
    obtain⟨z,ez,hz⟩:=pickI (zs:=[0,c']) (m:=u) u0 (by show _<(2:Int);exact u1)
    have hz:0≤z∧z≤15:=by
     simp only[NI,Mj,or_false] at hz
     omega
    try first|apply Y8|apply Y6|apply Y4
    exact⟨q,_,_,_,rfl,rfl,SqL.of kad,ez,n4,z,hz.1,hz.2,rfl⟩
   rintro σ H4 ⟨s4,m1,m10,m11,rfl⟩
   have s34:=s3.trans s4
   try first|apply Y6|apply Y4
   try refine sN fun _ Y6=>?_
   refine⟨fun σ H5=>H5=H4∧∃m:Int,0≤m∧m≤(if wd=true then 1 else 15)∧σ=[some (.ref a),some (iV n),some (.ref l),some (.bl wd),some (.int sl),some (.int (i:Int)),some (.int m),v7,v8,none],?_,?_⟩
   ·refine⟨_,rfl,wd,rfl,?_⟩
    cases wd with
    |true=>
     refine iteT ?_
     try first|apply Y6|apply Y4
     exact⟨_,rfl,_,rfl,_,_,rfl,rfl,_,rfl,_,_,rfl,rfl,a,ns,6,sl+10+(i:Int),2,rfl,s34.seq hS,⟨by decide,by decide⟩,⟨by omega,by omega⟩,by decide,fun u u0 u1=>⟨rfl,u,u0,by show u≤1;omega,rfl⟩⟩
    |false=>exact iteF ⟨rfl,m1,m10,m11,rfl⟩
   rintro σ H5 ⟨rfl,m,hm0,hm1,rfl⟩
   have hm60:m≤60:=by
    split at hm1 <;> omega
   try first|apply Y6|apply Y4
   refine⟨fun σ H6=>H6=H5∧∃ex:Option Int,(∀z,ex=some z→0≤z∧z≤1000000000000)∧σ=[some (.ref a),some (iV n),some (.ref l),some (.bl wd),some (.int sl),some (.int (i:Int)),some (.int m),some (oV ex),v8,none],?_,?_⟩
   ·refine⟨_,rfl,_,rfl,_,_,rfl,rfl,_,rfl,_,_,rfl,rfl,a,ns,6,sl+30+(i:Int),3,rfl,s34.seq hS,⟨by decide,by decide⟩,⟨by omega,by omega⟩,by decide,fun u u0 u1=>⟨rfl,_,rfl,ite2 (fun _=>?_) (fun _=>⟨rfl,none,(fun z e=>by cases e),rfl⟩)⟩⟩
    try first|apply Y6|apply Y4
    exact⟨_,rfl,_,rfl,_,_,rfl,rfl,_,rfl,_,_,rfl,rfl, .inl ⟨by decide,by decide⟩,_,_,rfl,rfl,a,ns,6,sl+40+3*(i:Int),rfl,s34.seq hS,⟨by decide,by decide⟩,⟨by omega,by omega⟩,fun z z0 z1=>⟨rfl,some z,(fun y e=>by cases e;exact⟨z0,z1⟩),rfl⟩⟩
   rintro σ H6 ⟨rfl,ex,hex,rfl⟩
   try first|apply Y6|apply Y4
   refine⟨_,rfl,_,rfl,_,_,rfl,rfl,_,rfl,_,_,rfl,rfl, .inl ⟨by decide,by decide⟩,_,_,rfl,rfl,a,ns,6,sl+80+3*(i:Int),rfl,s34.seq hS,⟨by decide,by decide⟩,⟨by omega,by omega⟩,fun pz pz0 pz1=>?_⟩
   have el6:=s4 _ _ el
   try first|apply Y6|apply Y4
   refine⟨_,rfl, .inl ⟨rfl,_,SqL.of el6⟩,_,rfl,_,rfl,_,_,rfl,rfl,_,rfl,_,_,rfl,rfl,_,rfl,a,ns,6,sl+60+(i:Int),(n:Int),rfl,s34.seq hS,⟨by decide,by decide⟩,⟨by omega,by omega⟩,by omega,fun kd kd0 kd1=>⟨_,rfl,_,rfl,_,rfl,kha (r:=⟨kd,pz,m,ex⟩) fun H7 ln s7 f7 hln=>?_⟩⟩
   have el7:=s7 _ _ el6
   have s37:=s34.trans s7
   try first|apply Y6|apply Y4
   try refine sN fun _ Y6=>?_
   refine⟨l,_,_,rfl,rfl,el7,kao (by rw[Nh,hL.len];omega),?_⟩
   try first|apply Y6|apply Y4
   try refine sN fun _ Y6=>?_
   refine⟨kav fl s37 (nx el7),ls++[ln],rs++[⟨kd,pz,m,ex⟩],_,_,_,_,by rw[kad,Np];rfl,P2.snoc ((Lines.same (s4.trans s7) hL).set el7) (hln.set el7),by rw[Nx,hlen];rfl,fun r hr=>?_,fun r hr=>?_,?_,rfl⟩
   ·rcases NU.mp hr with h|h
    ·exact hok r h
    ·have e:r=⟨kd,pz,m,ex⟩:=by simpa using h
     rw[e]
     try first|apply Y6|apply Y4
     exact⟨pz0,pz1,hm0,hm60,hex⟩
   ·rcases NU.mp hr with h|h
    ·exact hkd r h
    ·have e:r=⟨kd,pz,m,ex⟩:=by simpa using h
     rw[e]
     try first|apply Y6|apply Y4
     exact⟨kd0,kd1⟩
   ·rw[Np,Mg]
    show _+(m+0)≤_
    cases wd with
    |true=>simp only[if_true] at hsum hm1⊢;omega
    |false=>simp only[Md,if_false] at hsum hm1⊢;omega
  ·rintro σ H' ⟨s3,ls,rs,v5,v6,v7,v8,el,hL,hlen,hok,hkd,hsum,rfl⟩
   have hlen12:rs.length≤12:=by omega
   have hs60:(rs.map fun r=>r.mn).sum≤60:=by
    cases wd with
    |true=>simp only[if_true] at hsum;omega
    |false=>
     simp only[Md,if_false] at hsum
     have:=hcw rfl
     omega
   have hown:=kjp rs fun r hr=>(hok r hr).mn0
   try first|apply Y6|apply Y4
   try refine sN fun _ Y6=>?_
   refine⟨_,rfl,_,rfl,_,rfl,l,_,rfl,SqL.of el,fun q1 hq1=>?_⟩
   have ecut:cutV (ls.map V.ref) none (some 1)=(ls.take 1).map V.ref:=by
    show cutV (ls.map V.ref) none (some ((1:Nat):Int))=_
    rw[kj1,MH]
   rw[ecut]
   have n4:=kak (o:=.lst ((ls.take 1).map V.ref)) hq1
   have e4:(upd H' q1 (.lst ((ls.take 1).map V.ref))) q1=some (.lst ((ls.take 1).map V.ref)):=kad
   have el4:=n4 _ _ el
   have hL4:=Lines.same n4 hL
   have s4:=s3.trans n4
   clear n4
   generalize upd H' q1 (.lst ((ls.take 1).map V.ref))=H4 at *
   try first|apply Y6|apply Y4
   try refine sN fun _ Y6=>?_
   refine⟨l,q1,_,_,rfl,rfl,el4,e4,Nw (kao (by rw[Nh,Nh,Ny,hL.len];omega)),fun q2 hq2=>?_⟩
   rw[←Np]
   have n5:=kak (o:=.lst ((ls++ls.take 1).map V.ref)) hq2
   have e5:(upd H4 q2 (.lst ((ls++ls.take 1).map V.ref))) q2=some (.lst ((ls++ls.take 1).map V.ref)):=kad
   have el5:=n5 _ _ el4
   have hL5:=Lines.same n5 hL4
   have s5:=s4.trans n5
   clear n5
   generalize upd H4 q2 (.lst ((ls++ls.take 1).map V.ref))=H5 at *
   have hLL:P2 (LineAt d.qf H5) (ls++ls.take 1) (rs++rs.take 1):=P2.app (P2.tk hL5 1) hL5
   try first|apply Y6|apply Y4
   try refine sN fun _ Y6=>?_
   refine⟨q2,rfl,⟨_,SqL.of e5⟩,kaZ (xs:=(ls++ls.take 1).map V.ref) (fun i σ ys H''=>H''=H5∧ys=(((rs++rs.take 1).map fun r=>r.mn).take i).map V.int∧∃v,σ=[v]) ⟨rfl,rfl,none,rfl⟩ (by rw[Nh,hLL.len,Nx,Ny];exact Nw (kao (by omega))) ?_ ?_ ?_⟩
   ·rintro j σ ys H'' hj ⟨rfl,rfl,v,rfl⟩
    try first|apply Y6|apply Y4
    try refine sN fun _ Y8=>?_
    refine⟨SqL.of e5,?_⟩
    rw[Nh,Ny,Nh]
    rw[Nh,hLL.len] at hj
    omega
   ·rintro j y σ ys H'' hy ⟨rfl,rfl,v,rfl⟩
    obtain⟨la,ea,rfl⟩:=kbJ hy
    obtain⟨r,er,dxl,fsl,ha,g1,g2,g3,g4⟩:=hLL.at ea
    try first|apply Y8|apply Y6|apply Y4
    try refine sN fun _ Y8=>?_
    refine⟨_,rfl,la,d.qf,dxl,fsl,_,rfl,ha,W.qf.cl,W.qF,g3,rfl,?_,_,rfl⟩
    rw[kbt (r:=r.mn) (by rw[Nv,er];rfl),Np (f:=V.int)]
    rfl
   rintro σ ys H'' ⟨rfl,rfl,v,rfl⟩ D hD
   rw[Nh,hLL.len,Mf (by rw[Nh];exact Nj _)]
   have n6:=kak (o:=.lst (((rs++rs.take 1).map fun r=>r.mn).map V.int)) hD
   try first|apply Y6|apply Y4
   try refine sN fun _ Y6=>?_
   refine⟨D,_,rfl,SqL.of kad,?_⟩
   have el6:=n6 _ _ el5
   have hL6:=Lines.same n6 hL5
   have s6:=s5.trans n6
   clear n6
   generalize upd H'' D (.lst (((rs++rs.take 1).map fun r=>r.mn).map V.int))=H6 at *
   generalize hpc:((rs++rs.take 1).map fun r=>r.mn).sum=pc at *
   try first|apply Y6|apply Y4
   try refine sN fun _ Y6=>?_
   refine⟨fun σ H7=>Same H H7∧∃(ls':List Addr) (rs':List Row),H7 l=some (.lst (ls'.map V.ref))∧Lines d.qf H7 ls' rs'∧rs'.length≤12∧(∀r∈rs',r.Ok)∧(∀r∈rs',0≤r.kd∧r.kd<(n:Int))∧(ownN rs').length<64∧σ=[some (.ref a),some (iV n),some (.ref l),some (.bl wd),some (.int sl),v5,v6,v7,v8,some (.int pc)],?_,?_⟩
   ·have plain:Same H H6∧∃(ls':List Addr) (rs':List Row),H6 l=some (.lst (ls'.map V.ref))∧Lines d.qf H6 ls' rs'∧rs'.length≤12∧(∀r∈rs',r.Ok)∧(∀r∈rs',0≤r.kd∧r.kd<(n:Int))∧(ownN rs').length<64∧([some (.ref a),some (iV n),some (.ref l),some (.bl wd),some (.int sl),v5,v6,v7,v8,some (.int pc)]:St)=[some (.ref a),some (iV n),some (.ref l),some (.bl wd),some (.int sl),v5,v6,v7,v8,some (.int pc)]:=⟨s6,ls,rs,el6,hL6,hlen12,hok,hkd,by omega,rfl⟩
    try first|apply Y6|apply Y4
    try refine sN fun _ Y8=>?_
    refine⟨_,rfl,l,_,rfl, .inl (SqL.of el6),_,_,rfl,rfl,_,rfl,?_⟩
    try first|apply Y8|apply Y6|apply Y4
    refine ite2 (fun h1=>?_) (fun _=>⟨_,rfl,iteF (iteF plain)⟩)
    have hl0:0<ls.length:=by
     have:(0:Int)<((ls.map V.ref).length:Nat):=by simpa using h1
     rw[Nh] at this
     omega
    try first|apply Y8|apply Y6|apply Y4
    try refine sN fun _ Y8=>?_
    refine⟨_,_,rfl,rfl,_,rfl,ite2 (fun h2=>?_) (fun _=>iteF plain)⟩
    have hl12:ls.length<12:=by
     have:((ls.map V.ref).length:Int)<12:=by simpa using h2
     rw[Nh] at this
     omega
    try first|apply Y8|apply Y6|apply Y4
    try refine sN fun _ Y8=>?_
    refine⟨_,rfl,_,_,rfl,rfl,_,rfl,ite2 (fun h3=>?_) (fun _=>iteF plain)⟩
    have hp61:pc<31:=by simpa using h3
    try first|apply Y8|apply Y6|apply Y4
    try refine sN fun _ Y8=>?_
    refine⟨_,rfl,a,ns,6,98,3,rfl,s6.seq hS,⟨by decide,by decide⟩,⟨by decide,by decide⟩,by decide,fun u u0 u1=>⟨rfl,_,rfl,ite2 (fun _=>?_) (fun _=>plain)⟩⟩
    obtain⟨l0,el0⟩:=at_of hl0
    obtain⟨r0,er0,hr0⟩:=hL6.at el0
    have e0s:(rs.take 1).map (fun r=>r.mn)=[r0.mn]:=by
     rw[kbt er0]
     rfl
    have hpc':(rs.map fun r=>r.mn).sum+r0.mn=pc:=by
     rw[←hpc,Np,Mg,e0s]
     simp
    try first|apply Y8|apply Y6|apply Y4
    try refine sN fun _ Y8=>?_
    refine⟨_,rfl, .inl ⟨rfl,_,SqL.of el6⟩,_,rfl,_,rfl,l,_,rfl, .inl (SqL.of el6),_,_,rfl,rfl,a,ns,6,97,_,rfl,s6.seq hS,⟨by decide,by decide⟩,⟨by decide,by decide⟩,(by show(0:Int)<_;omega),fun k k0 k1=>?_⟩
    try first|apply Y8|apply Y6|apply Y4
    try refine sN fun _ Y8=>?_
    refine⟨_,rfl,l,_,_,_,rfl,rfl,SqL.of el6,ka1 (j:=0) (v:=.ref l0) (by rw[Nv,el0];rfl),l,_,k,_,rfl,rfl,el6,k0,by omega,kao (by rw[Nh];omega),?_⟩
    rw[←MH,←Ec]
    have el7:(upd H6 l (.lst ((ls.take k.toNat).map V.ref++V.ref l0::(ls.drop k.toNat).map V.ref))) l=some (.lst ((ls.take k.toNat++l0::ls.drop k.toNat).map V.ref)):=by
     rw[kad,Np,NC]
    have hmem:∀r∈rs.take k.toNat++r0::rs.drop k.toNat,r∈rs:=fun r hr=>by
     rcases kkD hr with e|e
     ·rw[e];exact Nt er0
     ·exact e
    have hown7:=kjp (rs.take k.toNat++r0::rs.drop k.toNat) fun r hr=>(hok r (hmem r hr)).mn0
    rw[klz] at hown7
    try first|apply Y8|apply Y6|apply Y4
    try refine sN fun _ Y8=>?_
    refine⟨kav fl s6 (nx el6),ls.take k.toNat++l0::ls.drop k.toNat,rs.take k.toNat++r0::rs.drop k.toNat,el7,P2.ins (hr0.set el6) (Lines.set el6 hL6) k.toNat,?_,fun r hr=>hok r (hmem r hr),fun r hr=>hkd r (hmem r hr),by omega,rfl⟩
    have l1:=hL6.len
    rw[Nx,NQ,Ny,M4]
    omega
   rintro σ H7 ⟨s7,ls',rs',el7,hL7,h12,hok7,hkd7,h64,rfl⟩
   try first|apply Y6|apply Y4
   try refine sN fun _ Y6=>?_
   refine⟨_,rfl,_,rfl,a,ns,6,90,rfl,s7.seq hS,⟨by decide,by decide⟩,⟨by decide,by decide⟩,fun cg cg0 cg1=>⟨_,rfl,a,ns,6,95,2,rfl,s7.seq hS,⟨by decide,by decide⟩,⟨by decide,by decide⟩,by decide,fun mb mb0 mb1=>⟨rfl,kfY (SqL.of el7) fun H8 b l' s8 f8 f8' hl' hb=>?_⟩⟩⟩
   try first|apply Y6|apply Y4
   exact kk H8 b ⟨rs',cg,_⟩ (s7.trans s8) (s7.free f8) ⟨l',ls',hb,hl',Lines.same s8 hL7⟩ h12 hok7 hkd7 ⟨cg0,cg1⟩ h64
inductive kk0 (K:Ni) (vs:List V) (H:Hp) (Q:VK) (E_:XK):Prop
 |ct (a m:Addr) (ns:List Int) (k:Int) (zs:List Int) (_:vs=[.ref a, .int k, .ref m]) (_:SqL K H a (ns.map V.int)) (_:(0≤k∧k≤900)) (_:H m=some (.lst (zs.map V.int))) (_:zs.length≤12) (_:(∀z∈zs,0≤z∧z≤60)) (_:(∀H',Same H H'→(∀z∈zs,z≤0)→Q .non H')) (_:∀(H':Hp) (p:Addr) (l:Nat) (n z:Int),Same H H'→H p=none→H' p=some (.tup [iV l, .int n])→zs[l]?=some z→1≤n→n≤z→Q (.ref p) H'):kk0 K vs H Q E_
theorem QK:kap ["_law_script","_law_k","_law_many","_law_some_here","_law_line","_law_how","_law_least"] ["_law_script","_law_k","_law_many"] (kah kct):=⟨rfl,rfl,rfl,by decide +kernel,rfl,by decide +kernel,by decide +kernel⟩
theorem kgy(W:WB K mg d base):FnOk P w K mg base CX0 3 d.ZF d.ZG ["_law_script","_law_k","_law_many"] (kk0 K):=by
 refine FunD.ok W.Xd.F QK (fun vs H Q E h=>?_) (fun cdv A outer s H vs Q E hr h=>?_)
 ·obtain⟨a,m,ns,k,zs,rfl,_⟩:=h
  rfl
 ·obtain⟨a,m,ns,k,zs,rfl,hS,hk,hm,h12,hz,k1,k2⟩:=h
  have qk:=kaP (P:=P) (w:=w) (base:=base) W
  refine⟨_,kac (kkj (N:=["_law_line","_law_many"]) (CompScope.of (N:=["_law_line","_law_many"]) (cap:=[none,some 2]) (kah kct).names ["_law_script","_law_k","_law_many","_law_some_here","_law_line","_law_how","_law_least"] rfl rfl (by decide +kernel)) rfl (kb3 rfl W.B.range (kaa (kay (r:=kbm K) kaF (by rfl) W.B.len b_len (kaa (pv 2) kae)) kae)) (fun _ _ _ _=>kar (i:=0) (show(["_law_line","_law_many"]:List Str).Nodup by decide +kernel) rfl (Or.inl rfl)) (fun _ _ _ _=>kg7 (kat op_gt (pe_ix (r:=rIxL K) kaD (pv 1) (pv 0) (fun _ _=>rfl)) kaf (kax _))) (fun _ _ _ _=>(pv 0)) (kar (i:=3) QK.nd rfl (Or.inl rfl)))
   (kac (ps_if (kat (klb hr.units0) (pv 3) (kaL kae) (kax _)) (kai (kaq ka5)) (kaw))
   (kac (kas (i:=4) QK.nd rfl (Or.inl rfl) (pe_ix (r:=rIxL K) kaD (pv 3) (kan qk hr rfl W.qd.m W.qd.F.kp W.qd.b .nil pass0 (kaa (pv 0) (kaa (pv 1) (kaa kaf (kaa (kay (r:=kbm K) kaF (by rfl) W.B.len b_len (kaa (pv 3) kae)) kae))))) (fun _ _=>rfl)))
   (kac (kas (i:=5) QK.nd rfl (Or.inl rfl) (kan qk hr rfl W.qd.m W.qd.F.kp W.qd.b .nil pass0 (kaa (pv 0) (kaa (pv 1) (kaa kaf (kaa kaf kae))))))
   (kac (ps_if (kat op_eq (pv 5) kaf (kax _)) (kai (kaq (kca (kaa (pv 4) (kaa (pe_ix (r:=rIxL K) kaD (pv 2) (pv 4) (fun _ _=>rfl)) kae))))) (kaw))
   (kac (kas (i:=6) QK.nd rfl (Or.inl rfl) (pe_op kaB kaf (pe_op kdU (pe_ix (r:=rIxL K) kaD (pv 2) (pv 4) (fun _ _=>rfl)) kaf)))
   (kac (ps_if (kat op_eq (pv 5) kaf (kax _)) (kai (kaq (kca (kaa (pv 4) (kaa (pv 6) kae))))) (kaw))
   (kai (kaq (kca (kaa (pv 4) (kaa (pe_op kaB (pv 6) (kan qk hr rfl W.qd.m W.qd.F.kp W.qd.b .nil pass0 (kaa (pv 0) (kaa (pv 1) (kaa kaf (kaa (pe_op kdd (pe_op kaB (pe_ix (r:=rIxL K) kaD (pv 2) (pv 4) (fun _ _=>rfl)) kaf) (pv 6)) kae)))))) kae))))))))))),?_⟩
  try refine sN fun _ Y4=>?_
  refine⟨_,rfl,m,_,rfl, .inl (SqL.of hm),_,rfl,by omega,(by rw[Nh];omega),khn (fun i σ ys H'=>H'=H∧(∃is:List Nat,ys=is.map iV∧is.length≤i∧(∀l∈is,∃z,zs[l]?=some z∧0<z)∧(∀l z,l<i→zs[l]?=some z→0<z→is≠[]))∧∃v,σ=[v,some (.ref m)]) ⟨rfl,⟨[],rfl,Nj _,(fun l hl=>by simp at hl),fun l z h=>by omega⟩,none,rfl⟩ ?_ ?_ ?_ ?_⟩
  ·rw[Nh]
   try apply Y4
   exact Nw (kao (by omega))
  ·rintro i σ ys H' hi ⟨rfl,⟨is,rfl,hl,_⟩,_⟩
   rw[Nh]
   try apply Y4
   exact hl
  ·rintro i σ ys H' hi ⟨rfl,⟨is,rfl,hil,his,hno⟩,v,rfl⟩
   rw[Int.zero_add]
   have hi':i<zs.length:=by
    rw[Nh] at hi
    omega
   obtain⟨z,ez⟩:=at_of hi'
   try apply Y4
   try refine sN fun _ Y6=>?_
   refine⟨_,rfl,_,rfl,m,_,_,_,rfl,rfl,SqL.of hm,ka1 (v:=.int z) (by rw[Nv,ez];rfl),_,_,rfl,rfl,_,rfl,?_⟩
   by_cases hz0:0<z
   ·rw[decide_eq_true hz0]
    refine iteT ?_
    try first|apply Y6|apply Y4
    try refine sN fun _ Y8=>?_
    refine⟨_,rfl,rfl,⟨is++[i],by rw[Np];rfl,by rw[Nx];simp;omega,fun l hl=>?_,fun l z' _ _ _=>by simp⟩,_,rfl⟩
    rcases NU.mp hl with h|h
    ·exact his l h
    ·rw[Mw.mp h]
     try first|apply Y8|apply Y6|apply Y4
     exact⟨z,ez,hz0⟩
   ·rw[decide_eq_false hz0]
    refine iteF ?_
    try first|apply Y8|apply Y6|apply Y4
    try refine sN fun _ Y8=>?_
    refine⟨rfl,⟨is,rfl,by omega,his,fun l z' h1 h2 h3=>?_⟩,_,rfl⟩
    by_cases e:l=i
    ·subst e
     rw[ez] at h2
     cases h2
     try first|apply Y8|apply Y6|apply Y4
     exact absurd h3 hz0
    ·exact hno l z' (by omega) h2 h3
  ·rintro σ ys H' ⟨rfl,⟨is,rfl,hil,his,hno⟩,v,rfl⟩ D hD
   generalize hgH1:upd H' D _=H1
   obtain⟨n1,e1⟩:=kaK hgH1 hD
   try first|apply Y6|apply Y4
   try refine sN fun _ Y6=>?_
   refine⟨_,rfl,by decide,fun E fE=>?_⟩
   generalize hgH2:upd H1 E _=H2
   obtain⟨n2,(e2:H2 E=some (.lst ([]:List V)))⟩:=kaK hgH2 fE
   have s2:=n1.trans n2
   have eD2:=n2 _ _ e1
   try first|apply Y6|apply Y4
   try refine sN fun _ Y6=>?_
   refine⟨D,E,_,_,rfl,rfl,SqL.of eD2,SqL.of e2,kc2 _,rfl,_,rfl,?_⟩
   cases hi0:is with
   |nil=>
    subst hi0
    refine iteT ?_
    try first|apply Y6|apply Y4
    refine k1 _ s2 fun z hz'=>?_
    obtain⟨l,el⟩:=Mr.mp hz'
    rcases Int.lt_or_le 0 z with hp|hp
    ·exact absurd rfl (hno l z (by have:=at_lt el;simpa using this) el hp)
    ·exact hp
   | cons i0 is0=>
    refine iteF ?_
    have hlen:0<is.length:=by rw[hi0];simp
    have hl12:is.length≤12:=by simp at hil;omega
    clear hi0
    try first|apply Y6|apply Y4
    try refine sN fun _ Y8=>?_
    refine⟨_,rfl,_,rfl,_,rfl,_,rfl,D,_,rfl, .inl (SqL.of eD2),a,ns,k,3,_,rfl,s2.seq hS,⟨by omega,by omega⟩,⟨by decide,by decide⟩,(by rw[Nh];omega),fun u u0 u1=>?_⟩
    rw[Nh] at u1
    obtain⟨j,rfl⟩:=Int.eq_ofNat_of_zero_le u0
    obtain⟨l,el⟩:=at_of (xs:=is) (i:=j) (by omega)
    obtain⟨z,ez,hz0⟩:=his l (Nt el)
    have hzb:=hz z (Nt ez)
    try first|apply Y8|apply Y6|apply Y4
    try refine sN fun _ Y8=>?_
    refine⟨D,_,_,_,rfl,rfl,SqL.of eD2,ka1 (v:=iV l) (by rw[Nv,el];rfl),?_⟩
    try first|apply Y8|apply Y6|apply Y4
    try refine sN fun _ Y8=>?_
    refine⟨_,rfl,_,rfl,a,ns,k,4,4,rfl,s2.seq hS,⟨by omega,by omega⟩,⟨by decide,by decide⟩,by decide,fun hw hw0 hw1=>?_⟩
    have hm2:=SqL.of (K:=K) (s2 _ _ hm)
    have hat:atI (zs.map V.int) ((l:Nat):Int)=some (V.int z):=ka1 (v:=V.int z) (by rw[Nv,ez];rfl)
    try first|apply Y8|apply Y6|apply Y4
    refine⟨_,rfl,rfl,_,rfl,ite2 (fun _=>?_) (fun _=>?_)⟩
    ·exact⟨_,rfl,_,rfl,_,rfl,m,_,_,_,rfl,rfl,hm2,hat,(by show 2≤sizeLine;decide),fun p fp=>k2 _ p l z z (s2.trans (kak fp)) (s2.free fp) kad ez (by omega) (by omega)⟩
    ·refine⟨_,rfl,_,rfl,m,_,_,_,rfl,rfl,hm2,hat,_,_,rfl,rfl,⟨by decide,by decide⟩,_,_,rfl,rfl,?_⟩
     try first|apply Y8|apply Y6|apply Y4
     refine⟨_,rfl,rfl,_,rfl,ite2 (fun _=>?_) (fun _=>?_)⟩
     ·exact⟨_,rfl,_,rfl,(by show 2≤sizeLine;decide),fun p fp=>k2 _ p l (1+z/3) z (s2.trans (kak fp)) (s2.free fp) kad ez (by omega) (by omega)⟩
     ·refine⟨_,rfl,_,rfl,_,rfl,_,rfl,_,rfl,_,rfl,m,_,_,_,rfl,rfl,hm2,hat,_,_,rfl,rfl,_,rfl,_,_,rfl,rfl,a,ns,k,5,_,rfl,s2.seq hS,⟨by omega,by omega⟩,⟨by decide,by decide⟩,by omega,fun u u0 u1=>⟨_,_,rfl,rfl,(by show 2≤sizeLine;decide),fun p fp=>k2 _ p l (1+z/3+u) z (s2.trans (kak fp)) (s2.free fp) kad ez (by omega) (by omega)⟩⟩
inductive kiT (d:D) (vs:List V) (H:Hp) (Q:VK) (E_:XK):Prop
 |ct (b m:Addr) (B:Bask) (many:List Int) (_:vs=[.ref b, .ref m]) (_:BaskIs d.qf d.qg H b B) (_:H m=some (.lst (many.map V.int))) (_:many.length=B.rs.length) (_:B.rs.length≤12) (_:∀H' b',Same H H'→H b'=none→BaskIs d.qf d.qg H' b' (kaV B many)→Q (.ref b') H'):kiT d vs H Q E_
theorem V4:kap ["_law_basket_here","_law_many","_law_lines"] ["_law_basket_here","_law_many"] (kah kcI):=⟨rfl,rfl,rfl,by decide +kernel,rfl,by decide +kernel,by decide +kernel⟩
theorem kfO(W:WB K mg d base):FnOk P w K mg base CX0 3 d.ZD d.ZE ["_law_basket_here","_law_many"] (kiT d):=by
 refine FunD.ok W.Xc.F V4 (fun vs H Q E h=>?_) (fun cdv A outer s H vs Q E hr h=>?_)
 ·obtain⟨b,m,B,many,rfl,_⟩:=h
  rfl
 ·obtain⟨b,m,B,many,rfl,hB,hm,hml,h12,kk⟩:=h
  have QH:=kcV (P:=P) (w:=w) (base:=base) W
  have Qh:=kbH (P:=P) (w:=w) (base:=base) W
  refine⟨_,kac (kdS (N:=["_law_line","_law_left"]) (CompScope.plain rfl (by decide +kernel) (by decide +kernel) (by decide +kernel) (show(["_law_line","_law_left"]:List Str).Nodup by decide +kernel)) rfl (kdo rfl W.B.zip (kaa (kag (K:=K) (pv 0) rfl) (kaa (pv 1) kae))) (fun _ _ _ _=>kbo (K:=K) (n:=2) rfl (kaA (kar (i:=0) (show(["_law_line","_law_left"]:List Str).Nodup by decide +kernel) rfl (Or.inl rfl)) (kaA (kar (i:=1) (show(["_law_line","_law_left"]:List Str).Nodup by decide +kernel) rfl (Or.inl rfl)) kbn))) (fun _ _ _ _=>(kaS (W.qY.mk' W.qf) QH hr rfl W.qf.m W.qY.b .nil pass0 (kaa (kag (K:=K) (pv 0) rfl) (kaa (kag (K:=K) (pv 0) rfl) (kaa (pv 1) (kaa (kag (K:=K) (pv 0) rfl) kae)))))) (kar (i:=2) V4.nd rfl (Or.inl rfl)))
   (kai (kaq (kaS (W.qG.mk' W.qg) Qh hr rfl W.qg.m W.qG.b .nil pass0 (kaa (pv 2) (kaa (kag (K:=K) (pv 0) rfl) (kaa (kag (K:=K) (pv 0) rfl) kae)))))),?_⟩
  obtain⟨l,ls,⟨dxb,fsb,hb,lbl,lbc,lbm⟩,hl,hL⟩:=id hB
  have hll:=hL.len
  have emin:min (ls.map V.ref).length (many.map V.int).length=B.rs.length:=by rw[Nh,Nh,hll,hml,Mu]
  have lzw:(kaV B many).rs.length=B.rs.length:=by unfold kaV;rw[ML,hml,Mu]
  refine⟨_,rfl,b,d.qg,dxb,fsb,_,rfl,hb,W.qg.cl,W.qy,lbl,_,rfl,l,m,_,_,rfl,hl,hm,
   ker (xs:=ls.map V.ref) (ys:=many.map V.int) (fun i σ zs H'=>Same H H'∧∃ns:List Addr,zs=ns.map V.ref∧Lines d.qf H' ns ((kaV B many).rs.take i)∧∃v0 v1:Option V,σ=[v0,v1])
    ⟨Same.refl _,[],rfl, .nil,none,none,rfl⟩ (by rw[emin];exact Nw (kao (by omega))) (fun i σ zs H' hi ⟨s,ns,e,hn,_⟩=>⟨s _ _ hl,s _ _ hm,by rw[e,Nh,hn.len,Ny,lzw];rw[emin] at hi;omega⟩) ?_ ?_⟩
  ·rintro i y1 y2 tt σ zs H4 hy1 hy2 ⟨s4,ns,rfl,hn,v0,v1,rfl⟩ ht
   obtain⟨lx,el,rfl⟩:=kbJ hy1
   obtain⟨z,ez,rfl⟩:=kbL hy2
   obtain⟨r,er⟩:=at_of (xs:=B.rs) (i:=i) (by have:=at_lt el;omega)
   have n5:=kak (o:=.tup [.ref lx, .int z]) ht
   have s5:=s4.trans n5
   obtain⟨dxl,fsl,hlx,lk1,lk2,lk3,lk4⟩:=(hL.get el er).same s5
   refine⟨tt,_,rfl,SqT.of kad,rfl,_,_,rfl,_,_,rfl,rfl,_,rfl,lx,d.qf,dxl,fsl,_,rfl,hlx,W.qf.cl,W.Xj,lk1,_,rfl,lx,d.qf,dxl,fsl,_,rfl,hlx,W.qf.cl,W.Qi,lk2,_,rfl,_,rfl,lx,d.qf,dxl,fsl,_,rfl,hlx,W.qf.cl,W.Qq,lk4,kha (r:={r with mn:=z}) fun H6 y s6 fy hy=>?_⟩
   refine⟨s5.trans s6,ns++[y],by rw[Np];rfl,?_,_,_,rfl⟩
   rw[take_snoc (show(kaV B many).rs[i]?=_ from kix er ez)]
   exact(hn.same (n5.trans s6)).snoc hy
  rintro σ zs H4 ⟨s4,ns,rfl,hn,v0,v1,rfl⟩ q hq
  rw[emin,←lzw,NS] at hn
  generalize hgH5:upd H4 q _=H5
  obtain⟨n5,e5⟩:=kaK hgH5 hq
  have s5:=s4.trans n5
  refine⟨_,rfl,_,rfl,b,d.qg,dxb,fsb,_,rfl,s5 _ _ hb,W.qg.cl,W.Qr,lbc,_,rfl,b,d.qg,dxb,fsb,_,rfl,s5 _ _ hb,W.qg.cl,W.Qj,lbm,kfY (SqL.of e5) fun H6 y l' s6 fy fl' hl' hy=>?_⟩
  exact kk H6 y (s5.trans s6) (none_of s5 fy) ⟨l',ns,hy,hl',hn.same (n5.trans s6)⟩
inductive kiZ (K:Ni) (d:D) (vs:List V) (H:Hp) (Q:VK) (E_:XK):Prop
 |ct (a:Addr) (ns:List Int) (bk:Str) (_:vs=[.ref a, .str bk]) (_:SqL K H a (ns.map V.int)) (_:Tbs d H) (_:∀(H':Hp) (p t b h:Addr) (T:TillD) (B:Bask) (hand:List Int),Same H H'→H' p=some (.tup [.ref t, .ref b, .ref h])→TillIs d H' t T→T.bk=bk→kbN T→0<T.vs.length→BaskIs d.qf d.qg H' b B→Wf T.ps B (stnd0 B)→H' h=some (.lst (hand.map V.int))→hand.length=T.vs.length→Q (.ref p) H'):kiZ K d vs H Q E_
theorem Xw:kap ["_law_script","_law_back","_law_parents_here","_law_basket_here","_law_till_here"] ["_law_script","_law_back"] (kah kcO):=⟨rfl,rfl,rfl,by decide +kernel,rfl,by decide +kernel,by decide +kernel⟩
theorem kfU(W:WB K mg d base):FnOk P w K mg base CX0 8 d.ZH d.ZI ["_law_script","_law_back"] (kiZ K d):=by
 refine FunD.ok W.Xe.F Xw (fun vs H Q E h=>?_) (fun cdv A outer s H vs Q E hr h=>?_)
 ·obtain⟨a,ns,bk,rfl,_⟩:=h
  rfl
 ·obtain⟨a,ns,bk,rfl,hS,htb0,k⟩:=h
  have U7:=keP (P:=P) (w:=w) (base:=base) W
  have U8:=kfa (P:=P) (w:=w) (base:=base) W
  have U9:=kgx (P:=P) (w:=w) (base:=base) W
  have Ja:=kgz (P:=P) (w:=w) (base:=base) W
  have hr3:Room 3 _:=hr.mono (by decide)
  have hr4:Room 4 _:=hr.mono (by decide)
  refine⟨_,kac (kas (i:=2) Xw.nd rfl (Or.inl rfl) (kan U7 hr3 rfl W.Q2.m W.Q2.F.kp W.Q2.b .nil pass0 (kaa (pv 0) kae)))
   (kac (kas (i:=3) Xw.nd rfl (Or.inl rfl) (kan U8 hr4 rfl W.Q3.m W.Q3.F.kp W.Q3.b .nil pass0 (kaa (pv 0) (kaa (kay (r:=kbm K) kaF (by rfl) W.B.len b_len (kaa (pv 2) kae)) kae))))
   (kac (kas (i:=4) Xw.nd rfl (Or.inl rfl) (kan U9 hr rfl W.Q8.m W.Q8.F.kp W.Q8.b .nil pass0 (kaa (pv 0) (kaa (pv 2) (kaa (pv 3) (kaa (pv 1) kae))))))
   (kai (kaq (kca (kaa (pv 4) (kaa (pv 3) (kaa (kan Ja hr3 rfl W.Q9.m W.Q9.F.kp W.Q9.b .nil pass0 (kaa (pv 0) (kaa (kay (r:=kbm K) kaF (by rfl) W.B.len b_len (kaa (kag (K:=K) (pv 4) rfl) kae)) kae))) kae)))))))),?_⟩
  refine⟨_,rfl,a,ns,rfl,hS,fun H1 p ps s1 f1 hp hg hl20 hl0=>?_⟩
  refine⟨_,rfl,_,rfl,p,_,rfl, .inl (SqL.of hp),a,ns,ps.length,(by rw[Nh];rfl),s1.seq hS,hl0,fun H2 b B s2 f2 hb hB12 hBok hBkd hBc hB64=>?_⟩
  have wf0:=Wf.start hg hl20 hBkd hBok hB12 hBc hB64
  have s02:=s1.trans s2
  refine⟨_,rfl,_,rfl,_,rfl,_,rfl,a,p,b,ns,ps,B,bk,rfl,s02.seq hS,s2 _ _ hp,hl0,hb,hB12,hBok,Tbs.same s02 htb0,fun H3 t vs rs s3 f3 hT tok hv0=>?_⟩
  have s03:=s02.trans s3
  obtain⟨dxt,fst,tp,vl,rl,va,ra,ht,t1,t2,t3,t4,htp,hvl,hva,hrl,hra⟩:=id hT
  have lva:=hva.len
  have lvs:vs.length≤8:=tok.nv
  refine⟨_,rfl,_,rfl,_,rfl,_,rfl,t,d.qh,dxt,fst,_,rfl,ht,W.qh.cl,W.qI,t2,vl,_,rfl, .inl (SqL.of hvl),a,ns,vs.length,(by rw[Nh,lva];rfl),s03.seq hS,lvs,fun H4 h hand s4 f4 hh hhl=>?_⟩
  refine⟨(by show 3≤sizeLine;decide),fun u fu=>?_⟩
  have n5:=kak (o:=.tup [.ref t, .ref b, .ref h]) fu
  exact k _ u t b h ⟨ps,vs,rs,bk⟩ B hand ((s03.trans s4).trans n5) kad ((hT.same s4).same n5) rfl tok hv0 (((hb.same s3).same s4).same n5) wf0 (n5 _ _ hh) hhl
inductive kiQ (d:D) (vs:List V) (H:Hp) (Q:VK) (E_:XK):Prop
 |ct (Hs:Hp) (x q p:Addr) (first:Int) (bs:List Int) (l n:Nat) (z:Int) (A:AccD) (_:vs=[.ref x, .int first, .ref q, .ref p]) (_:Same Hs H) (_:Hs x=none) (_:Hs q=none) (_:AccIn d Hs H x A) (_:AccOk A) (_:((A.T.bk=("again" :Str)∧Wf A.T.ps (kaV A.B (A.many.set l (z-n))) (stnd0 (kaV A.B (A.many.set l (z-n)))))∨(A.T.bk=("shares" :Str)∧(∀r∈A.B.rs,r.Ok)∧(mans (A.B.rs.take l)).sum+z.toNat≤A.pr.length))) (_:A.many[l]?=some z) (_:1≤n) (_:(n:Int)≤z) (_:H p=some (.tup [iV l,iV n])) (_:H q=some (.lst (bs.map V.int))) (_:bs.length<70) (_:0≤backB A l (z-n) n) (_:0≤(tookB A l (z-n) n).owed) (_:0≤(tookB A l (z-n) n).paid) (_:bs.sum+backB A l (z-n) n+(tookB A l (z-n) n).paid=first) (_:∀Hs' H1 H',Same Hs Hs'→Same Hs' H'→(∀a,H a≠none→Hs a=none→Hs' a=none)→But x H H1→But q H1 H'→AccIn d Hs' H' x (tookB A l (z-n) n)→H' q=some (.lst ((bs++[backB A l (z-n) n]).map V.int))→Q (.bl true) H'):kiQ d vs H Q E_
theorem V5:kap ["_law_account","_law_first","_law_backs","_law_taken_here","_law_back"] ["_law_account","_law_first","_law_backs","_law_taken_here"] (kah kcH):=⟨rfl,rfl,rfl,by decide +kernel,rfl,by decide +kernel,by decide +kernel⟩
theorem kfN(W:WB K mg d base):FnOk P w K mg base CX0 18 d.ZJ d.ZK ["_law_account","_law_first","_law_backs","_law_taken_here"] (kiQ d):=by
 refine FunD.ok W.Xf.F V5 (fun vs H Q E h=>?_) (fun cdv A outer s H vs Q E hr h=>?_)
 ·obtain⟨Hs,x,q,p,first,bs,l,n,z,A,rfl,_⟩:=h
  rfl
 ·obtain⟨Hs,x,q,p,first,bs,l,n,z,A,rfl,sS,fSx,fSq,hA,ok,hmode,hz,hn1,hn2,hp,hq,h70,b0,w0,p0,hsum,kk⟩:=h
  have Jb:=kc9 (P:=P) (w:=w) (base:=base) W
  refine⟨_,kac (kas (i:=4) V5.nd rfl (Or.inl rfl) (kbw (pv 0) W.qc.cl W.XX.me Jb hr W.XX.b .nil pass0 (kaa (pe_ix (r:=rIxT K) kd9 (pv 3) kaf (fun _ _=>rfl)) (kaa (pe_ix (r:=rIxT K) kd9 (pv 3) kaf (fun _ _=>rfl)) kae))))
   (kac (ka0 (pe_bm N1 Ml Mm ka9 (pv 2) (kaa (pv 4) kae)))
   (kai (kaq (khV (ka7 op_ge (pv 4) kaf (kax _)) (khV (ka7 op_ge (kag (K:=K) (pv 0) rfl) kaf (kax _)) (khV (ka7 op_ge (kag (K:=K) (pv 0) rfl) kaf (kax _)) (kgt (ka7 op_eq (pe_op kaB (kay (r:=rSum K) (kbz rfl) (by rfl) W.B.sum b_sum (kaa (pv 2) kae)) (kag (K:=K) (pv 0) rfl)) (pv 1) (kax _))))))))),?_⟩
  obtain⟨dx,t,b,hd,fpp,o',fa',m',fs,hx,F,k⟩:=id hA
  refine⟨_,rfl,x,dx,fs,rfl,hx,F.l11 _ (by decide +kernel),_,rfl,p,_,_,_,rfl,rfl,SqT.of hp,rfl,_,rfl,p,_,_,_,rfl,rfl,SqT.of hp,rfl,Hs,x,l,n,z,A,rfl,sS,fSx,hA,ok,hmode,hz,hn1,hn2,fun Hs1 H1 s1 S1 f1 b1 hA1=>?_⟩
  generalize backB A l (z-n) n=bk at *
  have hq1:=b1 _ _ (ne_of hq hx (by intro z;cases z)) hq
  refine⟨_,rfl, .inl ⟨rfl,_,SqL.of hq1⟩,_,rfl,q,_,_,rfl,rfl,hq1,kao (by rw[Nh];omega),?_⟩
  rw[show bs.map V.int++[V.int bk]=(bs++[bk]).map V.int by rw[Np];rfl]
  have b2:But q H1 (upd H1 q (.lst ((bs++[bk]).map V.int))):=kau (nx hq1)
  have e2:(upd H1 q (.lst ((bs++[bk]).map V.int))) q=some (.lst ((bs++[bk]).map V.int)):=kad
  generalize upd H1 q (.lst ((bs++[bk]).map V.int))=H2 at *
  obtain⟨dx1,fs1,hx1,_⟩:=hA1.obj
  have nxq:x≠q:=ne_of hx1 hq1 (by intro z;cases z)
  have hA2:=hA1.but b2 nxq
  have fq1:Hs1 q=none:=f1 q (by rw[hq];intro z;cases z) fSq
  generalize tookB A l (z-n) n=A' at *
  obtain⟨dx2,t2,b2',hd2,fp2,o2,fa2,m2,fs2,hx2,F2,k2⟩:=id hA2
  have fin:=kk Hs1 H1 H2 s1 (kba S1 b2 fq1) f1 b1 b2 hA2 e2
  refine⟨_,rfl,_,_,rfl,rfl,_,rfl,?_⟩
  rw[show decide (bk≥0)=true from decide_eq_true b0]
  refine iteT ⟨_,rfl,x,d.qc,dx2,fs2,_,rfl,hx2,W.qc.cl,W.Qx,F2.l9,_,_,rfl,rfl,_,rfl,?_⟩
  rw[show decide (A'.owed≥0)=true from decide_eq_true w0]
  refine iteT ⟨_,rfl,x,d.qc,dx2,fs2,_,rfl,hx2,W.qc.cl,W.qK,F2.l8,_,_,rfl,rfl,_,rfl,?_⟩
  rw[show decide (A'.paid≥0)=true from decide_eq_true p0]
  refine iteT ⟨_,rfl,q,_,rfl,SqL.of e2,_,rfl,x,d.qc,dx2,fs2,_,rfl,hx2,W.qc.cl,W.qK,F2.l8,_,_,rfl,rfl,_,rfl,rfl,?_⟩
  have es:(bs++[bk]).sum+A'.paid=first:=by rw[Mg,N9,Ee];omega
  show Q (.bl (decide (V.int ((bs++[bk]).sum+A'.paid)=V.int first))) H2
  rw[es,show decide (V.int first=V.int first)=true by simp]
  exact fin
theorem keF:∀{a b:List Int},a.Perm b→a.Pairwise (·≤·)→b.Pairwise (·≤·)→a=b
 |[],b,p,_,_=>p.nil_eq
 |x::a,[],p,_,_=>by
  have:=p.length_eq
  simp at this
 | x ::a,y::b,p,ha,hb=>by
  have h1:=MX.mp ha
  have h2:=MX.mp hb
  have hx:x∈y::b:=p.mem_iff.mp NL
  have hy:y∈x::a:=p.mem_iff.mpr NL
  have e:x=y:=by
   rcases NI.mp hx with e|e
   ·exact e
   ·rcases NI.mp hy with e'|e'
    ·exact e'.symm
    ·have:=h1.1 y e'
     have:=h2.1 x e
     omega
  subst e
  rw[keF (N8.cons_inv p) h1.2 h2.2]
theorem kjK(xs:List Nat):xs.map iV=(xs.map (fun n:Nat=>(n:Int))).map V.int:=by rw[NM];rfl
inductive kk5 (d:D) (vs:List V) (H:Hp) (Q:VK) (E_:XK):Prop
 |ct (Hs:Hp) (t b h x o:Addr) (A:AccD) (order0:List Nat) (_:vs=[.ref t, .ref b, .ref h, .ref x, .ref o]) (_:TillIs d H t A.T) (_:BaskIs d.qf d.qg H b A.B) (_:H h=some (.lst (A.hand.map V.int))) (_:Same Hs H) (_:AccIn d Hs H x A) (_:AccOk A) (_:Wf A.T.ps (kaV A.B A.many) (stnd0 (kaV A.B A.many))) (_:H o=some (.lst (order0.map iV))) (_:kbh A.T (kaV A.B A.many) A.hand A.order=none) (_:A.paid+A.owed=(kaR A.T (kaV A.B A.many) A.order).total) (_:(A.order++A.fallen).Perm order0) (_:∀H',Same H H'→Q (.bl true) H'):kk5 d vs H Q E_
theorem V6:kap ["_law_till_here","_law_basket_here","_law_hand_here","_law_account","_law_order_here","_law_stays_here"] ["_law_till_here","_law_basket_here","_law_hand_here","_law_account","_law_order_here"] (kah kbR):=⟨rfl,rfl,rfl,by decide +kernel,rfl,by decide +kernel,by decide +kernel⟩
theorem kdY(W:WB K mg d base):FnOk P w K mg base CX0 10 d.ZL d.ZM ["_law_till_here","_law_basket_here","_law_hand_here","_law_account","_law_order_here"] (kk5 d):=by
 refine FunD.ok W.Xg.F V6 (fun vs H Q E h=>?_) (fun cdv A outer s H vs Q E hr h=>?_)
 ·obtain⟨Hs,t,b,h,x,o,A,order0,rfl,_⟩:=h
  rfl
 ·obtain⟨Hs,t,b,h,x,o,A,order0,rfl,hT,hB,hh,sS,hA,ok,wf,ho,hf,hpo,hpm,kk⟩:=h
  have Jc:=kfO (P:=P) (w:=w) (base:=base) W
  have Qg:=kep (P:=P) (w:=w) (base:=base) W
  have QF:=keL (P:=P) (w:=w) (base:=base) W
  have hr3:Room 3 _:=hr.mono (by decide)
  have hr8:Room 8 _:=hr.mono (by decide)
  refine⟨_,kac (kas (i:=5) V6.nd rfl (Or.inl rfl) (kan Jc hr3 rfl W.Xc.m W.Xc.F.kp W.Xc.b .nil pass0 (kaa (pv 1) (kaa (kag (K:=K) (pv 3) rfl) kae))))
   (kac (ps_if (kat kcS (kan Qg hr8 rfl W.qt.m W.qt.F.kp W.qt.b .nil pass0 (kaa (pv 0) (kaa (pv 5) (kaa (pv 2) (kaa (kag (K:=K) (pv 3) rfl) kae))))) ka5 (kax _)) (kai (kaq pe_bl)) (kaw))
   (kac (ps_if (kat op_ne (pe_op kaB (kag (K:=K) (pv 3) rfl) (kag (K:=K) (pv 3) rfl)) (kag (K:=K) (kan QF hr rfl W.qA.m W.qA.F.kp W.qA.b .nil pass0 (kaa (pv 0) (kaa (pv 5) (kaa (pv 2) (kaa (kag (K:=K) (pv 3) rfl) kae))))) rfl) (kax _)) (kai (kaq pe_bl)) (kaw))
   (kai (kaq (ka7 (klb hr.units0) (kay (r:=kjc K) keb (by rfl) W.B.sorted kf8 (kaa (pe_op kd6 (kag (K:=K) (pv 3) rfl) (kag (K:=K) (pv 3) rfl)) kae)) (kay (r:=kjc K) keb (by rfl) W.B.sorted kf8 (kaa (pv 4) kae)) (kax _)))))),?_⟩
  obtain⟨dx,t',b',hd,fpp,o',fa',m',fs,hx,F,k⟩:=id hA
  have h8:=ok.l8
  have hol:order0.length≤8:=by
   have:=hpm.length_eq
   rw[Nx] at this
   omega
  refine⟨_,rfl,_,rfl,x,d.qc,dx,fs,_,rfl,hx,W.qc.cl,W.qz,F.l7,b,m',A.B,A.many,rfl,hB,sS _ _ k.m,ok.ml,ok.nl,fun H1 bs s1 f1 hBs=>?_⟩
  have ho':=(sS.trans s1) _ _ k.o
  have hlt:=ok.lt
  refine⟨_,rfl,_,rfl,_,rfl,_,rfl,x,d.qc,dx,fs,_,rfl,s1 _ _ hx,W.qc.cl,W.qD,F.l5,t,bs,h,o',A.T,_,A.hand,A.order,rfl,hT.same s1,ok.tok,hBs,wf,s1 _ _ hh,ho',ok.hl,hlt,by omega,fun H2 v s2 hF=>⟨rfl,_,rfl,?_⟩⟩
  rw[hf] at hF
  have ev:v=.non:=hF
  subst ev
  rw[show(!decide (V.non=V.non))=false by simp]
  have s02:=s1.trans s2
  refine iteF ⟨_,rfl,x,d.qc,dx,fs,_,rfl,s02 _ _ hx,W.qc.cl,W.qK,F.l8,_,rfl,x,d.qc,dx,fs,_,rfl,s02 _ _ hx,W.qc.cl,W.Qx,F.l9,_,_,rfl,rfl,_,rfl,_,rfl,_,rfl,_,rfl,x,d.qc,dx,fs,_,rfl,s02 _ _ hx,W.qc.cl,W.qD,F.l5,t,bs,h,o',A.T,_,A.hand,A.order,rfl,hT.same s02,ok.tok,hBs.same s2,wf,s02 _ _ hh,s2 _ _ ho',ok.hl,hlt,by omega,hf,fun Hz H3 bl z0 z3 hBl=>?_⟩
  obtain⟨dx2,fs2,o2,sp,pp,sa,g1,g2,g3,g4,g5,g6,_⟩:=id hBl
  refine⟨bl,d.qi,dx2,fs2,_,rfl,g1,W.qi.cl,W.Qv,g6,rfl,_,rfl,?_⟩
  show if(!decide (V.int (A.paid+A.owed)=V.int (kaR A.T (kaV A.B A.many) A.order).total))=true then _ else _
  rw[←hpo,show(!decide (V.int (A.paid+A.owed)=V.int (A.paid+A.owed)))=false by simp]
  have s03:=s02.trans (z0.trans z3)
  refine iteF ⟨_,rfl,x,d.qc,dx,fs,_,rfl,s03 _ _ hx,W.qc.cl,W.qD,F.l5,_,rfl,x,d.qc,dx,fs,_,rfl,s03 _ _ hx,W.qc.cl,W.Qm,F.l6,o',fa',_,_,rfl,rfl,(sS.trans s03) _ _ k.o,(sS.trans s03) _ _ k.f,Nw (kao (by rw[Nh,Nh];omega)),fun q1 fq1=>?_⟩
  rw[←Np]
  generalize hg4:upd H3 q1 _=H4
  obtain⟨n4,e4⟩:=kaK hg4 fq1
  rw[kjK] at e4
  refine⟨q1,_,rfl,SqL.of e4,(by rw[Nh,Nx];omega),fun D1 ms1 fD1 pm1 w1=>?_⟩
  generalize hg5:upd H4 D1 _=H5
  obtain⟨n5,e5⟩:=kaK hg5 fD1
  have s05:=(s03.trans n4).trans n5
  have ho5:=s05 _ _ ho
  rw[kjK] at ho5
  refine⟨_,rfl,o,_,rfl,SqL.of ho5,(by rw[Nh];omega),fun D2 ms2 fD2 pm2 w2=>?_⟩
  generalize hg6:upd H5 D2 _=H6
  obtain⟨n6,e6⟩:=kaK hg6 fD2
  have ems:ms1=ms2:=keF (pm1.trans ((hpm.map _).trans pm2.symm)) w1 w2
  subst ems
  refine⟨D1,D2,_,_,rfl,rfl,SqL.of (n6 _ _ e5),SqL.of e6,kby _,kby _,?_⟩
  rw[if_neg Nu,kdG (kby _)]
  exact kk _ (s05.trans n6)
theorem kgT{T:TillD}{B:Bask}{hand:List Int}{n:Nat}{ns u:List Nat}{S:Stnd}{V:Vch}(hV:T.vs[n]?=some V)(c:dueM V T B hand u S n=.non):walkM T B hand (n::ns) u S=walkM T B hand ns (u++[n]) (aftM V T.ps (kds B) S):=by
 rw[walkM,hV]
 exact if_pos c
theorem khs{T:TillD}{B:Bask}{hand:List Int}{b:List Nat}:∀{a u:List Nat} {S:Stnd},(walkM T B hand a u S).1.length=u.length+a.length→walkM T B hand (a++b) u S=walkM T B hand b (walkM T B hand a u S).1 (walkM T B hand a u S).2
 |[],u,S,_=>rfl
 | n::a,u,S,h=>by
  rw[Er]
  cases e:T.vs[n]? with
  |none=>
   rw[walkM,e] at h
   simp only[NQ] at h
   omega
  | some V=>
   by_cases c:dueM V T B hand u S n=.non
   ·rw[kgT e c] at h
    rw[kgT e c,kgT e c]
    exact khs (by rw[h,Nx,NQ];show _=_+1+_;omega)
   ·rw[walkM,e] at h
    simp only at h
    rw[if_neg c] at h
    simp only[NQ] at h
    omega
theorem kiz{T:TillD}{B:Bask}{hand:List Int}{u:List Nat}{S S0:Stnd}{n:Nat}{V:Vch}(h:walkM T B hand u [] S0=(u,S))(hV:T.vs[n]?=some V):walkM T B hand (u++[n]) [] S0=if dueM V T B hand u S n=.non then(u++[n],aftM V T.ps (kds B) S) else(u,S):=by
 rw[khs (by rw[h];simp),h]
 simp only
 unfold walkM
 rw[hV]
 simp only
 rfl
theorem kft{T:TillD}{B:Bask}{hand:List Int}{S0:Stnd}:∀{o u:List Nat} {S:Stnd},walkM T B hand u [] S0=(u,S)→walkM T B hand (thrM T B hand o u S).1 [] S0=((thrM T B hand o u S).1,(thrM T B hand o u S).2.2)
 |[],u,S,h=>h
 | n::o,u,S,h=>by
  unfold thrM
  cases e:T.vs[n]? with
  |none=>exact h
  | some V=>
   simp only
   by_cases c:dueM V T B hand u S n=.non
   ·rw[if_pos c]
    exact kft (by rw[kiz h e,if_pos c])
   ·rw[if_neg c]
    exact kft h
theorem kh9{T:TillD}{B:Bask}{hand:List Int}:∀{n:Nat} {o:List Nat},o.length<n→(∀m∈o,m<T.vs.length)→walkM T B hand (dueA T B hand n o).1 [] (stnd0 B)=((dueA T B hand n o).1,(dueA T B hand n o).2.2)∧onlyM T.rs (dueA T B hand n o).1=none∧(∀m∈(dueA T B hand n o).1,m∈o)∧(dueA T B hand n o).1.length+(dueA T B hand n o).2.1.length=o.length
 |0,o,h,_=>by omega
 | n+1,o,h,hlt=>by
  have hw:=kft (T:=T) (B:=B) (hand:=hand) (S0:=stnd0 B) (o:=o) (u:=[]) (S:=stnd0 B) rfl
  have hl:=kev (T:=T) (B:=B) (hand:=hand) (u:=[]) (S:=stnd0 B) hlt
  have hm:=fun m=>keu (T:=T) (B:=B) (hand:=hand) (o:=o) (u:=[]) (S:=stnd0 B) (m:=m)
  unfold dueA
  generalize thrM T B hand o [] (stnd0 B)=R at *
  simp only[MC,M8] at hl
  cases e:onlyM T.rs R.1 with
  |none=>exact⟨hw,e,fun m h=>(hm m h).resolve_left (by simp),hl⟩
  |some l=>
   have hlt1:=filter_lt (kfL e)
   have hc:=kj4 (l:=l) (o:=R.1)
   obtain⟨h1,h2,h3,h4⟩:=kh9 (T:=T) (B:=B) (hand:=hand) (n:=n) (o:=R.1.filter fun m=>decide (m≠l)) (by omega) fun m h=>hlt m ((hm m (Mc.mp h).1).resolve_left (by simp))
   refine⟨h1,h2,fun m h=>(hm m (Mc.mp (h3 m h)).1).resolve_left (by simp),?_⟩
   simp only[Nx,Mi]
   omega
theorem kie{T:TillD}{B:Bask}{hand:List Int}{u:List Nat}{S:Stnd}(h:walkM T B hand u [] (stnd0 B)=(u,S))(h2:onlyM T.rs u=none):kbh T B hand u=none:=by
 unfold kbh
 rw[h]
 simp only
 rw[if_neg (Ms _),h2]
 rfl
theorem kgP{T:TillD}{B:Bask}{hand:List Int}{S':Stnd}:∀{o u:List Nat} {S:Stnd},walkM T B hand o u S=(u++o,S')→(billM T B o S).2=S'
 |[],u,S,h=>by
  unfold walkM at h
  exact(Prod.mk.inj h).2
 | n::o,u,S,h=>by
  have no:∀S,(u,S)≠(u++n::o,S'):=fun S e=>by
   have:=congrArg M1 (Prod.mk.inj e).1
   simp at this
  unfold walkM at h
  unfold billM
  cases e:T.vs[n]? with
  |none=>rw[e] at h;exact absurd h (no _)
  | some V=>
   rw[e] at h
   simp only at h⊢
   by_cases c:dueM V T B hand u S n=.non
   ·rw[if_pos c] at h
    exact kgP (by rw[h,Mb];rfl)
   ·rw[if_neg c] at h
    exact absurd h (no _)
theorem kiv{T:TillD}{B:Bask}{hand:List Int}{u:List Nat}{S:Stnd}(h:walkM T B hand u [] (stnd0 B)=(u,S)):(kaR T B u).total=S.pr.sum+S.cg:=by
 have e:=kgP (u:=[]) h
 show(billM T B u (stnd0 B)).2.pr.sum+(billM T B u (stnd0 B)).2.cg=_
 rw[e]
structure ManyOk (B:Bask) (many:List Int):Prop where
 len:many.length=B.rs.length
 le:∀(i:Nat) (z:Int) (r:Row),many[i]?=some z→B.rs[i]?=some r→0≤z∧z≤r.mn
theorem kjz:∀{rs:List Row} {many:List Int},(∀(i:Nat) (z:Int) (r:Row),many[i]?=some z→rs[i]?=some r→0≤z∧z≤r.mn)→(mans (NT (fun(r:Row) (m:Int)=>{r with mn:=m}) rs many)).sum≤(mans rs).sum
 |[],_,_=>by simp[mans]
 |r::rs,[],_=>by simp[mans]
 |r::rs,z::many,h=>by
  have h0:=h 0 z r rfl rfl
  have h1:=kjz (rs:=rs) (many:=many) fun i z r e1 e2=>h (i+1) z r e1 e2
  rw[List.zipWith_cons_cons]
  unfold mans at h1⊢
  rw[NC,NC,N9,N9]
  show z.toNat+_≤r.mn.toNat+_
  omega
theorem kgc{B:Bask}{many:List Int}{r:Row}(h:r∈(kaV B many).rs):∃(i:Nat) (q:Row) (z:Int),B.rs[i]?=some q∧many[i]?=some z∧r= {q with mn:=z}:=by
 obtain⟨i,hi⟩:=Mr.mp h
 unfold kaV at hi
 simp only at hi
 rw[MY] at hi
 cases e1:B.rs[i]? with
 |none=>rw[e1] at hi;cases hi
 | some q=>
  cases e2:many[i]? with
  |none=>rw[e1,e2] at hi;cases hi
  |some z=>
   rw[e1,e2] at hi
   exact⟨i,q,z,e1,e2,(Option.some.inj hi).symm⟩
theorem kht{ps:List (Option Nat)}{B:Bask}{many:List Int}(w:Wf ps B (stnd0 B))(m:ManyOk B many):Wf ps (kaV B many) (stnd0 (kaV B many)):=by
 refine Wf.start w.good w.pl (fun r hr=>?_) (fun r hr=>?_) ?_ w.bc ?_
 ·obtain⟨i,q,z,e1,e2,rfl⟩:=kgc hr
  exact w.kd q (Nt e1)
 ·obtain⟨i,q,z,e1,e2,rfl⟩:=kgc hr
  have h:=w.ok q (Nt e1)
  have hz:=m.le i z q e2 e1
  exact⟨h.pr0,h.pr1,hz.1,Int.le_trans hz.2 h.mn1,h.ex0⟩
 ·show(NT _ B.rs many).length≤12
  rw[ML,m.len,Mu]
  exact w.nl
 ·rw[kfK]
  have h1:=kjz m.le
  have h2:(ownN B.rs).length<64:=w.n64
  rw[kfK] at h2
  exact Mt h1 h2
theorem ManyOk.set{B:Bask}{many:List Int}{l:Nat}{z k:Int}(m:ManyOk B many)(h:many[l]?=some z)(h0:0≤k)(h1:k≤z):ManyOk B (many.set l k):=by
 refine⟨by rw[MS];exact m.len,fun i y r e1 e2=>?_⟩
 by_cases e:l=i
 ·subst e
  rw[MN (at_lt h)] at e1
  cases e1
  have:=m.le l z r h e2
  omega
 ·rw[MO e] at e1
  exact m.le i y r e1 e2
theorem kfu{T:TillD}{B:Bask}{hand:List Int}:∀{o u:List Nat} {S:Stnd},(∀n∈o,n<T.vs.length)→((thrM T B hand o u S).1++(thrM T B hand o u S).2.1).Perm (u++o)
 |[],u,S,_=>by unfold thrM;exact N8.refl _
 | n::o,u,S,h=>by
  obtain⟨V,hV⟩:=at_of (h n NL)
  have h':∀m∈o,m<T.vs.length:=fun m hm=>h m (NF _ hm)
  unfold thrM
  rw[hV]
  simp only
  by_cases e:dueM V T B hand u S n=.non
  ·rw[if_pos e]
   have:=kfu (T:=T) (B:=B) (hand:=hand) (u:=u++[n]) (S:=aftM V T.ps (kds B) S) h'
   rw[Mb] at this
   exact this
  ·rw[if_neg e]
   exact E5.trans ((N8.cons n (kfu h')).trans E5.symm)
theorem keY{l:Nat}:∀{o:List Nat},((o.filter fun m=>decide (m≠l))++Nl (o.count l) l).Perm o
 |[]=>N8.refl _
 | a::o=>by
  rw[Ed,M9]
  by_cases e:a=l
  ·subst e
   rw[decide_eq_false (fun h=>h rfl),if_neg Nu,beq_self_eq_true,if_pos rfl,Mq]
   exact E5.trans (N8.cons a keY)
  ·have e1:(a==l)=false:=beq_eq_false_iff_ne.mpr e
   rw[decide_eq_true e,if_pos rfl,e1,if_neg Nu,Nat.add_zero]
   exact N8.cons a keY
theorem kia{T:TillD}{B:Bask}{hand:List Int}:∀{n:Nat} {o:List Nat},o.length<n→(∀m∈o,m<T.vs.length)→((dueA T B hand n o).1++(dueA T B hand n o).2.1).Perm o
 |0,o,h,_=>by omega
 | n+1,o,h,hlt=>by
  have hp:=kfu (T:=T) (B:=B) (hand:=hand) (u:=[]) (S:=stnd0 B) hlt
  have hl:=kev (T:=T) (B:=B) (hand:=hand) (u:=[]) (S:=stnd0 B) hlt
  have hm:=fun m=>keu (T:=T) (B:=B) (hand:=hand) (o:=o) (u:=[]) (S:=stnd0 B) (m:=m)
  unfold dueA
  generalize thrM T B hand o [] (stnd0 B)=R at *
  simp only[MC,M8,M5] at hl hp
  cases e:onlyM T.rs R.1 with
  |none=>exact hp
  | some l=>
   have hlt1:=filter_lt (kfL e)
   have ih:=kia (T:=T) (B:=B) (hand:=hand) (n:=n) (o:=R.1.filter fun m=>decide (m≠l)) (by omega) fun m h=>hlt m ((hm m (Mc.mp h).1).resolve_left (by simp))
   simp only
   generalize dueA T B hand n (R.1.filter fun m=>decide (m≠l))=Q at *
   have h1:(Q.1++(R.2.1++(Nl (R.1.count l) l++Q.2.1))).Perm ((Q.1++Q.2.1)++Nl (R.1.count l) l++R.2.1):=by
    have a1:(R.2.1++(Nl (R.1.count l) l++Q.2.1)).Perm (Q.2.1++Nl (R.1.count l) l++R.2.1):=E6.trans (N8.append_right _ E6)
    have a2:=N8.append_left Q.1 a1
    simp only[Mb] at a2⊢
    exact a2
   exact h1.trans ((N8.append_right _ ((N8.append_right _ ih).trans keY)).trans hp)
theorem kiF{T:TillD}{B:Bask}{hand:List Int}(tok:kbN T):∀{o u:List Nat} {S:Stnd},Wf T.ps B S→Wf T.ps B (thrM T B hand o u S).2.2
 |[],u,S,w=>w
 | n::o,u,S,w=>by
  unfold thrM
  cases e:T.vs[n]? with
  |none=>exact w
  | some V=>
   simp only
   by_cases c:dueM V T B hand u S n=.non
   ·rw[if_pos c]
    exact kiF tok (w.after (tok.vs V (Nt e)))
   ·rw[if_neg c]
    exact kiF tok w
theorem kln{T:TillD}{B:Bask}{hand:List Int}(tok:kbN T)(w:Wf T.ps B (stnd0 B)):∀{n:Nat} {o:List Nat},Wf T.ps B (dueA T B hand n o).2.2
 |0,o=>w
 |n+1,o=>by
  unfold dueA
  cases e:onlyM T.rs (thrM T B hand o [] (stnd0 B)).1 with
  |none=>exact kiF tok w
  |some l=>exact kln tok w
theorem kiA{T:TillD}{B:Bask}{hand:List Int}{z:Str}:∀{o u:List Nat} {S:Stnd},walkM {T with bk:=z} B hand o u S=walkM T B hand o u S
 |[],u,S=>rfl
 | n::o,u,S=>by
  rw[walkM,walkM]
  show(match T.vs[n]? with|none=>(u,S)|some V=>if dueM V T B hand u S n=L2.V.non then walkM {T with bk:=z} B hand o (u++[n]) (aftM V T.ps (kds B) S) else(u,S))=_
  cases T.vs[n]? with
  |none=>rfl
  |some V=>
   simp only
   rw[kiA]
theorem kj8{T:TillD}{B:Bask}{z:Str}:∀{o:List Nat} {S:Stnd},billM {T with bk:=z} B o S=billM T B o S
 |[],S=>rfl
 | n::o,S=>by
  rw[billM,billM]
  show(match T.vs[n]? with|none=>([],S)|some V=>(_::(billM {T with bk:=z} B o (aftM V T.ps (kds B) S)).1,(billM {T with bk:=z} B o (aftM V T.ps (kds B) S)).2))=_
  cases T.vs[n]? with
  |none=>rfl
  |some V=>
   simp only
   rw[kj8]
theorem kkK{T:TillD}{B:Bask}{hand:List Int}{z:Str}{o:List Nat}:kbh {T with bk:=z} B hand o=kbh T B hand o:=by
 unfold kbh
 rw[kiA]
 rfl
noncomputable def offs(B:Bask)(l:Nat):Nat:=(mans (B.rs.take l)).sum
noncomputable def remS(B:Bask)(pr:List Int)(many:List Int):Int:=((Nq B.rs.length).map fun l=>((pr.drop (offs B l)).take (many.getD l 0).toNat).sum).sum
theorem klG{B:Bask}{pr many:List Int}{l n:Nat}{z:Int}(hml:many.length=B.rs.length)(hz:many[l]?=some z)(hn:(n:Int)≤z):remS B pr (many.set l (z-n))=remS B pr many-((pr.drop (offs B l+(z-n).toNat)).take n).sum:=by
 have hl:=at_lt hz
 have e:((Nq B.rs.length).map fun i=>((pr.drop (offs B i)).take ((many.set l (z-n)).getD i 0).toNat).sum)=((Nq B.rs.length).map fun i=>((pr.drop (offs B i)).take (many.getD i 0).toNat).sum).set l ((pr.drop (offs B l)).take (z-n).toNat).sum:=by
  apply MA
  ·simp
  ·intro i h1 h2
   simp only[Nh,List.length_range] at h1
   rw[ET]
   simp only[MV,Ea,NH]
   by_cases c:l=i
   ·subst c
    rw[MN hl,if_pos rfl]
    rfl
   ·rw[MO c,if_neg c]
 have eu:((Nq B.rs.length).map fun i=>((pr.drop (offs B i)).take (many.getD i 0).toNat).sum)[l]?=some ((pr.drop (offs B l)).take z.toNat).sum:=by
  rw[Nv,Eb (by omega)]
  show some (((pr.drop (offs B l)).take (many.getD l 0).toNat).sum)=some _
  rw[NH,hz]
  rfl
 unfold remS
 rw[e,sum_set eu,show z.toNat=(z-n).toNat+n by omega,EW,Mg,List.drop_drop]
 omega
theorem kmc{B:Bask}{pr many:List Int}(h:∀z∈pr,0≤z):0≤remS B pr many:=by
 unfold remS
 refine kbq fun z hz=>?_
 obtain⟨l,_,rfl⟩:=NJ.mp hz
 exact kbq fun z hz=>h z (Ey (MM hz))
theorem khL{B:Bask}{pr many:List Int}(h:∀z∈many,z≤0):remS B pr many=0:=by
 unfold remS
 have e:((Nq B.rs.length).map fun l=>((pr.drop (offs B l)).take (many.getD l 0).toNat).sum)=(Nq B.rs.length).map fun _=>0:=Me fun l _=>by
  have h0:(many.getD l 0).toNat=0:=by
   rw[NH]
   cases e:many[l]? with
   |none=>rfl
   |some z=>
    have:=h z (Nt e)
    show z.toNat=0
    omega
  rw[h0]
  rfl
 rw[e]
 generalize Nq B.rs.length=L
 induction L with
 |nil=>rfl
 |cons a L ih=>rw[NC,N9,ih];rfl
theorem kja{B:Bask}{pr:List Int}(hpl:pr.length=(mans B.rs).sum):remS B pr (B.rs.map fun r=>r.mn)=pr.sum:=by
 have h:∀n,n≤B.rs.length→((Nq n).map fun l=>((pr.drop (offs B l)).take ((B.rs.map fun(r:Row)=>r.mn).getD l 0).toNat).sum).sum=(pr.take (offs B n)).sum:=by
  intro n
  induction n with
  |zero=>intro _;unfold offs;rw[List.take_zero];rfl
  |succ n ih=>
   intro hn
   obtain⟨r,er⟩:=at_of (xs:=B.rs) (i:=n) (by omega)
   rw[Mx,Np,Mg,ih (by omega),NC,Ej,N9,Ee,Int.add_zero]
   have e1:offs B (n+1)=offs B n+r.mn.toNat:=by unfold offs;rw[kgC er,Mg];simp
   rw[e1,EW,Mg,NH,Nv,er]
   rfl
 have:=h B.rs.length (Nj _)
 unfold remS
 rw[this]
 unfold offs
 rw[NS,←hpl,NS]
theorem kj7{T:TillD}{B:Bask}(tok:kbN T):∀{o:List Nat} {S:Stnd},Wf T.ps B S→Wf T.ps B (billM T B o S).2
 |[],S,w=>w
 |n::o,S,w=>by
  unfold billM
  cases e:T.vs[n]? with
  |none=>exact w
  |some V=>exact kj7 tok (w.after (tok.vs V (Nt e)))
structure Num37 (T T2:TillD) (B:Bask) (hand pr:List Int) (cg first:Int) (order:List Nat) (i:Nat) (A Y:AccD) (u v:List Int):Prop where
 eT:A.T=T
 eB:A.B=B
 eh:A.hand=hand
 okA:AccOk A
 yT:Y.T=T2
 yB:Y.B=B
 yp:Y.pr=pr
 okY:AccOk Y
 my:Y.many=A.many
 mo:ManyOk B A.many
 su:u.sum+A.paid=first
 sv:v.sum+Y.paid=first
 lu:u.length≤i
 lv:v.length≤i
 pA:0≤A.paid
 pY:Y.paid=cg+remS B pr A.many
 oY:Y.owed=0
 pm:(A.order++A.fallen).Perm order
section
variable {T T2:TillD} {B:Bask} {hand pr:List Int} {cg first:Int} {order:List Nat} {i:Nat} {A Y:AccD} {u v:List Int} {l n:Nat} {z:Int}
structure Took (T T2:TillD) (B:Bask) (hand pr:List Int) (cg first:Int) (order:List Nat) (i:Nat) (A Y:AccD) (u v:List Int) (l n:Nat) (z:Int):Prop where
 b0:0≤backB A l (z-n) n
 w0:0≤(tookB A l (z-n) n).owed
 p0:0≤(tookB A l (z-n) n).paid
 s0:u.sum+backB A l (z-n) n+(tookB A l (z-n) n).paid=first
 b1:0≤backB Y l (z-n) n
 w1:0≤(tookB Y l (z-n) n).owed
 p1:0≤(tookB Y l (z-n) n).paid
 s1:v.sum+backB Y l (z-n) n+(tookB Y l (z-n) n).paid=first
 mA:(tookB A l (z-n) n).many=A.many.set l (z-n)
 mY:(tookB Y l (z-n) n).many=A.many.set l (z-n)
 nx:Num37 T T2 B hand pr cg first order (i+1) (tookB A l (z-n) n) (tookB Y l (z-n) n) (u++[backB A l (z-n) n]) (v++[backB Y l (z-n) n])
 hf:kbh (tookB A l (z-n) n).T (kaV B (A.many.set l (z-n))) hand (tookB A l (z-n) n).order=none
 hp:(tookB A l (z-n) n).paid+(tookB A l (z-n) n).owed=(kaR T (kaV B (A.many.set l (z-n))) (tookB A l (z-n) n).order).total
theorem Num37.took(N:Num37 T T2 B hand pr cg first order i A Y u v)(bT:T.bk=("again" :Str))(b2:T2.bk=("shares" :Str))(wf0:Wf T.ps B (stnd0 B))(hc:0≤cg)(hpr:∀z∈pr,0≤z)(hz:A.many[l]?=some z)(hn1:1≤n)(hn2:(n:Int)≤z):Took T T2 B hand pr cg first order i A Y u v l n z:=by
 have ag:A.T.bk=("again" :Str):=by rw[N.eT];exact bT
 have nag:¬Y.T.bk=("again" :Str):=by rw[N.yT,b2];decide +kernel
 have eA:tookB A l (z-n) n=tookA A l (z-n):=by unfold tookB;rw[if_pos ag]
 have eb:backB A l (z-n) n=backA A l (z-n):=by unfold backB;rw[if_pos ag]
 have eY:tookB Y l (z-n) n= {Y with many:=Y.many.set l (z-n),paid:=Y.paid-bkS Y l (z-n) n}:=by unfold tookB;rw[if_neg nag]
 have ey:backB Y l (z-n) n=bkS Y l (z-n) n:=by unfold backB;rw[if_neg nag]
 have es:bkS Y l (z-n) n=((pr.drop (offs B l+(z-n).toNat)).take n).sum:=by unfold bkS offs;rw[N.yp,N.yB]
 have hs0:0≤bkS Y l (z-n) n:=by rw[es];exact kbq fun z hz=>hpr z (Ey (MM hz))
 have hr:=klG (B:=B) (pr:=pr) N.mo.len hz hn2
 rw[←es] at hr
 have hrn:=kmc (B:=B) (pr:=pr) (many:=A.many.set l (z-n)) hpr
 have mo':=N.mo.set hz (show 0≤z-(n:Int) by omega) (show z-(n:Int)≤z by omega)
 have wf':=kht wf0 mo'
 have l8:A.order.length<9:=by have:=N.okA.l8;omega
 have edue:due1 A l (z-n)=dueA T (kaV B (A.many.set l (z-n))) hand 9 A.order:=by
  unfold due1 dueOf
  simp only
  rw[N.eT,N.eB,N.eh]
 have hlt:∀m∈A.order,m<T.vs.length:=by rw[←N.eT];exact N.okA.lt
 have tok:kbN T:=by rw[←N.eT];exact N.okA.tok
 obtain⟨w1,w2,w3,w4⟩:=kh9 (T:=T) (B:=kaV B (A.many.set l (z-n))) (hand:=hand) l8 hlt
 have wp:=kia (T:=T) (B:=kaV B (A.many.set l (z-n))) (hand:=hand) l8 hlt
 have ww:=kln (hand:=hand) tok wf' (n:=9) (o:=A.order)
 rw[←edue] at w1 w2 w3 w4 wp ww
 have ho:0≤owes (due1 A l (z-n)):=by
  have h1:=kbq fun z hz=>(ww.pr z hz).1
  have h2:=ww.cg.1
  unfold owes
  omega
 have hb:backA A l (z-n)=max (A.paid-owes (due1 A l (z-n))) 0:=rfl
 have hpd:(tookA A l (z-n)).paid=A.paid-backA A l (z-n):=rfl
 have how:(tookA A l (z-n)).owed=max (owes (due1 A l (z-n))-(A.paid-backA A l (z-n))) 0:=rfl
 have hpA:=N.pA
 have hpY:=N.pY
 have hsu:=N.su
 have hsv:=N.sv
 have hlu:=N.lu
 have hlv:=N.lv
 have hoY:=N.oY
 have hl8:=N.okA.l8
 have hmA:(tookA A l (z-n)).many=A.many.set l (z-n):=rfl
 have b0:0≤backB A l (z-n) n:=by rw[eb,hb];omega
 have w0:0≤(tookB A l (z-n) n).owed:=by rw[eA,how];omega
 have p0:0≤(tookB A l (z-n) n).paid:=by rw[eA,hpd];omega
 have s0:u.sum+backB A l (z-n) n+(tookB A l (z-n) n).paid=first:=by rw[eA,eb,hpd];omega
 have b1:0≤backB Y l (z-n) n:=by rw[ey];exact hs0
 have pY':(tookB Y l (z-n) n).paid=cg+remS B pr (A.many.set l (z-n)):=by
  rw[eY,hr]
  show Y.paid-_=_
  omega
 have s1:v.sum+backB Y l (z-n) n+(tookB Y l (z-n) n).paid=first:=by
  rw[eY,ey]
  show v.sum+_+(Y.paid-_)=first
  omega
 have oY':(tookB Y l (z-n) n).owed=0:=by rw[eY];exact hoY
 have mY:(tookB Y l (z-n) n).many=A.many.set l (z-n):=by rw[eY,←N.my]
 have oA':AccOk (tookB A l (z-n) n):=by
  rw[eA]
  refine⟨N.okA.tok,N.okA.nl,?_,N.okA.hl,?_,?_⟩
  ·show(A.many.set l (z-n)).length=_
   rw[MS]
   exact N.okA.ml
  ·intro m hm
   exact N.okA.lt m (w3 m hm)
  ·show(due1 A l (z-n)).1.length+(A.fallen++(due1 A l (z-n)).2.1).length≤8
   rw[Nx]
   omega
 have oK':AccOk (tookB Y l (z-n) n):=by
  rw[eY]
  refine⟨N.okY.tok,N.okY.nl,?_,N.okY.hl,N.okY.lt,N.okY.l8⟩
  show(Y.many.set l (z-n)).length=_
  rw[MS]
  exact N.okY.ml
 have pm':((tookB A l (z-n) n).order++(tookB A l (z-n) n).fallen).Perm order:=by
  rw[eA]
  show((due1 A l (z-n)).1++(A.fallen++(due1 A l (z-n)).2.1)).Perm order
  have a1:((due1 A l (z-n)).1++(A.fallen++(due1 A l (z-n)).2.1)).Perm (((due1 A l (z-n)).1++(due1 A l (z-n)).2.1)++A.fallen):=by
   rw[Mb]
   exact N8.append_left _ E6
  exact a1.trans ((N8.append_right _ wp).trans N.pm)
 refine⟨b0,w0,p0,s0,b1,by rw[oY'];exact Int.le_refl _,by rw[pY'];omega,s1,by rw[eA];exact hmA,mY,⟨?_,?_,?_,oA',?_,?_,?_,oK',?_,?_,?_,?_,?_,?_,p0,?_,oY',pm'⟩,?_,?_⟩
 ·rw[eA];exact N.eT
 ·rw[eA];exact N.eB
 ·rw[eA];exact N.eh
 ·rw[eY];exact N.yT
 ·rw[eY];exact N.yB
 ·rw[eY];exact N.yp
 ·rw[mY,eA];rfl
 ·rw[eA];exact mo'
 ·rw[Mg,N9,Ee];omega
 ·rw[Mg,N9,Ee];omega
 ·rw[Nx];show _+1≤_;omega
 ·rw[Nx];show _+1≤_;omega
 ·rw[pY',eA];rfl
 ·rw[eA]
  show kbh A.T _ hand (due1 A l (z-n)).1=none
  rw[N.eT]
  exact kie w1 w2
 ·rw[eA]
  show A.paid-backA A l (z-n)+max (owes (due1 A l (z-n))-(A.paid-backA A l (z-n))) 0=(kaR T _ (due1 A l (z-n)).1).total
  rw[kiv w1,show(due1 A l (z-n)).2.2.pr.sum+(due1 A l (z-n)).2.2.cg=owes (due1 A l (z-n)) from rfl]
  omega
end
inductive St37 (d:D) (H6:Hp) (x y D L M c0 c1 bl dx2:Addr) (fs2:List (Str×V)) (A Y:AccD) (many u v:List Int) (H':Hp):Prop
 |mk (Hs:Hp) (sI:Same H6 H') (sS:Same Hs H') (fx:Hs x=none) (fy:Hs y=none) (fD:Hs D=none) (f0:Hs c0=none) (f1:Hs c1=none) (hA:AccIn d Hs H' x A) (hY:AccIn d Hs H' y Y) (eD:H' D=some (.lst (many.map V.int))) (eL:H' L=some (.lst [.ref x, .ref y])) (eM:H' M=some (.lst [.ref c0, .ref c1])) (e0:H' c0=some (.lst (u.map V.int))) (e1:H' c1=some (.lst (v.map V.int))) (eb:H' bl=some (.ins d.qi dx2 fs2)):St37 d H6 x y D L M c0 c1 bl dx2 fs2 A Y many u v H'
theorem St37.same{d:D}{H6 H' H'':Hp}{x y D L M c0 c1 bl dx2:Addr}{fs2:List (Str×V)}{A Y:AccD}{many u v:List Int}(s:Same H' H''):St37 d H6 x y D L M c0 c1 bl dx2 fs2 A Y many u v H'→St37 d H6 x y D L M c0 c1 bl dx2 fs2 A Y many u v H'':=fun⟨Hs,sI,sS,fx,fy,fD,f0,f1,hA,hY,eD,eL,eM,e0,e1,eb⟩=>⟨Hs,sI.trans s,sS.trans s,fx,fy,fD,f0,f1,hA.same s,hY.same s,s _ _ eD,s _ _ eL,s _ _ eM,s _ _ e0,s _ _ e1,s _ _ eb⟩
theorem kdZ:∀{xs:List Int} {z:Int},(∀z∈xs,0≤z)→z∈xs→z≤xs.sum
 | x::xs,z,h,hz=>by
  have h0:=h x NL
  have h1:=kbq fun z hz=>h z (NF x hz)
  rw[N9]
  rcases NI.mp hz with e|e
  ·omega
  ·have:=kdZ (fun z hz=>h z (NF x hz)) e
   omega
theorem ManyOk.nn{B:Bask}{many:List Int}(m:ManyOk B many){z:Int}(hz:z∈many):0≤z:=by
 obtain⟨j,ej⟩:=Mr.mp hz
 obtain⟨r,er⟩:=at_of (xs:=B.rs) (i:=j) (by rw[←m.len];exact at_lt ej)
 exact(m.le j z r ej er).1
theorem qq:kap ["_law_script","_law_till_here","_law_basket_here","_law_hand_here","_law_other","_law_order_here","_law_accounts","_law_bill","_law_backs","_law_many","_law_k","_law_taken_here","_law_account","_law_told"] ["_law_script"] (kah s_law):=⟨rfl,rfl,rfl,by decide +kernel,rfl,by decide +kernel,by decide +kernel⟩
theorem kml(W:WB K mg d base):FnOk P w K mg base CX0 19 d.f_law d.ZN ["_law_script"] (kgg K d.tP_falling_groups):=by
 refine FunD.ok W.d_law.F qq (fun vs H Q E h=>?_) (fun cdv A outer s H vs Q E hr h=>?_)
 ·obtain⟨a,ns,rfl,_⟩:=h
  rfl
 ·obtain⟨a,ns,rfl,hS,hn,htb0,k⟩:=h
  have Jd:=kfU (P:=P) (w:=w) (base:=base) W
  have QG:=kcU (P:=P) (w:=w) (base:=base) W
  have Je:=kfR (P:=P) (w:=w) (base:=base) W
  have V7:=keR (P:=P) (w:=w) (base:=base) W
  have QF:=keL (P:=P) (w:=w) (base:=base) W
  have Jf:=kgy (P:=P) (w:=w) (base:=base) W
  have Jg:=kfN (P:=P) (w:=w) (base:=base) W
  have Jh:=kdY (P:=P) (w:=w) (base:=base) W
  have hr2:Room 2 _:=hr.mono (by decide)
  have hr3:Room 3 _:=hr.mono (by decide)
  have hr8:Room 8 _:=hr.mono (by decide)
  have hr9:Room 9 _:=hr.mono (by decide)
  have hr10:Room 10 _:=hr.mono (by decide)
  have hr11:Room 11 _:=hr.mono (by decide)
  refine⟨_,kac (khP (kan Jd hr8 rfl W.Xe.m W.Xe.F.kp W.Xe.b .nil pass0 (kaa (pv 0) (kaa kbB kae))) (kbo (K:=K) (n:=3) rfl (kaA (kar (i:=1) qq.nd rfl (Or.inl rfl)) (kaA (kar (i:=2) qq.nd rfl (Or.inl rfl)) (kaA (kar (i:=3) qq.nd rfl (Or.inl rfl)) kbn)))))
   (kac (kas (i:=4) qq.nd rfl (Or.inl rfl) (kaS (W.Qd.mk' W.qh) QG hr2 rfl W.qh.m W.Qd.b .nil pass0 (kaa (kag (K:=K) (pv 1) rfl) (kaa (kag (K:=K) (pv 1) rfl) (kaa (kag (K:=K) (pv 1) rfl) (kaa kbB kae))))))
   (kac (kas (i:=5) qq.nd rfl (Or.inl rfl) (kan Je hr10 rfl W.Xb.m W.Xb.F.kp W.Xb.b .nil pass0 (kaa (pv 0) (kaa kaf (kaa (pv 1) (kaa (pv 2) (kaa (pv 3) kae)))))))
   (kac (kas (i:=6) qq.nd rfl (Or.inl rfl) (kaL (kaa (kaS (W.Qy.mk' W.qc) V7 hr11 rfl W.qc.m W.Qy.b .nil pass0 (kaa (pv 1) (kaa (pv 2) (kaa (pv 3) (kaa (pv 5) kae))))) (kaa (kaS (W.Qy.mk' W.qc) V7 hr11 rfl W.qc.m W.Qy.b .nil pass0 (kaa (pv 4) (kaa (pv 2) (kaa (pv 3) (kaa (pv 5) kae))))) kae))))
   (kac (kas (i:=7) qq.nd rfl (Or.inl rfl) (kan QF hr9 rfl W.qA.m W.qA.F.kp W.qA.b .nil pass0 (kaa (pv 1) (kaa (pv 2) (kaa (pv 3) (kaa (pv 5) kae))))))
   (kac (kas (i:=8) qq.nd rfl (Or.inl rfl) (kaL (kaa (kaL kae) (kaa (kaL kae) kae))))
   (kac (kdS (N:=["_law_line"]) (CompScope.plain rfl (by decide +kernel) (by decide +kernel) (by decide +kernel) (nd1 _)) rfl (kaJ (K:=K) (kag (K:=K) (pv 2) rfl)) (fun _ _ _ _=>kar (i:=0) (nd1 _) rfl (Or.inl rfl)) (fun _ _ _ _=>(kag (K:=K) (pv 0) rfl)) (kar (i:=9) qq.nd rfl (Or.inl rfl)))
   (kac (kbA PassesOwn.never rfl (kjl rfl W.B.range (kaa kaf (kaa kaf kae))) (kar (i:=10) qq.nd rfl (Or.inl rfl))
   (kac (kas (i:=11) qq.nd rfl (Or.inl rfl) (kan Jf hr3 rfl W.Xd.m W.Xd.F.kp W.Xd.b .nil pass0 (kaa (pv 0) (kaa (pv 10) (kaa (pv 9) kae)))))
   (kac (ps_if (kat kd5 (pv 11) ka5 (kax _)) (kai (kkk)) (kaw))
   (kac (khP (pe_op kdd (pe_ix (r:=rIxL K) kaD (pv 9) (pe_ix (r:=rIxT K) kd9 (pv 11) kaf (fun _ _=>rfl)) (fun _ _=>rfl)) (pe_ix (r:=rIxT K) kd9 (pv 11) kaf (fun _ _=>rfl))) (kjn (pv 9) (pe_ix (r:=rIxT K) kd9 (pv 11) kaf (fun _ _=>rfl)) set_list))
   (kac (kbA PassesOwn.never rfl (kdo rfl W.B.zip (kaa (pv 6) (kaa (pv 8) kae))) (kbo (K:=K) (n:=2) rfl (kaA (kar (i:=12) qq.nd rfl (Or.inl rfl)) (kaA (kar (i:=13) qq.nd rfl (Or.inl rfl)) kbn)))
   (kai (ps_if (PW.pt (pw_or (kgs (kbg (kan Jg hr rfl W.Xf.m W.Xf.F.kp W.Xf.b .nil pass0 (kaa (pv 12) (kaa (kag (K:=K) (pv 7) rfl) (kaa (pv 13) (kaa (pv 11) kae))))))) (khN (kat (kmk hr.units0) (kag (K:=K) (pv 12) rfl) (pv 9) (kax _))))) (kai (kaq pe_bl)) (kaw))))
   (kai (ps_if (PW.pt (pw_or (kgs (kbg (kan Jh hr10 rfl W.Xg.m W.Xg.F.kp W.Xg.b .nil pass0 (kaa (pv 1) (kaa (pv 2) (kaa (pv 3) (kaa (pe_ix (r:=rIxL K) kaD (pv 6) kaf (fun _ _=>rfl)) (kaa (pv 5) kae)))))))) (khN (kat op_ne (kag (K:=K) (pe_ix (r:=rIxL K) kaD (pv 6) kaf (fun _ _=>rfl)) rfl) kaf (kax _))))) (kai (kaq pe_bl)) (kaw))))))))
   (kai (kaq (pe_or (ka7 op_gt (kay (r:=rSum K) (kbz rfl) (by rfl) W.B.sum b_sum (kaa (pv 9) kae)) kaf (kax _)) (kgt (ka7 op_eq (kag (K:=K) (pe_ix (r:=rIxL K) kaD (pv 6) kaf (fun _ _=>rfl)) rfl) (kag (K:=K) (pv 7) rfl) (kax _))))))))))))),?_⟩
  try refine sN fun _ Y4=>?_
  refine⟨_,rfl,a,ns,"again",rfl,hS,htb0,fun H1 p0 t b h T B hand s1 hp0 hT bT tok hv0 hb wf0 hh hhl=>?_⟩
  try apply Y4
  try refine sN fun _ Y4=>?_
  refine⟨p0,_,rfl,SqT.of hp0,rfl,_,_,rfl,_,_,rfl,_,_,rfl,rfl,?_⟩
  obtain⟨dxt,fst,tp,vl,rl,va,ra,ht,t1,t2,t3,t4,htp,hvl,hva,hrl,hra⟩:=id hT
  obtain⟨T2,eT2⟩:∃T2:TillD,T2= {T with bk:="shares"}:=⟨_,rfl⟩
  have e1:T2.ps=T.ps:=by rw[eT2]
  have e2:T2.vs=T.vs:=by rw[eT2]
  have e3:T2.rs=T.rs:=by rw[eT2]
  have b2:T2.bk=("shares" :Str):=by rw[eT2]
  have tok2:kbN T2:=⟨by rw[e1,e2];exact tok.vs,by rw[e2];exact tok.nv⟩
  try apply Y4
  try refine sN fun _ Y4=>?_
  refine⟨_,rfl,t,d.qh,dxt,fst,_,rfl,ht,W.qh.cl,W.Ql,t1,_,rfl,t,d.qh,dxt,fst,_,rfl,ht,W.qh.cl,W.qI,t2,_,rfl,t,d.qh,dxt,fst,_,rfl,ht,W.qh.cl,W.qJ,t3,?_⟩
  rw[show V.str "shares"=V.str T2.bk by rw[b2]]
  try apply Y4
  refine kjv (T:=T2) (by rw[e1];exact htp) hvl (by rw[e2];exact hva) hrl (by rw[e3];exact hra) fun H2 tt s2 f2 hT2=>?_
  have s02:=s1.trans s2
  try apply Y4
  try refine sN fun _ Y4=>?_
  refine⟨_,rfl,_,rfl,_,rfl,_,rfl,a,t,b,h,ns,8,T,B,hand,rfl,s02.seq hS,⟨by decide,by decide⟩,hT.same s2,tok,hv0,hb.same s2,wf0,s2 _ _ hh,hhl,fun H6 o order s6 fo eo hlt h8 hfn=>?_⟩
  have s06:=s02.trans s6
  have s16:=s2.trans s6
  have hT6:=hT.same s16
  have hT26:=hT2.same s6
  have hb6:=hb.same s16
  have hh6:=s16 _ _ hh
  have hf2:kbh T2 B hand order=none:=by rw[eT2,kkK];exact hfn
  have eb2:kaR T2 B order=kaR T B order:=by rw[eT2];unfold kaR;rw[kj8]
  try apply Y4
  try refine sN fun _ Y4=>?_
  refine⟨_,rfl,_,rfl,_,rfl,_,rfl,klf hT6 tok hb6 wf0 hh6 eo hhl hlt (by omega) hfn fun H7 x s7 fx hA _=>?_⟩
  try apply Y4
  try refine sN fun _ Y4=>?_
  refine⟨_,rfl,_,rfl,_,rfl,_,rfl,klf (hT26.same s7) tok2 (hb6.same s7) (by rw[e1];exact wf0) (s7 _ _ hh6) (s7 _ _ eo) (by rw[e2];exact hhl) (by rw[e2];exact hlt) (by omega) hf2 fun H8 y s8 fy hY _=>?_⟩
  try apply Y4
  try refine sN fun _ Y4=>?_
  refine⟨(by show 2≤sizeLine;decide),fun L fL=>?_⟩
  generalize hg9:upd H8 L _=H9
  obtain⟨n9,eL⟩:=kaK hg9 fL
  have s78:=s7.trans s8
  have s69:=s78.trans n9
  try apply Y4
  try refine sN fun _ Y4=>?_
  refine⟨_,rfl,_,rfl,_,rfl,_,rfl,t,b,h,o,T,B,hand,order,rfl,hT6.same s69,tok,hb6.same s69,wf0,s69 _ _ hh6,s69 _ _ eo,hhl,hlt,by omega,hfn,fun Hz H10 bl z0 z10 hBl=>?_⟩
  obtain⟨dx2,fs2,o2,sp,pp,sa,g1,g2,g3,g4,g5,g6,fbl,_⟩:=id hBl
  have s910:=z0.trans z10
  try apply Y4
  try refine sN fun _ Y4=>?_
  refine⟨by decide,fun c0 fc0=>?_⟩
  generalize hg11:upd H10 c0 _=H11
  obtain⟨n11,(ec0:H11 c0=some (.lst (([]:List Int).map V.int)))⟩:=kaK hg11 fc0
  try apply Y4
  try refine sN fun _ Y4=>?_
  refine⟨by decide,fun c1 fc1=>?_⟩
  generalize hg12:upd H11 c1 _=H12
  obtain⟨n12,(ec1:H12 c1=some (.lst (([]:List Int).map V.int)))⟩:=kaK hg12 fc1
  try apply Y4
  try refine sN fun _ Y4=>?_
  refine⟨(by show 2≤sizeLine;decide),fun M fM=>?_⟩
  generalize hg13:upd H12 M _=H13
  obtain⟨n13,eM⟩:=kaK hg13 fM
  have s913:=((s910.trans n11).trans n12).trans n13
  have s613:=s69.trans s913
  obtain⟨l,ls,⟨dxb,fsb,hbb,lbl,lbc,lbm⟩,hlb,hL⟩:=id (hb6.same s613)
  have hll:=hL.len
  have hB12:=wf0.nl
  try apply Y4
  try refine sN fun _ Y4=>?_
  refine⟨_,rfl,b,d.qg,dxb,fsb,_,rfl,hbb,W.qg.cl,W.qy,lbl,l,rfl,⟨_,SqL.of hlb⟩,kaZ (xs:=ls.map V.ref) (fun i σ ys H'=>H'=H13∧ys=((B.rs.take i).map fun r=>r.mn).map V.int∧∃v,σ=[v]) ⟨rfl,rfl,none,rfl⟩ (by rw[Nh,hll];exact Nw (kao (by omega))) ?_ ?_ ?_⟩
  ·rintro i σ ys H' hi ⟨rfl,rfl,_⟩
   try apply Y4
   exact⟨SqL.of hlb,by rw[Nh,Nh,Ny];rw[Nh] at hi;omega⟩
  ·rintro i y σ ys H' hy ⟨rfl,rfl,v,rfl⟩
   obtain⟨lx,el,rfl⟩:=kbJ hy
   obtain⟨r,er⟩:=at_of (xs:=B.rs) (i:=i) (by have:=at_lt el;omega)
   obtain⟨dxl,fsl,hlx,lk1,lk2,lk3,lk4⟩:=hL.get el er
   try apply Y4
   try refine sN fun _ Y6=>?_
   refine⟨_,rfl,lx,d.qf,dxl,fsl,_,rfl,hlx,W.qf.cl,W.qF,lk3,rfl,?_,_,rfl⟩
   rw[take_snoc er,Np,Np]
   rfl
  rintro σ ys H13' ⟨rfl,rfl,v,rfl⟩ D fD
  rw[Nh,hll,NS]
  generalize hg14:upd H13' D _=H14
  obtain⟨n14,eD⟩:=kaK hg14 fD
  obtain⟨dxx,fsx,hx7,foex⟩:=hA.obj
  obtain⟨dxy,fsy,hy8,foey⟩:=hY.obj
  have hx8:=s8 _ _ hx7
  have nyx:y≠x:=(kaj hx7 fy).symm
  have hy8':(Vs.rmv x H8) y=some (.ins d.qc dxy fsy):=(keD nyx).trans hy8
  have hAx:=(((hA.same s8).kept s8).rmv hx8 foex).rmv hy8' foey
  have hYy:=(hY.rmv hx8 foex).rmv hy8' foey
  have S0:Same (Vs.rmv y (Vs.rmv x H8)) H8:=rmv_sub.trans rmv_sub
  have fx0:(Vs.rmv y (Vs.rmv x H8)) x=none:=by rw[keD nyx.symm,khK]
  have fy0:(Vs.rmv y (Vs.rmv x H8)) y=none:=khK
  generalize Vs.rmv y (Vs.rmv x H8)=Hs0 at *
  have s89:=n9.trans s910
  have s811:=s89.trans n11
  have s812:=s811.trans n12
  have s813:=s812.trans n13
  have s814:=s813.trans n14
  have fx6:=fx
  have fy6:=none_of s7 fy
  have fD6:=none_of s613 fD
  have fc06:=none_of (s69.trans s910) fc0
  have fc16:=none_of ((s69.trans s910).trans n11) fc1
  have eL10:=s910 _ _ eL
  have nLc0:L≠c0:=kaj eL10 fc0
  have nLc1:L≠c1:=kaj (n11 _ _ eL10) fc1
  have nc01:c0≠c1:=kaj ec0 fc1
  have nc0M:c0≠M:=kaj (n12 _ _ ec0) fM
  have nc1M:c1≠M:=kaj ec1 fM
  have nLD:L≠D:=kaj (s913 _ _ eL) fD
  have nMD:M≠D:=kaj eM fD
  have nc0D:c0≠D:=kaj ((n12.trans n13) _ _ ec0) fD
  have nc1D:c1≠D:=kaj (n13 _ _ ec1) fD
  have nbx:bl≠x:=(kaj ((n9.trans z0) _ _ hx8) fbl).symm
  have nby:bl≠y:=(kaj ((n9.trans z0) _ _ hy8) fbl).symm
  have wB:=kj7 tok (o:=order) wf0
  have hpr:∀z∈(kaR T B order).pr,0≤z:=fun z hz=>(wB.pr z hz).1
  have hcg:0≤(kaR T B order).cg:=wB.cg.1
  have hpl:(kaR T B order).pr.length=(mans B.rs).sum:=wB.lp.trans (by rw[wB.ow,kfK])
  have htot:(kaR T B order).total=(kaR T B order).pr.sum+(kaR T B order).cg:=rfl
  have hps:=kbq hpr
  have hrf:=kja (B:=B) hpl
  have mo0:ManyOk B (B.rs.map fun r=>r.mn):=⟨Nh ..,fun i z r e1 e2=>by
   rw[Nv,e2] at e1
   have e3:r.mn=z:=Option.some.inj e1
   try apply Y4
   exact⟨by rw[←e3];exact(wf0.ok r (Nt e2)).mn0,by omega⟩⟩
  have N0:Num37 T T2 B hand (kaR T B order).pr (kaR T B order).cg (kaR T B order).total order 0 (acc0 T B hand order) (acc0 T2 B hand order) [] []:=⟨rfl,rfl,rfl,⟨tok,hB12,Nh ..,hhl,hlt,h8⟩,rfl,rfl,(by show(kaR T2 B order).pr=_;rw[eb2]),⟨tok2,hB12,Nh ..,by show hand.length=T2.vs.length;rw[e2];exact hhl,by show ∀n∈order,n<T2.vs.length;rw[e2];exact hlt,h8⟩,rfl,mo0,(by show([]:List Int).sum+(kaR T B order).total=_;simp),(by show([]:List Int).sum+(kaR T2 B order).total=_;rw[eb2];simp),Nj _,Nj _,(by show 0≤(kaR T B order).total;omega),(by show(kaR T2 B order).total=(kaR T B order).cg+remS B (kaR T B order).pr (B.rs.map fun r=>r.mn);rw[eb2,hrf];omega),rfl,(by show(order++[]).Perm order;rw[MQ])⟩
  generalize hprE:(kaR T B order).pr=pr at *
  generalize hcgE:(kaR T B order).cg=cg at *
  generalize (kaR T B order).total=tot at *
  have i0:St37 d H6 x y D L M c0 c1 bl dx2 fs2 (acc0 T B hand order) (acc0 T2 B hand order) (B.rs.map fun r=>r.mn) [] [] H14:=⟨Hs0,s613.trans n14,S0.trans s814,fx0,fy0,none_of (S0.trans s813) fD,none_of (S0.trans s89) fc0,none_of (S0.trans s811) fc1,hAx.same s814,hYy.same s814,eD,(s913.trans n14) _ _ eL,n14 _ _ eM,((n12.trans n13).trans n14) _ _ ec0,(n13.trans n14) _ _ ec1,((n11.trans n12).trans (n13.trans n14)) _ _ g1⟩
  try apply Y4
  try refine sN fun _ Y4=>?_
  refine⟨_,_,rfl,⟨by decide,by decide,by decide,by decide⟩,?_⟩
  try apply Y4
  refine kc1 (fun i σ H'=>∃(A Y:AccD) (u v:List Int) (v10 v11 v12 v13:Option V),Num37 T T2 B hand pr cg tot order i A Y u v∧St37 d H6 x y D L M c0 c1 bl dx2 fs2 A Y A.many u v H'∧σ=[some (.ref a),some (.ref t),some (.ref b),some (.ref h),some (.ref tt),some (.ref o),some (.ref L),some (.ref bl),some (.ref M),some (.ref D),v10,v11,v12,v13])
   ⟨_,_,_,_,none,none,none,none,N0,i0,rfl⟩ ?_ ?_
  ·rintro i σ H' hi ⟨A,Y,u,v,v10,v11,v12,v13,N,S',rfl⟩
   have hi64:i<64:=by simpa using hi
   obtain⟨Hs,sI,sS,fx',fy',fD',f0',f1',hA',hY',eD',eL',eM',e0',e1',eb'⟩:=id S'
   have hTA:TillIs d H6 t A.T:=by rw[N.eT];exact hT6
   have hbA:BaskIs d.qf d.qg H6 b A.B:=by rw[N.eB];exact hb6
   have hhA:H6 h=some (.lst (A.hand.map V.int)):=by rw[N.eh];exact hh6
   have lm12:A.many.length≤12:=by rw[N.okA.ml];exact N.okA.nl
   try apply Y4
   try refine sN fun _ Y6=>?_
   refine⟨_,rfl,_,rfl,_,rfl,a,D,ns,16+(i:Int),A.many,rfl,(s06.trans sI).seq hS,⟨by omega,by omega⟩,eD',lm12,(fun z hz=>?_),?_,?_⟩
   ·obtain⟨j,ej⟩:=Mr.mp hz
    obtain⟨r,er⟩:=at_of (xs:=B.rs) (i:=j) (by rw[←N.mo.len];exact at_lt ej)
    have h1:=N.mo.le j z r ej er
    have h2:=(wf0.ok r (Nt er)).mn1
    omega
   ·intro H2' s2' _
    try first|apply Y6|apply Y4
    try refine sN fun _ Y8=>?_
    refine⟨_,rfl,rfl,_,rfl,?_⟩
    rw[show decide (V.non=V.non)=true by simp]
    refine iteT ?_
    obtain⟨Hs,sI,sS,fx',fy',fD',f0',f1',hA',hY',eD',eL',eM',e0',e1',eb'⟩:=S'.same s2'
    obtain⟨dxa,_,_,_,_,_,_,_,fsa,hya,Fa,_⟩:=id hY'
    try first|apply Y8|apply Y6|apply Y4
    try refine sN fun _ Y8=>?_
    refine⟨_,rfl,D,_,rfl,SqL.of eD',_,_,rfl,rfl,_,rfl,?_⟩
    by_cases c:A.many.sum > 0
    ·rw[decide_eq_true c]
     refine iteT ?_
     try first|apply Y8|apply Y6|apply Y4
     exact k _
    ·rw[decide_eq_false c]
     have hall:∀z∈A.many,z≤0:=fun z hz=>by
      have:=kdZ (fun z hz=>N.mo.nn hz) hz
      omega
     have hpY:=N.pY
     rw[khL hall,Int.add_zero] at hpY
     refine iteF ?_
     try first|apply Y8|apply Y6|apply Y4
     try refine sN fun _ Y10=>?_
     refine⟨_,rfl,L,_,_,_,rfl,rfl,SqL.of eL',rfl,y,d.qc,dxa,fsa,_,rfl,hya,W.qc.cl,W.qK,Fa.l8,_,rfl,bl,d.qi,dx2,fs2,_,rfl,eb',W.qi.cl,W.XT,g5,rfl,?_⟩
     rw[hpY,show decide (V.int cg=V.int cg)=true by simp]
     try first|apply Y10|apply Y8|apply Y6|apply Y4
     exact k _
   ·intro H1' p1 l n z s1' fp1 ep1 hz hn1 hn2
    try first|apply Y8|apply Y6|apply Y4
    try refine sN fun _ Y8=>?_
    refine⟨_,rfl,rfl,_,rfl,?_⟩
    rw[show decide (V.ref p1=V.non)=false by simp]
    refine iteF ?_
    obtain⟨m,rfl⟩:=Int.eq_ofNat_of_zero_le (show 0≤n by omega)
    have K:=N.took (l:=l) (n:=m) bT b2 wf0 hcg hpr hz (by omega) hn2
    have eD1:=s1' _ _ eD'
    have hat:atI (A.many.map V.int) ((l:Nat):Int)=some (V.int z):=ka1 (v:=V.int z) (by rw[Nv,hz];rfl)
    try first|apply Y8|apply Y6|apply Y4
    try refine sN fun _ Y8=>?_
    refine⟨_,rfl,_,rfl,p1,_,_,_,rfl,rfl,SqT.of ep1,rfl,D,_,_,_,rfl,rfl,SqL.of eD1,hat,_,rfl,p1,_,_,_,rfl,rfl,SqT.of ep1,rfl,_,_,rfl,rfl,?_⟩
    try first|apply Y8|apply Y6|apply Y4
    try refine sN fun _ Y8=>?_
    refine⟨_,rfl,_,rfl,p1,_,_,_,rfl,rfl,SqT.of ep1,rfl,D,_,_,l,rfl,rfl,eD1,khh (by rw[Nh];exact at_lt hz),?_⟩
    rw[←E2]
    generalize hg2:upd H1' D _=H2'
    have e2':H2' D=some (.lst ((A.many.set l (z-m)).map V.int)):=by rw[←hg2];exact kad
    have b2':But D H1' H2':=by rw[←hg2];exact kau (nx eD1)
    have ep2:=b2' _ _ (kaj eD' fp1).symm ep1
    have hins:∀{c C dc:Addr} {gs:List (Str×V)},H1' c=some (.ins C dc gs)→H2' c=some (.ins C dc gs):=fun hc=>b2' _ _ (ne_of hc eD1 (by intro z;cases z)) hc
    obtain⟨dxa,fsa,hxa,_⟩:=(hA'.same s1').obj
    obtain⟨dya,gsa,hya,_⟩:=(hY'.same s1').obj
    have S2:St37 d H6 x y D L M c0 c1 bl dx2 fs2 A Y (A.many.set l (z-m)) u v H2':=⟨Hs,kba (sI.trans s1') b2' fD6,kba (sS.trans s1') b2' fD',fx',fy',fD',f0',f1',(hA'.same s1').but b2' (ne_of hxa eD1 (by intro z;cases z)),(hY'.same s1').but b2' (ne_of hya eD1 (by intro z;cases z)),e2',b2' _ _ nLD (s1' _ _ eL'),b2' _ _ nMD (s1' _ _ eM'),b2' _ _ nc0D (s1' _ _ e0'),b2' _ _ nc1D (s1' _ _ e1'),hins (s1' _ _ eb')⟩
    obtain⟨A',hA1⟩:∃A',A'=tookB A l (z-m) m:=⟨_,rfl⟩
    obtain⟨Y',hY1⟩:∃Y',Y'=tookB Y l (z-m) m:=⟨_,rfl⟩
    have Kn:=K.nx
    have KmA:=K.mA
    have KmY:=K.mY
    have Khf:=K.hf
    have Khp:=K.hp
    rw[←hA1] at Kn KmA Khf Khp
    rw[←hY1] at Kn KmY
    have mo':=N.mo.set hz (show 0≤z-(m:Int) by omega) (show z-(m:Int)≤z by omega)
    have wf':=kht wf0 mo'
    have hoff:(mans (Y.B.rs.take l)).sum+z.toNat≤Y.pr.length:=by
     rw[N.yB,N.yp,hpl]
     obtain⟨r,er⟩:=at_of (xs:=B.rs) (i:=l) (by rw[←N.mo.len];exact at_lt hz)
     have h1:=N.mo.le l z r hz er
     have h2:=kjy B.rs (l+1)
     rw[kgC er,Mg] at h2
     simp only[N9,Ee] at h2
     omega
    obtain⟨_,_,_,_,_,_,_,_,_,_,_,eL2,eM2,_,_,_⟩:=id S2
    try first|apply Y8|apply Y6|apply Y4
    try refine sN fun _ Y8=>?_
    refine⟨_,rfl,_,rfl,L,M,_,_,rfl,eL2,eM2,khj (xs:=[.ref x, .ref y]) (ys:=[.ref c0, .ref c1]) (fun j σ H''=>St37 d H6 x y D L M c0 c1 bl dx2 fs2 (if j=0 then A else A') (if j≤1 then Y else Y') (A.many.set l (z-m)) (if j=0 then u else u++[backB A l (z-m) m]) (if j≤1 then v else v++[backB Y l (z-m) m]) H''∧H'' p1=some (.tup [iV l,iV m])∧∃v12 v13:Option V,σ=[some (.ref a),some (.ref t),some (.ref b),some (.ref h),some (.ref tt),some (.ref o),some (.ref L),some (.ref bl),some (.ref M),some (.ref D),some (.int (16+(i:Int))),some (.ref p1),v12,v13])
     ⟨S2,ep2,_,_,rfl⟩ (fun j σ H'' _ h=>by obtain⟨⟨_,_,_,_,_,_,_,_,_,_,_,eL3,eM3,_,_,_⟩,_⟩:=h;exact⟨eL3,eM3⟩) ?_ ?_⟩
    ·rintro j yv zv t3 σ H3' hyv hzv ⟨S3,ep3,v12',v13',rfl⟩ ht3
     have hj:j=0∨j=1:=by
      have:=at_lt hyv
      simp only[NQ,MC] at this
      omega
     have n3:=kak (o:=.tup [yv,zv]) ht3
     try first|apply Y8|apply Y6|apply Y4
     try refine sN fun _ Y10=>?_
     refine⟨t3,_,rfl,SqT.of kad,rfl,_,_,rfl,_,_,rfl,rfl,?_⟩
     rcases hj with rfl|rfl
     ·cases hyv
      cases hzv
      obtain⟨Hs3,sI3,sS3,fx3,fy3,fD3,f03,f13,hA3,hY3,eD3,eL3,eM3,e03,e13,eb3⟩:=(show St37 d H6 x y D L M c0 c1 bl dx2 fs2 A Y (A.many.set l (z-m)) u v H3' from S3).same n3
      have ep4:=n3 _ _ ep3
      obtain⟨dxs,fss,hxs,_⟩:=hA3.obj
      generalize upd H3' t3 (.tup [.ref x, .ref c0])=H3u at *
      try first|apply Y10|apply Y8|apply Y6|apply Y4
      try refine sN fun _ Y12=>?_
      refine⟨_,rfl,_,rfl,bl,d.qi,dx2,fs2,_,rfl,eb3,W.qi.cl,W.Qv,g6,_,rfl,_,rfl,Hs3,x,c0,p1,tot,u,l,m,z,A,rfl,sS3,fx3,f03,hA3,N.okA, .inl ⟨by rw[N.eT];exact bT,by rw[N.eT,N.eB];exact wf'⟩,hz,by omega,hn2,ep4,e03,(by have:=N.lu;omega),K.b0,K.w0,K.p0,K.s0,fun Hs4 H4a H4 s4 S4 f4 b4 b5 hA4 e04=>⟨_,rfl,iteF ?_⟩⟩
      rw[←hA1] at hA4
      have hne:∀{c:Addr} {xs:List V},H3u c=some (.lst xs)→c≠c0→H4 c=some (.lst xs):=fun hc n=>b5 _ _ n (b4 _ _ (ne_of hc hxs (by intro z;cases z)) hc)
      have eD4:=hne eD3 nc0D.symm
      have ec04:=b4 _ _ (ne_of e03 hxs (by intro z;cases z)) e03
      have hni:∀{c C dc:Addr} {gs:List (Str×V)},H3u c=some (.ins C dc gs)→c≠x→H4 c=some (.ins C dc gs):=fun hc n=>b5 _ _ (ne_of (b4 _ _ n hc) ec04 (by intro z;cases z)) (b4 _ _ n hc)
      obtain⟨dxo,fso,hxo,_⟩:=hY3.obj
      have nco:y≠c0:=ne_of (b4 _ _ nyx hxo) ec04 (by intro z;cases z)
      have npc:p1≠c0:=ne_of (b4 _ _ (ne_of ep4 hxs (by intro z;cases z)) ep4) ec04 (by intro z;cases z)
      have ep5:=b5 _ _ npc (b4 _ _ (ne_of ep4 hxs (by intro z;cases z)) ep4)
      have fr:∀{c:Addr},H3u c≠none→Hs3 c=none→Hs4 c=none:=fun h1 h2=>f4 _ h1 h2
      have S5:St37 d H6 x y D L M c0 c1 bl dx2 fs2 A' Y (A.many.set l (z-m)) (u++[backB A l (z-m) m]) v H4:=⟨Hs4,kba (kba sI3 b4 fx6) b5 fc06,S4,fr (by rw[hxs];intro z;cases z) fx3,fr (by rw[hxo];intro z;cases z) fy3,fr (by rw[eD3];intro z;cases z) fD3,fr (by rw[e03];intro z;cases z) f03,fr (by rw[e13];intro z;cases z) f13,hA4,((hY3.but b4 nyx).but b5 nco).kept s4,eD4,hne eL3 nLc0,hne eM3 nc0M.symm,e04,hne e13 nc01.symm,hni eb3 nbx⟩
      obtain⟨dx4,_,_,_,_,_,_,m4,fs4,hx4,F4,k4⟩:=id hA4
      try first|apply Y12|apply Y10|apply Y8|apply Y6|apply Y4
      try refine sN fun _ Y12=>?_
      refine⟨_,rfl,x,d.qc,dx4,fs4,_,rfl,hx4,W.qc.cl,W.qz,F4.l7,_,rfl,m4,D,_,_,rfl,rfl,SqL.of (S4 _ _ k4.m),SqL.of eD4,kby _,kby _,_,rfl,?_⟩
      rw[KmA,if_pos rfl,kdG (kby _)]
      refine iteF ?_
      try first|apply Y12|apply Y10|apply Y8|apply Y6|apply Y4
      exact⟨S5,ep5,_,_,rfl⟩
     ·cases hyv
      cases hzv
      obtain⟨Hs3,sI3,sS3,fx3,fy3,fD3,f03,f13,hA3,hY3,eD3,eL3,eM3,e03,e13,eb3⟩:=(show St37 d H6 x y D L M c0 c1 bl dx2 fs2 A' Y (A.many.set l (z-m)) (u++[backB A l (z-m) m]) v H3' from S3).same n3
      have ep4:=n3 _ _ ep3
      obtain⟨dxs,fss,hxs,_⟩:=hY3.obj
      generalize upd H3' t3 (.tup [.ref y, .ref c1])=H3u at *
      try first|apply Y12|apply Y10|apply Y8|apply Y6|apply Y4
      try refine sN fun _ Y12=>?_
      refine⟨_,rfl,_,rfl,bl,d.qi,dx2,fs2,_,rfl,eb3,W.qi.cl,W.Qv,g6,_,rfl,_,rfl,Hs3,y,c1,p1,tot,v,l,m,z,Y,rfl,sS3,fy3,f13,hY3,N.okY, .inr ⟨by rw[N.yT];exact b2,by rw[N.yB];exact wf0.ok,hoff⟩,(by rw[N.my];exact hz),by omega,hn2,ep4,e13,(by have:=N.lv;omega),K.b1,K.w1,K.p1,K.s1,fun Hs4 H4a H4 s4 S4 f4 b4 b5 hA4 e04=>⟨_,rfl,iteF ?_⟩⟩
      rw[←hY1] at hA4
      have hne:∀{c:Addr} {xs:List V},H3u c=some (.lst xs)→c≠c1→H4 c=some (.lst xs):=fun hc n=>b5 _ _ n (b4 _ _ (ne_of hc hxs (by intro z;cases z)) hc)
      have eD4:=hne eD3 nc1D.symm
      have ec14:=b4 _ _ (ne_of e13 hxs (by intro z;cases z)) e13
      have hni:∀{c C dc:Addr} {gs:List (Str×V)},H3u c=some (.ins C dc gs)→c≠y→H4 c=some (.ins C dc gs):=fun hc n=>b5 _ _ (ne_of (b4 _ _ n hc) ec14 (by intro z;cases z)) (b4 _ _ n hc)
      obtain⟨dxo,fso,hxo,_⟩:=hA3.obj
      have nco:x≠c1:=ne_of (b4 _ _ nyx.symm hxo) ec14 (by intro z;cases z)
      have npc:p1≠c1:=ne_of (b4 _ _ (ne_of ep4 hxs (by intro z;cases z)) ep4) ec14 (by intro z;cases z)
      have ep5:=b5 _ _ npc (b4 _ _ (ne_of ep4 hxs (by intro z;cases z)) ep4)
      have fr:∀{c:Addr},H3u c≠none→Hs3 c=none→Hs4 c=none:=fun h1 h2=>f4 _ h1 h2
      have S5:St37 d H6 x y D L M c0 c1 bl dx2 fs2 A' Y' (A.many.set l (z-m)) (u++[backB A l (z-m) m]) (v++[backB Y l (z-m) m]) H4:=⟨Hs4,kba (kba sI3 b4 fy6) b5 fc16,S4,fr (by rw[hxo];intro z;cases z) fx3,fr (by rw[hxs];intro z;cases z) fy3,fr (by rw[eD3];intro z;cases z) fD3,fr (by rw[e03];intro z;cases z) f03,fr (by rw[e13];intro z;cases z) f13,((hA3.but b4 nyx.symm).but b5 nco).kept s4,hA4,eD4,hne eL3 nLc1,hne eM3 nc1M.symm,hne e03 nc01,e04,hni eb3 nby⟩
      obtain⟨dx4,_,_,_,_,_,_,m4,fs4,hx4,F4,k4⟩:=id hA4
      try first|apply Y12|apply Y10|apply Y8|apply Y6|apply Y4
      try refine sN fun _ Y12=>?_
      refine⟨_,rfl,y,d.qc,dx4,fs4,_,rfl,hx4,W.qc.cl,W.qz,F4.l7,_,rfl,m4,D,_,_,rfl,rfl,SqL.of (S4 _ _ k4.m),SqL.of eD4,kby _,kby _,_,rfl,?_⟩
      rw[KmY,if_pos rfl,kdG (kby _)]
      refine iteF ?_
      try first|apply Y12|apply Y10|apply Y8|apply Y6|apply Y4
      exact⟨S5,ep5,_,_,rfl⟩
    ·rintro σ H3' ⟨S3,ep3,v12',v13',rfl⟩
     have S4:St37 d H6 x y D L M c0 c1 bl dx2 fs2 A' Y' (A.many.set l (z-m)) (u++[backB A l (z-m) m]) (v++[backB Y l (z-m) m]) H3':=S3
     rw[←KmA] at S4
     obtain⟨Hs3,sI3,sS3,fx3,fy3,fD3,f03,f13,hA3,hY3,eD3,eL3,eM3,e03,e13,eb3⟩:=id S4
     have wfA:Wf A'.T.ps (kaV A'.B A'.many) (stnd0 (kaV A'.B A'.many)):=by rw[Kn.eT,Kn.eB,KmA];exact wf'
     try first|apply Y10|apply Y8|apply Y6|apply Y4
     try refine sN fun _ Y10=>?_
     refine⟨_,rfl,_,rfl,_,rfl,_,rfl,L,_,_,_,rfl,rfl,SqL.of eL3,rfl,_,rfl,Hs3,t,b,h,x,o,A',order,rfl,(by rw[Kn.eT];exact hT6.same sI3),(by rw[Kn.eB];exact hb6.same sI3),(by rw[Kn.eh];exact sI3 _ _ hh6),sS3,hA3,Kn.okA,wfA,sI3 _ _ eo,(by rw[Kn.eB,Kn.eh,KmA];exact Khf),(by rw[Kn.eT,Kn.eB,KmA];exact Khp),Kn.pm,fun H4 s4=>⟨_,rfl,iteF ?_⟩⟩
     obtain⟨dxo,_,_,_,_,_,_,_,fso,hxo,Fo,_⟩:=hY3.same s4
     try first|apply Y10|apply Y8|apply Y6|apply Y4
     try refine sN fun _ Y10=>?_
     refine⟨_,rfl,L,_,_,_,rfl,rfl,SqL.of (s4 _ _ eL3),rfl,y,d.qc,dxo,fso,_,rfl,hxo,W.qc.cl,W.Qx,Fo.l9,rfl,_,rfl,?_⟩
     rw[Kn.oY,show(!decide (V.int 0=V.int 0))=false by simp]
     refine iteF ?_
     try first|apply Y10|apply Y8|apply Y6|apply Y4
     exact⟨A',Y',_,_,_,_,_,_,Kn,S4.same s4,rfl⟩
  ·rintro σ H' ⟨A,Y,u,v,v10,v11,v12,v13,N,⟨Hs,sI,sS,fx',fy',fD',f0',f1',hA',hY',eD',eL',eM',e0',e1',eb'⟩,rfl⟩
   obtain⟨dxa,_,_,_,_,_,_,_,fsa,hya,Fa,_⟩:=id hY'
   try first|apply Y6|apply Y4
   try refine sN fun _ Y6=>?_
   refine⟨_,rfl,D,_,rfl,SqL.of eD',_,_,rfl,rfl,_,rfl,?_⟩
   by_cases c:A.many.sum > 0
   ·rw[decide_eq_true c]
    refine iteT ?_
    try first|apply Y6|apply Y4
    exact k _
   ·rw[decide_eq_false c]
    have hall:∀z∈A.many,z≤0:=fun z hz=>by
     have:=kdZ (fun z hz=>N.mo.nn hz) hz
     omega
    have hpY:=N.pY
    rw[khL hall,Int.add_zero] at hpY
    refine iteF ?_
    try first|apply Y6|apply Y4
    try refine sN fun _ Y8=>?_
    refine⟨_,rfl,L,_,_,_,rfl,rfl,SqL.of eL',rfl,y,d.qc,dxa,fsa,_,rfl,hya,W.qc.cl,W.qK,Fa.l8,_,rfl,bl,d.qi,dx2,fs2,_,rfl,eb',W.qi.cl,W.XT,g5,rfl,?_⟩
    rw[hpY,show decide (V.int cg=V.int cg)=true by simp]
    try first|apply Y8|apply Y6|apply Y4
    exact k _
end
end Vs
namespace Vs
open PySem L2
theorem ln0{C:List Value→Prop}(k:C []):∀us:List Value,us.length=0→C us:=fun us h=>by
 cases us with
 |nil=>exact k
 |cons a us=>cases h
theorem lnS{C:List Value→Prop}{n:Nat}(k:∀(a:Value) (us:List Value),us.length=n→C (a::us)):∀us:List Value,us.length=n+1→C us:=fun us h=>by
 cases us with
 |nil=>cases h
 |cons a us=>exact k a us (Nat.succ.inj h)
theorem nL1{C:List Value→Prop}(k:∀a0:Value,C [a0]):∀us:List Value,us.length=1→C us:=lnS fun a0=>ln0 (k a0)
theorem nL2{C:List Value→Prop}(k:∀a0 a1:Value,C [a0,a1]):∀us:List Value,us.length=2→C us:=lnS fun a0=>lnS fun a1=>ln0 (k a0 a1)
theorem nL3{C:List Value→Prop}(k:∀a0 a1 a2:Value,C [a0,a1,a2]):∀us:List Value,us.length=3→C us:=lnS fun a0=>lnS fun a1=>lnS fun a2=>ln0 (k a0 a1 a2)
theorem nL4{C:List Value→Prop}(k:∀a0 a1 a2 a3:Value,C [a0,a1,a2,a3]):∀us:List Value,us.length=4→C us:=lnS fun a0=>lnS fun a1=>lnS fun a2=>lnS fun a3=>ln0 (k a0 a1 a2 a3)
theorem nL5{C:List Value→Prop}(k:∀a0 a1 a2 a3 a4:Value,C [a0,a1,a2,a3,a4]):∀us:List Value,us.length=5→C us:=lnS fun a0=>lnS fun a1=>lnS fun a2=>lnS fun a3=>lnS fun a4=>ln0 (k a0 a1 a2 a3 a4)
theorem nL6{C:List Value→Prop}(k:∀a0 a1 a2 a3 a4 a5:Value,C [a0,a1,a2,a3,a4,a5]):∀us:List Value,us.length=6→C us:=lnS fun a0=>lnS fun a1=>lnS fun a2=>lnS fun a3=>lnS fun a4=>lnS fun a5=>ln0 (k a0 a1 a2 a3 a4 a5)
theorem nL7{C:List Value→Prop}(k:∀a0 a1 a2 a3 a4 a5 a6:Value,C [a0,a1,a2,a3,a4,a5,a6]):∀us:List Value,us.length=7→C us:=lnS fun a0=>lnS fun a1=>lnS fun a2=>lnS fun a3=>lnS fun a4=>lnS fun a5=>lnS fun a6=>ln0 (k a0 a1 a2 a3 a4 a5 a6)
theorem bd_mk{K:Ni}{fd:FuncData}{ps:List Str}{ds:List Value}{n:Nat}(hn:n+ds.length=ps.length)(k:∀s:Shared,K.In s.heap→∀us:List Value,us.length=n→BindsTo s fd ⟨us,[]⟩ (ps.zip (us++ds))):Binds K fd ps ds:=fun s us KX hl=>k s KX us (by rw[Nx] at hl;omega)
theorem dn_mk{K:Ni}{st:Stmt}{ps:List Str}{f:Addr}{oc:Value}{od an:Option Addr}{osl:Array (Option Value)}{kV doc pm cdv ct:Value}{h:Heap}{mg:Str→Option Value}{x:Str}(X:K.In h)(G:h.Ns mainGlobals mg)(a:ND K mainGlobals x=some (some (.ref f)))(l:K.lookup f=some ⟨oc,od, .func (NA x x (kaE st) (kaC st) (kah st) .none kV doc pm an cdv ct),osl⟩)(c:NZ K cdv x=true)(k:NB K (.ref f)=true)(b:∀(kV doc pm:Value) (an:Option Addr) (cdv ct:Value),∀us:List Value,us.length=ps.length→bindArgs (NA x x (kaE st) (kaC st) (kah st) .none kV doc pm an cdv ct) ⟨us,[]⟩=pure (ps.zip us)):Dn K mg x st ps f (NA x x (kaE st) (kaC st) (kah st) .none kV doc pm an cdv ct):=⟨kbx l c k,Binds.all (b _ _ _ _ _ _),NO X G a⟩
theorem mt_mk{K:Ni}{st:Stmt}{ps:List Str}{f:Addr}{oc:Value}{od an:Option Addr}{osl:Array (Option Value)}{kV doc pm cdv ct:Value}{m qual:Str}{C:Addr}(a:Nk K (.ref C) m=some (some (.ref f)))(i:Ma K (.ref f)=true)(l:K.lookup f=some ⟨oc,od, .func (NA m qual (kaE st) (kaC st) (kah st) .none kV doc pm an cdv ct),osl⟩)(c:NZ K cdv qual=true)(k:NB K (.ref f)=true)(b:∀(kV doc pm:Value) (an:Option Addr) (cdv ct:Value),∀us:List Value,us.length=ps.length→bindArgs (NA m qual (kaE st) (kaC st) (kah st) .none kV doc pm an cdv ct) ⟨us,[]⟩=pure (ps.zip us)):MthT K C m qual st ps f (NA m qual (kaE st) (kaC st) (kah st) .none kV doc pm an cdv ct):=⟨a,i,kbx l c k,Binds.all (b _ _ _ _ _ _)⟩
theorem all_mk{l:PySem.W.OpenLaw}{w:World}{K:Ni}{h:Heap}{mg:Str→Option Value}{fa zg0 zg3 z3d zfg zgt z8z zgu zfx z3l z2n z5s z34 zw z44 z7p z3v zc3 zf3 zdj z46 z4l z4s z2v zdh z57 z90 z6d z5c z5k z5w z69 z5f z71 z6r z8u z7q z6s z6j z70 z8k z6z z6f z35 zbq zk z19 z3s zg zr z22 zl z1z z5o zf zz z3q zb zt z1q zd zy z2r zc zu z1s zo z1c z4j zj zx z2j ze z42 z3f zq za2 z4z z6k z4c zm z7y zp z1h z4k za z52 z1w z23 z24 z1a z1m z1y z1n zn zi:Addr}{z76 z2o zj2 zgr zbp z5t zbd z9b z48 z9o zdo z8s zen zba z5y zbb z94 z3k z8q zac z54 zao z88 z3m z8d zdd z6v zch zb0 z53 zb2 zcz z68 zd6 z64:Option Addr}{z7a ziv zc1 zbg z9q z9m ze2 zed zc4 zbs z8t z81 za6 zat z8v z82 zc6 zcr zay zal zdc zd4 z63:Array (Option Value)}{z7b z30 z2l z2k zv z28 zj5 zgq zgw zgv zdl zgy zbn z5l z5x z5m z2b z5v zb8 z9i z49 z40 z4b z1r z41 z9t zek z7o z84 z8j z4h z8i zei zbo z5u z5j z5r z2u z60 zbz z7r z3o z38 z3g z1d z3j z85 za9 z4n z4v z4p z21 z5d za7 z8e z37 z3n z3b z1k z3a z7v zcs z6w z6q z6t z3u z67 zda zav z59 z4t z4q z20 z51 zam zd8 z6y z6b z6g z3r z6u zd5 z27:Value}{zby z36 z99 zef zc5 z7u zas z91 zcj zah z2q zco z47 z2e z2h z2d:Nat}{zf9 zfr z32 zfs zgx z8f zgs zfb z39 z2a z5q z31 z4g z93 z3y zbv zfv zdi z45 z4o z58 z2x zdf z4m z7s z6x z55 z61 z5p z6c z5b z6i z6p z92 z86 z6e z6n z6h z7w z6o z6a z33 z3z z3h za0 z5e z6l z3w z83 z4w z1x z26 z25 z1i z1o z1t z1p:FuncData}{zh:Array Value}{z2s:Str}{z2g z2m:Int}{z2t:Bool}{ts:List Addr}(X:K.In h)(G:h.Ns mainGlobals mg)(hfa:mg "law"=some (.ref fa))
  (zho:Dn K mg "dealt" kg4 ["cut","weights"] zg0 zf9)
  (zi5:Dn K mg "under" kg2 ["parents","one","other"] zg3 zfr)
  (z8p:Dn K mg "price_of_piece" kbO ["line","member"] z3d z32)
  (zic:Dn K mg "about" keC ["voucher","parents","basket","standing"] zfg zfs)
  (zir:Dn K mg "fits" ki7 ["marks","parents","kind","marked"] zgt zgx)
  (zf0:Dn K mg "hindrance" kdk ["voucher","parents","basket","standing"] z8z z8f)
  (zim:Dn K mg "cuts" ki8 ["voucher","parents","basket","standing"] zgu zgs)
  (zij:Dn K mg "after" kg5 ["voucher","parents","basket","standing"] zfx zfb)
  (z8y:Dn K mg "cuts_of_pieces" kbQ ["voucher","parents","basket","standing"] z3l z39)
  (z7n:Dn K mg "cut_of_carriage" kbD ["voucher","standing"] z2n z2a)
  (zbu:Dn K mg "wanted_cuts" kbf ["voucher","standing","pieces"] z5s z5q)
  (z8h:Dn K mg "parted_by_line" kbP ["standing","pieces"] z34 z31)
  (z8g:ND K mainGlobals "falling_groups"=some (some (.ref zw))) (z8o:K.lookup zw=some ⟨z7b,z76, .func (NA "falling_groups" "falling_groups" (kaE kaG) (kaC kaG) (kah kaG) .none z30 z2l z2k z2o zv z28),z7a⟩) (z80:NZ K zv "falling_groups"=true) (z7t:NB K (.ref zw)=true)
  (z9h:Dn K mg "marked_behind" kbY ["voucher","standing","piece_cuts"] z44 z4g)
  (ze3:Dn K mg "prices_of" kcr ["standing","pieces"] z7p z93)
  (z95:Dn K mg "sum_of_prices" kbX ["standing","pieces"] z3v z3y)
  (zgb:Dn K mg "at_most" keB ["most","number"] zc3 zbv)
  (zi1:Dn K mg "fault" kg3 ["till","basket","hand","order"] zf3 zfv)
  (zh0:Dn K mg "way_by" kfE ["till","basket","hand","order"] zdj zdi)
  (z9f:Dn K mg "word_of_order" kbW ["till","hand","used","number"] z46 z45)
  (zaa:Dn K mg "breaks_never" kcg ["rules","used","number"] z4l z4o)
  (za5:Dn K mg "breaks_ahead" kch ["rules","used","number"] z4s z58)
  (z7k:Dn K mg "without_company" kbC ["rules","order"] z2v z2x)
  (zhd:Dn K mg "priced" kfF ["till","basket","hand","order"] zdh zdf)
  (zax:Dn K mg "_law_cell_at" kcl ["_law_script","_law_k"] z57 z4m)
  (zdt:Dn K mg "_law_some" kdl ["_law_script","_law_k","_law_salt","_law_many"] z90 z7s)
  (zce:Dn K mg "_law_price" kcK ["_law_script","_law_k","_law_salt"] z6d z6x)
  (zaw:Dn K mg "_law_parents" kck ["_law_script"] z5c z55)
  (zc2:Dn K mg "_law_basket" kcv ["_law_script","_law_kinds"] z5k z61)
  (zbe:Dn K mg "_law_amount" kcw ["_law_script","_law_k","_law_salt","_law_worth_here"] z5w z5p)
  (zd1:Dn K mg "_law_marks" kcM ["_law_script","_law_k","_law_kinds","_law_worth_here"] z69 z6c)
  (zap:Dn K mg "_law_voucher" kci ["_law_script","_law_k","_law_kinds","_law_worth_here"] z5f z5b)
  (zcc:Dn K mg "_law_rules" kcJ ["_law_script","_law_many"] z71 z6i)
  (zd2:Dn K mg "_law_worth" kcG ["_law_basket_here"] z6r z6p)
  (zep:Dn K mg "_law_till" kcs ["_law_script","_law_parents_here","_law_basket_here","_law_back"] z8u z92)
  (zdv:Dn K mg "_law_hand" kcu ["_law_script","_law_many"] z7q z86)
  (zct:Dn K mg "_law_going" kcN ["_law_till_here","_law_basket_here","_law_hand_here","_law_order_here"] z6s z6e)
  (zd0:Dn K mg "_law_order" kcL ["_law_script","_law_k","_law_till_here","_law_basket_here","_law_hand_here"] z6j z6n)
  (zdb:Dn K mg "_law_stays" kcI ["_law_basket_here","_law_many"] z70 z6h)
  (zel:Dn K mg "_law_take" kct ["_law_script","_law_k","_law_many"] z8k z7w)
  (zcu:Dn K mg "_law_drawn" kcO ["_law_script","_law_back"] z6z z6o)
  (zcy:Dn K mg "_law_taken" kcH ["_law_account","_law_first","_law_backs","_law_taken_here"] z6f z6a)
  (z8r:Dn K mg "_law_due_right" kbR ["_law_till_here","_law_basket_here","_law_hand_here","_law_account","_law_order_here"] z35 z33)
  (zik:ND K mainGlobals "law"=some (some (.ref zbq))) (zjb:K.lookup zbq=some ⟨zj5,zj2, .func (NA "law" "law" (kaE s_law) (kaC s_law) (kah s_law) .none zgq zgw zgv zgr zdl zgy),ziv⟩) (zjc:NZ K zdl "law"=true) (zjd:NB K (.ref zbq)=true)
  (zi7:ND K mainGlobals "Marks"=some (some (.ref zk)))
  (zh7:Nr K zk (.type "object")=some true) (zhg:Nr K zk (.ref zk)=some true) (zh2:NY K (.ref zk)=some (.type "type"))
  (inX:M0 K (.builtin "object.__class__") "__get__"=some (some (.builtin "getset_descriptor.__get__"))) (itX:EI K (.builtin "object.__class__")=some true)
  (zh9:NW K zk Str.empty=true) (zh5:N3 K zk=true) (zhc:N7 K zk=true) (zhh:Nk K (.ref zk) "__setattr__"=some (some (.builtin "object.__setattr__"))) (zgz:N4 K zk=true) (zhb:NB K (.ref zk)=true) (zhi:Nk K (.ref zk) "__class__"=some (some (.builtin "object.__class__")))
  (zcq:Nk K (.ref zk) "kind"=some none)
  (zbh:Nk K (.ref zk) "needs"=some none)
  (zde:Nk K (.ref zk) "most"=some none)
  (zak:Nk K (.ref zk) "member"=some none)
  (zci:Nk K (.ref zk) "once"=some none)
  (zcb:Nk K (.ref zk) "lone"=some none)
  (zcf:Nk K (.ref zk) "__init__"=some (some (.ref z19))) (zc8:Ma K (.ref z19)=true) (zck:K.lookup z19=some ⟨zbn,zbp, .func (NA "__init__" "Marks.__init__" (kaE ka4) (kaC ka4) (kah ka4) (.ref z3s) z5l z5x z5m z5t z2b z5v),zc1⟩) (zcg:NZ K z2b "Marks.__init__"=true) (zd7:NB K (.ref z19)=true) (zs:K.lookup z3s=some ⟨zb8,zbd, .seq #[.none, .int 0 z36, .none, .bool false, .bool false, .bool false] zby,zbg⟩)
  (zgd:ND K mainGlobals "Voucher"=some (some (.ref zg)))
  (zff:Nr K zg (.type "object")=some true) (zf4:Nr K zg (.ref zg)=some true) (zfm:NY K (.ref zg)=some (.type "type"))
  (zfy:NW K zg Str.empty=true) (zfh:N3 K zg=true) (zf2:N7 K zg=true) (zg1:Nk K (.ref zg) "__setattr__"=some (some (.builtin "object.__setattr__"))) (zg5:N4 K zg=true) (zf1:NB K (.ref zg)=true) (zfa:Nk K (.ref zg) "__class__"=some (some (.builtin "object.__class__")))
  (zb6:Nk K (.ref zg) "__init__"=some (some (.ref zr))) (zb4:Ma K (.ref zr)=true) (za8:K.lookup zr=some ⟨z9i,z9b, .func (NA "__init__" "Voucher.__init__" (kaE kaT) (kaC kaT) (kah kaT) (.ref z22) z49 z40 z4b z48 z1r z41),z9q⟩) (zb3:NZ K z1r "Voucher.__init__"=true) (zb1:NB K (.ref zr)=true) (z56:K.lookup z22=some ⟨z9t,z9o, .seq #[.none] z99,z9m⟩)
  (zhl:ND K mainGlobals "Off"=some (some (.ref zl)))
  (z89:Nr K zl (.type "object")=some true) (z8a:Nr K zl (.ref zl)=some true) (z8w:NY K (.ref zl)=some (.type "type"))
  (zj8:NW K zl Str.empty=true) (zit:N3 K zl=true) (zil:N7 K zl=true) (zin:Nk K (.ref zl) "__setattr__"=some (some (.builtin "object.__setattr__"))) (zj4:N4 K zl=true) (zj0:NB K (.ref zl)=true) (zio:Nk K (.ref zl) "__class__"=some (some (.builtin "object.__class__")))
  (zd9:Nk K (.ref zl) "amount"=some none)
  (zdn:Nk K (.ref zl) "marks"=some none)
  (zf7:Nk K (.ref zl) "__init__"=some (some (.ref z1z))) (zf5:Ma K (.ref z1z)=true) (zf6:K.lookup z1z=some ⟨zek,zdo, .func (NA "__init__" "Off.__init__" (kaE kbr) (kaC kbr) (kah kbr) (.ref z5o) z7o z84 z8j z8s z4h z8i),ze2⟩) (zg4:NZ K z4h "Off.__init__"=true) (zfj:NB K (.ref z1z)=true) (za1:K.lookup z5o=some ⟨zei,zen, .seq #[.none] zef,zed⟩)
  (zfo:ND K mainGlobals "Share"=some (some (.ref zf)))
  (z4e:Nr K zf (.type "object")=some true) (z4f:Nr K zf (.ref zf)=some true) (z43:NY K (.ref zf)=some (.type "type"))
  (zh3:NW K zf Str.empty=true) (zha:N3 K zf=true) (zhf:N7 K zf=true) (zh6:Nk K (.ref zf) "__setattr__"=some (some (.builtin "object.__setattr__"))) (zhe:N4 K zf=true) (zh8:NB K (.ref zf)=true) (zh1:Nk K (.ref zf) "__class__"=some (some (.builtin "object.__class__")))
  (zbw:Nk K (.ref zf) "share"=some none)
  (z9k:Nk K (.ref zf) "by_line"=some none)
  (zbt:Nk K (.ref zf) "marks"=some none)
  (zc7:Nk K (.ref zf) "__init__"=some (some (.ref zz))) (zcd:Ma K (.ref zz)=true) (zca:K.lookup zz=some ⟨zbo,zba, .func (NA "__init__" "Share.__init__" (kaE ka3) (kaC ka3) (kah ka3) (.ref z3q) z5u z5j z5r z5y z2u z60),zc4⟩) (zd3:NZ K z2u "Share.__init__"=true) (zcv:NB K (.ref zz)=true) (z3t:K.lookup z3q=some ⟨zbz,zbb, .seq #[.bool false, .none] zc5,zbs⟩)
  (za4:ND K mainGlobals "Cheapest"=some (some (.ref zb)))
  (z1b:Nr K zb (.type "object")=some true) (z1g:Nr K zb (.ref zb)=some true) (z1j:NY K (.ref zb)=some (.type "type"))
  (zee:NW K zb Str.empty=true) (zeg:N3 K zb=true) (zey:N7 K zb=true) (ze5:Nk K (.ref zb) "__setattr__"=some (some (.builtin "object.__setattr__"))) (zes:N4 K zb=true) (zeo:NB K (.ref zb)=true) (zeu:Nk K (.ref zb) "__class__"=some (some (.builtin "object.__class__")))
  (z9p:Nk K (.ref zb) "many"=some none)
  (z8c:Nk K (.ref zb) "marks"=some none)
  (z9n:Nk K (.ref zb) "__init__"=some (some (.ref zt))) (z9w:Ma K (.ref zt)=true) (z9v:K.lookup zt=some ⟨z7r,z94, .func (NA "__init__" "Cheapest.__init__" (kaE kaM) (kaC kaM) (kah kaM) (.ref z1q) z3o z38 z3g z3k z1d z3j),z8t⟩) (z96:NZ K z1d "Cheapest.__init__"=true) (z98:NB K (.ref zt)=true) (z3x:K.lookup z1q=some ⟨z85,z8q, .seq #[.none] z7u,z81⟩)
  (zdg:ND K mainGlobals "Bundle"=some (some (.ref zd)))
  (z2w:Nr K zd (.type "object")=some true) (z2i:Nr K zd (.ref zd)=some true) (z2z:NY K (.ref zd)=some (.type "type"))
  (zgl:NW K zd Str.empty=true) (zgn:N3 K zd=true) (zgh:N7 K zd=true) (zg8:Nk K (.ref zd) "__setattr__"=some (some (.builtin "object.__setattr__"))) (zgc:N4 K zd=true) (zge:NB K (.ref zd)=true) (zga:Nk K (.ref zd) "__class__"=some (some (.builtin "object.__class__")))
  (zbx:Nk K (.ref zd) "many"=some none)
  (zab:Nk K (.ref zd) "price"=some none)
  (zar:Nk K (.ref zd) "marks"=some none)
  (zbr:Nk K (.ref zd) "__init__"=some (some (.ref zy))) (zb7:Ma K (.ref zy)=true) (zbf:K.lookup zy=some ⟨za9,zac, .func (NA "__init__" "Bundle.__init__" (kaE kaX) (kaC kaX) (kah kaX) (.ref z2r) z4n z4v z4p z54 z21 z5d),za6⟩) (zbi:NZ K z21 "Bundle.__init__"=true) (zbk:NB K (.ref zy)=true) (z5n:K.lookup z2r=some ⟨za7,zao, .seq #[.none] zas,zat⟩)
  (za3:ND K mainGlobals "Carriage"=some (some (.ref zc)))
  (z1l:Nr K zc (.type "object")=some true) (z1f:Nr K zc (.ref zc)=some true) (z1e:NY K (.ref zc)=some (.type "type"))
  (zec:NW K zc Str.empty=true) (zea:N3 K zc=true) (zdw:N7 K zc=true) (ze1:Nk K (.ref zc) "__setattr__"=some (some (.builtin "object.__setattr__"))) (zet:N4 K zc=true) (ze0:NB K (.ref zc)=true) (zdk:Nk K (.ref zc) "__class__"=some (some (.builtin "object.__class__")))
  (z8x:Nk K (.ref zc) "marks"=some none)
  (z9l:Nk K (.ref zc) "__init__"=some (some (.ref zu))) (z9g:Ma K (.ref zu)=true) (z97:K.lookup zu=some ⟨z8e,z88, .func (NA "__init__" "Carriage.__init__" (kaE kaN) (kaC kaN) (kah kaN) (.ref z1s) z37 z3n z3b z3m z1k z3a),z8v⟩) (z9r:NZ K z1k "Carriage.__init__"=true) (z9c:NB K (.ref zu)=true) (z4a:K.lookup z1s=some ⟨z7v,z8d, .seq #[.none] z91,z82⟩)
  (zix:ND K mainGlobals "Line"=some (some (.ref zo)))
  (zid:Nr K zo (.type "object")=some true) (zhj:Nr K zo (.ref zo)=some true) (zhz:NY K (.ref zo)=some (.type "type"))
  (zhu:NW K zo Str.empty=true) (zht:N3 K zo=true) (zi4:N7 K zo=true) (zii:Nk K (.ref zo) "__setattr__"=some (some (.builtin "object.__setattr__"))) (zi3:N4 K zo=true) (zi9:NB K (.ref zo)=true) (zhv:Nk K (.ref zo) "__class__"=some (some (.builtin "object.__class__")))
  (zdm:Nk K (.ref zo) "kind"=some none)
  (zcm:Nk K (.ref zo) "price"=some none)
  (zdp:Nk K (.ref zo) "many"=some none)
  (zau:Nk K (.ref zo) "special"=some none)
  (ze6:Nk K (.ref zo) "__init__"=some (some (.ref z1c))) (zeh:Ma K (.ref z1c)=true) (zev:K.lookup z1c=some ⟨zcs,zdd, .func (NA "__init__" "Line.__init__" (kaE kbc) (kaC kbc) (kah kbc) (.ref z4j) z6w z6q z6t z6v z3u z67),zc6⟩) (ze9:NZ K z3u "Line.__init__"=true) (zer:NB K (.ref z1c)=true) (z8l:K.lookup z4j=some ⟨zda,zch, .seq #[.none] zcj,zcr⟩)
  (zh4:ND K mainGlobals "Basket"=some (some (.ref zj)))
  (zg7:Nr K zj (.type "object")=some true) (zgj:Nr K zj (.ref zj)=some true) (zgk:NY K (.ref zj)=some (.type "type"))
  (zg9:NW K zj Str.empty=true) (zgo:N3 K zj=true) (zg6:N7 K zj=true) (zgf:Nk K (.ref zj) "__setattr__"=some (some (.builtin "object.__setattr__"))) (zgi:N4 K zj=true) (zgg:NB K (.ref zj)=true) (zgp:Nk K (.ref zj) "__class__"=some (some (.builtin "object.__class__")))
  (zai:Nk K (.ref zj) "lines"=some none)
  (z77:Nk K (.ref zj) "carriage"=some none)
  (z9u:Nk K (.ref zj) "member"=some none)
  (zb9:Nk K (.ref zj) "__init__"=some (some (.ref zx))) (zbm:Ma K (.ref zx)=true) (zbj:K.lookup zx=some ⟨zav,zb0, .func (NA "__init__" "Basket.__init__" (kaE kaY) (kaC kaY) (kah kaY) (.ref z2j) z59 z4t z4q z53 z20 z51),zay⟩) (zbl:NZ K z20 "Basket.__init__"=true) (zc0:NB K (.ref zx)=true) (z2f:K.lookup z2j=some ⟨zam,zb2, .seq #[.int 0 z2q, .bool false] zah,zal⟩)
  (zfn:ND K mainGlobals "Standing"=some (some (.ref ze)))
  (zdq:Nr K ze (.type "object")=some true) (zds:Nr K ze (.ref ze)=some true) (zex:NY K (.ref ze)=some (.type "type"))
  (zez:NW K ze Str.empty=true) (ze8:N3 K ze=true) (zdx:N7 K ze=true) (zdu:Nk K (.ref ze) "__setattr__"=some (some (.builtin "object.__setattr__"))) (zem:N4 K ze=true) (zew:NB K (.ref ze)=true) (ze7:Nk K (.ref ze) "__class__"=some (some (.builtin "object.__class__")))
  (z7h:Nk K (.ref ze) "owners"=some none)
  (z7e:Nk K (.ref ze) "prices"=some none)
  (z5z:Nk K (.ref ze) "carriage"=some none)
  (z7l:Nk K (.ref ze) "marked"=some none)
  (z9s:MthT K ze "__init__" "Standing.__init__" kb0 ["self","basket"] z42 z3z)
  (z87:MthT K ze "whole" "Standing.whole" kbS ["self"] z3f z3h)
  (zje:ND K mainGlobals "Way"=some (some (.ref zq)))
  (zja:Nr K zq (.type "object")=some true) (ziz:Nr K zq (.ref zq)=some true) (ziq:NY K (.ref zq)=some (.type "type"))
  (zj9:NW K zq Str.empty=true) (zis:N3 K zq=true) (zj7:N7 K zq=true) (ziy:Nk K (.ref zq) "__setattr__"=some (some (.builtin "object.__setattr__"))) (zj6:N4 K zq=true) (zj1:NB K (.ref zq)=true) (zj3:Nk K (.ref zq) "__class__"=some (some (.builtin "object.__class__")))
  (zfw:Nk K (.ref zq) "till"=some none)
  (zc9:Nk K (.ref zq) "basket"=some none)
  (zfz:Nk K (.ref zq) "hand"=some none)
  (zg2:Nk K (.ref zq) "used"=some none)
  (zag:Nk K (.ref zq) "standing"=some none)
  (zfu:MthT K zq "__init__" "Way.__init__" kdP ["self","till","basket","hand"] za2 za0)
  (zad:MthT K zq "word_for" "Way.word_for" kcm ["self","number"] z4z z5e)
  (zcl:MthT K zq "behind" "Way.behind" kcP ["self","number"] z6k z6l)
  (z9d:MthT K zq "is_let_by" "Way.is_let_by" kbZ ["self"] z4c z3w)
  (ziw:ND K mainGlobals "Bill"=some (some (.ref zm)))
  (zi2:Nr K zm (.type "object")=some true) (zi8:Nr K zm (.ref zm)=some true) (zhq:NY K (.ref zm)=some (.type "type"))
  (zia:NW K zm Str.empty=true) (zig:N3 K zm=true) (zhy:N7 K zm=true) (zih:Nk K (.ref zm) "__setattr__"=some (some (.builtin "object.__setattr__"))) (zi6:N4 K zm=true) (zib:NB K (.ref zm)=true) (zhp:Nk K (.ref zm) "__class__"=some (some (.builtin "object.__class__")))
  (zcx:Nk K (.ref zm) "order"=some none)
  (zcw:Nk K (.ref zm) "steps"=some none)
  (zbc:Nk K (.ref zm) "prices"=some none)
  (z9x:Nk K (.ref zm) "carriage"=some none)
  (zcn:Nk K (.ref zm) "total"=some none)
  (ze4:MthT K zm "__init__" "Bill.__init__" kdm ["self","order","steps","standing"] z7y z83)
  (ziu:ND K mainGlobals "Till"=some (some (.ref zp)))
  (zhs:Nr K zp (.type "object")=some true) (zie:Nr K zp (.ref zp)=some true) (zi0:NY K (.ref zp)=some (.type "type"))
  (zhm:NW K zp Str.empty=true) (zif:N3 K zp=true) (zhw:N7 K zp=true) (zhn:Nk K (.ref zp) "__setattr__"=some (some (.builtin "object.__setattr__"))) (zhk:N4 K zp=true) (zhr:NB K (.ref zp)=true) (zhx:Nk K (.ref zp) "__class__"=some (some (.builtin "object.__class__")))
  (zaf:Nk K (.ref zp) "parents"=some none)
  (z9y:Nk K (.ref zp) "vouchers"=some none)
  (zcp:Nk K (.ref zp) "rules"=some none)
  (zej:Nk K (.ref zp) "back"=some none)
  (zeb:Nk K (.ref zp) "__init__"=some (some (.ref z1h))) (zeq:Ma K (.ref z1h)=true) (zdz:K.lookup z1h=some ⟨zd8,zcz, .func (NA "__init__" "Till.__init__" (kaE kbb) (kaC kbb) (kah kbb) (.ref z4k) z6y z6b z6g z68 z3r z6u),zdc⟩) (zdr:NZ K z3r "Till.__init__"=true) (zdy:NB K (.ref z1h)=true) (z7z:K.lookup z4k=some ⟨zd5,zd6, .seq #[.str "again" z47] zco,zd4⟩)
  (zgm:ND K mainGlobals "Account"=some (some (.ref za)))
  (zfe:Nr K za (.type "object")=some true) (zfi:Nr K za (.ref za)=some true) (zft:NY K (.ref za)=some (.type "type"))
  (zfk:NW K za Str.empty=true) (zfp:N3 K za=true) (zf8:N7 K za=true) (zfq:Nk K (.ref za) "__setattr__"=some (some (.builtin "object.__setattr__"))) (zfl:N4 K za=true) (zfd:NB K (.ref za)=true) (zfc:Nk K (.ref za) "__class__"=some (some (.builtin "object.__class__")))
  (zaz:Nk K (.ref za) "till"=some none)
  (z8n:Nk K (.ref za) "basket"=some none)
  (zb5:Nk K (.ref za) "hand"=some none)
  (z4d:Nk K (.ref za) "first_prices"=some none)
  (z9j:Nk K (.ref za) "order"=some none)
  (z7x:Nk K (.ref za) "fallen"=some none)
  (zan:Nk K (.ref za) "many"=some none)
  (zae:Nk K (.ref za) "paid"=some none)
  (zaq:Nk K (.ref za) "owed"=some none)
  (zaj:MthT K za "__init__" "Account.__init__" kcn ["self","till","basket","hand","order"] z52 z4w)
  (z62:MthT K za "take_back" "Account.take_back" kbl ["self","line","many"] z1w z1x)
  (z65:MthT K za "has_left" "Account.has_left" kbv ["self","line","many"] z23 z26)
  (z66:MthT K za "pay_back" "Account.pay_back" kbu ["self","back"] z24 z25)
  (z4i:MthT K za "paid_behind" "Account.paid_behind" kbd ["self","line","left","many"] z1a z1i)
  (z5h:MthT K za "what_stays" "Account.what_stays" kbi ["self"] z1m z1o)
  (z5i:MthT K za "due_again" "Account.due_again" ka6 ["self","stays"] z1y z1t)
  (z5g:MthT K za "go_through" "Account.go_through" kbj ["self","stays"] z1n z1p)
  (z9z:PySem.W.readsIn K zg (.type "type")=true) (z9a:M0 K (.ref zg) "__getattribute__"=some (some (.builtin "type.__getattribute__"))) (z9e:PySem.W.findCls K (.ref zg) (.type "type") "__init__"=some (.val (.ref zr)))
  (z50:Nr K zl (.ref zc)=some false)
  (z3i:Nr K zf (.ref zc)=some false)
  (z1v:Nr K zb (.ref zc)=some false)
  (z2y:Nr K zd (.ref zc)=some false)
  (z8b:Nr K zf (.ref zl)=some false)
  (z5a:Nr K zb (.ref zl)=some false)
  (z6m:Nr K zd (.ref zl)=some false)
  (z4r:Nr K zc (.ref zl)=some false)
  (z8m:Nr K zl (.ref zf)=some false)
  (z3c:Nr K zb (.ref zf)=some false)
  (z4u:Nr K zd (.ref zf)=some false)
  (z3p:Nr K zc (.ref zf)=some false)
  (z4y:Nr K zl (.ref zb)=some false)
  (z3e:Nr K zf (.ref zb)=some false)
  (z2p:Nr K zd (.ref zb)=some false)
  (z1u:Nr K zc (.ref zb)=some false)
  (z72:Nr K zl (.ref zd)=some false)
  (z4x:Nr K zf (.ref zd)=some false)
  (z29:Nr K zb (.ref zd)=some false)
  (z2c:Nr K zc (.ref zd)=some false)
  (z74:zv=.ref zn)
  (z7d:K.lookup zn=some ⟨z27,z64, .fields zh,z63⟩)
  (z75:z27=.type "code")
  (z7m:zh[11]?=some (.ref zi))
  (z73:zh.getD 11 .none=.ref zi)
  (z7i:zh.getD 18 .none=.str z2s z2e)
  (z78:zh.getD 7 .none=.int z2g z2h)
  (z7g:zh.getD 9 .none=.bool z2t)
  (z7c:zh.getD 10 .none=.int z2m z2d)
  (z79:zn≠zi)
  (z7f:K.lookup zi=none)
  (z7j:zi∈ts)
  (z1:ND K mainGlobals "range"=some none)
  (z2:ND K mainGlobals "len"=some none)
  (z3:ND K mainGlobals "min"=some none)
  (z4:ND K mainGlobals "max"=some none)
  (z5:ND K mainGlobals "isinstance"=some none)
  (z6:ND K mainGlobals "bool"=some none)
  (z7:ND K mainGlobals "int"=some none)
  (z8:ND K mainGlobals "list"=some none)
  (z9:ND K mainGlobals "sum"=some none)
  (z10:ND K mainGlobals "enumerate"=some none)
  (z11:ND K mainGlobals "any"=some none)
  (z12:ND K mainGlobals "all"=some none)
  (z13:ND K mainGlobals "reversed"=some none)
  (z14:ND K mainGlobals "zip"=some none)
  (z15:ND K mainGlobals "abs"=some none)
  (z16:ND K mainGlobals "sorted"=some none)
  (z17:ND K mainGlobals "tuple"=some none)
  (z18:ND K mainGlobals "str"=some none)
  :∃(fd:FuncData) (tP c0:Addr),tP∈ts∧CodeK K c0 tP∧K.lookup tP=none∧(∀(s:Shared) (v:Value),BindsTo s fd ⟨[v],[]⟩ [("_law_script",v)])∧∀base:Heap,K.In base→base.Ns mainGlobals mg→BltM mg base→FnOk l.prog w K mg base CX0 19 fa fd ["_law_script"] (kgg K tP):=by
 have e:=hfa.symm.trans (NO X G zik)
 have hf:zbq=fa:=by
  injection e with e
  injection e with e
  exact e.symm
 subst hf
 have B:TxtB mg:=⟨N2 X G z1,N2 X G z2,N2 X G z3,N2 X G z4,N2 X G z5,N2 X G z6,N2 X G z7,N2 X G z8,N2 X G z9,N2 X G z10,N2 X G z11,N2 X G z12,N2 X G z13,N2 X G z14,N2 X G z15,N2 X G z16,N2 X G z17,N2 X G z18⟩
 have W:Wld K mg ⟨(zg0),(zf9),(zg3),(zfr),(z3d),(z32),(zfg),(zfs),(zgt),(zgx),(z8z),(z8f),(zgu),(zgs),(zfx),(zfb),(z3l),(z39),(z2n),(z2a),(z5s),(z5q),(z34),(z31),(zw),(NA "falling_groups" "falling_groups" (kaE kaG) (kaC kaG) (kah kaG) .none z30 z2l z2k z2o zv z28),(z44),(z4g),(z7p),(z93),(z3v),(z3y),(zc3),(zbv),(zf3),(zfv),(zdj),(zdi),(z46),(z45),(z4l),(z4o),(z4s),(z58),(z2v),(z2x),(zdh),(zdf),(z57),(z4m),(z90),(z7s),(z6d),(z6x),(z5c),(z55),(z5k),(z61),(z5w),(z5p),(z69),(z6c),(z5f),(z5b),(z71),(z6i),(z6r),(z6p),(z8u),(z92),(z7q),(z86),(z6s),(z6e),(z6j),(z6n),(z70),(z6h),(z8k),(z7w),(z6z),(z6o),(z6f),(z6a),(z35),(z33),(zbq),(NA "law" "law" (kaE s_law) (kaC s_law) (kah s_law) .none zgq zgw zgv zgr zdl zgy),(zk),(z19),(NA "__init__" "Marks.__init__" (kaE ka4) (kaC ka4) (kah ka4) (.ref z3s) z5l z5x z5m z5t z2b z5v),(z36),(zg),(zr),(NA "__init__" "Voucher.__init__" (kaE kaT) (kaC kaT) (kah kaT) (.ref z22) z49 z40 z4b z48 z1r z41),(zl),(z1z),(NA "__init__" "Off.__init__" (kaE kbr) (kaC kbr) (kah kbr) (.ref z5o) z7o z84 z8j z8s z4h z8i),(zf),(zz),(NA "__init__" "Share.__init__" (kaE ka3) (kaC ka3) (kah ka3) (.ref z3q) z5u z5j z5r z5y z2u z60),(zb),(zt),(NA "__init__" "Cheapest.__init__" (kaE kaM) (kaC kaM) (kah kaM) (.ref z1q) z3o z38 z3g z3k z1d z3j),(zd),(zy),(NA "__init__" "Bundle.__init__" (kaE kaX) (kaC kaX) (kah kaX) (.ref z2r) z4n z4v z4p z54 z21 z5d),(zc),(zu),(NA "__init__" "Carriage.__init__" (kaE kaN) (kaC kaN) (kah kaN) (.ref z1s) z37 z3n z3b z3m z1k z3a),(zo),(z1c),(NA "__init__" "Line.__init__" (kaE kbc) (kaC kbc) (kah kbc) (.ref z4j) z6w z6q z6t z6v z3u z67),(zj),(zx),(NA "__init__" "Basket.__init__" (kaE kaY) (kaC kaY) (kah kaY) (.ref z2j) z59 z4t z4q z53 z20 z51),(z2q),(ze),(z42),(z3z),(z3f),(z3h),(zq),(za2),(za0),(z4z),(z5e),(z6k),(z6l),(z4c),(z3w),(zm),(z7y),(z83),(zp),(z1h),(NA "__init__" "Till.__init__" (kaE kbb) (kaC kbb) (kah kbb) (.ref z4k) z6y z6b z6g z68 z3r z6u),(z47),(za),(z52),(z4w),(z1w),(z1x),(z23),(z26),(z24),(z25),(z1a),(z1i),(z1m),(z1o),(z1y),(z1t),(z1n),(z1p),(zn),(zi)⟩:=⟨B,zho,zi5,z8p,zic,zir,zf0,zim,zij,z8y,z7n,zbu,z8h,⟨(kbx z8o z80 z7t),(Binds.all (nL3 fun _ _ _=>rfl)),NO X G z8g⟩,z9h,ze3,z95,zgb,zi1,zh0,z9f,zaa,za5,z7k,zhd,zax,zdt,zce,zaw,zc2,zbe,zd1,zap,zcc,zd2,zep,zdv,zct,zd0,zdb,zel,zcu,zcy,z8r,⟨(kbx zjb zjc zjd),(Binds.all (nL1 fun _=>rfl)),NO X G zik⟩,⟨⟨zh9,zh5,zhc,zhh⟩,NO X G zi7,⟨zhi,inX,itX,zh7⟩,zhg,zh2,zgz,zhb⟩,zcq,zbh,zde,zak,zci,zcb,⟨zcf,zc8,(kbx zck zcg zd7),(bd_mk (n:=7) rfl fun _ KX=>nL7 fun _ _ _ _ _ _ _=>BindsTo.of_defaults rfl (KX _ _ zs) rfl rfl rfl)⟩,(bd_mk (n:=6) rfl fun _ KX=>nL6 fun _ _ _ _ _ _=>BindsTo.of_defaults rfl (KX _ _ zs) rfl rfl rfl),(bd_mk (n:=5) rfl fun _ KX=>nL5 fun _ _ _ _ _=>BindsTo.of_defaults rfl (KX _ _ zs) rfl rfl rfl),(bd_mk (n:=4) rfl fun _ KX=>nL4 fun _ _ _ _=>BindsTo.of_defaults rfl (KX _ _ zs) rfl rfl rfl),(bd_mk (n:=3) rfl fun _ KX=>nL3 fun _ _ _=>BindsTo.of_defaults rfl (KX _ _ zs) rfl rfl rfl),(bd_mk (n:=2) rfl fun _ KX=>nL2 fun _ _=>BindsTo.of_defaults rfl (KX _ _ zs) rfl rfl rfl),(bd_mk (n:=1) rfl fun _ KX=>nL1 fun _=>BindsTo.of_defaults rfl (KX _ _ zs) rfl rfl rfl),⟨⟨zfy,zfh,zf2,zg1⟩,NO X G zgd,⟨zfa,inX,itX,zff⟩,zf4,zfm,zg5,zf1⟩,⟨zb6,zb4,(kbx za8 zb3 zb1),(bd_mk (n:=2) rfl fun _ KX=>nL2 fun _ _=>BindsTo.of_defaults rfl (KX _ _ z56) rfl rfl rfl)⟩,(bd_mk (n:=1) rfl fun _ KX=>nL1 fun _=>BindsTo.of_defaults rfl (KX _ _ z56) rfl rfl rfl),NO X G zhl,⟨⟨zj8,zit,zil,zin⟩,NO X G zhl,⟨zio,inX,itX,z89⟩,z8a,z8w,zj4,zj0⟩,zd9,zdn,⟨zf7,zf5,(kbx zf6 zg4 zfj),(bd_mk (n:=3) rfl fun _ KX=>nL3 fun _ _ _=>BindsTo.of_defaults rfl (KX _ _ za1) rfl rfl rfl)⟩,(bd_mk (n:=2) rfl fun _ KX=>nL2 fun _ _=>BindsTo.of_defaults rfl (KX _ _ za1) rfl rfl rfl),NO X G zfo,⟨⟨zh3,zha,zhf,zh6⟩,NO X G zfo,⟨zh1,inX,itX,z4e⟩,z4f,z43,zhe,zh8⟩,zbw,z9k,zbt,⟨zc7,zcd,(kbx zca zd3 zcv),(bd_mk (n:=4) rfl fun _ KX=>nL4 fun _ _ _ _=>BindsTo.of_defaults rfl (KX _ _ z3t) rfl rfl rfl)⟩,(bd_mk (n:=3) rfl fun _ KX=>nL3 fun _ _ _=>BindsTo.of_defaults rfl (KX _ _ z3t) rfl rfl rfl),(bd_mk (n:=2) rfl fun _ KX=>nL2 fun _ _=>BindsTo.of_defaults rfl (KX _ _ z3t) rfl rfl rfl),NO X G za4,⟨⟨zee,zeg,zey,ze5⟩,NO X G za4,⟨zeu,inX,itX,z1b⟩,z1g,z1j,zes,zeo⟩,z9p,z8c,⟨z9n,z9w,(kbx z9v z96 z98),(bd_mk (n:=3) rfl fun _ KX=>nL3 fun _ _ _=>BindsTo.of_defaults rfl (KX _ _ z3x) rfl rfl rfl)⟩,(bd_mk (n:=2) rfl fun _ KX=>nL2 fun _ _=>BindsTo.of_defaults rfl (KX _ _ z3x) rfl rfl rfl),NO X G zdg,⟨⟨zgl,zgn,zgh,zg8⟩,NO X G zdg,⟨zga,inX,itX,z2w⟩,z2i,z2z,zgc,zge⟩,zbx,zab,zar,⟨zbr,zb7,(kbx zbf zbi zbk),(bd_mk (n:=4) rfl fun _ KX=>nL4 fun _ _ _ _=>BindsTo.of_defaults rfl (KX _ _ z5n) rfl rfl rfl)⟩,(bd_mk (n:=3) rfl fun _ KX=>nL3 fun _ _ _=>BindsTo.of_defaults rfl (KX _ _ z5n) rfl rfl rfl),NO X G za3,⟨⟨zec,zea,zdw,ze1⟩,NO X G za3,⟨zdk,inX,itX,z1l⟩,z1f,z1e,zet,ze0⟩,z8x,⟨z9l,z9g,(kbx z97 z9r z9c),(bd_mk (n:=2) rfl fun _ KX=>nL2 fun _ _=>BindsTo.of_defaults rfl (KX _ _ z4a) rfl rfl rfl)⟩,(bd_mk (n:=1) rfl fun _ KX=>nL1 fun _=>BindsTo.of_defaults rfl (KX _ _ z4a) rfl rfl rfl),⟨⟨zhu,zht,zi4,zii⟩,NO X G zix,⟨zhv,inX,itX,zid⟩,zhj,zhz,zi3,zi9⟩,zdm,zcm,zdp,zau,⟨ze6,zeh,(kbx zev ze9 zer),(bd_mk (n:=5) rfl fun _ KX=>nL5 fun _ _ _ _ _=>BindsTo.of_defaults rfl (KX _ _ z8l) rfl rfl rfl)⟩,(bd_mk (n:=4) rfl fun _ KX=>nL4 fun _ _ _ _=>BindsTo.of_defaults rfl (KX _ _ z8l) rfl rfl rfl),⟨⟨zg9,zgo,zg6,zgf⟩,NO X G zh4,⟨zgp,inX,itX,zg7⟩,zgj,zgk,zgi,zgg⟩,zai,z77,z9u,⟨zb9,zbm,(kbx zbj zbl zc0),(bd_mk (n:=4) rfl fun _ KX=>nL4 fun _ _ _ _=>BindsTo.of_defaults rfl (KX _ _ z2f) rfl rfl rfl)⟩,(bd_mk (n:=3) rfl fun _ KX=>nL3 fun _ _ _=>BindsTo.of_defaults rfl (KX _ _ z2f) rfl rfl rfl),(bd_mk (n:=2) rfl fun _ KX=>nL2 fun _ _=>BindsTo.of_defaults rfl (KX _ _ z2f) rfl rfl rfl),⟨⟨zez,ze8,zdx,zdu⟩,NO X G zfn,⟨ze7,inX,itX,zdq⟩,zds,zex,zem,zew⟩,z7h,z7e,z5z,z7l,z9s,z87,⟨⟨zj9,zis,zj7,ziy⟩,NO X G zje,⟨zj3,inX,itX,zja⟩,ziz,ziq,zj6,zj1⟩,zfw,zc9,zfz,zg2,zag,zfu,zad,zcl,z9d,⟨⟨zia,zig,zhy,zih⟩,NO X G ziw,⟨zhp,inX,itX,zi2⟩,zi8,zhq,zi6,zib⟩,zcx,zcw,zbc,z9x,zcn,ze4,⟨⟨zhm,zif,zhw,zhn⟩,NO X G ziu,⟨zhx,inX,itX,zhs⟩,zie,zi0,zhk,zhr⟩,zaf,z9y,zcp,zej,⟨zeb,zeq,(kbx zdz zdr zdy),(bd_mk (n:=5) rfl fun _ KX=>nL5 fun _ _ _ _ _=>BindsTo.of_defaults rfl (KX _ _ z7z) rfl rfl rfl)⟩,(bd_mk (n:=4) rfl fun _ KX=>nL4 fun _ _ _ _=>BindsTo.of_defaults rfl (KX _ _ z7z) rfl rfl rfl),⟨⟨zfk,zfp,zf8,zfq⟩,NO X G zgm,⟨zfc,inX,itX,zfe⟩,zfi,zft,zfl,zfd⟩,zaz,z8n,zb5,z4d,z9j,z7x,zan,zae,zaq,zaj,z62,z65,z66,z4i,z5h,z5i,z5g,⟨z9z,z9a,z9e⟩,kaQ z50 z1l z1e (kbs z50 z8a),kaQ z3i z1l z1e (kbs z3i z4f),kaQ z1v z1l z1e (kbs z1v z1g),kaQ z2y z1l z1e (kbs z2y z2i),kaQ z8b z89 z8w (kbs z8b z4f),kaQ z5a z89 z8w (kbs z5a z1g),kaQ z6m z89 z8w (kbs z6m z2i),kaQ z4r z89 z8w (kbs z4r z1f),kaQ z8m z4e z43 (kbs z8m z8a),kaQ z3c z4e z43 (kbs z3c z1g),kaQ z4u z4e z43 (kbs z4u z2i),kaQ z3p z4e z43 (kbs z3p z1f),kaQ z4y z1b z1j (kbs z4y z8a),kaQ z3e z1b z1j (kbs z3e z4f),kaQ z2p z1b z1j (kbs z2p z2i),kaQ z1u z1b z1j (kbs z1u z1f),kaQ z72 z2w z2z (kbs z72 z8a),kaQ z4x z2w z2z (kbs z4x z4f),kaQ z29 z2w z2z (kbs z29 z1g),kaQ z2c z2w z2z (kbs z2c z1f),z74,⟨_,zh,z2s,z2e,z2g,z2h,z2t,z2m,z2d,z7d,z75,rfl,z7m,z73,z7i,z78,z7g,z7c,z79⟩⟩
 exact⟨_,zi,zn,z7j,W.ck_falling_groups,z7f,fun s v=>.of_eq rfl,fun base _ _ hB=>kml ⟨W,hB⟩⟩
end Vs
def PySem.W.Fast.tw6096918783435976353:Nat:=0
def PySem.W.Fast.tw3675237116160148353:Nat:=0
def PySem.W.Fast.tw15863414355102122723:Nat:=0
def PySem.W.Fast.tw9664530874858225988:Nat:=0
def PySem.W.Fast.tw3280392371382146500:Nat:=0
def PySem.W.Fast.tw550560936385235141:Nat:=0
def PySem.W.Fast.tw17651629562962229029:Nat:=0
def PySem.W.Fast.tw331954499004508518:Nat:=0
def PySem.W.Fast.tw16931614237607040071:Nat:=0
def PySem.W.Fast.tw14791370402024495015:Nat:=0
def PySem.W.Fast.tw16109119193782023143:Nat:=0
def PySem.W.Fast.tw7526259544154255176:Nat:=0
def PySem.W.Fast.tw4440770972571352008:Nat:=0
def PySem.W.Fast.tw18111260797769272394:Nat:=0
def PySem.W.Fast.tw16432365244028961258:Nat:=0
def PySem.W.Fast.tw3646494530092887594:Nat:=0
def PySem.W.Fast.tw9772916125134196203:Nat:=0
def PySem.W.Fast.tw6359495115403042124:Nat:=0
def PySem.W.Fast.tw523754140424703629:Nat:=0
def PySem.W.Fast.tw10163224437783876365:Nat:=0
def PySem.W.Fast.tw10526697914875541325:Nat:=0
def PySem.W.Fast.tw13284143745261585518:Nat:=0
def PySem.W.Fast.tw3094996358193215982:Nat:=0
def PySem.W.Fast.tw8019539614969519855:Nat:=0
def PySem.W.Fast.tw9261004396533314736:Nat:=0
def PySem.W.Fast.tw13285841535107598896:Nat:=0
def PySem.W.Fast.tw7684680110728415216:Nat:=0
def PySem.W.Fast.tw12941880776745549170:Nat:=0
def PySem.W.Fast.tw1823004974956571154:Nat:=0
def PySem.W.Fast.tw6932792528379975923:Nat:=0
def PySem.W.Fast.tw6620628037748900980:Nat:=0
def PySem.W.Fast.tw3135141707978799732:Nat:=0
def PySem.W.Fast.tw11406036485632480916:Nat:=0
def PySem.W.Fast.tw10596141016061990548:Nat:=0
def PySem.W.Fast.tw18174657764437392053:Nat:=0
def PySem.W.Fast.tw7140183192704945142:Nat:=0
def PySem.W.Fast.tw10144917478495066393:Nat:=0
def PySem.W.Fast.tw14378404135482349754:Nat:=0
def PySem.W.Fast.tw15163941096504858330:Nat:=0
def PySem.W.Fast.tw6302255651858127099:Nat:=0
def PySem.W.Fast.tw18362983178393071387:Nat:=0
def PySem.W.Fast.tw10064930471425845246:Nat:=0
def PySem.W.Fast.tw7524522112266358879:Nat:=0
def PySem.W.Fast.tw1475146866853357503:Nat:=0
def PySem.W.Fast.tw16273803541062935940:Nat:=0
def PySem.W.Fast.tw8157401888800489512:Nat:=0
def PySem.W.Fast.tw13021603742526342750:Nat:=0
def PySem.W.Fast.tw7300544428084198297:Nat:=0
def PySem.W.Fast.tw7183664813117855979:Nat:=0
def PySem.W.Fast.tw635346078801736754:Nat:=0
def PySem.W.Fast.tw8876169198570840235:Nat:=0
def PySem.W.Fast.tw2410737841961406309:Nat:=0
def PySem.W.Fast.tw6367935447608584280:Nat:=0
def PySem.W.Fast.tw902616869440225959:Nat:=0
def PySem.W.Fast.tw6561198118936725625:Nat:=0
def PySem.W.Fast.tw13472353320235319015:Nat:=0
def PySem.W.Fast.tw12080324520410266213:Nat:=0
def PySem.W.Fast.tw15923495611992127078:Nat:=0
def PySem.W.Fast.tw4261283020202122829:Nat:=0
def PySem.W.Fast.tw3369521333161512091:Nat:=0
def PySem.W.Fast.tw16586376584965537116:Nat:=0
def PySem.W.Fast.tw13259151082815285262:Nat:=0
def PySem.W.Fast.tw14029971513496408486:Nat:=0
def PySem.W.Fast.tw15336177014435960629:Nat:=0
def PySem.W.Fast.tw9647631766276181837:Nat:=0
def PySem.W.Fast.tw3305968441135233342:Nat:=0
def PySem.W.Fast.tw8994925552512673797:Nat:=0
def PySem.W.Fast.tw14746046178214725194:Nat:=0
def PySem.W.Fast.tw7988431969281793692:Nat:=0
def PySem.W.Fast.tw6771034310210319046:Nat:=0
def PySem.W.Fast.tw16579414341491426409:Nat:=0
def PySem.W.Fast.tw8175375251560379958:Nat:=0
def PySem.W.Fast.tw14247536001598996533:Nat:=0
def PySem.W.Fast.tw7754074307085868167:Nat:=0
def PySem.W.Fast.tw3739722596074900199:Nat:=0
def PySem.W.Fast.tw16733773735131117239:Nat:=0
def PySem.W.Fast.tw8983753868367316225:Nat:=0
def PySem.W.Fast.tw5813056258769035350:Nat:=0
def PySem.W.Fast.tw8421551082457854662:Nat:=0
def PySem.W.Fast.tw942840978368658853:Nat:=0
def PySem.W.Fast.tw11776731084194511834:Nat:=0
def PySem.W.Fast.tw16860426680573442990:Nat:=0
def PySem.W.Fast.tw12475225502001651131:Nat:=0
def PySem.W.Fast.tw8549278791904271742:Nat:=0
def PySem.W.Fast.tw4324990663961987330:Nat:=0
def PySem.W.Fast.tw17176237082977690191:Nat:=0
def PySem.W.Fast.tw3109560598578432545:Nat:=0
def PySem.W.Fast.tw5761238937460551293:Nat:=0
def PySem.W.Fast.tw3293616121163135829:Nat:=0
def PySem.W.Fast.tw10376935142465838201:Nat:=0
def PySem.W.Fast.tw8422175032307292326:Nat:=0
def PySem.W.Fast.tw6674368309422597216:Nat:=0
def PySem.W.Fast.tw3448627299775746610:Nat:=0
def PySem.W.Fast.tw7065206955019353935:Nat:=0
def PySem.W.Fast.tw5351497486882572004:Nat:=0
def PySem.W.Fast.tw10512754676036050427:Nat:=0
def PySem.W.Fast.tw6511401723907486658:Nat:=0
def PySem.W.Fast.tw14801063814332855157:Nat:=0
def PySem.W.Fast.tw14179869950192541963:Nat:=0
def PySem.W.Fast.tw2809345592506480458:Nat:=0
def PySem.W.Fast.tw16118734579150390694:Nat:=0
def PySem.W.Fast.tw1791052593882882217:Nat:=0
def PySem.W.Fast.tw16833467308446884199:Nat:=0
def PySem.W.Fast.tw8017980895028122792:Nat:=0
def PySem.W.Fast.tw3061330384593331620:Nat:=0
def PySem.W.Fast.tw1106010692881537519:Nat:=0
def PySem.W.Fast.tw17384318306591697230:Nat:=0
def PySem.W.Fast.tw18416140654945313551:Nat:=0
def PySem.W.Fast.tw1909638257580968474:Nat:=0
def PySem.W.Fast.tw9444909012156854003:Nat:=0
def PySem.W.Fast.tw16980436873762499481:Nat:=0
def PySem.W.Fast.tw8526266253676593590:Nat:=0
def PySem.W.Fast.tw576665867178187028:Nat:=0
def PySem.W.Fast.tw5200448316977306274:Nat:=0
def PySem.W.Fast.tw1922253675418990704:Nat:=0
def PySem.W.Fast.tw1844237540440312804:Nat:=0
def PySem.W.Fast.tw13373059907036904534:Nat:=0
def PySem.W.Fast.tw6091539603775932172:Nat:=0
def PySem.W.Fast.tw14425221491565247026:Nat:=0
def PySem.W.Fast.tw4458442887859254367:Nat:=0
def PySem.W.Fast.tw12580591727503512957:Nat:=0
def PySem.W.Fast.tw5405123562682773649:Nat:=0
def PySem.W.Fast.tw14473111849113716741:Nat:=0
def PySem.W.Fast.tw60449743257783103:Nat:=0
def PySem.W.Fast.tw3074560184075812649:Nat:=0
def PySem.W.Fast.tw15957014394182003316:Nat:=0
def PySem.W.Fast.tw12350505553994859438:Nat:=0
def PySem.W.Fast.tw7301768606202696890:Nat:=0
def PySem.W.Fast.tw18404714746533478002:Nat:=0
def PySem.W.Fast.tw10930676594363517734:Nat:=0
def PySem.W.Fast.tw6752668912930826415:Nat:=0
def PySem.W.Fast.tw14027888358459908363:Nat:=0
def PySem.W.Fast.tw13279407921830295578:Nat:=0
def PySem.W.Fast.tw9315428513174416931:Nat:=0
def PySem.W.Fast.tw17354118170408048641:Nat:=0
def PySem.W.Fast.tw6232859499606815654:Nat:=0
open PySem PySem.W PyProof.Rows
set_option maxRecDepth 100000 in
set_option maxHeartbeats 0 in
theorem PySem.Challenge.cw_voucherstack_k37_paid_and_paid_back_holds : PySem.Challenge.rw_voucherstack_k37_paid_and_paid_back.Holds := by
 w_on;o_law;k_head;(case hw=>w_witness2)
 k_fill
 refine L2.walkT_of (l:=PySem.Challenge.rw_voucherstack_k37_paid_and_paid_back) (k:=19) (x:="_law_script") rfl rfl ⟨rfl,by decide,by decide⟩ (fun w h Y=>PySem.W.km_in_of Y) (fun w h Y=>PySem.W.km_tabs_of Y) ?F
 case F=>
  intro w mg fa h KX G hmg
  refine' Vs.all_mk KX G hmg ?Nc ?Nb ?Jr ?Nd ?Nf ?JX ?Ng ?Na ?Js ?Jp ?JI ?Ju ?afalling_groups ?lfalling_groups ?cfalling_groups ?kfalling_groups ?Jy ?JZ ?JA ?J6 ?J9 ?J8 ?Jx ?JF ?JG ?Jq ?J7 ?JB ?JV ?JQ ?JD ?JK ?JJ ?JP ?JC ?JT ?JN ?J4 ?J0 ?JS ?JM ?JU ?JW ?JO ?JR ?Jt ?alaw ?llaw ?claw ?klaw ?aMarks ?imMarks ?isMarks ?iyMarks ?inX ?itX ?pgMarks ?hdMarks ?poMarks ?saMarks ?mkMarks ?kcMarks ?iaMarks ?nMarks_kind ?nMarks_needs ?nMarks_most ?nMarks_member ?nMarks_once ?nMarks_lone ?hMarks_init ?iMarks_init ?lMarks_init ?cMarks_init ?kMarks_init ?tMarks_init ?aVoucher ?imVoucher ?isVoucher ?iyVoucher ?pgVoucher ?hdVoucher ?poVoucher ?saVoucher ?mkVoucher ?kcVoucher ?iaVoucher ?hVoucher_init ?iVoucher_init ?lVoucher_init ?cVoucher_init ?kVoucher_init ?tVoucher_init ?aOff ?imOff ?isOff ?iyOff ?pgOff ?hdOff ?poOff ?saOff ?mkOff ?kcOff ?iaOff ?nOff_amount ?nOff_marks ?hOff_init ?iOff_init ?lOff_init ?cOff_init ?kOff_init ?tOff_init ?aShare ?imShare ?isShare ?iyShare ?pgShare ?hdShare ?poShare ?saShare ?mkShare ?kcShare ?iaShare ?nShare_share ?nShare_by_line ?nShare_marks ?hShare_init ?iShare_init ?lShare_init ?cShare_init ?kShare_init ?tShare_init ?aCheapest ?imCheapest ?isCheapest ?iyCheapest ?pgCheapest ?hdCheapest ?poCheapest ?saCheapest ?mkCheapest ?kcCheapest ?iaCheapest ?nCheapest_many ?nCheapest_marks ?hCheapest_init ?iCheapest_init ?lCheapest_init ?cCheapest_init ?kCheapest_init ?tCheapest_init ?aBundle ?imBundle ?isBundle ?iyBundle ?pgBundle ?hdBundle ?poBundle ?saBundle ?mkBundle ?kcBundle ?iaBundle ?nBundle_many ?nBundle_price ?nBundle_marks ?hBundle_init ?iBundle_init ?lBundle_init ?cBundle_init ?kBundle_init ?tBundle_init ?aCarriage ?imCarriage ?isCarriage ?iyCarriage ?pgCarriage ?hdCarriage ?poCarriage ?saCarriage ?mkCarriage ?kcCarriage ?iaCarriage ?nCarriage_marks ?hCarriage_init ?iCarriage_init ?lCarriage_init ?cCarriage_init ?kCarriage_init ?tCarriage_init ?aLine ?imLine ?isLine ?iyLine ?pgLine ?hdLine ?poLine ?saLine ?mkLine ?kcLine ?iaLine ?nLine_kind ?nLine_price ?nLine_many ?nLine_special ?hLine_init ?iLine_init ?lLine_init ?cLine_init ?kLine_init ?tLine_init ?aBasket ?imBasket ?isBasket ?iyBasket ?pgBasket ?hdBasket ?poBasket ?saBasket ?mkBasket ?kcBasket ?iaBasket ?nBasket_lines ?nBasket_carriage ?nBasket_member ?hBasket_init ?iBasket_init ?lBasket_init ?cBasket_init ?kBasket_init ?tBasket_init ?aStanding ?imStanding ?isStanding ?iyStanding ?pgStanding ?hdStanding ?poStanding ?saStanding ?mkStanding ?kcStanding ?iaStanding ?nStanding_owners ?nStanding_prices ?nStanding_carriage ?nStanding_marked ?Jw ?Jv ?aWay ?imWay ?isWay ?iyWay ?pgWay ?hdWay ?poWay ?saWay ?mkWay ?kcWay ?iaWay ?nWay_till ?nWay_basket ?nWay_hand ?nWay_used ?nWay_standing ?J5 ?JE ?JL ?Jz ?aBill ?imBill ?isBill ?iyBill ?pgBill ?hdBill ?poBill ?saBill ?mkBill ?kcBill ?iaBill ?nBill_order ?nBill_steps ?nBill_prices ?nBill_carriage ?nBill_total ?JY ?aTill ?imTill ?isTill ?iyTill ?pgTill ?hdTill ?poTill ?saTill ?mkTill ?kcTill ?iaTill ?nTill_parents ?nTill_vouchers ?nTill_rules ?nTill_back ?hTill_init ?iTill_init ?lTill_init ?cTill_init ?kTill_init ?tTill_init ?aAccount ?imAccount ?isAccount ?iyAccount ?pgAccount ?hdAccount ?poAccount ?saAccount ?mkAccount ?kcAccount ?iaAccount ?nAccount_till ?nAccount_basket ?nAccount_hand ?nAccount_first_prices ?nAccount_order ?nAccount_fallen ?nAccount_many ?nAccount_paid ?nAccount_owed ?JH ?Jm ?Jo ?Jn ?Ji ?Jj ?Jl ?Jk ?rdVoucher_init ?gaVoucher_init ?fcVoucher_init ?qOff_Carriage ?qShare_Carriage ?qCheapest_Carriage ?qBundle_Carriage ?qShare_Off ?qCheapest_Off ?qBundle_Off ?qCarriage_Off ?qOff_Share ?qCheapest_Share ?qBundle_Share ?qCarriage_Share ?qOff_Cheapest ?qShare_Cheapest ?qBundle_Cheapest ?qCarriage_Cheapest ?qOff_Bundle ?qShare_Bundle ?qCheapest_Bundle ?qCarriage_Bundle ?qafalling_groups ?qbfalling_groups ?qcfalling_groups ?qdfalling_groups ?qefalling_groups ?qffalling_groups ?qgfalling_groups ?qhfalling_groups ?qifalling_groups ?qjfalling_groups ?qkfalling_groups ?qlfalling_groups ?z1 ?z2 ?z3 ?z4 ?z5 ?z6 ?z7 ?z8 ?z9 ?z10 ?z11 ?z12 ?z13 ?z14 ?z15 ?z16 ?z17 ?z18
  any_goals k_is
  (case Nc=>refine' Vs.dn_mk KX G ?_ ?_ ?_ ?_ (fun _ _ _ _ _ _=>Vs.nL2 fun _ _=>rfl);any_goals k_is)
  (case Nb=>refine' Vs.dn_mk KX G ?_ ?_ ?_ ?_ (fun _ _ _ _ _ _=>Vs.nL3 fun _ _ _=>rfl);any_goals k_is)
  (case Jr=>refine' Vs.dn_mk KX G ?_ ?_ ?_ ?_ (fun _ _ _ _ _ _=>Vs.nL2 fun _ _=>rfl);any_goals k_is)
  (case Nd=>refine' Vs.dn_mk KX G ?_ ?_ ?_ ?_ (fun _ _ _ _ _ _=>Vs.nL4 fun _ _ _ _=>rfl);any_goals k_is)
  (case Nf=>refine' Vs.dn_mk KX G ?_ ?_ ?_ ?_ (fun _ _ _ _ _ _=>Vs.nL4 fun _ _ _ _=>rfl);any_goals k_is)
  (case JX=>refine' Vs.dn_mk KX G ?_ ?_ ?_ ?_ (fun _ _ _ _ _ _=>Vs.nL4 fun _ _ _ _=>rfl);any_goals k_is)
  (case Ng=>refine' Vs.dn_mk KX G ?_ ?_ ?_ ?_ (fun _ _ _ _ _ _=>Vs.nL4 fun _ _ _ _=>rfl);any_goals k_is)
  (case Na=>refine' Vs.dn_mk KX G ?_ ?_ ?_ ?_ (fun _ _ _ _ _ _=>Vs.nL4 fun _ _ _ _=>rfl);any_goals k_is)
  (case Js=>refine' Vs.dn_mk KX G ?_ ?_ ?_ ?_ (fun _ _ _ _ _ _=>Vs.nL4 fun _ _ _ _=>rfl);any_goals k_is)
  (case Jp=>refine' Vs.dn_mk KX G ?_ ?_ ?_ ?_ (fun _ _ _ _ _ _=>Vs.nL2 fun _ _=>rfl);any_goals k_is)
  (case JI=>refine' Vs.dn_mk KX G ?_ ?_ ?_ ?_ (fun _ _ _ _ _ _=>Vs.nL3 fun _ _ _=>rfl);any_goals k_is)
  (case Ju=>refine' Vs.dn_mk KX G ?_ ?_ ?_ ?_ (fun _ _ _ _ _ _=>Vs.nL2 fun _ _=>rfl);any_goals k_is)
  (case Jy=>refine' Vs.dn_mk KX G ?_ ?_ ?_ ?_ (fun _ _ _ _ _ _=>Vs.nL3 fun _ _ _=>rfl);any_goals k_is)
  (case JZ=>refine' Vs.dn_mk KX G ?_ ?_ ?_ ?_ (fun _ _ _ _ _ _=>Vs.nL2 fun _ _=>rfl);any_goals k_is)
  (case JA=>refine' Vs.dn_mk KX G ?_ ?_ ?_ ?_ (fun _ _ _ _ _ _=>Vs.nL2 fun _ _=>rfl);any_goals k_is)
  (case J6=>refine' Vs.dn_mk KX G ?_ ?_ ?_ ?_ (fun _ _ _ _ _ _=>Vs.nL2 fun _ _=>rfl);any_goals k_is)
  (case J9=>refine' Vs.dn_mk KX G ?_ ?_ ?_ ?_ (fun _ _ _ _ _ _=>Vs.nL4 fun _ _ _ _=>rfl);any_goals k_is)
  (case J8=>refine' Vs.dn_mk KX G ?_ ?_ ?_ ?_ (fun _ _ _ _ _ _=>Vs.nL4 fun _ _ _ _=>rfl);any_goals k_is)
  (case Jx=>refine' Vs.dn_mk KX G ?_ ?_ ?_ ?_ (fun _ _ _ _ _ _=>Vs.nL4 fun _ _ _ _=>rfl);any_goals k_is)
  (case JF=>refine' Vs.dn_mk KX G ?_ ?_ ?_ ?_ (fun _ _ _ _ _ _=>Vs.nL3 fun _ _ _=>rfl);any_goals k_is)
  (case JG=>refine' Vs.dn_mk KX G ?_ ?_ ?_ ?_ (fun _ _ _ _ _ _=>Vs.nL3 fun _ _ _=>rfl);any_goals k_is)
  (case Jq=>refine' Vs.dn_mk KX G ?_ ?_ ?_ ?_ (fun _ _ _ _ _ _=>Vs.nL2 fun _ _=>rfl);any_goals k_is)
  (case J7=>refine' Vs.dn_mk KX G ?_ ?_ ?_ ?_ (fun _ _ _ _ _ _=>Vs.nL4 fun _ _ _ _=>rfl);any_goals k_is)
  (case JB=>refine' Vs.dn_mk KX G ?_ ?_ ?_ ?_ (fun _ _ _ _ _ _=>Vs.nL2 fun _ _=>rfl);any_goals k_is)
  (case JV=>refine' Vs.dn_mk KX G ?_ ?_ ?_ ?_ (fun _ _ _ _ _ _=>Vs.nL4 fun _ _ _ _=>rfl);any_goals k_is)
  (case JQ=>refine' Vs.dn_mk KX G ?_ ?_ ?_ ?_ (fun _ _ _ _ _ _=>Vs.nL3 fun _ _ _=>rfl);any_goals k_is)
  (case JD=>refine' Vs.dn_mk KX G ?_ ?_ ?_ ?_ (fun _ _ _ _ _ _=>Vs.nL1 fun _=>rfl);any_goals k_is)
  (case JK=>refine' Vs.dn_mk KX G ?_ ?_ ?_ ?_ (fun _ _ _ _ _ _=>Vs.nL2 fun _ _=>rfl);any_goals k_is)
  (case JJ=>refine' Vs.dn_mk KX G ?_ ?_ ?_ ?_ (fun _ _ _ _ _ _=>Vs.nL4 fun _ _ _ _=>rfl);any_goals k_is)
  (case JP=>refine' Vs.dn_mk KX G ?_ ?_ ?_ ?_ (fun _ _ _ _ _ _=>Vs.nL4 fun _ _ _ _=>rfl);any_goals k_is)
  (case JC=>refine' Vs.dn_mk KX G ?_ ?_ ?_ ?_ (fun _ _ _ _ _ _=>Vs.nL4 fun _ _ _ _=>rfl);any_goals k_is)
  (case JT=>refine' Vs.dn_mk KX G ?_ ?_ ?_ ?_ (fun _ _ _ _ _ _=>Vs.nL2 fun _ _=>rfl);any_goals k_is)
  (case JN=>refine' Vs.dn_mk KX G ?_ ?_ ?_ ?_ (fun _ _ _ _ _ _=>Vs.nL1 fun _=>rfl);any_goals k_is)
  (case J4=>refine' Vs.dn_mk KX G ?_ ?_ ?_ ?_ (fun _ _ _ _ _ _=>Vs.nL4 fun _ _ _ _=>rfl);any_goals k_is)
  (case J0=>refine' Vs.dn_mk KX G ?_ ?_ ?_ ?_ (fun _ _ _ _ _ _=>Vs.nL2 fun _ _=>rfl);any_goals k_is)
  (case JS=>refine' Vs.dn_mk KX G ?_ ?_ ?_ ?_ (fun _ _ _ _ _ _=>Vs.nL4 fun _ _ _ _=>rfl);any_goals k_is)
  (case JM=>refine' Vs.dn_mk KX G ?_ ?_ ?_ ?_ (fun _ _ _ _ _ _=>Vs.nL5 fun _ _ _ _ _=>rfl);any_goals k_is)
  (case JU=>refine' Vs.dn_mk KX G ?_ ?_ ?_ ?_ (fun _ _ _ _ _ _=>Vs.nL2 fun _ _=>rfl);any_goals k_is)
  (case JW=>refine' Vs.dn_mk KX G ?_ ?_ ?_ ?_ (fun _ _ _ _ _ _=>Vs.nL3 fun _ _ _=>rfl);any_goals k_is)
  (case JO=>refine' Vs.dn_mk KX G ?_ ?_ ?_ ?_ (fun _ _ _ _ _ _=>Vs.nL2 fun _ _=>rfl);any_goals k_is)
  (case JR=>refine' Vs.dn_mk KX G ?_ ?_ ?_ ?_ (fun _ _ _ _ _ _=>Vs.nL4 fun _ _ _ _=>rfl);any_goals k_is)
  (case Jt=>refine' Vs.dn_mk KX G ?_ ?_ ?_ ?_ (fun _ _ _ _ _ _=>Vs.nL5 fun _ _ _ _ _=>rfl);any_goals k_is)
  (case Jw=>refine' Vs.mt_mk ?_ ?_ ?_ ?_ ?_ (fun _ _ _ _ _ _=>Vs.nL2 fun _ _=>rfl);any_goals k_is)
  (case Jv=>refine' Vs.mt_mk ?_ ?_ ?_ ?_ ?_ (fun _ _ _ _ _ _=>Vs.nL1 fun _=>rfl);any_goals k_is)
  (case J5=>refine' Vs.mt_mk ?_ ?_ ?_ ?_ ?_ (fun _ _ _ _ _ _=>Vs.nL4 fun _ _ _ _=>rfl);any_goals k_is)
  (case JE=>refine' Vs.mt_mk ?_ ?_ ?_ ?_ ?_ (fun _ _ _ _ _ _=>Vs.nL2 fun _ _=>rfl);any_goals k_is)
  (case JL=>refine' Vs.mt_mk ?_ ?_ ?_ ?_ ?_ (fun _ _ _ _ _ _=>Vs.nL2 fun _ _=>rfl);any_goals k_is)
  (case Jz=>refine' Vs.mt_mk ?_ ?_ ?_ ?_ ?_ (fun _ _ _ _ _ _=>Vs.nL1 fun _=>rfl);any_goals k_is)
  (case JY=>refine' Vs.mt_mk ?_ ?_ ?_ ?_ ?_ (fun _ _ _ _ _ _=>Vs.nL4 fun _ _ _ _=>rfl);any_goals k_is)
  (case JH=>refine' Vs.mt_mk ?_ ?_ ?_ ?_ ?_ (fun _ _ _ _ _ _=>Vs.nL5 fun _ _ _ _ _=>rfl);any_goals k_is)
  (case Jm=>refine' Vs.mt_mk ?_ ?_ ?_ ?_ ?_ (fun _ _ _ _ _ _=>Vs.nL3 fun _ _ _=>rfl);any_goals k_is)
  (case Jo=>refine' Vs.mt_mk ?_ ?_ ?_ ?_ ?_ (fun _ _ _ _ _ _=>Vs.nL3 fun _ _ _=>rfl);any_goals k_is)
  (case Jn=>refine' Vs.mt_mk ?_ ?_ ?_ ?_ ?_ (fun _ _ _ _ _ _=>Vs.nL2 fun _ _=>rfl);any_goals k_is)
  (case Ji=>refine' Vs.mt_mk ?_ ?_ ?_ ?_ ?_ (fun _ _ _ _ _ _=>Vs.nL4 fun _ _ _ _=>rfl);any_goals k_is)
  (case Jj=>refine' Vs.mt_mk ?_ ?_ ?_ ?_ ?_ (fun _ _ _ _ _ _=>Vs.nL1 fun _=>rfl);any_goals k_is)
  (case Jl=>refine' Vs.mt_mk ?_ ?_ ?_ ?_ ?_ (fun _ _ _ _ _ _=>Vs.nL2 fun _ _=>rfl);any_goals k_is)
  (case Jk=>refine' Vs.mt_mk ?_ ?_ ?_ ?_ ?_ (fun _ _ _ _ _ _=>Vs.nL2 fun _ _=>rfl);any_goals k_is)
  (try case qafalling_groups=>first|rfl|decide|k_is)
  (try case qbfalling_groups=>k_is)
  (try case qcfalling_groups=>first|rfl|decide|k_is)
  (try case qdfalling_groups=>first|rfl|decide|k_is)
  (try case qefalling_groups=>first|rfl|decide|k_is)
  (try case qffalling_groups=>first|rfl|decide|k_is)
  (try case qgfalling_groups=>first|rfl|decide|k_is)
  (try case qhfalling_groups=>first|rfl|decide|k_is)
  (try case qifalling_groups=>first|rfl|decide|k_is)
  (try case qjfalling_groups=>first|rfl|decide|k_is)
  (try case qkfalling_groups=>first|k_is|rfl|decide|decide +kernel)
  (try case qlfalling_groups=>decide)
