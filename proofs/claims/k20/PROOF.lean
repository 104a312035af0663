import PyProof.Rows.All
import Wide.All
import OpenK.AllK
import Wide.FinOn
import Lean
import PyProof.EqAt
import PyProof.EqKinds
import PyProof.TupleCall
import PySem.Challenge.RW_voucherstack_k20_never_and_ahead
set_option Elab.async false
set_option linter.all false
set_option maxRecDepth 100000
open Array renaming length_toList → JJ, size_zip → Nt, getElem?_eq_getElem → NZ
open Bool renaming false_ne_true → UA, false_eq_true → Jl, and_eq_true → Jq, eq_iff_iff → JP, false_and → Nc, or_eq_true → Np, and_true → Nq, true_and → N8
open List renaming length_map → Uu, replicate → Uz, range → UB, map_append → UD, mem_of_getElem? → UE, getElem?_map → UF, getElem?_eq_some_iff → UG, length_take → UL, size_toArray → UN, mem_cons → UO, getD_eq_getElem?_getD → UP, map_cons → UQ, mem_map → UR, mem_cons_of_mem → US, map_map → UU, length_append → UW, mem_cons_self → UX, take_length → UY, flatten_cons → U0, lookup_cons → U4, mem_append_right → U7, not_mem_nil → Jb, zipWith → Jc, mem_append → Jd, length_cons → Jg, nodup_cons → Jh, any_cons → Ji, map_congr_left → Jj, mem_filter → Jm, lookup → Jn, getElem?_eq_getElem → Jw, take_add_one → Jx, mem_singleton → Jy, range_succ → Jz, mem_flatten → JA, of_mem_zip → JC, length_replicate → JD, replicate_succ → JE, take_of_length_le → JF, all_eq_true → JG, ext_getElem → JH, filter_append → JI, length_singleton → JK, pairwise_iff_getElem → JM, Perm → JN, mem_iff_getElem? → JO, getElem?_append_right → JQ, append_assoc → JR, Pairwise → JS, map_take → JT, length_filter_le → JU, filter_cons → JV, getElem?_append_left → JX, length_drop → JY, nodup_nil → JZ, find?_cons → J0, getElem_map → J4, any_map → J6, zipIdx_cons → J7, replicate_succ' → J8, find?_cons_of_neg → J9, getElem?_set_self → Na, getElem?_set_ne → Nb, append_nil → Ng, length → Ni, map_nil → Nj, all_cons → Nk, reverse_cons → Nl, nil_append → Nm, count_cons → Nw, flatten_append → Nx, nodup_range → Ny, getElem_range → Nz, pairwise_cons → NA, length_zipWith → NB, getElem?_zipWith → NC, getElem?_range → ND, mem_of_mem_take → NF, sum_cons → NG, any_eq_true → NI, getElem?_eq_none_iff → NJ, filterMap_cons → NL, mem_append_left → NM, getElem?_replicate → NS, length_set → NT, map_drop → NV, forIn_nil → NW, forIn_cons → NY, cons_append → N1, pairwise_lt_range → N2, getElem?_eq_none → N3, nodup_append → N4, pairwise_map → N5, getLastD_eq_getLast? → N6, map_set → N7, take_zero → N9, getElem?_take_of_lt → Mc, take_eq_take_iff → Mg, getElem_cons_drop → Ml, take_append_drop → Mm, sublist_append_left → Mn, getLast?_eq_some_getLast → Mo, drop_of_length_le → Mp, drop_eq_getElem_cons → Ms, contains_iff_mem → Mt, find?_cons_of_pos → Mu
open Nat renaming le_refl → Uw, le_trans → Uy, le_of_lt → UH, lt_of_lt_of_le → UT, ne_of_lt → UV, zero_le → U1, ne_of_gt → Je, lt_irrefl → Jp, lt_of_le_of_lt → Jr, le_succ → Jv, min_self → JL, le_of_eq → Nf, min_eq_left → NH, lt_succ_self → NP
open Option renaming map_some → Nr, getD_none → NU
open PySem.F renaming plainAttrs_list → Jk, slot_list_append → Js, type_list_append → Jt, slot_tuple_add → Md, entry_tuple_add → Me, args_tuple_add_2 → Mf, slot_dict_setdefault → Mh, plainAttrs_dict → Mi, slot_dict_values → Mj, slot_list_extend → Mq, type_list_extend → Mr
open PySem.W renaming Frag → Uv, findIn → Ux, mroIn → UC, fnOf → UI, keepIn → UJ, kitOne → UK, nsIn → UM, mg_of → UZ, codeIn → U2, mg_none_of → U3, plainGet → U5, typeIn → U6, hasDictIn → U8, isFn → U9, makesIn → Ja, plainOver → Jf, kia_one → Jo, emptyDict → Ju, instObj → JB, specialIn → JW, lookIn → Nd, callWith_K → Nh, kla_obj → Nu, tabObj → Nv, methodObj → NK, plainGet_of → NN, takerIn → NO, takesIn → NQ, methodCall_KW → NR, callWith_K0 → Ma, cellsFrom_some → Mb
namespace L2
open PySem PySem.Spec PyProof.Rows
noncomputable abbrev Key:=Sum Int Str
noncomputable def keyIs:Key→Value→Bool
 | .inl k,v=>Value.isInt k v
 | .inr x,v=>Value.isStrOf x v
noncomputable def keyH(w:World):Key→Int
 | .inl k=>hashInt k
 | .inr x=>hashStr w x
theorem ka2:∀{k:Key} {v:Value},keyIs k v=true→(∃i t,k=Sum.inl i∧v=Value.int i t)∨(∃x t,k=Sum.inr x∧v=Value.str x t)
 | .inl i,v,h=>by
  obtain⟨t,e⟩:=Value.isInt_shape (k:=i) (v:=v) h
  exact .inl ⟨i,t,rfl,e⟩
 | .inr x,v,h=>by
  obtain⟨t,e⟩:=Value.isStrOf_shape (x:=x) (v:=v) h
  exact .inr ⟨x,t,rfl,e⟩
theorem kiv(i:Int)(t:Tok):keyIs (.inl i) (.int i t)=true:=by simp[keyIs,Value.isInt]
theorem klu(a b:Int):decide ((Sum.inl a:Key)=Sum.inl b)=(a==b):=by
 by_cases e:a=b
 ·subst e;simp
 ·have h:¬(Sum.inl a:Key)=Sum.inl b:=fun q=>e (Sum.inl.inj q)
  rw[decide_eq_false h]
  exact(beq_eq_false_iff_ne.mpr e).symm
theorem klq(a b:Str):decide ((Sum.inr a:Key)=Sum.inr b)=decide (a=b):=by
 by_cases e:a=b
 ·subst e;simp
 ·have h:¬(Sum.inr a:Key)=Sum.inr b:=fun q=>e (Sum.inr.inj q)
  rw[decide_eq_false h,decide_eq_false e]
theorem kls(a:Int)(b:Str):decide ((Sum.inl a:Key)=Sum.inr b)=false:=decide_eq_false (fun q=>nomatch q)
theorem klr(a:Str)(b:Int):decide ((Sum.inr a:Key)=Sum.inl b)=false:=decide_eq_false (fun q=>nomatch q)
noncomputable def kcL(prog:Program)(w:World):PySem.KeyKind prog w Key where
 is:=keyIs
 hash:=keyH w
 inj:=fun v a b ha hb=>by
  rcases ka2 ha with⟨i,t,rfl,rfl⟩|⟨x,t,rfl,rfl⟩
  ·rcases ka2 hb with⟨j,u,rfl,e⟩|⟨y,u,rfl,e⟩
   ·injection e with e1 _;rw[e1]
   ·exact nomatch e
  ·rcases ka2 hb with⟨j,u,rfl,e⟩|⟨y,u,rfl,e⟩
   ·exact nomatch e
   ·injection e with e1 _;rw[e1]
 byValue:=fun k v h=>by
  rcases ka2 h with⟨i,t,rfl,rfl⟩|⟨x,t,rfl,rfl⟩ <;> rfl
 pyHash:=fun hv h=>by
  rcases ka2 hv with⟨i,t,rfl,rfl⟩|⟨x,t,rfl,rfl⟩
  ·exact wpAny_pyHash_int h
  ·exact wpAny_pyHash_str h
 eqBool:=fun hu hv h=>by
  rcases ka2 hu with⟨i,t,rfl,rfl⟩|⟨x,t,rfl,rfl⟩
  ·rcases ka2 hv with⟨j,u,rfl,rfl⟩|⟨y,u,rfl,rfl⟩
   ·rw[klu] at h;exact wpAny_eqBool_int h
   ·rw[kls] at h;exact SeqAt.EqAt.int_str i t y u _ _ _ _ h
  ·rcases ka2 hv with⟨j,u,rfl,rfl⟩|⟨y,u,rfl,rfl⟩
   ·rw[klr] at h;exact SeqAt.EqAt.str_int x t j u _ _ _ _ h
   ·rw[klq] at h;exact wpAny_eqBool_str h
 «strs» :=fun k x t v h=>by
  rcases ka2 h with⟨i,u,rfl,e⟩|⟨y,u,rfl,e⟩
  ·exact nomatch e
  ·injection e with e1 _
   subst e1
   cases v <;> rfl
theorem kgf(prog:Program)(w:World)(i:Int)(t:Tok):(kcL prog w).is (.inl i) (.int i t)=true:=kiv i t
end L2
namespace L2
open PySem PySem.Spec PyProof.Rows
inductive V where
 |non|bl (b:Bool)|int (i:Int)|str (x:Str)|byt (b:Array UInt8)|flt (b:UInt64)|ref (a:Addr)|ty (n:String)
 deriving DecidableEq
noncomputable def RelV:V→Value→Prop
 | .non,u=>u=Value.none
 | .bl b,u=>u=Value.bool b
 | .int i,u=>∃t,u=Value.int i t
 | .str x,u=>∃t,u=Value.str x t
 | .byt b,u=>∃t,u=Value.bytes b t
 | .flt b,u=>∃t,u=Value.float b t
 | .ref a,u=>u=Value.ref a
 | .ty n,u=>u=Value.type n
noncomputable abbrev Vals:List V→List Value→Prop:=Paired RelV
theorem Vals.length{xs:List V}{us:List Value}(r:Vals xs us):xs.length=us.length:=Paired.length r
theorem Vals.get:∀{xs:List V} {us:List Value} {i:Nat} {x:V},Vals xs us→xs[i]?=some x→∃u,us[i]?=some u∧RelV x u
 |_,_,_,_, .nil,e=>by simp at e
 |_,_,0,_, .cons r _,e=>by simp at e;subst e;exact⟨_,rfl,r⟩
 |_,_,i+1,x, .cons _ t,e=>by
  obtain⟨u,h1,h2⟩:=Vals.get (i:=i) (x:=x) t (by simpa using e)
  exact⟨u,by simpa using h1,h2⟩
theorem Vals.set{x:V}{u:Value}(r:RelV x u):∀{xs:List V} {us:List Value} (i:Nat),Vals xs us→Vals (xs.set i x) (us.set i u)
 |_,_,_, .nil=>.nil
 |_,_,0, .cons _ t=>.cons r t
 |_,_,i+1, .cons q t=>.cons q (Vals.set r i t)
theorem Vals.append:∀{xs ys:List V} {us ws:List Value},Vals xs us→Vals ys ws→Vals (xs++ys) (us++ws)
 |_,_,_,_, .nil,s=>s
 |_,_,_,_, .cons r t,s=>.cons r (Vals.append t s)
theorem Vals.take:∀{xs:List V} {us:List Value} (n:Nat),Vals xs us→Vals (xs.take n) (us.take n)
 |_,_,0,_=>.nil
 |_,_,_+1, .nil=>.nil
 |_,_,n+1, .cons r t=>.cons r (Vals.take n t)
theorem Vals.drop:∀{xs:List V} {us:List Value} (n:Nat),Vals xs us→Vals (xs.drop n) (us.drop n)
 |_,_,0,r=>r
 |_,_,_+1, .nil=>.nil
 |_,_,n+1, .cons _ t=>Vals.drop n t
theorem Vals.none_of:∀{xs:List V} {us:List Value} {i:Nat},Vals xs us→xs[i]?=none→us[i]?=none:=fun {xs us i} r e=>by
 have h1:=r.length
 have h2:xs.length≤i:=NJ.mp e
 exact NJ.mpr (by omega)
noncomputable def RelO:Option V→Option Value→Prop
 |some v,some u=>RelV v u
 |none,none=>True
 |_,_=>False
noncomputable def KV{κ:Type}:List (κ×V)→List (κ×Value)→Prop:=Paired fun(p: κ×V) (q: κ×Value)=>p.1=q.1∧RelV p.2 q.2
noncomputable def kV:Key→V
 | .inl i=>.int i
 | .inr x=>.str x
inductive HO where
 |lst (xs:List V)
 |tup (xs:List V)
 |dK (kvs:List (Key×V))|dT (kvs:List (List Key×V))
 |set (S:Int→Bool) (n:Nat)
 |ins (C dx:Addr) (fs:List (Str×V))
 |own (x:Addr)
 |xd (fs:List (Str×V))
 |met (f x:Addr)
 |rng (lo hi:Int)
 |frz (o:Obj) (u:HO)
 |tbl (ps:Array Value)
 |ext (φ:Heap→Prop)
noncomputable abbrev Hp:=Addr→Option HO
noncomputable def upd(H:Hp)(a:Addr)(o:HO):Hp:=fun b=>if b=a then some o else H b
theorem kac{H:Hp}{a:Addr}{o:HO}:upd H a o a=some o:=by unfold upd;rw[if_pos rfl]
theorem kak{H:Hp}{a b:Addr}{o:HO}(h:b≠a):upd H a o b=H b:=by unfold upd;rw[if_neg h]
theorem kkx{H:Hp}{a:Addr}{o u:HO}:upd (upd H a o) a u=upd H a u:=by
 funext b;unfold upd;split <;> rfl
theorem ne_of{H:Hp}{a b:Addr}{o u:HO}(h:H a=some o)(h':H b=some u)(d:o≠u):a≠b:=by
 intro e;subst e;rw[h] at h';exact d (Option.some.inj h')
theorem kaj{H:Hp}{a b:Addr}{o:HO}(h:H a=some o)(h':H b=none):a≠b:=by
 intro e;subst e;rw[h] at h';cases h'
section
variable (P:Program) (w:World)
noncomputable def ObjOk(H:Hp)(h:Heap)(a:Addr):HO→Prop
 | .lst xs=>xs.length≤sizeLine∧∃(its:List Value) (n:Nat),Vals xs its∧h.get? a=some {cls:=.type "list",data:=.seq its.toArray n}
 | .tup xs=>xs.length≤sizeLine∧∃its:List Value,Vals xs its∧IsTup h a its.toArray
 | .dK kvs=>kvs.length≤sizeLine∧(a==sysModules)=false∧∃vs,KV kvs vs∧h.DictOf (kcL P w) a vs
 | .dT kvs=>kvs.length≤sizeLine∧(a==sysModules)=false∧∃xs:List (List Key×Addr×Value),
   Paired (fun(p:List Key×V) (q:List Key×Addr×Value)=>p.1=q.1∧H q.2.1=some (.tup (p.1.map kV))∧RelV p.2 q.2.2) kvs xs∧
   ∃o es ep,h.get? a=some o∧o.ExactDict∧o.data=.dict es ep∧es.toList=xs.map (entryOfKey (tupleKind (kcL P w)))∧(xs.map (·.1)).Nodup
 | .set S n=>h.SetOf (intKind P w) a S n
 | .ins C dx fs=>H dx=some (.own a)∧fs.length≤1000∧dx≠a∧h.get? a=some (JB C dx)∧
   ∃mA,h.Ns1 dx mA∧(∀f,RelO (fs.lookup f) (mA f))∧PySem.Within mA (fs.map (·.1))
 | .own _=>∃o,h.get? a=some o
 | .xd fs=>∃mA,h.Ns1 a mA∧∀f,RelO (fs.lookup f) (mA f)
 | .rng lo hi=>∃t u v,h.get? a=some {cls:=.type "range",data:=.fields #[.int lo t, .int hi u, .int 1 v]}
 | .frz o u=>h.get? a=some o∧ObjOk H h a u
 | .tbl ps=>h.get? a=some {cls:=.none,data:=.fields ps}
 | .met f x=>h.get? a=some (NK (.ref f) (.ref x))
 | .ext φ=>φ h∧(∃o,h.get? a=some o)∧∀h1 h2:Heap,φ h1→(∀o,h1.get? a=some o→h2.get? a=some o)→φ h2
noncomputable def HOk(H:Hp)(h:Heap):Prop:=∀a o,H a=some o→ObjOk P w H h a o
end
section
variable {P:Program} {w:World} {H H':Hp} {h h':Heap} {a:Addr} {o:HO}
theorem ObjOk.lt(x:ObjOk P w H h a o):a<h.objs.size:=by
 cases o with
 |lst xs=>obtain⟨_,_,_,_,e⟩:=x;exact Heap.lt_size e
 |tup xs=>obtain⟨_,_,_,p⟩:=x;exact p.lt
 |dK kvs=>obtain⟨_,_,_,_,o,_,_,e,_⟩:=x;exact Heap.lt_size e
 |dT kvs=>obtain⟨_,_,_,_,o,_,_,e,_⟩:=x;exact Heap.lt_size e
 |set S n=>obtain⟨o,_,_,_,e,_⟩:=x;exact Heap.lt_size e
 |ins C dx fs=>obtain⟨_,_,_,e,_⟩:=x;exact Heap.lt_size e
 |own y=>obtain⟨_,e⟩:=x;exact Heap.lt_size e
 |xd fs=>obtain⟨_,⟨_,_,_,e,_⟩,_⟩:=x;exact Heap.lt_size e
 |rng lo hi=>obtain⟨_,_,_,e⟩:=x;exact Heap.lt_size e
 |frz ob u=>obtain⟨e,_⟩:=x;exact Heap.lt_size e
 |tbl ps=>exact Heap.lt_size (show h.get? a=some _ from x)
 |met f y=>exact Heap.lt_size (show h.get? a=some _ from x)
 |ext φ=>obtain⟨_,⟨_,e⟩,_⟩:=x;exact Heap.lt_size e
theorem Paired.mapP{α β:Type}{F G: α→β→Prop}:∀{l₁:List α} {l₂:List β},Paired F l₁ l₂→(∀a b,F a b→G a b)→Paired G l₁ l₂
 |_,_, .nil,_=>.nil
 |_,_, .cons r t,f=>.cons (f _ _ r) (Paired.mapP t f)
theorem ObjOk.stay(x:ObjOk P w H h a o)(k:∀b u,(b=a∨H b=some (.own a))→h.get? b=some u→h'.get? b=some u)
  (ho:∀b,H b=some (.own a)→H' b=some (.own a)) (ht:∀b xs,H b=some (.tup xs)→H' b=some (.tup xs)):ObjOk P w H' h' a o:=by
 induction o with
 |lst xs=>obtain⟨z,its,n,r,e⟩:=x;exact⟨z,its,n,r,k _ _ (.inl rfl) e⟩
 |tup xs=>obtain⟨z,its,r,ob,e,c⟩:=x;exact⟨z,its,r,ob,k _ _ (.inl rfl) e,c⟩
 |dK kvs=>obtain⟨z,y,vs,r,ob,es,ep,e,c⟩:=x;exact⟨z,y,vs,r,ob,es,ep,k _ _ (.inl rfl) e,c⟩
 |dT kvs=>
  obtain⟨z,y,xs,r,ob,es,ep,e,c⟩:=x
  exact⟨z,y,xs,Paired.mapP r fun p q z=>⟨z.1,ht _ _ z.2.1,z.2.2⟩,ob,es,ep,k _ _ (.inl rfl) e,c⟩
 |set S n=>obtain⟨ob,es,ep,t,e,c⟩:=x;exact⟨ob,es,ep,t,k _ _ (.inl rfl) e,c⟩
 |ins C dx fs=>
  obtain⟨d,z,ne,e,mA,⟨od,es,ep,e2,c⟩,r⟩:=x
  exact⟨ho _ d,z,ne,k _ _ (.inl rfl) e,mA,⟨od,es,ep,k _ _ (.inr d) e2,c⟩,r⟩
 |own y=>obtain⟨ob,e⟩:=x;exact⟨ob,k _ _ (.inl rfl) e⟩
 |xd fs=>obtain⟨mA,⟨od,es,ep,e,c⟩,r⟩:=x;exact⟨mA,⟨od,es,ep,k _ _ (.inl rfl) e,c⟩,r⟩
 |rng lo hi=>obtain⟨t,u,v,e⟩:=x;exact⟨t,u,v,k _ _ (.inl rfl) e⟩
 |frz ob u ih=>obtain⟨e,q⟩:=x;exact⟨k _ _ (.inl rfl) e,ih q⟩
 |tbl ps=>
  have e:h.get? a=some {cls:=.none,data:=.fields ps}:=x
  show h'.get? a=some {cls:=.none,data:=.fields ps}
  exact k a _ (.inl rfl) e
 |met f y=>
  have e:h.get? a=some (NK (.ref f) (.ref y)):=x
  show h'.get? a=some (NK (.ref f) (.ref y))
  exact k a _ (.inl rfl) e
 |ext φ=>obtain⟨p,⟨o,e⟩,st⟩:=x;exact⟨st _ _ p fun o q=>k _ _ (.inl rfl) q,⟨o,k _ _ (.inl rfl) e⟩,st⟩
theorem HOk.lt(x:HOk P w H h)(e:H a=some o):a<h.objs.size:=(x a o e).lt
theorem HOk.fresh(x:HOk P w H h)(e:h.objs.size≤a):H a=none:=by
 cases q:H a with
 |none=>rfl
 |some u=>exact absurd (UT (x.lt q) e) (Jp _)
theorem HOk.kept(x:HOk P w H h)(k:∀b u,h.get? b=some u→h'.get? b=some u):HOk P w H h':=fun a o e=>
 (x a o e).stay (fun b u _ q=>k b u q) (fun _ q=>q) fun _ _ q=>q
theorem HOk.laid(x:HOk P w H h)(k:∀b u,h.get? b=some u→h'.get? b=some u)(hp:h.objs.size≤a)(new:ObjOk P w (upd H a o) h' a o):HOk P w (upd H a o) h':=fun b u e=>by
 have hn:=x.fresh hp
 by_cases hb:b=a
 ·subst hb;rw[kac] at e;cases e;exact new
 ·rw[kak hb] at e
  exact(x b u e).stay (fun c v _ q=>k c v q) (fun c q=>by rw[kak (kaj q hn)];exact q) fun c xs q=>by rw[kak (kaj q hn)];exact q
end
noncomputable def Rd(H:Hp)(a:Addr)(u:HO):Prop:=H a=some u∨∃o,H a=some (.frz o u)
theorem Rd.of{H:Hp}{a:Addr}{u:HO}(h:H a=some u):Rd H a u:=.inl h
theorem Rd.ok{P:Program}{w:World}{H:Hp}{h:Heap}{a:Addr}{u:HO}(r:Rd H a u)(x:HOk P w H h):ObjOk P w H h a u:=by
 rcases r with r|⟨o,r⟩
 ·exact x a u r
 ·obtain⟨_,q⟩:=x a _ r
  exact q
noncomputable def Mut:Option HO→Prop
 |some (.lst _)=>True
 |some (.dK _)=>True
 |some (.dT _)=>True
 |some (.set _ _)=>True
 |some (.ins _ _ _)=>True
 |some (.ext _)=>True
 |_=>False
section
variable {P:Program} {w:World} {H:Hp} {h h':Heap} {x e:Addr} {o':HO}
theorem HOk.write(ok:HOk P w H h)(mu:Mut (H x))(he:e=x∨H e=some (.own x))(k:∀b u,b≠e→h.get? b=some u→h'.get? b=some u)(heo:∃u,h'.get? e=some u)
  (new:ObjOk P w (upd H x o') h' x o'):HOk P w (upd H x o') h':=fun b u q=>by
 have nown:∀c y,H c=some (.own y)→c≠x:=fun c y r z=>by subst z;rw[r] at mu;exact mu
 have ntup:∀c xs,H c=some (.tup xs)→c≠x:=fun c xs r z=>by subst z;rw[r] at mu;exact mu
 by_cases hb:b=x
 ·subst hb;rw[kac] at q;cases q;exact new
 ·rw[kak hb] at q
  by_cases hbe:b=e
  ·have q':H b=some (.own x):=by
    rcases he with z|z
    ·exact absurd (hbe.trans z) hb
    ·rw[hbe];exact z
   rw[q] at q';cases q'
   obtain⟨v,hv⟩:=heo
   exact⟨v,by rw[hbe];exact hv⟩
  ·refine(ok b u q).stay (fun c v hc r=>k c v ?_ r) (fun c r=>by rw[kak (nown c b r)];exact r) fun c xs r=>by rw[kak (ntup c xs r)];exact r
   rcases hc with rfl|hc
   ·exact hbe
   ·rintro rfl
    rcases he with z|z
    ·exact nown c b hc z
    ·rw[hc] at z;cases z;exact hb rfl
end
structure Un (fs ex:List Addr) (H H':Hp) (h h':Heap):Prop where
 keep:∀b o,h.get? b=some o→H b=none→b∉fs→b∉ex→h'.get? b=some o
 slot:∀b o,h.get? b=some o→H b=none→b∈fs→b∉ex→∃sl,h'.get? b=some {o with slots:=sl}
 free:∀b o,h.get? b=some o→H b=none→b∉ex→H' b=none
 there:∀b o,h.get? b=some o→b∉ex→∃o',h'.get? b=some o'
 tups:∀b xs,H b=some (.tup xs)→H' b=some (.tup xs)
 frzs:∀b o u,H b=some (.frz o u)→H' b=some (.frz o u)
 tbls:∀b ps,H b=some (.tbl ps)→∃more,H' b=some (.tbl (ps++more))
section
variable {fs fs' ex ex':List Addr} {H H1 H2:Hp} {h h1 h2 h':Heap} {a x e:Addr} {o:HO}
theorem Un.any(u:Un fs ex H H1 h h1){b:Addr}{ob:Obj}(q:h.get? b=some ob)(n:H b=none)(hx:b∉ex):∃sl,h1.get? b=some {ob with slots:=sl}:=by
 by_cases hb:b∈fs
 ·exact u.slot b ob q n hb hx
 ·exact⟨ob.slots,u.keep b ob q n hb hx⟩
theorem Un.trans(a:Un fs ex H H1 h h1)(b:Un fs ex H1 H2 h1 h2):Un fs ex H H2 h h2 where
 keep:=fun c ob q n hc hx=>b.keep c ob (a.keep c ob q n hc hx) (a.free c ob q n hx) hc hx
 slot:=fun c ob q n hc hx=>by
  obtain⟨sl,e1⟩:=a.slot c ob q n hc hx
  obtain⟨sl',e2⟩:=b.slot c _ e1 (a.free c ob q n hx) hc hx
  exact⟨sl',e2⟩
 free:=fun c ob q n hx=>by
  obtain⟨o',e1⟩:=a.there c ob q hx
  exact b.free c o' e1 (a.free c ob q n hx) hx
 there:=fun c ob q hx=>by
  obtain⟨o',e1⟩:=a.there c ob q hx
  exact b.there c o' e1 hx
 tups:=fun c xs q=>b.tups c xs (a.tups c xs q)
 frzs:=fun c ob xs q=>b.frzs c ob xs (a.frzs c ob xs q)
 tbls:=fun c ps q=>by
  obtain⟨m1,e1⟩:=a.tbls c ps q
  obtain⟨m2,e2⟩:=b.tbls c _ e1
  exact⟨m1++m2,by rw[e2,Array.append_assoc]⟩
theorem Un.kept(k:∀b u,h.get? b=some u→h'.get? b=some u):Un fs ex H H h h':=
 ⟨fun b ob q _ _ _=>k b ob q,fun b ob q _ _ _=>⟨ob.slots,k b ob q⟩,fun _ _ _ n _=>n,fun b ob q _=>⟨ob,k b ob q⟩,fun _ _ q=>q,fun _ _ _ q=>q,fun _ ps q=>⟨#[],by rw[q];simp⟩⟩
theorem Un.refl:Un fs ex H H h h:=Un.kept fun _ _ q=>q
theorem Un.laid(k:∀b u,h.get? b=some u→h'.get? b=some u)(hp:h.objs.size≤a)(hn:H a=none):Un fs ex H (upd H a o) h h' where
 keep:=fun b u q _ _ _=>k b u q
 slot:=fun b u q _ _ _=>⟨u.slots,k b u q⟩
 free:=fun b u q n _=>by rw[kak (UV (UT (Heap.lt_size q) hp))];exact n
 there:=fun b u q _=>⟨u,k b u q⟩
 tups:=fun b xs q=>by rw[kak (kaj q hn)];exact q
 frzs:=fun b u xs q=>by rw[kak (kaj q hn)];exact q
 tbls:=fun b ps q=>⟨#[],by rw[kak (kaj q hn),q];simp⟩
theorem Un.write(mu:Mut (H x))(he:e=x∨H e=some (.own x))(k:∀b u,b≠e→h.get? b=some u→h'.get? b=some u)(heo:∃u,h'.get? e=some u):Un fs ex H (upd H x o) h h':=by
 have hx:∀b,H b=none→b≠x:=fun b n z=>by subst z;rw[n] at mu;exact mu
 have hb:∀b,H b=none→b≠e:=fun b n z=>by
  subst z
  rcases he with r|r
  ·exact hx b n r
  ·rw[n] at r;cases r
 have hm:∀b u,H b=some u→¬Mut (some u)→b≠x:=fun b u q nm z=>by subst z;rw[q] at mu;exact nm mu
 refine⟨fun b u q n _ _=>k b u (hb b n) q,fun b u q n _ _=>⟨u.slots,k b u (hb b n) q⟩,fun b u q n _=>by rw[kak (hx b n)];exact n,fun b u q _=>?_,
  fun b xs q=>by rw[kak (hm b _ q fun z=>z)];exact q,fun b u xs q=>by rw[kak (hm b _ q fun z=>z)];exact q,fun b ps q=>⟨#[],by rw[kak (hm b _ q fun z=>z),q];simp⟩⟩
 by_cases hbe:b=e
 ·subst hbe;exact heo
 ·exact⟨u,k b u hbe q⟩
theorem Un.mono(u:Un fs ex H H1 h h1)(hs:∀b∈fs,b∈fs')(hx:∀b∈ex,b∈ex'):Un fs' ex' H H1 h h1:=
 ⟨fun b ob q n hb he=>u.keep b ob q n (fun z=>hb (hs b z)) fun z=>he (hx b z),fun _ _ q n _ he=>u.any q n fun z=>he (hx _ z),fun b ob q n he=>u.free b ob q n fun z=>he (hx b z),fun b ob q he=>u.there b ob q fun z=>he (hx b z),u.tups,u.frzs,u.tbls⟩
end
noncomputable def trk(h:Heap)(H:Hp):List Addr:=(UB h.objs.size).filter fun a=>(H a).isSome
noncomputable def hidT(h:Heap)(H:Hp):Heap:=PySem.W.hideAll h (trk h H)
theorem kiB(h:Heap)(H:Hp):(hidT h H).objs.size=h.objs.size:=PySem.W.hideAll_size _ _
theorem kjD{h:Heap}{H:Hp}{b:Addr}{o:Obj}(e:h.get? b=some o)(n:H b=none):(hidT h H).get? b=some o:=
 PySem.W.hideAll_get _ e fun hm=>by
  have q:(H b).isSome=true:=(Jm.mp hm).2
  rw[n] at q;simp at q
theorem kkQ{h:Heap}{H:Hp}{b:Addr}{o:Obj}(e:(hidT h H).get? b=some o):h.get? b=some o∧H b=none:=by
 have e':h.get? b=some o:=PySem.W.of_hideAll (trk h H) e
 refine⟨e',?_⟩
 cases q:H b with
 |none=>rfl
 |some x=>
  have hm:b∈trk h H:=Jm.mpr ⟨List.mem_range.mpr (Heap.lt_size e'),by simp[q]⟩
  have z:(hidT h H).get? b=none:=PySem.W.hideAll_none (trk h H) hm
  rw[z] at e;cases e
noncomputable def kk9(g h:Heap)(L:Addr):List (Addr×Obj):=(UB h.objs.size).filterMap fun a=>if a=L∨(g.get? a).isSome=true then none else(h.get? a).map fun o=>(a,o)
noncomputable def rest(g h:Heap)(L d:Addr):List (Addr×Obj):=(kk9 g h L).filter fun p=>decide (p.1≠d)
end L2
namespace L2
open PySem PySem.Spec PyProof.Rows
structure Mod (K:Uv) (mg:Str→Option Value) (base:Heap):Prop where
 kin:K.In base
 glob:base.Ns mainGlobals mg
 blt:∃mb,base.Ns builtinsNs mb∧∀x:Str,x≠"__name__"→mb x=bootBuiltins x
 nolimit:base.NoLimit
structure Cx where
 prog:Program
 w:World
 K:Uv
 mg:Str→Option Value
 base:Heap
 A:Around
 N:List Str
 s₀:Shared
 H₀:Hp
 env:Env
 outer:List Env
 stack:List Env
 ex:List Addr
 fn:Str→Bool
 calm:Bool
 pn:List (Addr×Obj)
 xe:Value→Shared→Prop
noncomputable def frs(l:List Env):List Addr:=l.filterMap (·.frame)
noncomputable abbrev Cx.fs(X:Cx):List Addr:=frs X.outer
noncomputable def Vis(sc:Scope)(x:Str):Prop:=sc.names.lookup x=some .local∨sc.names.lookup x=some .cell∨sc.names.lookup x=some .free
noncomputable def Loc(sc:Scope)(x:Str):Prop:=sc.names.lookup x=some .local∨sc.names.lookup x=some .cell
noncomputable def Look(env:Env)(h:Heap)(m:Str→Option Value)(x:Str)(u:Value):Prop:=
 (env.kindOf x=some .local∧m x=some u)∨((env.kindOf x=some .cell∨env.kindOf x=some .free)∧∃c,env.cells.lookup x=some c∧h.IsCell c (some u))
structure Cx.Ok (X:Cx):Prop where
 mod:Mod X.K X.mg X.base
 kind:X.env.scope.kind=.function
 glob:X.env.globals=mainGlobals
 blt:X.env.builtins=builtinsNs
 above:X.s₀.heap.objs.size≤X.env.locals
 inj:∀x y c,X.env.cells.lookup x=some c→X.env.cells.lookup y=some c→x=y
 has:∀x,(X.env.kindOf x=some .cell∨X.env.kindOf x=some .free)→∃c,X.env.cells.lookup x=some c
 cab:∀x c,X.fn x=true→X.env.cells.lookup x=some c→X.s₀.heap.objs.size≤c
 hd:X.calm=true→X.A.handled=none
 frames:X.A.frames=some X.stack
 stk:X.stack=X.outer∨(X.stack=X.env::X.outer∧X.env.frame=some X.env.locals)
 exf:∀b∈X.ex,b≠X.env.locals∧∀x c,X.env.cells.lookup x=some c→c≠b
 bs:∀b o,X.base.get? b=some o→X.s₀.heap.get? b=some o∧X.H₀ b=none
 bsz:X.base.objs.size≤X.s₀.heap.objs.size
 noex:∀b o,X.base.get? b=some o→b∉X.ex
 exfs:∀b∈X.ex,b∉X.fs
 funs:X.s₀.heap.FunFrames X.base X.outer
 frf:∀b∈X.fs,X.H₀ b=none
structure Inv (X:Cx) (pins:List (Addr×Obj)) (σ:List (Option V)) (H:Hp) (s:Shared):Prop where
 ok:X.Ok
 os:s.os=X.s₀.os
 bare:AllBare s.gens
 base:Un X.fs X.ex X.H₀ H X.s₀.heap s.heap
 loc:∃m,s.heap.Ns X.env.locals m∧∀(i:Nat) (x:Str) (v:V),X.N[i]?=some x→σ[i]?=some (some v)→Vis X.env.scope x→∃u,RelV v u∧Look X.env s.heap m x u
 cell:∀x c,X.env.cells.lookup x=some c→∃v,s.heap.IsCell c v
 free:H X.env.locals=none
 freeC:∀x c,X.env.cells.lookup x=some c→H c=none
 pin:∀p∈X.pn++pins,s.heap.get? p.1=some p.2∧H p.1=none∧p.1≠X.env.locals∧p.1∉X.fs∧∀v,p.2.data≠.cell v
 hok:HOk X.prog X.w H s.heap
 len: σ.length=X.N.length
section
variable {X:Cx} {pins:List (Addr×Obj)} {σ:List (Option V)} {H H':Hp} {s:Shared} {h':Heap}
theorem Cx.Ok.nofr(ok:X.Ok){b:Addr}{o:Obj}(e:X.base.get? b=some o):b∉X.fs:=fun hb=>by
 have:=(ok.funs.mem hb).1
 rw[e] at this;cases this
theorem Inv.bs(I:Inv X pins σ H s):∀b o,X.base.get? b=some o→s.heap.get? b=some o∧H b=none:=fun b o e=>
 ⟨I.base.keep b o (I.ok.bs b o e).1 (I.ok.bs b o e).2 (I.ok.nofr e) (I.ok.noex b o e),I.base.free b o (I.ok.bs b o e).1 (I.ok.bs b o e).2 (I.ok.noex b o e)⟩
theorem Inv.bk(I:Inv X pins σ H s):∀b o,X.base.get? b=some o→s.heap.get? b=some o:=fun b o e=>(I.bs b o e).1
theorem Inv.mod(I:Inv X pins σ H s):Mod X.K X.mg X.base:=I.ok.mod
theorem Inv.kIn(I:Inv X pins σ H s):X.K.In s.heap:=I.ok.mod.kin.keeps I.bk
theorem Inv.nolimit(I:Inv X pins σ H s):s.heap.NoLimit:=I.ok.mod.nolimit.keeps I.bk
theorem Inv.fr(I:Inv X pins σ H s):∃m,Fr X.base X.env.locals s.heap m:=
 let⟨m,hn,_⟩:=I.loc
 ⟨m,hn,I.bk,Uy I.ok.bsz I.ok.above⟩
theorem Inv.lt(I:Inv X pins σ H s):X.env.locals<s.heap.objs.size:=let⟨_,hn,_⟩:=I.loc;hn.lt
theorem Inv.sz(I:Inv X pins σ H s):X.s₀.heap.objs.size≤s.heap.objs.size:=Uy I.ok.above (UH I.lt)
theorem Inv.nofs(I:Inv X pins σ H s){a:Addr}(h:s.heap.objs.size≤a):a∉X.fs:=fun hb=>by
 obtain⟨_,o,ho,_⟩:=I.ok.funs.mem hb
 exact absurd (UT (Heap.lt_size ho) (Uy I.sz h)) (Jp _)
theorem Inv.cne(I:Inv X pins σ H s):∀x c,X.env.cells.lookup x=some c→c≠X.env.locals:=fun x c e z=>by
 obtain⟨v,o,ho,hd⟩:=I.cell x c e
 obtain⟨m,⟨o',es,ep,ho',hd',_⟩,_⟩:=I.loc
 rw[z,ho'] at ho;cases ho;rw[hd'] at hd;cases hd
theorem Inv.funs(I:Inv X pins σ H s):s.heap.FunFrames X.base X.outer:=by
 have all:∀(l:List Env),(∀b∈frs l,b∈X.fs)→X.s₀.heap.FunFrames X.base l→s.heap.FunFrames X.base l:=by
  intro l
  induction l with
  |nil=>intro _ _;trivial
  |cons env r ih=>
   intro hs hl
   obtain⟨hk,⟨L,o,hf,hn,ho,hd⟩,hr⟩:=hl
   have hL:L∈X.fs:=hs L (by unfold frs;rw[NL,hf];exact UX)
   obtain⟨sl,e⟩:=I.base.slot L o ho (I.ok.frf L hL) hL fun z=>I.ok.exfs L z hL
   exact⟨hk,⟨L,_,hf,hn,e,hd⟩,ih (fun b hb=>hs b (by unfold frs;rw[NL,hf];exact US _ hb)) hr⟩
 exact all X.outer (fun _ hb=>hb) I.ok.funs
theorem Inv.stack(I:Inv X pins σ H s):s.heap.FunFrames X.base X.stack:=by
 rcases I.ok.stk with e|⟨e,hf⟩
 ·rw[e];exact I.funs
 ·rw[e]
  obtain⟨m,hn,_⟩:=I.loc
  refine .cons (by rw[I.ok.kind];decide) hf hn ?_ I.funs
  exact Heap.get?_none_of_le (Uy I.ok.bsz I.ok.above)
theorem Inv.stkSub(I:Inv X pins σ H s):∀b∈frs X.stack,b∈X.env.locals::X.fs:=fun b hb=>by
 rcases I.ok.stk with e|⟨e,hf⟩
 ·rw[e] at hb;exact US _ hb
 ·rw[e] at hb
  unfold frs at hb
  rw[NL,hf] at hb
  exact hb
theorem Inv.stkFree(I:Inv X pins σ H s):∀b∈frs X.stack,H b=none:=fun b hb=>by
 rcases UO.mp (I.stkSub b hb) with e|hb
 ·rw[e];exact I.free
 ·obtain⟨_,o,ho,_⟩:=I.ok.funs.mem hb
  exact I.base.free b o ho (I.ok.frf b hb) fun z=>I.ok.exfs b z hb
theorem Inv.step{g':Array GenState}{t':Nat}{d':Drawn}{ch:List Addr}(I:Inv X pins σ H s)
  (hch:∀b∈ch,(b∈X.ex∨X.s₀.heap.objs.size≤b)∧b≠X.env.locals∧(∀x c,X.env.cells.lookup x=some c→c≠b)∧∀p∈X.pn++pins,p.1≠b)
  (keep:∀b o,b≠X.env.locals→b∉X.fs→b∉ch→s.heap.get? b=some o→H b=none→h'.get? b=some o)
  (slot:∀b o,b≠X.env.locals→b∈X.fs→b∉ch→s.heap.get? b=some o→H b=none→∃sl,h'.get? b=some {o with slots:=sl}) (free:∀b o,b∉ch→s.heap.get? b=some o→H b=none→H' b=none)
  (there:∀b o,b∉ch→s.heap.get? b=some o→∃o',h'.get? b=some o')
  (tups:∀b xs,H b=some (.tup xs)→H' b=some (.tup xs)) (frzs:∀b o u,H b=some (.frz o u)→H' b=some (.frz o u)) (tbls:∀b ps,H b=some (.tbl ps)→∃more,H' b=some (.tbl (ps++more)))
  (ns:∀m,s.heap.Ns X.env.locals m→h'.Ns X.env.locals m) (hok:HOk X.prog X.w H' h') (hg:AllBare g'):
  Inv X pins σ H' {s with heap:=h',gens:=g',drawn:=d',toks:=t'}:=by
 have neL:∀b o,X.s₀.heap.get? b=some o→b≠X.env.locals:=fun b o e=>UV (UT (Heap.lt_size e) I.ok.above)
 have neC:∀b o,X.s₀.heap.get? b=some o→b∉X.ex→b∉ch:=fun b o e hx hb=>by
  rcases(hch b hb).1 with z|z
  ·exact hx z
  ·exact absurd (UT (Heap.lt_size e) z) (Jp _)
 have cellK:∀x c,X.env.cells.lookup x=some c→∀v,s.heap.IsCell c v→h'.IsCell c v:=fun x c e v ⟨o,ho,hd⟩=>by
  have nch:c∉ch:=fun z=>(hch c z).2.2.1 x c e rfl
  by_cases hc:c∈X.fs
  ·obtain⟨sl,q⟩:=slot c o (I.cne x c e) hc nch ho (I.freeC x c e)
   exact⟨_,q,hd⟩
  ·exact⟨o,keep c o (I.cne x c e) hc nch ho (I.freeC x c e),hd⟩
 refine⟨I.ok,I.os,hg,⟨fun b o e n hb hx=>?_,fun b o e n hb hx=>?_,fun b o e n hx=>?_,fun b o e hx=>?_,fun b xs e=>tups b xs (I.base.tups b xs e),fun b o xs e=>frzs b o xs (I.base.frzs b o xs e),fun b ps e=>?_⟩,?_,fun x c e=>?_,?_,fun x c e=>?_,fun p hp=>?_,hok,I.len⟩
 ·exact keep b o (neL b o e) hb (neC b o e hx) (I.base.keep b o e n hb hx) (I.base.free b o e n hx)
 ·obtain⟨sl,e1⟩:=I.base.slot b o e n hb hx
  obtain⟨sl',e2⟩:=slot b _ (neL b o e) hb (neC b o e hx) e1 (I.base.free b o e n hx)
  exact⟨sl',e2⟩
 ·obtain⟨o',e1⟩:=I.base.there b o e hx
  exact free b o' (neC b o e hx) e1 (I.base.free b o e n hx)
 ·obtain⟨o',e1⟩:=I.base.there b o e hx
  exact there b o' (neC b o e hx) e1
 ·obtain⟨m1,e1⟩:=I.base.tbls b ps e
  obtain⟨m2,e2⟩:=tbls b _ e1
  exact⟨m1++m2,by rw[e2,Array.append_assoc]⟩
 ·obtain⟨m,hn,hl⟩:=I.loc
  refine⟨m,ns m hn,fun i x v e1 e2 e3=>?_⟩
  obtain⟨u,r,l⟩:=hl i x v e1 e2 e3
  refine⟨u,r,?_⟩
  rcases l with l|⟨k,c,e,z⟩
  ·exact .inl l
  ·exact .inr ⟨k,c,e,cellK x c e _ z⟩
 ·obtain⟨v,z⟩:=I.cell x c e
  exact⟨v,cellK x c e v z⟩
 ·obtain⟨m,⟨o,_,_,ho,_⟩,_⟩:=I.loc
  exact free _ o (fun z=>(hch _ z).2.1 rfl) ho I.free
 ·obtain⟨v,o,ho,hd⟩:=I.cell x c e
  exact free c o (fun z=>(hch c z).2.2.1 x c e rfl) ho (I.freeC x c e)
 ·obtain⟨e,n,ne,nf,d⟩:=I.pin p hp
  have nch:p.1∉ch:=fun z=>(hch p.1 z).2.2.2 p hp rfl
  exact⟨keep p.1 p.2 ne nf nch e n,free p.1 p.2 nch e n,ne,nf,d⟩
theorem Inv.un{t':Nat}(I:Inv X pins σ H s)(u:Un X.fs [] H H' s.heap h')(hok:HOk X.prog X.w H' h'):Inv X pins σ H' {s with heap:=h',toks:=t'}:=by
 obtain⟨m,⟨o,es,ep,ho,r⟩,_⟩:=id I.loc
 obtain⟨sl,hL⟩:=u.any ho I.free (by simp)
 exact I.step (g':=s.gens) (d':=s.drawn) (ch:=[]) (fun _ z=>nomatch z) (fun b o _ hb _ e n=>u.keep b o e n hb (by simp)) (fun b o _ hb _ e n=>u.slot b o e n hb (by simp)) (fun b o _ e n=>u.free b o e n (by simp)) (fun b o _ e=>u.there b o e (by simp)) u.tups u.frzs u.tbls (fun m' hm=>by
  obtain⟨o',es',ep',ho',r'⟩:=hm
  rw[ho] at ho';cases ho'
  exact⟨_,es',ep',hL,r'⟩) hok I.bare
theorem Inv.call{g':Array GenState}{t':Nat}{d':Drawn}{ch:List Addr}(I:Inv X pins σ H s)(u:Un (frs X.stack) ch H H' s.heap h')(hok:HOk X.prog X.w H' h')(hg:AllBare g')
  (hch:∀b∈ch,(b∈X.ex∨X.s₀.heap.objs.size≤b)∧b≠X.env.locals∧(∀x c,X.env.cells.lookup x=some c→c≠b)∧∀p∈X.pn++pins,p.1≠b):
  Inv X pins σ H' {s with heap:=h',gens:=g',drawn:=d',toks:=t'}:=by
 obtain⟨m,⟨o,es,ep,ho,r⟩,_⟩:=id I.loc
 obtain⟨sl,hL⟩:=u.any ho I.free fun z=>(hch _ z).2.1 rfl
 exact I.step (ch:=ch) hch (fun b o hL hb hc e n=>u.keep b o e n (fun z=>(UO.mp (I.stkSub b z)).elim hL hb) hc) (fun b o _ _ hc e n=>u.any e n hc) (fun b o hc e n=>u.free b o e n hc) (fun b o hc e=>u.there b o e hc) u.tups u.frzs u.tbls (fun m' hm=>by
  obtain⟨o',es',ep',ho',r'⟩:=hm
  rw[ho] at ho';cases ho'
  exact⟨_,es',ep',hL,r'⟩) hok hg
theorem Inv.turned{t':Nat}{it:Addr}(I:Inv X pins σ H s)(k:∀b o,b≠it→s.heap.get? b=some o→h'.get? b=some o)(hn:H it=none)(hL:it≠X.env.locals)
  (h1:it∈X.ex∨X.s₀.heap.objs.size≤it) (h2:∀x c,X.env.cells.lookup x=some c→c≠it) (h3:∀p∈X.pn++pins,p.1≠it):Inv X pins σ H {s with heap:=h',toks:=t'}:=by
 have nit:∀b u,H b=some u→b≠it:=fun b u e z=>by rw[z,hn] at e;cases e
 refine I.step (g':=s.gens) (d':=s.drawn) (ch:=[it]) (fun b hb=>?_) (fun b o _ _ hc e _=>k b o (fun z=>hc (by simp[z])) e) (fun b o _ _ hc e _=>⟨o.slots,k b o (fun z=>hc (by simp[z])) e⟩) (fun _ _ _ _ n=>n)
  (fun b o hc e=>⟨o,k b o (fun z=>hc (by simp[z])) e⟩) (fun _ _ e=>e) (fun _ _ _ e=>e) (fun b ps e=>⟨#[],by rw[e];simp⟩) (fun m hm=>?_) (fun b u e=>?_) I.bare
 ·have e:b=it:=by simpa using hb
  subst e
  exact⟨h1,hL,h2,h3⟩
 ·obtain⟨o,es,ep,ho,r⟩:=hm
  exact⟨o,es,ep,k _ o (Ne.symm hL) ho,r⟩
 ·refine(I.hok b u e).stay (fun c v hc q=>k c v ?_ q) (fun _ q=>q) fun _ _ q=>q
  rcases hc with z|z
  ·rw[z];exact nit b u e
  ·exact nit c _ z
theorem Inv.tok(I:Inv X pins σ H s)(t:Nat):Inv X pins σ H {s with toks:=t}:=I.un (h':=s.heap) (t':=t) Un.refl I.hok
theorem Inv.kept{t':Nat}(I:Inv X pins σ H s)(k:∀b u,s.heap.get? b=some u→h'.get? b=some u):Inv X pins σ H {s with heap:=h',toks:=t'}:=I.un (Un.kept k) (I.hok.kept k)
theorem Inv.laid{a:Addr}{o:HO}{t':Nat}(I:Inv X pins σ H s)(k:∀b u,s.heap.get? b=some u→h'.get? b=some u)(hp:s.heap.objs.size≤a)(new:ObjOk X.prog X.w (upd H a o) h' a o):
  Inv X pins σ (upd H a o) {s with heap:=h',toks:=t'}:=I.un (Un.laid k hp (I.hok.fresh hp)) (I.hok.laid k hp new)
theorem Inv.write{x e:Addr}{o:HO}{t':Nat}(I:Inv X pins σ H s)(mu:Mut (H x))(he:e=x∨H e=some (.own x))(k:∀b u,b≠e→s.heap.get? b=some u→h'.get? b=some u)(heo:∃u,h'.get? e=some u)
  (new:ObjOk X.prog X.w (upd H x o) h' x o):Inv X pins σ (upd H x o) {s with heap:=h',toks:=t'}:=I.un (Un.write mu he k heo) (I.hok.write mu he k heo new)
theorem Inv.pins_of{pins':List (Addr×Obj)}(I:Inv X pins σ H s)(h:∀p∈pins',s.heap.get? p.1=some p.2∧H p.1=none∧p.1≠X.env.locals∧p.1∉X.fs∧∀v,p.2.data≠.cell v):Inv X pins' σ H s:=
 ⟨I.ok,I.os,I.bare,I.base,I.loc,I.cell,I.free,I.freeC,fun p hp=>(Jd.mp hp).elim (fun z=>I.pin p (NM _ z)) (h p),I.hok,I.len⟩
theorem kgT{N:List Str}(hN:N.Nodup){i j:Nat}{x:Str}(a:N[i]?=some x)(b:N[j]?=some x):i=j:=by
 obtain⟨h1,e1⟩:=UG.mp a
 obtain⟨h2,e2⟩:=UG.mp b
 exact(List.getElem_inj hN).mp (e1.trans e2.symm)
theorem khG{M:Model}{A:Around}{E:Value→Shared→Prop}{i:Nat}{x:Str}{v:V}{u:Value}{Q:Unit→Shared→Prop}(I:Inv X pins σ H s)(hN:X.N.Nodup)(hi:X.N[i]?=some x)(hx:Loc X.env.scope x)(r:RelV v u)
  (h:∀s',Inv X pins (σ.set i (some v)) H s'→(∃a,Heap.SameBut a s.heap s'.heap∧(a=X.env.locals∨X.env.cells.lookup x=some a))→Q () s') (hf:X.fn x=true∨X.env.scope.names.lookup x=some .local:=by first|exact .inl rfl|exact .inr rfl|assumption):wpAny M A (storeName X.env x u) Q E s:=by
 obtain⟨m,hn,hl⟩:=id I.loc
 have hcls:(X.env.scope.kind== .class||(X.env.scope.kind== .module&&X.env.locals !=X.env.globals))=false:=by rw[I.ok.kind];rfl
 have hiσ:i< σ.length:=by rw[I.len];exact(UG.mp hi).1
 have cne:=I.cne
 have tracked:∀{a:Addr} {h':Heap},(∃o,s.heap.get? a=some o∧H a=none)→Heap.SameBut a s.heap h'→HOk X.prog X.w H h':=fun {a h'} ha hs b ob e=>by
  obtain⟨_,_,hfree⟩:=ha
  refine(I.hok b ob e).stay (fun c w' hc q=>(hs.2 c ?_).trans q) (fun _ q=>q) fun _ _ q=>q
  rintro rfl
  rcases hc with rfl|hc
  ·rw[hfree] at e;cases e
  ·rw[hfree] at hc;cases hc
 rcases hx with hk|hk
 ·refine wpAny_storeName_local hk hn (fun h' hn' hs=>?_) hcls
  obtain⟨oL,_,_,hoL,_⟩:=id hn
  refine h _ ⟨I.ok,I.os,I.bare,⟨fun b o e n hb hx=>?_,fun b o e n hb hx=>?_,I.base.free,fun b o e hx=>?_,I.base.tups,I.base.frzs,I.base.tbls⟩,⟨_,hn',fun j y v' e1 e2 e3=>?_⟩,fun y c e=>?_,I.free,I.freeC,fun p hp=>?_,tracked ⟨oL,hoL,I.free⟩ hs,by simpa using I.len⟩ ⟨_,hs, .inl rfl⟩
  ·exact(hs.2 b (UV (UT (Heap.lt_size e) I.ok.above))).trans (I.base.keep b o e n hb hx)
  ·obtain⟨sl,e1⟩:=I.base.slot b o e n hb hx
   exact⟨sl,(hs.2 b (UV (UT (Heap.lt_size e) I.ok.above))).trans e1⟩
  ·obtain⟨o',e1⟩:=I.base.there b o e hx
   exact⟨o',(hs.2 b (UV (UT (Heap.lt_size e) I.ok.above))).trans e1⟩
  ·by_cases hj:j=i
   ·subst hj
    rw[hi] at e1;cases e1
    rw[Na hiσ] at e2
    cases e2
    exact⟨u,r, .inl ⟨hk,by simp⟩⟩
   ·rw[Nb (Ne.symm hj)] at e2
    obtain⟨u',r',q⟩:=hl j y v' e1 e2 e3
    refine⟨u',r',?_⟩
    rcases q with⟨k,e⟩|⟨k,c,e,z⟩
    ·refine .inl ⟨k,?_⟩
     have:y≠x:=fun e=>hj (kgT hN e1 (e▸hi))
     simp[this,e]
    ·exact .inr ⟨k,c,e,z.sameBut hs (cne y c e)⟩
  ·obtain⟨w',z⟩:=I.cell y c e
   exact⟨w',z.sameBut hs (cne y c e)⟩
  ·obtain⟨e,n,ne,nf,d⟩:=I.pin p hp
   exact⟨(hs.2 p.1 ne).trans e,n,ne,nf,d⟩
 ·have hfn:X.fn x=true:=by
   rcases hf with z|z
   ·exact z
   ·rw[z] at hk;cases hk
  obtain⟨c,hc⟩:=I.ok.has x (.inl hk)
  obtain⟨w',z⟩:=I.cell x c hc
  refine wpAny_storeName_cell I.ok.kind hk hc z (fun h' hc' hs=>?_)
  obtain⟨oc,hoc,hocd⟩:=id z
  refine h {s with heap:=h'} ⟨I.ok,I.os,I.bare,⟨fun b o e n hb hx=>?_,fun b o e n hb hx=>?_,I.base.free,fun b o e hx=>?_,I.base.tups,I.base.frzs,I.base.tbls⟩,⟨m,hn.sameBut hs (Ne.symm (cne x c hc)),fun j y v' e1 e2 e3=>?_⟩,fun y c' e=>?_,I.free,I.freeC,fun p hp=>?_,tracked ⟨oc,hoc,I.freeC x c hc⟩ hs,by simpa using I.len⟩ ⟨c,hs, .inr hc⟩
  ·exact(hs.2 b (UV (UT (Heap.lt_size e) (I.ok.cab x c hfn hc)))).trans (I.base.keep b o e n hb hx)
  ·obtain⟨sl,e1⟩:=I.base.slot b o e n hb hx
   exact⟨sl,(hs.2 b (UV (UT (Heap.lt_size e) (I.ok.cab x c hfn hc)))).trans e1⟩
  ·obtain⟨o',e1⟩:=I.base.there b o e hx
   exact⟨o',(hs.2 b (UV (UT (Heap.lt_size e) (I.ok.cab x c hfn hc)))).trans e1⟩
  ·by_cases hj:j=i
   ·subst hj
    rw[hi] at e1;cases e1
    rw[Na hiσ] at e2
    cases e2
    exact⟨u,r, .inr ⟨.inl hk,c,hc,hc'⟩⟩
   ·rw[Nb (Ne.symm hj)] at e2
    obtain⟨u',r',q⟩:=hl j y v' e1 e2 e3
    refine⟨u',r',?_⟩
    rcases q with q|⟨k,c',e,z'⟩
    ·exact .inl q
    ·refine .inr ⟨k,c',e,z'.sameBut hs ?_⟩
     rintro rfl
     exact hj (kgT hN e1 (I.ok.inj _ _ _ e hc▸hi))
  ·by_cases hcc:c'=c
   ·subst hcc;exact⟨_,hc'⟩
   ·obtain⟨w2,z2⟩:=I.cell y c' e
    exact⟨w2,z2.sameBut hs hcc⟩
  ·obtain⟨e,n,ne,nf,d⟩:=I.pin p hp
   refine⟨(hs.2 p.1 ?_).trans e,n,ne,nf,d⟩
   intro q
   rw[q,hoc] at e
   have q':oc=p.2:=Option.some.inj e
   exact d w' (by rw[←q'];exact hocd)
theorem keA{M:Model}{A:Around}{E:Value→Shared→Prop}{i:Nat}{x:Str}{v:V}{u:Value}{Q:Unit→Shared→Prop}(I:Inv X pins σ H s)(hN:X.N.Nodup)(hi:X.N[i]?=some x)(hx:Loc X.env.scope x)(r:RelV v u)
  (h:∀s',Inv X pins (σ.set i (some v)) H s'→Q () s') (hf:X.fn x=true∨X.env.scope.names.lookup x=some .local:=by first|exact .inl rfl|exact .inr rfl|assumption):wpAny M A (storeName X.env x u) Q E s:=
 khG I hN hi hx r (fun s' I' _=>h s' I') hf
theorem Inv.call'{s':Shared}{ch:List Addr}(I:Inv X pins σ H s)(ho:s'.os=s.os)(u:Un (frs X.stack) ch H H' s.heap s'.heap)(hok:HOk X.prog X.w H' s'.heap)(hg:AllBare s'.gens)
  (hch:∀b∈ch,(b∈X.ex∨X.s₀.heap.objs.size≤b)∧b≠X.env.locals∧(∀x c,X.env.cells.lookup x=some c→c≠b)∧∀p∈X.pn++pins,p.1≠b):Inv X pins σ H' s':=by
 obtain⟨h',g',d',t',o'⟩:=s'
 have e:o'=s.os:=ho
 subst e
 exact I.call (g':=g') (t':=t') (d':=d') u hok hg hch
end
noncomputable abbrev XK:=Value→Option Addr→Hp→Prop
noncomputable abbrev St:=List (Option V)
noncomputable abbrev VK:=V→Hp→Prop
noncomputable abbrev TE:=St→Hp→VK→Prop
noncomputable abbrev TT:=St→Hp→(Bool→Hp→Prop)→Prop
noncomputable abbrev TA:=St→Hp→(List V→Hp→Prop)→Prop
structure Ends where
 nx:St→Hp→Prop
 rt:VK
 bk:St→Hp→Prop:=fun _ _=>False
 ct:St→Hp→Prop:=fun _ _=>False
noncomputable abbrev TS:=Ends→St→Hp→Prop
noncomputable def EP(X:Cx)(pins:List (Addr×Obj))(σ:St)(Q:VK)(u:Value)(s':Shared):Prop:=∃v H',Inv X pins σ H' s'∧RelV v u∧Q v H'
noncomputable def TP(X:Cx)(pins:List (Addr×Obj))(σ:St)(Q:Bool→Hp→Prop)(b:Bool)(s':Shared):Prop:=∃H',Inv X pins σ H' s'∧Q b H'
noncomputable def AP(X:Cx)(pins:List (Addr×Obj))(σ:St)(Q:List V→Hp→Prop)(us:List Value)(s':Shared):Prop:=∃vs H',Inv X pins σ H' s'∧Vals vs us∧Q vs H'
noncomputable def SP(X:Cx)(pins:List (Addr×Obj))(D:Ends)(f:Flow)(s':Shared):Prop:=
 match f with
 | .next=>∃σ' H',Inv X pins σ' H' s'∧D.nx σ' H'
 | .brk=>∃σ' H',Inv X pins σ' H' s'∧D.bk σ' H'
 | .cont=>∃σ' H',Inv X pins σ' H' s'∧D.ct σ' H'
 | .ret u=>∃v σ' H',Inv X pins σ' H' s'∧RelV v u∧D.rt v H'
noncomputable def PE(X:Cx)(e:Expr)(t:TE):Prop:=
 ∀(pins:List (Addr×Obj)) (s:Shared) (σ:St) (H:Hp) (Q:VK),Inv X pins σ H s→t σ H Q→wpAny (model X.prog X.w) X.A (eval e X.env) (EP X pins σ Q) X.xe s
noncomputable def PT(X:Cx)(e:Expr)(t:TT):Prop:=
 ∀(pins:List (Addr×Obj)) (s:Shared) (σ:St) (H:Hp) (Q:Bool→Hp→Prop),Inv X pins σ H s→t σ H Q→wpAny (model X.prog X.w) X.A (isTrue e X.env (eval e X.env)) (TP X pins σ Q) X.xe s
noncomputable def PW(X:Cx)(e:Expr)(t:TT):Prop:=
 ∀(whole:Sem Value) (pins:List (Addr×Obj)) (s:Shared) (σ:St) (H:Hp) (Q:Bool→Hp→Prop),Inv X pins σ H s→t σ H Q→wpAny (model X.prog X.w) X.A (isTrue e X.env whole) (TP X pins σ Q) X.xe s
theorem PW.pt{X:Cx}{e:Expr}{t:TT}(h:PW X e t):PT X e t:=h _
noncomputable def PA(X:Cx)(es:List Expr)(t:TA):Prop:=
 ∀(pos:Pos) (pins:List (Addr×Obj)) (s:Shared) (σ:St) (H:Hp) (Q:List V→Hp→Prop),Inv X pins σ H s→t σ H Q→wpAny (model X.prog X.w) X.A (spliced (backTo pos (starEach es X.env))) (AP X pins σ Q) X.xe s
noncomputable def PS(X:Cx)(st:Stmt)(t:TS):Prop:=
 ∀(pins:List (Addr×Obj)) (s:Shared) (σ:St) (H:Hp) (D:Ends),Inv X pins σ H s→t D σ H→wpAny (model X.prog X.w) X.A (exec st X.env) (SP X pins D) X.xe s
noncomputable def PSs(X:Cx)(st:List Stmt)(t:TS):Prop:=
 ∀(pins:List (Addr×Obj)) (s:Shared) (σ:St) (H:Hp) (D:Ends),Inv X pins σ H s→t D σ H→wpAny (model X.prog X.w) X.A (execs st X.env) (SP X pins D) X.xe s
theorem thn{α:Type}{t:Sem α}{Q Q': α→Shared→Prop}{M:Model}{A:Around}{E:Value→Shared→Prop}{s:Shared}(h:wpAny M A t Q E s)(hQ:∀a s,Q a s→Q' a s):wpAny M A t Q' E s:=wpAny_mono h hQ fun _ _ x=>x
end L2
namespace L2
open PySem PySem.Spec PyProof.Rows
section
variable {X:Cx}
noncomputable def tVar(i:Nat):TE:=fun σ H Q=>∃v,σ[i]?=some (some v)∧Q v H
noncomputable def tC(v:V):TE:=fun _ H Q=>Q v H
theorem klk{i:Nat}{x:Str}{pos:Pos}(hN:X.N[i]?=some x)(hv:Vis X.env.scope x)(hd:(x==("__debug__" :Str))=false:=by decide)(hcd:(x==("__classdict__" :Str))=false:=by decide):PE X (.Name x pos) (tVar i):=by
 intro pins s σ H Q I h
 obtain⟨v,e,h⟩:=h
 obtain⟨m,hn,hl⟩:=I.loc
 obtain⟨u,r,l⟩:=hl i x v hN e hv
 have fin:EP X pins σ Q u s:=⟨v,H,I,r,h⟩
 rcases l with⟨hk,hm⟩|⟨hk,c,hc,hcell⟩
 ·exact wpAny_Name (wpAny_loadName_local I.ok.kind hk hn hm fin) hd
 ·rcases hk with hk|hk
  ·exact wpAny_Name (wpAny_loadName_cell I.ok.kind hk hc hcell fin) hd
  ·exact wpAny_Name (wpAny_loadName_free I.ok.kind hk hc hcell fin hcd) hd
theorem kaf{i j pos}:PE X (.Constant (.int i) j pos) (tC (.int i)):=fun _ _ _ H _ I h=>wpAny_Constant_int ⟨.int i,H,I.tok _,⟨_,rfl⟩,h⟩
theorem pe_bl{b j pos}:PE X (.Constant (.bool b) j pos) (tC (.bl b)):=fun _ _ _ H _ I h=>Constant_bool ⟨.bl b,H,I,rfl,h⟩
theorem kaV{j pos}:PE X (.Constant .none j pos) (tC .non):=fun _ _ _ H _ I h=>Constant_none ⟨.non,H,I,rfl,h⟩
theorem kaP{x j pos}:PE X (.Constant (.str x) j pos) (tC (.str x)):=fun _ _ _ H _ I h=>Calls.Constant_str ⟨.str x,H,I.tok _,⟨_,rfl⟩,h⟩
noncomputable def Gl(X:Cx)(x:Str):Prop:=X.env.kindOf x=some .globalImplicit
theorem keY{E:Value→Shared→Prop}{pins:List (Addr×Obj)}{s:Shared}{σ:St}{H:Hp}{x:Str}{u:Value}{pos:Pos}{Q:Value→Shared→Prop}(I:Inv X pins σ H s)(hg:Gl X x)(hm:X.mg x=some u)(h:Q u s)
  (hd:(x==("__debug__" :Str))=false:=by decide):wpAny (model X.prog X.w) X.A (eval (.Name x pos) X.env) Q E s:=
 Calls.Name_function_global I.ok.kind hg (Calls.loadGlobal_global (by rw[I.ok.glob];exact I.mod.glob.keeps I.bk) hm h) hd
theorem kcs{E:Value→Shared→Prop}{pins:List (Addr×Obj)}{s:Shared}{σ:St}{H:Hp}{x:Str}{u:Value}{pos:Pos}{Q:Value→Shared→Prop}(I:Inv X pins σ H s)(hg:Gl X x)(hm:X.mg x=none)(hv:bootBuiltins x=some u)(h:Q u s)
  (hn:x≠"__name__":=by decide) (hd:(x==("__debug__" :Str))=false:=by decide):wpAny (model X.prog X.w) X.A (eval (.Name x pos) X.env) Q E s:=by
 obtain⟨mb,h1,h2⟩:=I.mod.blt
 exact Calls.Name_function_global I.ok.kind hg (Calls.loadGlobal_builtin (by rw[I.ok.glob];exact I.mod.glob.keeps I.bk) hm (by rw[I.ok.blt];exact h1.keeps I.bk) ((h2 x hn).trans hv) h) hd
theorem kc8{x:Str}{v:V}{u:Value}{pos:Pos}(hg:Gl X x)(hm:X.mg x=some u)(r:RelV v u)(hd:(x==("__debug__" :Str))=false:=by decide):PE X (.Name x pos) (tC v):=
 fun _ _ _ H _ I h=>keY I hg hm ⟨v,H,I,r,h⟩ hd
theorem kbE{x:Str}{v:V}{u:Value}{pos:Pos}(hg:Gl X x)(hm:X.mg x=none)(hv:bootBuiltins x=some u)(r:RelV v u)(hn:x≠"__name__":=by decide)(hd:(x==("__debug__" :Str))=false:=by decide):PE X (.Name x pos) (tC v):=
 fun _ _ _ H _ I h=>kcs I hg hm hv ⟨v,H,I,r,h⟩ hn hd
variable {a b:Expr} {ta tb:TE} {pos:Pos}
noncomputable def tB(t:TE):TT:=fun σ H Q=>t σ H fun x H1=>∃c,x=.bl c∧Q c H1
theorem ka5{e:Expr}{t:TE}(h:PE X e t)(he:∀whole,isTrue e X.env whole=(do let v ←whole;standAt e.pos;holding [v] (truthy v)):=by intro _;rfl):PT X e (tB t):=by
 intro pins s σ H Q I hw
 refine isTrue_plain (thn (h pins s σ H _ I hw) fun v s1 ⟨x,H1,I1,r1,q1⟩=>?_) (he _)
 obtain⟨d,rfl,q⟩:=q1
 cases r1
 exact wpAny_truthy_bool ⟨H1,I1,q⟩
variable {tA tB':TT} {rest:List Expr}
noncomputable def tAnd(t u:TT):TT:=fun σ H Q=>t σ H fun c H1=>if c=true then u σ H1 Q else Q false H1
noncomputable def tOr(t u:TT):TT:=fun σ H Q=>t σ H fun c H1=>if c=true then Q true H1 else u σ H1 Q
noncomputable def tNot(t:TT):TT:=fun σ H Q=>t σ H fun c H1=>Q (!c) H1
theorem kbD(ha:PT X a tA):PW X (.BoolOp .And [a] pos) tA:=by
 intro wh pins s σ H Q I h
 refine isTrue_and (thn (ha pins s σ H Q I h) fun c s1 e=>?_)
 cases c with
 |true=>exact isTrue_and_nil e
 |false=>exact e
theorem kh9(ha:PT X a tA):PW X (.BoolOp .Or [a] pos) tA:=by
 intro wh pins s σ H Q I h
 refine isTrue_or (thn (ha pins s σ H Q I h) fun c s1 e=>?_)
 cases c with
 |false=>exact isTrue_or_nil e
 |true=>exact e
theorem kbP(ha:PT X a tA)(hb:PW X (.BoolOp .And (b::rest) pos) tB'):PW X (.BoolOp .And (a::b::rest) pos) (tAnd tA tB'):=by
 intro wh pins s σ H Q I h
 refine isTrue_and (thn (ha pins s σ H _ I h) fun c s1 ⟨H1,I1,q1⟩=>?_)
 cases c with
 |true=>exact hb wh pins s1 σ H1 Q I1 q1
 |false=>exact⟨H1,I1,q1⟩
theorem pw_or(ha:PT X a tA)(hb:PW X (.BoolOp .Or (b::rest) pos) tB'):PW X (.BoolOp .Or (a::b::rest) pos) (tOr tA tB'):=by
 intro wh pins s σ H Q I h
 refine isTrue_or (thn (ha pins s σ H _ I h) fun c s1 ⟨H1,I1,q1⟩=>?_)
 cases c with
 |true=>exact⟨H1,I1,q1⟩
 |false=>exact hb wh pins s1 σ H1 Q I1 q1
theorem kgK(ha:PT X a tA):PT X (.UnaryOp .Not a pos) (tNot tA):=by
 intro pins s σ H Q I h
 exact isTrue_not (ha pins s σ H (fun c H1=>Q (!c) H1) I h)
noncomputable def tAndV(ta tb:TE):TE:=fun σ H Q=>ta σ H fun x H1=>∃c,x=.bl c∧if c=true then tb σ H1 Q else Q (.bl false) H1
noncomputable def tOrV(ta tb:TE):TE:=fun σ H Q=>ta σ H fun x H1=>∃c,x=.bl c∧if c=true then Q (.bl true) H1 else tb σ H1 Q
noncomputable def tNotV(ta:TE):TE:=fun σ H Q=>ta σ H fun x H1=>∃c,x=.bl c∧Q (.bl (!c)) H1
theorem kfo{op}{t:TE}(h:PE X a t):PE X (.BoolOp op [a] pos) t:=fun pins s σ H Q I hw=>BoolOp_one (h pins s σ H Q I hw)
theorem kfp(ha:PE X a ta)(hb:PE X (.BoolOp .And (b::rest) pos) tb):PE X (.BoolOp .And (a::b::rest) pos) (tAndV ta tb):=by
 intro pins s σ H Q I h
 refine BoolOp_and (thn (ha pins s σ H _ I h) fun v s1 ⟨x,H1,I1,r1,q1⟩=>?_)
 obtain⟨c,rfl,q1⟩:=q1
 cases r1
 refine wpAny_truthy_bool ?_
 cases c with
 |true=>exact hb pins s1 σ H1 Q I1 q1
 |false=>exact⟨.bl false,H1,I1,rfl,q1⟩
theorem pe_or(ha:PE X a ta)(hb:PE X (.BoolOp .Or (b::rest) pos) tb):PE X (.BoolOp .Or (a::b::rest) pos) (tOrV ta tb):=by
 intro pins s σ H Q I h
 refine BoolOp_or (thn (ha pins s σ H _ I h) fun v s1 ⟨x,H1,I1,r1,q1⟩=>?_)
 obtain⟨c,rfl,q1⟩:=q1
 cases r1
 refine wpAny_truthy_bool ?_
 cases c with
 |false=>exact hb pins s1 σ H1 Q I1 q1
 |true=>exact⟨.bl true,H1,I1,rfl,q1⟩
theorem kll(ha:PE X a ta):PE X (.UnaryOp .Not a pos) (tNotV ta):=by
 intro pins s σ H Q I h
 refine UnaryOp_ (thn (ha pins s σ H _ I h) fun v s1 ⟨x,H1,I1,r1,q1⟩=>?_)
 obtain⟨c,rfl,q1⟩:=q1
 cases r1
 exact not_of (wpAny_truthy_bool ⟨.bl (!c),H1,I1,rfl,q1⟩)
noncomputable def tIf(t:TT)(ta tb:TE):TE:=fun σ H Q=>t σ H fun c H1=>if c=true then ta σ H1 Q else tb σ H1 Q
theorem kgN{c:Expr}(hc:PT X c tA)(ha:PE X a ta)(hb:PE X b tb):PE X (.IfExp c a b pos) (tIf tA ta tb):=by
 intro pins s σ H Q I h
 refine wpAny_IfExp (thn (hc pins s σ H _ I h) fun d s1 ⟨H1,I1,q1⟩=>?_)
 cases d with
 |true=>exact ha pins s1 σ H1 Q I1 q1
 |false=>exact hb pins s1 σ H1 Q I1 q1
end
end L2
namespace L2
open PySem PySem.Spec PyProof.Rows
noncomputable def SqL(K:Uv)(H:Hp)(a:Addr)(xs:List V):Prop:=
 Rd H a (.lst xs)∨
  ∃(o:Obj) (its:Array Value) (n:Nat),K.lookup a=some o∧o.cls=.type "list"∧o.dict=none∧o.data=.seq its n∧its.size≤sizeLine∧Vals xs its.toList
noncomputable def SqT(K:Uv)(H:Hp)(a:Addr)(xs:List V):Prop:=
 Rd H a (.tup xs)∨
  ∃(o:Obj) (its:Array Value) (n:Nat),K.lookup a=some o∧o.cls=.type "tuple"∧o.data=.seq its n∧its.size≤sizeLine∧Vals xs its.toList
noncomputable def absV:Value→Option V
 | .none=>some .non
 | .bool b=>some (.bl b)
 | .int i _=>some (.int i)
 | .str x _=>some (.str x)
 | .bytes b _=>some (.byt b)
 | .float b _=>some (.flt b)
 | .ref a=>some (.ref a)
 | .type n=>some (.ty n)
 |_=>none
theorem RelV.abs{x:V}{u:Value}(r:RelV x u):absV u=some x:=by
 cases x with
 |non=>cases r;rfl
 |bl _=>cases r;rfl
 |int _=>obtain⟨t,rfl⟩:=r;rfl
 |str _=>obtain⟨t,rfl⟩:=r;rfl
 |byt _=>obtain⟨t,rfl⟩:=r;rfl
 |flt _=>obtain⟨t,rfl⟩:=r;rfl
 |ref _=>cases r;rfl
 |ty _=>cases r;rfl
theorem RelV.inj{x y:V}{u:Value}(r:RelV x u)(q:RelV y u):x=y:=Option.some.inj (r.abs.symm.trans q.abs)
theorem Vals.inj:∀{xs ys:List V} {us:List Value},Vals xs us→Vals ys us→xs=ys
 |_,_,_, .nil, .nil=>rfl
 |_,_,_, .cons r t, .cons r' t'=>by rw[r.inj r',Vals.inj t t']
section
variable {X:Cx} {pins:List (Addr×Obj)} {σ:St} {H:Hp} {s:Shared} {a:Addr} {xs ys:List V}
theorem SqL.of{K:Uv}(h:H a=some (.lst xs)):SqL K H a xs:=.inl (.inl h)
theorem SqT.of{K:Uv}(h:H a=some (.tup xs)):SqT K H a xs:=.inl (.inl h)
theorem Inv.list(I:Inv X pins σ H s)(h:SqL X.K H a xs):∃its:List Value,Vals xs its∧PlainL s.heap a its.toArray∧xs.length≤sizeLine:=by
 rcases h with h|⟨o,its,n,hk,hc,hd,hs,hz,r⟩
 ·obtain⟨z,its,n,r,e⟩:=h.ok I.hok
  exact⟨its,r,⟨_,n,e,rfl,rfl,rfl⟩,z⟩
 ·refine⟨its.toList,r,⟨o,n,I.kIn a o hk,hc,hd,by simpa using hs⟩,?_⟩
  have e:=r.length
  simp only[JJ] at e
  omega
theorem Inv.tuple(I:Inv X pins σ H s)(h:SqT X.K H a xs):∃its:List Value,Vals xs its∧IsTup s.heap a its.toArray∧xs.length≤sizeLine:=by
 rcases h with h|⟨o,its,n,hk,hc,hs,hz,r⟩
 ·obtain⟨z,its,r,p⟩:=h.ok I.hok
  exact⟨its,r,p,z⟩
 ·refine⟨its.toList,r,⟨o,I.kIn a o hk,hc,n,by simpa using hs⟩,?_⟩
  have e:=r.length
  simp only[JJ] at e
  omega
theorem Inv.list_inj(I:Inv X pins σ H s)(h:SqL X.K H a xs)(h':SqL X.K H a ys):xs=ys:=by
 obtain⟨its,r,⟨o,n,e,_,_,d⟩,_⟩:=I.list h
 obtain⟨its',r',⟨o',n',e',_,_,d'⟩,_⟩:=I.list h'
 rw[e] at e';cases e'
 rw[d] at d'
 injection d' with d1 _
 have:its=its':=by simpa using congrArg Array.toList d1
 subst this
 exact r.inj r'
end
noncomputable abbrev Cx.wish(X:Cx)(E:Value→Shared→Prop):Cx:={X with xe:=E}
noncomputable abbrev Cx.nox(X:Cx):Cx:=X.wish fun _ _=>False
theorem Cx.Ok.wish{X:Cx}(ok:X.Ok)(E:Value→Shared→Prop):(X.wish E).Ok:=
 ⟨ok.mod,ok.kind,ok.glob,ok.blt,ok.above,ok.inj,ok.has,ok.cab,ok.hd,ok.frames,ok.stk,ok.exf,ok.bs,ok.bsz,ok.noex,ok.exfs,ok.funs,ok.frf⟩
theorem Cx.Ok.unwish{X:Cx}{E:Value→Shared→Prop}(ok:(X.wish E).Ok):X.Ok:=
 ⟨ok.mod,ok.kind,ok.glob,ok.blt,ok.above,ok.inj,ok.has,ok.cab,ok.hd,ok.frames,ok.stk,ok.exf,ok.bs,ok.bsz,ok.noex,ok.exfs,ok.funs,ok.frf⟩
section
variable {X:Cx} {pins:List (Addr×Obj)} {σ:St} {H:Hp} {s:Shared} {E:Value→Shared→Prop}
theorem Inv.wish(I:Inv X pins σ H s)(E:Value→Shared→Prop):Inv (X.wish E) pins σ H s:=⟨I.ok.wish E,I.os,I.bare,I.base,I.loc,I.cell,I.free,I.freeC,I.pin,I.hok,I.len⟩
theorem Inv.unwish(I:Inv (X.wish E) pins σ H s):Inv X pins σ H s:=⟨I.ok.unwish,I.os,I.bare,I.base,I.loc,I.cell,I.free,I.freeC,I.pin,I.hok,I.len⟩
theorem SP.unwish{D:Ends}{f:Flow}{s':Shared}(h:SP (X.wish E) pins D f s'):SP X pins D f s':=by
 cases f with
 |next=>obtain⟨σ',H',I,q⟩:=h;exact⟨σ',H',I.unwish,q⟩
 |brk=>obtain⟨σ',H',I,q⟩:=h;exact⟨σ',H',I.unwish,q⟩
 |cont=>obtain⟨σ',H',I,q⟩:=h;exact⟨σ',H',I.unwish,q⟩
 |ret u=>obtain⟨v,σ',H',I,r,q⟩:=h;exact⟨v,σ',H',I.unwish,r,q⟩
theorem PE.nox{e:Expr}{t:TE}(h:PE X.nox e t):PE X e t:=fun pins s σ H Q I hw=>
 wpAny_mono (h pins s σ H Q (I.wish _) hw) (fun _ _ ⟨v,H',I',r,q⟩=>⟨v,H',I'.unwish,r,q⟩) fun _ _ z=>False.elim z
theorem PT.nox{e:Expr}{t:TT}(h:PT X.nox e t):PT X e t:=fun pins s σ H Q I hw=>
 wpAny_mono (h pins s σ H Q (I.wish _) hw) (fun _ _ ⟨H',I',q⟩=>⟨H',I'.unwish,q⟩) fun _ _ z=>False.elim z
theorem PSs.nox{st:List Stmt}{t:TS}(h:PSs X.nox st t):PSs X st t:=fun pins s σ H D I hw=>
 wpAny_mono (h pins s σ H D (I.wish _) hw) (fun _ _ q=>q.unwish) fun _ _ z=>False.elim z
end
section
variable {X:Cx} {st:Stmt} {rest:List Stmt} {t u:TS} {e:Expr} {te:TE} {pos:Pos}
noncomputable def tNext:TS:=fun D σ H=>D.nx σ H
noncomputable def tSeq(t u:TS):TS:=fun D σ H=>t {D with nx:=u D} σ H
theorem kau:PSs X [] tNext:=fun _ _ σ H _ I h=>wpAny_execs_nil ⟨σ,H,I,h⟩
theorem kad(h1:PS X st t)(h2:PSs X rest u):PSs X (st::rest) (tSeq t u):=by
 intro pins s σ H D I h
 refine wpAny_execs_cons (thn (h1 pins s σ H {D with nx:=u D} I h) fun f s1 q=>?_)
 cases f with
 |next=>
  obtain⟨σ',H',I',q⟩:=q
  exact h2 pins s1 σ' H' D I' q
 |ret v=>exact q
 |brk=>exact q
 |cont=>exact q
theorem kai(h1:PS X st t):PSs X [st] t:=by
 intro pins s σ H D I h
 refine wpAny_execs_cons (thn (h1 pins s σ H D I h) fun f s1 q=>?_)
 cases f with
 |next=>exact wpAny_execs_nil q
 |ret v=>exact q
 |brk=>exact q
 |cont=>exact q
theorem Inv.quiet{pins:List (Addr×Obj)}{σ:St}{H:Hp}{s:Shared}(I:Inv X pins σ H s):interactive X.env=false:=by simp[interactive,I.ok.kind]
noncomputable def tDrop(te:TE):TS:=fun D σ H=>te σ H fun _ H1=>D.nx σ H1
theorem ka8(he:PE X e te)(hs:swapsWith e none pos.line X.env=pure false:=by rfl):PS X (.Expr e pos) (tDrop te):=by
 intro pins s σ H D I h
 exact wpAny_Expr_any (thn (he pins s σ H _ I h) fun v s1 ⟨x,H1,I1,r1,q1⟩=>⟨σ,H1,I1,q1⟩) I.quiet hs
noncomputable def tRet(te:TE):TS:=fun D σ H=>te σ H D.rt
theorem kao(he:PE X e te):PS X (.Return (some e) pos) (tRet te):=by
 intro pins s σ H D I h
 exact wpAny_Return_some (thn (he pins s σ H _ I h) fun v s1 ⟨x,H1,I1,r1,q1⟩=>⟨x,σ,H1,I1,r1,q1⟩)
noncomputable def tIfS(c:TT)(t u:TS):TS:=fun D σ H=>c σ H fun b H1=>if b=true then t D σ H1 else u D σ H1
theorem ps_if{c:Expr}{a b:List Stmt}{tc:TT}(hc:PT X c tc)(ha:PSs X a t)(hb:PSs X b u):PS X (.If c a b pos) (tIfS tc t u):=by
 intro pins s σ H D I h
 refine wpAny_If (thn (hc pins s σ H _ I h) fun d s1 ⟨H1,I1,q1⟩=>?_)
 cases d with
 |true=>exact ha pins s1 σ H1 D I1 q1
 |false=>exact hb pins s1 σ H1 D I1 q1
end
noncomputable abbrev TG:=V→St→Hp→(St→Hp→Prop)→Prop
noncomputable abbrev TGs:=List V→St→Hp→(St→Hp→Prop)→Prop
noncomputable def PG(X:Cx)(target:Expr)(t:TG):Prop:=
 ∀(pins:List (Addr×Obj)) (s:Shared) (σ:St) (H:Hp) (v:V) (u:Value) (Q:St→Hp→Prop),Inv X pins σ H s→RelV v u→t v σ H Q→
  wpAny (model X.prog X.w) X.A (assign target X.env u) (fun _ s'=>∃σ' H',Inv X pins σ' H' s'∧Q σ' H') X.xe s
noncomputable def PGs(X:Cx)(ts:List Expr)(t:TGs):Prop:=
 ∀(pins:List (Addr×Obj)) (s:Shared) (σ:St) (H:Hp) (vs:List V) (us:List Value) (Q:St→Hp→Prop),Inv X pins σ H s→Vals vs us→t vs σ H Q→
  wpAny (model X.prog X.w) X.A (assignInOrder ((assignEach ts X.env).map (·.2)) us) (fun _ s'=>∃σ' H',Inv X pins σ' H' s'∧Q σ' H') X.xe s
noncomputable abbrev TSet:=V→V→V→Hp→(Hp→Prop)→Prop
noncomputable def PSet(X:Cx)(t:TSet):Prop:=
 ∀(pins:List (Addr×Obj)) (s:Shared) (σ:St) (H:Hp) (o i v:V) (ov iv u:Value) (Q:Hp→Prop),Inv X pins σ H s→RelV o ov→RelV i iv→RelV v u→t o i v H Q→
  wpAny (model X.prog X.w) X.A (setItem ov iv u) (fun _ s'=>∃H',Inv X pins σ H' s'∧Q H') X.xe s
noncomputable abbrev TIp:=V→V→Hp→VK→Prop
noncomputable def PIp(X:Cx)(op:Operator)(t:TIp):Prop:=
 ∀(pins:List (Addr×Obj)) (s:Shared) (σ:St) (H:Hp) (x y:V) (v u:Value) (Q:VK),Inv X pins σ H s→RelV x v→RelV y u→t x y H Q→
  wpAny (model X.prog X.w) X.A (inplaceOp op v u) (EP X pins σ Q) X.xe s
section
variable {X:Cx} {pos:Pos}
noncomputable def gName(i:Nat):TG:=fun v σ H Q=>Q (σ.set i (some v)) H
theorem kap{i:Nat}{x:Str}(hN:X.N.Nodup)(hi:X.N[i]?=some x)(hx:Loc X.env.scope x)(hf:X.fn x=true∨X.env.scope.names.lookup x=some .local:=by first|exact .inl rfl|exact .inr rfl|assumption):PG X (.Name x pos) (gName i):=by
 intro pins s σ H v u Q I r h
 exact wpAny_assign_Name (keA I hN hi hx r (fun s' I'=>⟨_,H,I',h⟩) hf)
noncomputable def gNil:TGs:=fun vs σ H Q=>vs=[]∧Q σ H
noncomputable def gCons(t:TG)(u:TGs):TGs:=fun vs σ H Q=>∃v r,vs=v::r∧t v σ H fun σ' H'=>u r σ' H' Q
theorem kbl:PGs X [] gNil:=by
 intro pins s σ H vs us Q I r h
 obtain⟨e,h⟩:=h
 subst e
 cases r
 exact assignInOrder_nil ⟨σ,H,I,h⟩
theorem kay{e:Expr}{es:List Expr}{t:TG}{u:TGs}(h1:PG X e t)(h2:PGs X es u)
  (hs:(assignEach (e::es) X.env).map (·.2)=assign e X.env::(assignEach es X.env).map (·.2):=by rfl):PGs X (e::es) (gCons t u):=by
 intro pins s σ H vs us Q I r h
 obtain⟨v,vr,e1,h⟩:=h
 subst e1
 cases r with
 |cons r rr=>
  rw[hs]
  refine assignInOrder_cons (thn (h1 pins s σ H _ _ _ I r h) fun _ s1 ⟨σ1,H1,I1,q1⟩=>?_)
  exact h2 pins s1 σ1 H1 _ _ Q I1 rr q1
noncomputable def gTup(K:Uv)(n:Nat)(t:TGs):TG:=fun v σ H Q=>∃a xs,v=.ref a∧SqT K H a xs∧xs.length=n∧t xs σ H Q
theorem klj{es:List Expr}{k:Nat}{t:TGs}{n:Nat}(hc:X.calm=true)(h:PGs X es t)
  (hn:(assignEach es X.env).length=n:=by rfl) (hst:(assignEach es X.env).findIdx? (·.1)=none:=by rfl):PG X (.Tuple es k pos) (gTup X.K n t):=by
 intro pins s σ H v u Q I r hw
 obtain⟨a,xs,e1,hq,hl,hw⟩:=hw
 subst e1
 cases r
 obtain⟨its,rv,ht,hz⟩:=I.tuple hq
 refine assign_Tuple_tuple (I.ok.hd hc) ht (by simp[hn,←hl,rv.length]) hst fun h' hx=>?_
 have I1:Inv X pins σ H {s with heap:=h'}:=I.kept (t':=s.toks) fun b o e=>hx b o (UV (Heap.lt_size e)) e
 exact h pins _ σ H xs _ Q I1 (by simpa using rv) hw
noncomputable def gSub(to ti:TE)(t:TSet):TG:=fun v σ H Q=>to σ H fun o H1=>ti σ H1 fun i H2=>t o i v H2 fun H3=>Q σ H3
theorem kih{o i:Expr}{to ti:TE}{t:TSet}(ho:PE X o to)(hi:PE X i ti)(hs:PSet X t)
  (ha:∀v,assign (.Subscript o i pos) X.env v=(do
   let ov ←holding [v] (eval o X.env)
   let iv ←holding [v,ov] (eval i X.env)
   standAt pos
   holding [v,ov,iv] (setItem ov iv v)
   release [v,ov,iv] []):=by intro _;rfl):PG X (.Subscript o i pos) (gSub to ti t):=by
 intro pins s σ H v u Q I r h
 rw[ha]
 refine wpAny_bind (wpAny_holding (thn (ho pins s σ H _ I h) fun ov s1 ⟨x,H1,I1,r1,q1⟩=>?_))
 refine wpAny_bind (wpAny_holding (thn (hi pins s1 σ H1 _ I1 q1) fun iv s2 ⟨y,H2,I2,r2,q2⟩=>?_))
 refine wpAny_bind (wpAny_standAt (wpAny_bind (wpAny_holding (thn (hs pins s2 σ H2 x y v ov iv u _ I2 r1 r2 r q2) fun _ s3 ⟨H3,I3,q3⟩=>?_))))
 exact wpAny_release ⟨σ,H3,I3,q3⟩
noncomputable def tAsg(te:TE)(g:TG):TS:=fun D σ H=>te σ H fun x H1=>g x σ H1 D.nx
theorem kia{tg e:Expr}{te:TE}{g:TG}(he:PE X e te)(hg:PG X tg g)(hs:swapsWithSole [tg] e pos.line X.env=pure false:=by rfl)(hw:swappedStores [tg] e X.env=pure none:=by rfl)
  (h1:(assignEach [tg] X.env).map (·.2)=[assign tg X.env]:=by rfl):PS X (.Assign [tg] e pos) (tAsg te g):=by
 intro pins s σ H D I h
 refine wpAny_Assign_stores (thn (he pins s σ H _ I h) fun v s1 ⟨x,H1,I1,r1,q1⟩=>?_) hs hw
 rw[h1]
 exact thn (hg pins s1 σ H1 x v _ I1 r1 q1) fun _ s2 q=>q
theorem kav{i:Nat}{x:Str}{e:Expr}{te:TE}{pos':Pos}(hN:X.N.Nodup)(hi:X.N[i]?=some x)(hx:Loc X.env.scope x)(he:PE X e te)(hs:swapsWith e (some (.Name x pos')) pos.line X.env=pure false:=by rfl)(hf:X.fn x=true∨X.env.scope.names.lookup x=some .local:=by first|exact .inl rfl|exact .inr rfl|assumption):
  PS X (.Assign [.Name x pos'] e pos) (tAsg te (gName i)):=by
 intro pins s σ H D I h
 refine wpAny_Assign_Name (thn (he pins s σ H _ I h) fun v s1 ⟨y,H1,I1,r1,q1⟩=>?_) hs
 exact keA I1 hN hi hx r1 (fun s2 I2=>⟨_,H1,I2,q1⟩) hf
noncomputable def tAug(i:Nat)(te:TE)(ti:TIp):TS:=fun D σ H=>∃x,σ[i]?=some (some x)∧te σ H fun y H1=>ti x y H1 fun z H2=>D.nx (σ.set i (some z)) H2
theorem kli{i:Nat}{x:Str}{e:Expr}{te:TE}{op:Operator}{ti:TIp}{pos':Pos}(hN:X.N.Nodup)(hi:X.N[i]?=some x)(hx:Loc X.env.scope x)(he:PE X e te)(ho:PIp X op ti)(hf:X.fn x=true∨X.env.scope.names.lookup x=some .local:=by first|exact .inl rfl|exact .inr rfl|assumption):
  PS X (.AugAssign (.Name x pos') op e pos) (tAug i te ti):=by
 intro pins s σ H D I h
 obtain⟨v,e1,h⟩:=h
 obtain⟨m,hn,hl⟩:=I.loc
 have vis:Vis X.env.scope x:=by rcases hx with k|k;exact .inl k;exact .inr (.inl k)
 obtain⟨u,r,l⟩:=hl i x v hi e1 vis
 refine wpAny_AugAssign_Name ?_
 have go:wpAny (model X.prog X.w) X.A (eval e X.env) (fun w s₂=>wpAny (model X.prog X.w) X.A (inplaceOp op u w) (fun r s₃=>wpAny (model X.prog X.w) X.A (storeName X.env x r) (fun _=>SP X pins D .next) X.xe s₃) X.xe s₂) X.xe s:=by
  refine thn (he pins s σ H _ I h) fun w s1 ⟨y,H1,I1,r1,q1⟩=>?_
  refine thn (ho pins s1 σ H1 v y u w _ I1 r r1 q1) fun z s2 ⟨zv,H2,I2,r2,q2⟩=>?_
  exact keA I2 hN hi hx r2 (fun s3 I3=>⟨_,H2,I3,q2⟩) hf
 rcases l with⟨hk,hm⟩|⟨hk,c,hc,hcell⟩
 ·exact wpAny_loadName_local I.ok.kind hk hn hm go
 ·rcases hk with hk|hk
  ·exact wpAny_loadName_cell I.ok.kind hk hc hcell go
  ·rcases hx with k|k
   ·have:X.env.scope.names.lookup x=some .free:=hk
    rw[k] at this;cases this
   ·have:X.env.scope.names.lookup x=some .free:=hk
    rw[k] at this;cases this
noncomputable def ipI(f:Int→Int→Int):TIp:=fun x y H Q=>∃i j,x=.int i∧y=.int j∧Q (.int (f i j)) H
theorem klw:PIp X .Add (ipI fun i j=>i+j):=by
 intro pins s σ H x y v u Q I r1 r2 h
 obtain⟨i,j,e1,e2,q⟩:=h
 subst e1;subst e2
 obtain⟨t,rfl⟩:=r1
 obtain⟨t',rfl⟩:=r2
 exact iadd_int ⟨.int _,H,I.tok _,⟨_,rfl⟩,q⟩
end
section
variable {X:Cx} {pos:Pos}
noncomputable def kjZ(c:TT)(tb:TS):TS:=fun D σ H=>∃W:Nat→St→Hp→Prop,(∃m,W m σ H)∧∀m σ H,W m σ H→
 c σ H fun b H1=>if b=true then ∃N:St→Hp→Prop,(∀σ' H',N σ' H'→∃m',m'<m∧W m' σ' H')∧tb {D with nx:=N,ct:=N,bk:=D.nx} σ H1 else D.nx σ H1
theorem kjf{c:Expr}{body:List Stmt}{tc:TT}{tb:TS}(hp:PassesOwn (model X.prog X.w) X.A X.env X.xe)(hc:PT X c tc)(hb:PSs X body tb):PS X (.While c body [] pos) (kjZ tc tb):=by
 intro pins s σ H D I h
 obtain⟨W,⟨m0,w0⟩,turn⟩:=h
 refine wpAny_While (codeAny_whileLoop (fun n s'=>∃σ' H',Inv X pins σ' H' s'∧W n σ' H') ?_ m0 ⟨σ,H,I,w0⟩)
 rintro n s1 ⟨σ1,H1,I1,w1⟩
 refine wpAny_passesOwn hp (thn (hc pins s1 σ1 H1 _ I1 (turn n σ1 H1 w1)) fun b s2 ⟨H2,I2,q2⟩=>?_)
 cases b with
 | true=>
  obtain⟨N,hN,q2⟩:=q2
  rw[if_pos rfl]
  refine wpAny_passesOwn hp (thn (hb pins s2 σ1 H2 _ I2 q2) fun f s3 q3=>?_)
  cases f with
  |next=>
   obtain⟨σ3,H3,I3,n3⟩:=q3
   obtain⟨m',hm,w3⟩:=hN σ3 H3 n3
   exact⟨m',hm,σ3,H3,I3,w3⟩
  |cont=>
   obtain⟨σ3,H3,I3,n3⟩:=q3
   obtain⟨m',hm,w3⟩:=hN σ3 H3 n3
   exact⟨m',hm,σ3,H3,I3,w3⟩
  |brk=>exact q3
  |ret v=>exact q3
 |false=>
  rw[if_neg UA]
  exact wpAny_execs_nil ⟨σ1,H2,I2,q2⟩
end
structure It where
 go:Nat→Hp→Prop
 yld:Nat→Hp→V→Hp→Prop
 stop:Nat→Hp→Prop
noncomputable def FpOk(X:Cx)(pins:List (Addr×Obj))(H:Hp)(b:Addr):Prop:=
 H b=none∧b≠X.env.locals∧b∉X.fs∧(b∈X.ex∨X.s₀.heap.objs.size≤b)∧(∀x c,X.env.cells.lookup x=some c→c≠b)∧∀p∈X.pn++pins,p.1≠b
theorem Inv.fpOk{X:Cx}{pins:List (Addr×Obj)}{σ:St}{H H':Hp}{s:Shared}{b:Addr}(I:Inv X pins σ H s)(hb:s.heap.objs.size≤b)(hn:H' b=none):FpOk X pins H' b:=by
 refine⟨hn,Je (UT I.lt hb),I.nofs hb, .inr (Uy I.sz hb),fun x c e z=>?_,fun p hp z=>?_⟩
 ·obtain⟨v,q⟩:=I.cell x c e
  exact absurd (UT q.lt (by rw[z];exact hb)) (Jp _)
 ·exact absurd (UT (Heap.lt_size (I.pin p hp).1) (by rw[z];exact hb)) (Jp _)
structure Turn (P:Program) (w:World) (K:Uv) (tg:Expr) (J:It) (fp:List Addr) (it:Addr) (tn:Nat→Heap→Prop):Prop where
 mem:it∈fp
 obj:∀i h,tn i h→∀b∈fp,∃o,h.get? b=some o∧∀v,o.data≠.cell v
 keep:∀i h h',tn i h→(∀b∈fp,∀o,h.get? b=some o→h'.get? b=some o)→tn i h'
 item:∀(X:Cx),X.prog=P→X.w=w→X.K=K→X.calm=true→∀(i:Nat) (pins:List (Addr×Obj)) (s:Shared) (σ:St) (H:Hp) (E:Value→Shared→Prop),Inv X pins σ H s→(∀b∈fp,FpOk X pins H b)→tn i s.heap→J.go i H→
  wpAny (model P w) X.A (pyNext (.ref it)) (fun r s1=>∃u,r=some u∧
   wpAny (model P w) X.A (letOwnedTupleGo tg (.ref it) u) (fun _ s2=>∃x H',Inv X pins σ H' s2∧RelV x u∧J.yld i H x H'∧tn (i+1) s2.heap∧∀b∈fp,H' b=none) E s1) E s
 done:∀(X:Cx),X.prog=P→X.w=w→X.K=K→X.calm=true→∀(i:Nat) (pins:List (Addr×Obj)) (s:Shared) (σ:St) (H:Hp) (E:Value→Shared→Prop),Inv X pins σ H s→(∀b∈fp,FpOk X pins H b)→tn i s.heap→J.stop i H→
  wpAny (model P w) X.A (pyNext (.ref it)) (fun r s1=>r=none∧Inv X pins σ H s1) E s
 self:∀(A:Around) (i:Nat) (s:Shared) (Q:Value→Shared→Prop) (E:Value→Shared→Prop),tn i s.heap→Q (.ref it) s→wpAny (model P w) A (pyIter (.ref it)) Q E s
noncomputable abbrev TI:=St→Hp→(It→Hp→Prop)→Prop
noncomputable def PIE(X:Cx)(pins:List (Addr×Obj))(σ:St)(tg:Expr)(R:It→Hp→Prop)(itv:Value)(s2:Shared):Prop:=
 ∃(it:Addr) (fp:List Addr) (tn:Nat→Heap→Prop) (J:It) (H':Hp),itv=.ref it∧Inv X pins σ H' s2∧Turn X.prog X.w X.K tg J fp it tn∧tn 0 s2.heap∧(∀b∈fp,FpOk X pins H' b)∧R J H'
noncomputable def PI(X:Cx)(tg iter:Expr)(wi:TI):Prop:=
 ∀(pins:List (Addr×Obj)) (s:Shared) (σ:St) (H:Hp) (R:It→Hp→Prop),Inv X pins σ H s→wi σ H R→
  wpAny (model X.prog X.w) X.A (eval iter X.env) (fun v s1=>wpAny (model X.prog X.w) X.A (pyIter v) (PIE X pins σ tg R) X.xe s1) X.xe s
theorem go_of{M:Model}{A:Around}{E:Value→Shared→Prop}{s:Shared}{tg:Expr}{it:Addr}{u:Value}{o:Obj}{n:String}{vs:Array Value}{Q:Unit→Shared→Prop}(ho:s.heap.get? it=some o)(hc:o.cls=.type n)(hd:o.data=.fields vs)
    (hn:["enumerate","zip","dict_itemiterator","dict_reverseitemiterator","odict_iterator","itertools.zip_longest","itertools.pairwise"].contains n=false) (hQ:Q () s):wpAny M A (letOwnedTupleGo tg (.ref it) u) Q E s:=by
  unfold letOwnedTupleGo
  cases tg <;> first
    |exact wpAny_pure hQ
    |(cases u <;> first
        |exact wpAny_pure hQ
        | (refine wpAny_bind (wpAny_load ho ?_)
           rw[hc,hd]
           show wpAny M A (if(["enumerate","zip","dict_itemiterator","dict_reverseitemiterator","odict_iterator","itertools.zip_longest","itertools.pairwise"].contains n&&vs[0]? ==some (rawInt _))=true then _ else _) Q E s
           rw[if_neg (by intro h;rw[hn,Nc] at h;cases h)]
           exact wpAny_pure hQ))
noncomputable def Itl(K:Uv)(a:Addr):It:=
 ⟨fun i H=>∃xs x,SqL K H a xs∧xs[i]?=some x,fun i H x H'=>H'=H∧∀xs,SqL K H a xs→xs[i]?=some x,fun i H=>∃xs,SqL K H a xs∧xs.length≤i⟩
noncomputable def Itr(lo:Int)(n:Nat):It:=⟨fun i _=>i<n,fun i H x H'=>H'=H∧x=.int (lo+i),fun i _=>n≤i⟩
theorem khC{P:Program}{w:World}{K:Uv}{tg:Expr}(a it:Addr):Turn P w K tg (Itl K a) [it] it (fun i h=>h.IsListIter it a i) where
 mem:=by simp
 obj:=fun i h st b hb=>by
  have e:b=it:=by simpa using hb
  subst e
  obtain⟨o,e,c,d⟩:=st
  exact⟨o,e,fun v z=>by rw[d] at z;cases z⟩
 keep:=fun i h h' st k=>st.at fun o e=>k it (by simp) o e
 item:=by
  intro X hP hw hK hc i pins s σ H E I hf st hg
  subst hP hw hK
  obtain⟨xs,x,hq,hx⟩:=hg
  obtain⟨its,rv,p,hz⟩:=I.list hq
  obtain⟨u,hu,ru⟩:=rv.get hx
  obtain⟨f0,f1,f2,f3,f4,f5⟩:=hf it (by simp)
  refine wpAny_pyNext_list_item st p.isList (x:=u) (by simpa using hu) fun h' st' sb=>?_
  have I1:Inv X pins σ H {s with heap:=h'}:=I.turned (t':=s.toks) (fun b o hb e=>(sb.2 b hb).trans e) f0 f1 f3 f4 f5
  obtain⟨o,e,c,d⟩:=id st'
  exact⟨u,rfl,go_of (s:={s with heap:=h'}) e c d (by decide) ⟨x,H,I1,ru,⟨rfl,fun ys hy=>by rw[I.list_inj hy hq];exact hx⟩,st',fun b hb=>(hf b hb).1⟩⟩
 done:=by
  intro X hP hw hK hc i pins s σ H E I hf st hg
  subst hP hw hK
  obtain⟨xs,hq,hx⟩:=hg
  obtain⟨its,rv,p,hz⟩:=I.list hq
  obtain⟨f0,f1,f2,f3,f4,f5⟩:=hf it (by simp)
  have hl:=rv.length
  exact wpAny_pyNext_list_end (I.ok.hd hc) st p.isList (by simp;omega) fun h' eb=>⟨rfl,I.turned (t':=s.toks) (fun b o hb e=>eb b o hb e) f0 f1 f3 f4 f5⟩
 self:=fun _ _ _ _ _ st h=>wpAny_pyIter_listiter st h
theorem kg9{P:Program}{w:World}{K:Uv}{tg:Expr}(it:Addr)(lo:Int)(n:Nat):Turn P w K tg (Itr lo n) [it] it (fun i h=>IsRangeIter h it (lo+(i:Nat)*1) ((n:Int)-(i:Nat)) 1) where
 mem:=by simp
 obj:=fun i h st b hb=>by
  have e:b=it:=by simpa using hb
  subst e
  exact⟨_,st,fun v z=>by
   have z':Data.fields _=Data.cell v:=z
   cases z'⟩
 keep:=fun i h h' st k=>k it (by simp) _ st
 item:=by
  intro X hP hw hK hc i pins s σ H E I hf st hg
  subst hP hw hK
  obtain⟨f0,f1,f2,f3,f4,f5⟩:=hf it (by simp)
  have W:=Walks.range (prog:=X.prog) (w:=X.w) (I.ok.hd hc) it lo 1 n
  refine W.item i s _ _ hg st fun v h' tk hv st' kk=>?_
  obtain⟨t,rfl⟩:=hv
  have I1:Inv X pins σ H {s with heap:=h',toks:=tk}:=I.turned (fun b o hb e=>kk b o (by simpa using hb) e) f0 f1 f3 f4 f5
  refine⟨_,rfl,go_of (s:={s with heap:=h',toks:=tk}) (n:="range_iterator") st' rfl rfl (by decide) ⟨.int (lo+i),H,I1,⟨t,?_⟩,⟨rfl,rfl⟩,st',fun b hb=>(hf b hb).1⟩⟩
  rw[Int.mul_one]
 done:=by
  intro X hP hw hK hc i pins s σ H E I hf st hg
  subst hP hw hK
  obtain⟨f0,f1,f2,f3,f4,f5⟩:=hf it (by simp)
  exact wpAny_pyNext_range_end (I.ok.hd hc) st (by have:n≤i:=hg;omega) fun h' eb=>⟨rfl,I.turned (t':=s.toks) (fun b o hb e=>eb b o hb e) f0 f1 f3 f4 f5⟩
 self:=fun _ _ _ _ _ st h=>wpAny_pyIter_rangeiter st h
end L2
namespace L2
open PySem PySem.Spec PyProof.Rows
section
variable {X:Cx} {tg:Expr}
noncomputable def iList(K:Uv)(tl:TE):TI:=fun σ H R=>tl σ H fun x H1=>∃a,x=.ref a∧(∃xs,SqL K H1 a xs)∧R (Itl K a) H1
theorem kkL{l:Expr}{tl:TE}(hl:PE X l tl):PI X tg l (iList X.K tl):=by
 intro pins s σ H R I h
 refine thn (hl pins s σ H _ I h) fun v s1 ⟨x,H1,I1,r1,q1⟩=>?_
 obtain⟨a,e,⟨xs,hq⟩,q⟩:=q1
 subst e
 cases r1
 obtain⟨its,rv,p,hz⟩:=I1.list hq
 refine wpAny_pyIter_list p.isList ?_
 refine⟨s1.heap.objs.size,[s1.heap.objs.size],_,_,H1,rfl,I1.kept (t':=s1.toks) fun b o e=>Heap.get?_push_of_some _ e,khC a _,⟨_,Heap.get?_push_size _ rfl,rfl,rfl⟩,fun b hb=>?_,q⟩
 have e:b=s1.heap.objs.size:=by simpa using hb
 subst e
 exact I1.fpOk (Uw _) (I1.hok.fresh (Uw _))
theorem kgJ{pins:List (Addr×Obj)}{σ:St}{H:Hp}{s:Shared}{R:It→Hp→Prop}{E:Value→Shared→Prop}{lo hi:Int}{t u v:Tok}{tk:Nat}(I:Inv X pins σ H s)(h1: -(2 ^ 62)≤lo)(h2:lo<2 ^ 62)(h3: -(2 ^ 62)≤hi)(h4:hi<2 ^ 62)
  (q:R (Itr lo (hi-lo).toNat) H):wpAny (model X.prog X.w) X.A (pyIter (.ref s.heap.objs.size)) (PIE X pins σ tg R) E {s with heap:=s.heap.push {cls:=.type "range",data:=.fields #[.int lo t, .int hi u, .int 1 v]},toks:=tk}:=by
 refine wpAny_pyIter_range (IsRange.new ..) (small_one h1 h2 h3 h4) ?_
 have I1:Inv X pins σ H {s with heap:=s.heap.push {cls:=.type "range",data:=.fields #[.int lo t, .int hi u, .int 1 v]},toks:=tk}:=I.kept fun b o e=>Heap.get?_push_of_some _ e
 refine⟨(s.heap.push {cls:=.type "range",data:=.fields #[.int lo t, .int hi u, .int 1 v]}).objs.size,[(s.heap.push {cls:=.type "range",data:=.fields #[.int lo t, .int hi u, .int 1 v]}).objs.size],_,_,H,rfl,
  I1.kept (t':=tk) fun b o e=>Heap.get?_push_of_some _ e,kg9 _ lo (hi-lo).toNat,?_,fun b hb=>?_,q⟩
 ·have e1:lo+((0:Nat):Int)*1=lo:=by simp
  have e2:(((hi-lo).toNat:Nat):Int)-((0:Nat):Int)=Builtin.Range.rangeSize lo hi 1:=by rw[rangeSize_one];split <;> omega
  show IsRangeIter _ _ (lo+((0:Nat):Int)*1) ((((hi-lo).toNat:Nat):Int)-((0:Nat):Int)) 1
  rw[e1,e2]
  exact Heap.get?_push_size _ rfl
 ·have e:b=(s.heap.push {cls:=.type "range",data:=.fields #[.int lo t, .int hi u, .int 1 v]}).objs.size:=by simpa using hb
  subst e
  exact I1.fpOk (Uw _) (I1.hok.fresh (Uw _))
noncomputable def iRng1(ta:TA):TI:=fun σ H R=>ta σ H fun vs H1=>∃j:Int,vs=[.int j]∧-(2 ^ 62)≤j∧j<2 ^ 62∧R (Itr 0 j.toNat) H1
noncomputable def iRng2(ta:TA):TI:=fun σ H R=>ta σ H fun vs H1=>∃i j:Int,vs=[.int i, .int j]∧(-(2 ^ 62)≤i∧i<2 ^ 62∧-(2 ^ 62)≤j∧j<2 ^ 62)∧R (Itr i (j-i).toNat) H1
theorem kcp{a:Expr}{ta:TA}{p pos:Pos}(hg:Gl X "range")(hm:X.mg "range"=none)(ha:PA X [a] ta)(hs:starEach [a] X.env=[(false,eval a X.env)]:=by rfl):PI X tg (.Call (.Name "range" p) [a] [] pos) (iRng1 ta):=by
 intro pins s σ H R I h
 refine Call_ (kcs I hg hm boot_range (PyProof.Rows.callWith_type1 (thn (ha pos pins s σ H _ I h) fun us s1 ⟨vs,H1,I1,r1,q1⟩=>?_) hs rfl))
 obtain⟨j,e,q1,q2,q⟩:=q1
 subst e
 cases r1 with
 |cons r rr=>
  cases rr
  obtain⟨t,rfl⟩:=r
  exact call_range_1 (kgJ I1 (by omega) (by omega) q1 q2 (by simpa using q))
theorem kif{a b:Expr}{ta:TA}{p pos:Pos}(hg:Gl X "range")(hm:X.mg "range"=none)(ha:PA X [a,b] ta)(hs:starEach [a,b] X.env=[(false,eval a X.env),(false,eval b X.env)]:=by rfl)(hs2:starEach [b] X.env=[(false,eval b X.env)]:=by rfl):
  PI X tg (.Call (.Name "range" p) [a,b] [] pos) (iRng2 ta):=by
 intro pins s σ H R I h
 refine Call_ (kcs I hg hm boot_range (PyProof.Rows.callWith_type1 (thn (ha pos pins s σ H _ I h) fun us s1 ⟨vs,H1,I1,r1,q1⟩=>?_) (by rw[hs,hs2]) (by rw[hs2];rfl)))
 obtain⟨i,j,e,⟨q1,q2,q3,q4⟩,q⟩:=q1
 subst e
 cases r1 with
 | cons r rr=>
  cases rr with
  |cons r' rr=>
   cases rr
   obtain⟨t,rfl⟩:=r
   obtain⟨t',rfl⟩:=r'
   exact call_range_2 (kgJ I1 q1 q2 q3 q4 q)
noncomputable def tFor(wi:TI)(g:TG)(tb:TS):TS:=fun D σ H=>wi σ H fun J H1=>∃W:Nat→Nat→St→Hp→Prop,(∃m,W 0 m σ H1)∧∀i m σ H,W i m σ H→
 (J.stop i H∧D.nx σ H)∨(J.go i H∧∃N:St→Hp→Prop,(∀σ' H',N σ' H'→∃m',m'<m∧W (i+1) m' σ' H')∧∀x H',J.yld i H x H'→g x σ H' fun σ2 H2=>tb {D with nx:=N,ct:=N,bk:=D.nx} σ2 H2)
noncomputable def kgM(fp:List Addr)(h:Heap):List (Addr×Obj):=fp.filterMap fun b=>(h.get? b).map fun o=>(b,o)
theorem kcA{fp:List Addr}{h:Heap}{b:Addr}{o:Obj}(hb:b∈fp)(e:h.get? b=some o):(b,o)∈kgM fp h:=List.mem_filterMap.mpr ⟨b,hb,by rw[e];rfl⟩
theorem kil{fp:List Addr}{h:Heap}{p:Addr×Obj}(hp:p∈kgM fp h):p.1∈fp∧h.get? p.1=some p.2:=by
 obtain⟨b,hb,e⟩:=List.mem_filterMap.mp hp
 cases q:h.get? b with
 |none=>rw[q] at e;cases e
 |some o=>
  rw[q] at e
  have e':(b,o)=p:=Option.some.inj e
  subst e'
  exact⟨hb,q⟩
theorem Inv.pinned{pins:List (Addr×Obj)}{σ:St}{H:Hp}{s:Shared}{fp:List Addr}(I:Inv X pins σ H s)(hf:∀b∈fp,FpOk X pins H b)(ho:∀b∈fp,∃o,s.heap.get? b=some o∧∀v,o.data≠.cell v):Inv X (pins++kgM fp s.heap) σ H s:=
 I.pins_of fun p hp=>(Jd.mp hp).elim (fun z=>I.pin p (U7 _ z)) fun z=>by
  obtain⟨hb,e⟩:=kil z
  obtain⟨f0,f1,f2,_⟩:=hf p.1 hb
  obtain⟨o,e',d⟩:=ho p.1 hb
  rw[e] at e';cases e'
  exact⟨e,f0,f1,f2,d⟩
theorem Inv.unpinned{pins pl:List (Addr×Obj)}{σ:St}{H:Hp}{s:Shared}(I:Inv X (pins++pl) σ H s):Inv X pins σ H s:=I.pins_of fun p hp=>I.pin p (U7 _ (NM _ hp))
theorem kbk{iter:Expr}{body:List Stmt}{wi:TI}{g:TG}{tb:TS}{pos:Pos}(hp:PassesOwn (model X.prog X.w) X.A X.env X.xe)(hc:X.calm=true)(hi:PI X tg iter wi)(hg:PG X tg g)(hb:PSs X body tb)
  (hs:∀x,foldedSetIterable iter X.env x=pure x:=by intro _;rfl):PS X (.For tg iter body [] pos) (tFor wi g tb):=by
 intro pins s σ H D I h
 refine wpAny_For (thn (hi pins s σ H _ I h) fun v s1 h1=>thn h1 fun itv s2 h2=>?_) hs
 obtain⟨it,fp,tn,J,H2,e,I2,T,st2,f2,W,⟨m0,w0⟩,turn⟩:=h2
 subst e
 have stat:∀{H':Hp},(∀b∈fp,H' b=none)→∀b∈fp,FpOk X pins H' b:=fun hn b hb=>⟨hn b hb,(f2 b hb).2⟩
 refine codeAny_forLoop_any (fun n s'=>∃i σ' H',Inv X pins σ' H' s'∧tn i s'.heap∧(∀b∈fp,H' b=none)∧W i n σ' H') ?_ m0 ⟨0,σ,H2,I2,st2,fun b hb=>(f2 b hb).1,w0⟩
 rintro n s3 ⟨i,σ3,H3,I3,st3,fr3,w3⟩
 rcases turn i n σ3 H3 w3 with⟨stop,qn⟩|⟨go,N,hN,step⟩
 ·refine wpAny_passesOwn hp (thn (T.done X rfl rfl rfl hc i pins s3 σ3 H3 X.xe I3 (stat fr3) st3 stop) fun r s4 ⟨hr,I4⟩=>?_)
  subst hr
  exact wpAny_execs_nil ⟨σ3,H3,I4,qn⟩
 ·refine wpAny_passesOwn hp (thn (T.item X rfl rfl rfl hc i pins s3 σ3 H3 X.xe I3 (stat fr3) st3 go) fun r s4 ⟨u,hr,h4⟩=>?_)
  subst hr
  refine wpAny_passesOwn hp (thn h4 fun _ s5 ⟨x,H5,I5,r5,y5,st5,fr5⟩=>?_)
  have I5':=I5.pinned (stat fr5) (T.obj _ _ st5)
  refine wpAny_passesOwn hp (thn (hg _ s5 σ3 H5 x u _ I5' r5 (step x H5 y5)) fun _ s6 ⟨σ6,H6,I6,q6⟩=>?_)
  refine wpAny_passesOwn hp (thn (hb _ s6 σ6 H6 _ I6 q6) fun f s7 q7=>?_)
  have again:∀{σ7:St} {H7:Hp},Inv X (pins++kgM fp s5.heap) σ7 H7 s7→N σ7 H7→∃m,m<n∧∃i σ' H',Inv X pins σ' H' s7∧tn i s7.heap∧(∀b∈fp,H' b=none)∧W i m σ' H':=fun {σ7 H7} I7 n7=>by
   obtain⟨m',hm,w7⟩:=hN σ7 H7 n7
   refine⟨m',hm,i+1,σ7,H7,I7.unpinned,T.keep _ _ _ st5 fun b hb o e=>(I7.pin (b,o) (U7 _ (U7 _ (kcA hb e)))).1,fun b hb=>?_,w7⟩
   obtain⟨o,e,d⟩:=T.obj _ _ st5 b hb
   exact(I7.pin (b,o) (U7 _ (U7 _ (kcA hb e)))).2.1
  cases f with
  |next=>obtain⟨σ7,H7,I7,n7⟩:=q7;exact again I7 n7
  |cont=>obtain⟨σ7,H7,I7,n7⟩:=q7;exact again I7 n7
  |brk=>obtain⟨σ7,H7,I7,q7⟩:=q7;exact⟨σ7,H7,I7.unpinned,q7⟩
  |ret v=>obtain⟨x7,σ7,H7,I7,r7,q7⟩:=q7;exact⟨x7,σ7,H7,I7.unpinned,r7,q7⟩
end
theorem kbq{K:Uv}{a:Addr}{xs:List V}{g:TG}{tb:TS}{D:Ends}{σ:St}{H:Hp}(Pv:Nat→St→Hp→Prop)(h0:Pv 0 σ H)(hl:∀i σ H,i≤xs.length→Pv i σ H→SqL K H a xs)
  (hs:∀i x σ H,xs[i]?=some x→Pv i σ H→g x σ H fun σ2 H2=>tb {D with nx:=Pv (i+1),ct:=Pv (i+1),bk:=D.nx} σ2 H2) (hd:∀σ H,Pv xs.length σ H→D.nx σ H):
  ∃W:Nat→Nat→St→Hp→Prop,(∃m,W 0 m σ H)∧∀i m σ H,W i m σ H→
   ((Itl K a).stop i H∧D.nx σ H)∨((Itl K a).go i H∧∃N:St→Hp→Prop,(∀σ' H',N σ' H'→∃m',m'<m∧W (i+1) m' σ' H')∧∀x H',(Itl K a).yld i H x H'→g x σ H' fun σ2 H2=>tb {D with nx:=N,ct:=N,bk:=D.nx} σ2 H2):=by
 refine⟨fun i m σ H=>m=xs.length-i∧i≤xs.length∧Pv i σ H,⟨xs.length,by simp,U1 _,h0⟩,?_⟩
 rintro i m σ H ⟨rfl,hi,p⟩
 have q:=hl i σ H hi p
 by_cases hlt:i<xs.length
 ·refine .inr ⟨⟨xs,xs[i],q,by simp[hlt]⟩,Pv (i+1),fun σ' H' p'=>⟨xs.length-(i+1),by omega,rfl,hlt,p'⟩,fun x H' y=>?_⟩
  obtain⟨e,y⟩:=y
  subst e
  exact hs i x σ _ (y xs q) p
 ·have e:i=xs.length:=by omega
  subst e
  exact .inl ⟨⟨xs,q,Uw _⟩,hd σ H p⟩
theorem kcv{lo:Int}{n:Nat}{g:TG}{tb:TS}{D:Ends}{σ:St}{H:Hp}(Pv:Nat→St→Hp→Prop)(h0:Pv 0 σ H)
  (hs:∀i σ H,i<n→Pv i σ H→g (.int (lo+i)) σ H fun σ2 H2=>tb {D with nx:=Pv (i+1),ct:=Pv (i+1),bk:=D.nx} σ2 H2) (hd:∀σ H,Pv n σ H→D.nx σ H):
  ∃W:Nat→Nat→St→Hp→Prop,(∃m,W 0 m σ H)∧∀i m σ H,W i m σ H→
   ((Itr lo n).stop i H∧D.nx σ H)∨((Itr lo n).go i H∧∃N:St→Hp→Prop,(∀σ' H',N σ' H'→∃m',m'<m∧W (i+1) m' σ' H')∧∀x H',(Itr lo n).yld i H x H'→g x σ H' fun σ2 H2=>tb {D with nx:=N,ct:=N,bk:=D.nx} σ2 H2):=by
 refine⟨fun i m σ H=>m=n-i∧i≤n∧Pv i σ H,⟨n,by simp,U1 _,h0⟩,?_⟩
 rintro i m σ H ⟨rfl,hi,p⟩
 by_cases hlt:i<n
 ·refine .inr ⟨hlt,Pv (i+1),fun σ' H' p'=>⟨n-(i+1),by omega,rfl,hlt,p'⟩,fun x H' y=>?_⟩
  obtain⟨e,y⟩:=y
  subst e y
  exact hs i σ _ hlt p
 ·have e:i=n:=by omega
  subst e
  exact .inl ⟨Uw _,hd σ H p⟩
theorem kja{c:TT}{tb:TS}{D:Ends}{σ:St}{H:Hp}(Pv:St→Hp→Prop)(μ:St→Hp→Nat)(h0:Pv σ H)
  (hs:∀σ H,Pv σ H→c σ H fun b H1=>if b=true then tb {D with nx:=fun σ' H'=>Pv σ' H'∧μ σ' H'< μ σ H,ct:=fun σ' H'=>Pv σ' H'∧μ σ' H'< μ σ H,bk:=D.nx} σ H1 else D.nx σ H1)
  (mono:∀σ H Q Q',(∀b H1,Q b H1→Q' b H1)→c σ H Q→c σ H Q'):kjZ c tb D σ H:=by
 refine⟨fun m σ H=>m= μ σ H∧Pv σ H,⟨_,rfl,h0⟩,?_⟩
 rintro m σ H ⟨rfl,p⟩
 refine mono σ H _ _ (fun b H1 q=>?_) (hs σ H p)
 cases b with
 |true=>exact⟨_,fun σ' H' ⟨p',l⟩=>⟨_,l,rfl,p'⟩,q⟩
 |false=>exact q
end L2
namespace L2
open PySem PySem.Spec PyProof.Rows
noncomputable abbrev R2:=V→V→Hp→VK→Prop
noncomputable def OpR(X:Cx)(f:Value→Value→Sem Value)(r:R2):Prop:=
 ∀(pins:List (Addr×Obj)) (s:Shared) (σ:St) (H:Hp) (x y:V) (v u:Value) (Q:VK),Inv X pins σ H s→RelV x v→RelV y u→r x y H Q→
  wpAny (model X.prog X.w) X.A (f v u) (EP X pins σ Q) X.xe s
noncomputable def UnR(X:Cx)(f:Value→Sem Value)(r:V→Hp→VK→Prop):Prop:=
 ∀(pins:List (Addr×Obj)) (s:Shared) (σ:St) (H:Hp) (x:V) (v:Value) (Q:VK),Inv X pins σ H s→RelV x v→r x H Q→
  wpAny (model X.prog X.w) X.A (f v) (EP X pins σ Q) X.xe s
noncomputable def CallR(X:Cx)(f:Value)(r:List V→Hp→VK→Prop):Prop:=
 ∀(pins:List (Addr×Obj)) (s:Shared) (σ:St) (H:Hp) (xs:List V) (us:List Value) (Q:VK),Inv X pins σ H s→Vals xs us→r xs H Q→
  wpAny (model X.prog X.w) X.A (call f us) (EP X pins σ Q) X.xe s
noncomputable def tOp(r:R2)(ta tb:TE):TE:=fun σ H Q=>ta σ H fun x H1=>tb σ H1 fun y H2=>r x y H2 Q
noncomputable def tUn(r:V→Hp→VK→Prop)(ta:TE):TE:=fun σ H Q=>ta σ H fun x H1=>r x H1 Q
noncomputable def rI(C:Int→Int→Prop)(g:Int→Int→V):R2:=fun x y H Q=>∃i j,x=.int i∧y=.int j∧C i j∧Q (g i j) H
noncomputable def rI0(g:Int→Int→V):R2:=fun x y H Q=>∃i j,x=.int i∧y=.int j∧Q (g i j) H
noncomputable def rU(g:Int→V):V→Hp→VK→Prop:=fun x H Q=>∃i,x=.int i∧Q (g i) H
section
variable {X:Cx} {a b c:Expr} {ta tb tc:TE} {pos:Pos}
theorem binT(ha:PE X a ta)(hb:PE X b tb){pins:List (Addr×Obj)}{s:Shared}{σ:St}{H:Hp}{R:V→V→Hp→Prop}(I:Inv X pins σ H s)
  (h:ta σ H fun x H1=>tb σ H1 fun y H2=>R x y H2) {Q:Value→Shared→Prop} {f:Value→Value→Sem Value}
  (hf:∀v u s2 x y H2,Inv X pins σ H2 s2→RelV x v→RelV y u→R x y H2→wpAny (model X.prog X.w) X.A (f v u) Q X.xe s2):
  wpAny (model X.prog X.w) X.A (eval a X.env) (fun v s₁=>wpAny (model X.prog X.w) X.A (eval b X.env) (fun u s₂=>wpAny (model X.prog X.w) X.A (f v u) Q X.xe s₂) X.xe s₁) X.xe s:=by
 refine thn (ha pins s σ H _ I h) fun v s1 ⟨x,H1,I1,r1,q1⟩=>?_
 refine thn (hb pins s1 σ H1 _ I1 q1) fun u s2 ⟨y,H2,I2,r2,q2⟩=>?_
 exact hf v u s2 x y H2 I2 r1 r2 q2
theorem pe_op{op:Operator}{r:R2}(ho:OpR X (binaryOp op) r)(ha:PE X a ta)(hb:PE X b tb):PE X (.BinOp a op b pos) (tOp r ta tb):=by
 intro pins s σ H Q I h
 exact wpAny_BinOp (binT ha hb I h fun v u s2 x y H2 I2 rx ry q=>ho pins s2 σ H2 x y v u Q I2 rx ry q)
theorem pe_un{op:UnaryOp}{r:V→Hp→VK→Prop}(ho:UnR X (unaryOp op) r)(ha:PE X a ta):PE X (.UnaryOp op a pos) (tUn r ta):=by
 intro pins s σ H Q I h
 exact UnaryOp_ (thn (ha pins s σ H _ I h) fun v s1 ⟨x,H1,I1,r1,q1⟩=>ho pins s1 σ H1 x v Q I1 r1 q1)
theorem opI{f:Value→Value→Sem Value}{C:Int→Int→Prop}{g:Int→Int→Int}
  (rule:∀(i j:Int) (t u:Tok) (s:Shared) (Q:Value→Shared→Prop) (E:Value→Shared→Prop),C i j→Q (.int (g i j) s.toks) {s with toks:=s.toks+1}→wpAny (model X.prog X.w) X.A (f (.int i t) (.int j u)) Q E s):
  OpR X f (rI C fun i j=>.int (g i j)):=by
 intro pins s σ H x y v u Q I rx ry h
 obtain⟨i,j,rfl,rfl,hc,q⟩:=h
 obtain⟨t,rfl⟩:=rx
 obtain⟨t',rfl⟩:=ry
 exact rule i j t t' s _ _ hc ⟨.int (g i j),H,I.tok _,⟨_,rfl⟩,q⟩
theorem opI0{f:Value→Value→Sem Value}{g:Int→Int→Int}
  (rule:∀(i j:Int) (t u:Tok) (s:Shared) (Q:Value→Shared→Prop) (E:Value→Shared→Prop),Q (.int (g i j) s.toks) {s with toks:=s.toks+1}→wpAny (model X.prog X.w) X.A (f (.int i t) (.int j u)) Q E s):
  OpR X f (rI0 fun i j=>.int (g i j)):=by
 intro pins s σ H x y v u Q I rx ry h
 obtain⟨i,j,rfl,rfl,q⟩:=h
 obtain⟨t,rfl⟩:=rx
 obtain⟨t',rfl⟩:=ry
 exact rule i j t t' s _ _ ⟨.int (g i j),H,I.tok _,⟨_,rfl⟩,q⟩
theorem opB0{f:Value→Value→Sem Value}{g:Int→Int→Bool}
  (rule:∀(i j:Int) (t u:Tok) (s:Shared) (Q:Value→Shared→Prop) (E:Value→Shared→Prop),Q (.bool (g i j)) s→wpAny (model X.prog X.w) X.A (f (.int i t) (.int j u)) Q E s):
  OpR X f (rI0 fun i j=>.bl (g i j)):=by
 intro pins s σ H x y v u Q I rx ry h
 obtain⟨i,j,rfl,rfl,q⟩:=h
 obtain⟨t,rfl⟩:=rx
 obtain⟨t',rfl⟩:=ry
 exact rule i j t t' s _ _ ⟨.bl (g i j),H,I,rfl,q⟩
noncomputable def CDiv(i j:Int):Prop:=0<j∧j<1073741824
noncomputable def CPow(i j:Int):Prop:=0≤j∧j≤1000000∧i.natAbs<2 ^ 64
noncomputable def CMul(i j:Int):Prop:=(-(2 ^ 64)<i∧i<2 ^ 64)∨(-(2 ^ 64)<j∧j<2 ^ 64)
theorem CMul.ok{i j:Int}(h:CMul i j):IntMulOk i j:=by
 rcases h with⟨h1,h2⟩|⟨h1,h2⟩
 ·exact .of_left (intBits_le_64 h1 h2)
 ·exact .of_right (intBits_le_64 h1 h2)
theorem kbr:OpR X (binaryOp .Add) (rI0 fun i j=>.int (i+j)):=opI0 fun _ _ _ _ _ _ _ q=>add_int q
theorem kcQ:OpR X (binaryOp .Sub) (rI0 fun i j=>.int (i-j)):=opI0 fun _ _ _ _ _ _ _ q=>sub_int q
theorem kdU:OpR X (binaryOp .Mult) (rI CMul fun i j=>.int (i*j)):=opI fun _ _ _ _ _ _ _ hc q=>mul_int q hc.ok
theorem kaG:OpR X (binaryOp .FloorDiv) (rI CDiv fun i j=>.int (i/j)):=opI fun i j _ _ _ _ _ hc q=>by
 have h1:(0:Int)<j:=hc.1
 have h2:j<1073741824:=hc.2
 exact floordiv_int (by omega) (by rw[Int.fdiv_eq_ediv_of_nonneg i (by omega)];exact q) (.inl (PyProof.noPylong_small (by omega)))
theorem kaB:OpR X (binaryOp .Mod) (rI (fun _ j=>0<j) fun i j=>.int (i%j)):=opI fun i j _ _ _ _ _ hc q=>by
 have h1:(0:Int)<j:=hc
 exact mod_int' (by omega) (by rw[Int.fmod_eq_emod_of_nonneg i (by omega)];exact q)
theorem klo:OpR X (binaryOp .Pow) (rI CPow fun i j=>.int (i ^ j.toNat)):=opI fun _ _ _ _ _ _ _ hc q=>pow_int_small hc.1 hc.2.1 hc.2.2 q
theorem unI{f:Value→Sem Value}{g:Int→Int}
  (rule:∀(i:Int) (t:Tok) (s:Shared) (Q:Value→Shared→Prop) (E:Value→Shared→Prop),Q (.int (g i) s.toks) {s with toks:=s.toks+1}→wpAny (model X.prog X.w) X.A (f (.int i t)) Q E s):
  UnR X f (rU fun i=>.int (g i)):=by
 intro pins s σ H x v Q I rx h
 obtain⟨i,rfl,q⟩:=h
 obtain⟨t,rfl⟩:=rx
 exact rule i t s _ _ ⟨.int (g i),H,I.tok _,⟨_,rfl⟩,q⟩
theorem kjX:UnR X (unaryOp .USub) (rU fun i=>.int (-i)):=unI fun _ _ _ _ _ q=>neg_int q
end
noncomputable def scal:V→V→Bool
 | .non, .non=>true| .non, .int _=>true| .int _, .non=>true| .non, .bl _=>true| .bl _, .non=>true| .non, .str _=>true| .str _, .non=>true
 | .int _, .int _=>true| .bl _, .bl _=>true| .str _, .str _=>true| .byt _, .byt _=>true
 | .int _, .str _=>true| .str _, .int _=>true| .bl _, .str _=>true| .str _, .bl _=>true
 |_,_=>false
noncomputable def rEq:R2:=fun x y H Q=>scal x y=true∧Q (.bl (decide (x=y))) H
noncomputable def rNe:R2:=fun x y H Q=>scal x y=true∧Q (.bl (!decide (x=y))) H
theorem kiP{i j:Int}:decide (V.int i=V.int j)=(i==j):=by
 rw[JP]
 simp
theorem kkq{i j:Bool}:decide (V.bl i=V.bl j)=(i==j):=by
 rw[JP]
 simp
theorem kiO{i j:Str}:decide (V.str i=V.str j)=(i==j):=by
 rw[JP]
 simp
theorem kiQ{i j:Array UInt8}:decide (V.byt i=V.byt j)=(i.toList==j.toList):=by
 rw[JP]
 cases i
 cases j
 simp
section
variable {X:Cx} {a b c:Expr} {ta tb tc:TE} {pos:Pos}
theorem kaS{pins:List (Addr×Obj)}{σ:St}{H:Hp}{s:Shared}{Q:VK}{k k':Bool}(I:Inv X pins σ H s)(q:Q (.bl k) H)(e:k=k'):EP X pins σ Q (.bool k') s:=by
 subst e
 exact⟨.bl k,H,I,rfl,q⟩
theorem op_eq:OpR X (compareOp .Eq) rEq:=by
 intro pins s σ H x y v u Q I rx ry h
 obtain⟨hs,q⟩:=h
 cases x with
 |non=>
  cases rx
  cases y with
  |non=>cases ry;exact PySem.EqNone.eq_none_none (kaS I q (by simp))
  |bl j=>cases ry;exact PySem.EqNone.eq_none_bool (kaS I q (by simp))
  |int j=>obtain⟨t',rfl⟩:=ry;exact PySem.EqNone.eq_none_int (kaS I q (by simp))
  |str j=>obtain⟨t',rfl⟩:=ry;exact PySem.EqNone.eq_none_str (kaS I q (by simp))
  |_=>exact absurd (show false=true from hs) UA
 |bl i=>
  cases rx
  cases y with
  |non=>cases ry;exact PySem.EqNone.eq_bool_none (kaS I q (by simp))
  |bl j=>cases ry;exact eq_bool (kaS I q kkq)
  |str j=>obtain⟨t',rfl⟩:=ry;exact PySem.EqMixed.eq_bool_str (kaS I q (by simp))
  |_=>exact absurd (show false=true from hs) UA
 |int i=>
  obtain⟨t,rfl⟩:=rx
  cases y with
  |non=>cases ry;exact PySem.EqNone.eq_int_none (kaS I q (by simp))
  |int j=>obtain⟨t',rfl⟩:=ry;exact eq_int (kaS I q kiP)
  |str j=>obtain⟨t',rfl⟩:=ry;exact PySem.EqMixed.eq_int_str (kaS I q (by simp))
  |_=>exact absurd (show false=true from hs) UA
 |str i=>
  obtain⟨t,rfl⟩:=rx
  cases y with
  |non=>cases ry;exact PySem.EqNone.eq_str_none (kaS I q (by simp))
  |bl j=>cases ry;exact PySem.EqMixed.eq_str_bool (kaS I q (by simp))
  |int j=>obtain⟨t',rfl⟩:=ry;exact PySem.EqMixed.eq_str_int (kaS I q (by simp))
  |str j=>obtain⟨t',rfl⟩:=ry;exact eq_str (kaS I q kiO)
  |_=>exact absurd (show false=true from hs) UA
 |byt i=>
  obtain⟨t,rfl⟩:=rx
  cases y with
  |byt j=>obtain⟨t',rfl⟩:=ry;exact PySem.W.eq_bytes (kaS I q kiQ)
  |_=>exact absurd (show false=true from hs) UA
 |_=>cases y <;> exact absurd (show false=true from hs) UA
theorem op_ne:OpR X (compareOp .NotEq) rNe:=by
 intro pins s σ H x y v u Q I rx ry h
 obtain⟨hs,q⟩:=h
 cases x with
 |non=>
  cases rx
  cases y with
  |non=>cases ry;exact PySem.EqNone.ne_none_none (kaS I q (by simp))
  |bl j=>cases ry;exact PySem.EqNone.ne_none_bool (kaS I q (by simp))
  |int j=>obtain⟨t',rfl⟩:=ry;exact PySem.EqNone.ne_none_int (kaS I q (by simp))
  |str j=>obtain⟨t',rfl⟩:=ry;exact PySem.EqNone.ne_none_str (kaS I q (by simp))
  |_=>exact absurd (show false=true from hs) UA
 |bl i=>
  cases rx
  cases y with
  |non=>cases ry;exact PySem.EqNone.ne_bool_none (kaS I q (by simp))
  |bl j=>cases ry;exact ne_bool (kaS I q (congrArg not kkq))
  |str j=>obtain⟨t',rfl⟩:=ry;exact PySem.EqMixed.ne_bool_str (kaS I q (by simp))
  |_=>exact absurd (show false=true from hs) UA
 |int i=>
  obtain⟨t,rfl⟩:=rx
  cases y with
  |non=>cases ry;exact PySem.EqNone.ne_int_none (kaS I q (by simp))
  |int j=>obtain⟨t',rfl⟩:=ry;exact ne_int (kaS I q (congrArg not kiP))
  |str j=>obtain⟨t',rfl⟩:=ry;exact PySem.EqMixed.ne_int_str (kaS I q (by simp))
  |_=>exact absurd (show false=true from hs) UA
 |str i=>
  obtain⟨t,rfl⟩:=rx
  cases y with
  |non=>cases ry;exact PySem.EqNone.ne_str_none (kaS I q (by simp))
  |bl j=>cases ry;exact PySem.EqMixed.ne_str_bool (kaS I q (by simp))
  |int j=>obtain⟨t',rfl⟩:=ry;exact PySem.EqMixed.ne_str_int (kaS I q (by simp))
  |str j=>obtain⟨t',rfl⟩:=ry;exact ne_str (kaS I q (congrArg not kiO))
  |_=>exact absurd (show false=true from hs) UA
 |byt i=>
  obtain⟨t,rfl⟩:=rx
  cases y with
  |byt j=>obtain⟨t',rfl⟩:=ry;exact PySem.W.ne_bytes (kaS I q (congrArg not kiQ))
  |_=>exact absurd (show false=true from hs) UA
 |_=>cases y <;> exact absurd (show false=true from hs) UA
theorem op_lt:OpR X (compareOp .Lt) (rI0 fun i j=>.bl (decide (i<j))):=opB0 fun _ _ _ _ _ _ _ q=>lt_int q
theorem op_gt:OpR X (compareOp .Gt) (rI0 fun i j=>.bl (decide (j<i))):=opB0 fun _ _ _ _ _ _ _ q=>gt_int q
theorem op_ge:OpR X (compareOp .GtE) (rI0 fun i j=>.bl (decide (j≤i))):=opB0 fun _ _ _ _ _ _ _ q=>ge_int q
theorem keo:OpR X (compareOp .Is) (fun x y H Q=>y=.non∧Q (.bl (decide (x=.non))) H):=by
 intro pins s σ H x y v u Q I rx ry h
 obtain⟨rfl,q⟩:=h
 cases ry
 refine is_none_gen (kaS I q ?_)
 cases x <;> first
  |(cases rx;rfl)
  |(obtain⟨t,rfl⟩:=rx;rfl)
theorem kc9:OpR X (compareOp .IsNot) (fun x y H Q=>y=.non∧Q (.bl (!decide (x=.non))) H):=by
 intro pins s σ H x y v u Q I rx ry h
 obtain⟨rfl,q⟩:=h
 cases ry
 refine isnot_none_gen (kaS I q ?_)
 cases x <;> first
  |(cases rx;rfl)
  |(obtain⟨t,rfl⟩:=rx;rfl)
theorem OpR.or{f:Value→Value→Sem Value}{r r':R2}(h:OpR X f r)(h':OpR X f r'):OpR X f (fun x y H Q=>r x y H Q∨r' x y H Q):=by
 intro pins s σ H x y v u Q I rx ry q
 rcases q with q|q
 ·exact h pins s σ H x y v u Q I rx ry q
 ·exact h' pins s σ H x y v u Q I rx ry q
theorem kax(b:Expr){op:CmpOp}(h:op≠.In:=by decide)(h2:op≠.NotIn:=by decide):behindInMarks op b=false:=by
 have e1:(op==CmpOp.In)=false:=by cases op <;> first|rfl|exact absurd rfl h
 have e2:(op==CmpOp.NotIn)=false:=by cases op <;> first|rfl|exact absurd rfl h2
 cases b <;> simp[behindInMarks,e1,e2]
theorem ka1{op:CmpOp}{r:R2}(ho:OpR X (compareOp op) r)(ha:PE X a ta)(hb:PE X b tb)(hm:behindInMarks op b=false):PE X (.Compare a [op] [b] pos) (tOp r ta tb):=by
 intro pins s σ H Q I h
 exact wpAny_Compare1 (binT ha hb I h fun v u s2 x y H2 I2 rx ry q=>ho pins s2 σ H2 x y v u Q I2 rx ry q) hm
noncomputable def tTest(t:TE):TT:=fun σ H Q=>t σ H fun x H'=>∃k,x=.bl k∧Q k H'
theorem kat{op:CmpOp}{r:R2}(ho:OpR X (compareOp op) r)(ha:PE X a ta)(hb:PE X b tb)(hm:behindInMarks op b=false):PT X (.Compare a [op] [b] pos) (tTest (tOp r ta tb)):=by
 intro pins s σ H Q I h
 refine wpAny_isTrue_Compare1 (thn (ha pins s σ H _ I h) fun v s1 ⟨x,H1,I1,r1,q1⟩=>thn (hb pins s1 σ H1 _ I1 q1) fun u s2 ⟨y,H2,I2,r2,q2⟩=>
  thn (ho pins s2 σ H2 x y v u _ I2 r1 r2 q2) fun c s3 ⟨z,H3,I3,r3,k,e,q3⟩=>?_) hm
 subst e
 cases r3
 exact wpAny_truthy_bool ⟨H3,I3,q3⟩
theorem kgX:(sizeLine:Nat)<2 ^ 63:=by rw[sizeLine_eq];decide
theorem vals1{x:V}{us:List Value}(r:Vals [x] us):∃u,us=[u]∧RelV x u:=by
 cases r with
 |cons r1 r2=>cases r2;exact⟨_,rfl,r1⟩
theorem vals2{x y:V}{us:List Value}(r:Vals [x,y] us):∃u w',us=[u,w']∧RelV x u∧RelV y w':=by
 cases r with
 |cons r1 r2=>
  cases r2 with
  |cons r3 r4=>cases r4;exact⟨_,_,rfl,r1,r3⟩
theorem kiY(hc:X.calm=true):CallR X (.builtin "max") (fun xs H Q=>∃i j,xs=[.int i, .int j]∧Q (.int (if j > i then j else i)) H):=by
 intro pins s σ H xs us Q I r h
 obtain⟨i,j,rfl,q⟩:=h
 obtain⟨u,w',rfl,⟨t,rfl⟩,⟨t',rfl⟩⟩:=vals2 r
 refine max_two_ints (I.ok.hd hc) fun h' tk k=>⟨_,H,I.kept k,?_,q⟩
 by_cases hj:j > i
 ·rw[if_pos hj,if_pos hj];exact⟨_,rfl⟩
 ·rw[if_neg hj,if_neg hj];exact⟨_,rfl⟩
theorem kfM(hc:X.calm=true):CallR X (.builtin "min") (fun xs H Q=>∃i j,xs=[.int i, .int j]∧Q (.int (if j<i then j else i)) H):=by
 intro pins s σ H xs us Q I r h
 obtain⟨i,j,rfl,q⟩:=h
 obtain⟨u,w',rfl,⟨t,rfl⟩,⟨t',rfl⟩⟩:=vals2 r
 refine min_two_ints (I.ok.hd hc) fun h' tk k=>⟨_,H,I.kept k,?_,q⟩
 by_cases hj:j<i
 ·rw[if_pos hj,if_pos hj];exact⟨_,rfl⟩
 ·rw[if_neg hj,if_neg hj];exact⟨_,rfl⟩
theorem kiZ:CallR X (.type "int") (fun xs H Q=>(∃i,xs=[.int i]∧Q (.int i) H)∨∃k,xs=[.bl k]∧Q (.int (if k then 1 else 0)) H):=by
 intro pins s σ H xs us Q I r h
 rcases h with⟨i,rfl,q⟩|⟨k,rfl,q⟩
 ·obtain⟨u,rfl,t,rfl⟩:=vals1 r
  exact call_int_int ⟨.int i,H,I,⟨_,rfl⟩,q⟩
 ·obtain⟨u,rfl,r1⟩:=vals1 r
  cases r1
  exact call_int_bool ⟨.int (if k then 1 else 0),H,I.tok _,⟨_,rfl⟩,q⟩
end
end L2
namespace L2
open PySem PySem.Spec PyProof.Rows
structure ObjM (h:Heap) (x dx C:Addr) (mA:Str→Option Value):Prop where
 obj:h.get? x=some (JB C dx)
 ns:h.Ns1 dx mA
 ne:dx≠x
theorem kiq{h:Heap}{dx:Addr}{mA:Str→Option Value}(n:h.Ns1 dx mA):∃od,h.get? dx=some od∧∀name,Nd name od=some (mA name):=by
 obtain⟨o,es,ep,ho,hd,hk,_,hm⟩:=n
 refine⟨o,ho,fun name=>?_⟩
 have e:=hm name
 unfold nsFind findBy at e
 rw[←Array.find?_toList] at e
 unfold Nd
 rw[hd]
 dsimp only
 split
 ·rename_i y q
  rw[q] at e
  exact congrArg some e
 ·rename_i q
  rw[q] at e
  have a:es.toList.any (·.refKey)=false:=by
   rw[List.any_eq_false]
   intro y hy
   obtain⟨z,t,hkey⟩:=hk y (Array.mem_toList_iff.mp hy)
   simp[DictEntry.refKey,hkey]
  have a':¬es.toList.any (·.refKey)=true:=by rw[a];exact UA
  rw[if_neg a']
  exact congrArg some e
theorem ObjM.look{h:Heap}{x dx C:Addr}{mA:Str→Option Value}(I:ObjM h x dx C mA):∃od,PySem.W.InstAt h x (JB C dx) C (some od)∧∀name,Nd name od=some (mA name):=
 let⟨od,ho,hl⟩:=kiq I.ns
 ⟨od,⟨I.obj,rfl,rfl,ho⟩,hl⟩
section
variable {prog:Program} {w:World} {A:Around} {E:Value→Shared→Prop} {s:Shared} {K:Uv} {x dx C f:Addr} {mA:Str→Option Value} {name:Str} {v:Value}
theorem get_map{expr:Bool}{Q:Value→Shared→Prop}(X:K.In s.heap)(I:ObjM s.heap x dx C mA)(hg:U5 K C name=true)(hh:U8 K C=true)
  (ha:Ux K (.ref C) name=some none) (hv:mA name=some v) (hv':PySem.W.handedIn v=true) (h:Q v {s with toks:=s.toks+1}):
  wpAny (model prog w) A (getAttr (.ref x) name expr) Q E s:=by
 obtain⟨od,J,hl⟩:=I.look
 exact PySem.W.get_value X J (NN hg).1 (PySem.W.findObj_own hh ha rfl (by rw[hl,hv])) hv' h
theorem kjG{pl:Sem Bool}{Q:Value×List Value→Shared→Prop}(X:K.In s.heap)(I:ObjM s.heap x dx C mA)(hg:U5 K C name=true)
  (hf:Ux K (.ref C) name=some (some (.ref f))) (ht:U9 K (.ref f)=true) (hv:mA name=none) (h:Q (.ref f,[.ref x]) s):
  wpAny (model prog w) A (getMethod (.ref x) name pl) Q E s:=by
 obtain⟨od,J,hl⟩:=I.look
 exact PySem.W.method_fn X J (NN hg).1 (NN hg).2 hf (beq_iff_eq.mp ht) (by show(Nd name od).map (·.isSome)=some false;rw[hl,hv];rfl) h
theorem kkF{ns:List Str}{Q:Unit→Shared→Prop}(X:K.In s.heap)(I:ObjM s.heap x dx C mA)
  (hs:Ux K (.ref C) "__setattr__"=some (some (.builtin "object.__setattr__"))) (hp:Jf K C=true) (ht:NO K C name=some none) (hh:U8 K C=true)
  (hw:PySem.Within mA ns) (hsz:ns.length≤sizeLine)
  (h:∀h',ObjM h' x dx C (fun y=>if y=name then some v else mA y)→Heap.SameBut dx s.heap h'→Q () {s with heap:=h',toks:=s.toks+2}):
  wpAny (model prog w) A (setAttr (.ref x) name v) Q E s:=by
 obtain⟨od,J,hl⟩:=I.look
 refine PySem.W.set_plain X J hs (PySem.W.osa_open (s:={s with toks:=s.toks+1}) (r:=none) X J hp ht fun b=>?_)
 obtain⟨cd,hc,hd'⟩:=PySem.W.any_some hh
 have hx:s.heap.get? x=some ⟨.ref C,some dx, .plain,#[]⟩:=I.obj
 refine wpAny_bind (wpAny_pure (wpAny_bind (wpAny_bind (wpAny_loadPart hx (wpAny_bind (PySem.W.Looks.here (s:={s with toks:=s.toks+1}) (PySem.W.looks_clsIn X hc) ?_))))))
 rw[hd']
 refine wpAny_pure (a:=some dx) (wpAny_bind (wpAny_pure (wpAny_bind ?_)))
 refine wpAny_nsSet1 (s:={s with toks:=s.toks+1}) I.ns fun h' hn2 hs2=>?_
 obtain⟨oD,esD,epD,hoD,hdD,hcD⟩:=hn2.count (PySem.Within.cons name v hw)
 refine wpAny_bind (wpAny_lookBehind hoD (by rw[hdD];exact pastItsLine_dict (Uy hcD (by rw[Jg];omega))) ?_)
 exact wpAny_pure (h _ ⟨(hs2.2 _ (Ne.symm I.ne)).trans I.obj,hn2,I.ne⟩ hs2)
theorem kjy{R:Result→Shared→Prop}{vs:List Value}{kw:List (Str×Value)}(X:K.In s.heap)(hm:Ja K C=true)
  (hi:Ux K (.ref C) "__init__"=some (some (.ref f))) (hf:U6 K (.ref f)=some (.type "function"))
  (h:codeAny (model prog w) (A.under (.builtin "type.__call__" ⟨.ref C::vs,kw⟩)) (.call (.ref f) ⟨.ref (s.heap.objs.size+1)::vs,kw⟩) (PySem.W.InitBack (s.heap.objs.size+1) R)
   {s with heap:=(s.heap.push Ju).push (JB C s.heap.objs.size)}):
  codeAny (model prog w) A (.call (.ref C) ⟨vs,kw⟩) R s:=by
 obtain⟨hh,g,d,t,os⟩:=s
 exact PySem.W.make_core (PySem.W.makes_of X hm) (PySem.W.looks_findIn X hi) (fun self=>PySem.W.bind_fn X self hf) (.inl rfl) h
end
noncomputable def putF(f:Str)(v:V):List (Str×V)→List (Str×V)
 |[]=>[(f,v)]
 |(g,x)::r=>if g=f then(g,v)::r else(g,x)::putF f v r
theorem kab(f g:Str)(v:V):∀fs:List (Str×V),(putF f v fs).lookup g=if g=f then some v else fs.lookup g
 | []=>by
  show Jn g [(f,v)]=_
  by_cases h:g=f
  ·have hb:(g==f)=true:=beq_iff_eq.mpr h
   simp only[Jn,hb,if_pos h]
  ·have hb:(g==f)=false:=beq_eq_false_iff_ne.mpr h
   simp only[Jn,hb,if_neg h]
 | (k,x)::r=>by
  have ih:=kab f g v r
  rw[show putF f v ((k,x)::r)=(if k=f then(k,v)::r else(k,x)::putF f v r) from rfl]
  by_cases hk:k=f
  ·rw[if_pos hk]
   by_cases h:g=k
   ·have hb:(g==k)=true:=beq_iff_eq.mpr h
    simp only[Jn,hb,if_pos (h.trans hk)]
   ·have hb:(g==k)=false:=beq_eq_false_iff_ne.mpr h
    simp only[Jn,hb,if_neg (fun e:g=f=>h (e.trans hk.symm))]
  ·rw[if_neg hk]
   by_cases h:g=k
   ·have hb:(g==k)=true:=beq_iff_eq.mpr h
    simp only[Jn,hb,if_neg (fun e:g=f=>hk (h.symm.trans e))]
   ·have hb:(g==k)=false:=beq_eq_false_iff_ne.mpr h
    simp only[Jn,hb]
    exact ih
theorem kd2(f:Str)(v:V):∀fs:List (Str×V),f∈(putF f v fs).map (·.1)∧∀g,g∈fs.map (·.1)→g∈(putF f v fs).map (·.1)
 |[]=>⟨by simp[putF],fun g h=>by simp at h⟩
 | (k,x)::r=>by
  obtain⟨i1,i2⟩:=kd2 f v r
  rw[show putF f v ((k,x)::r)=(if k=f then(k,v)::r else(k,x)::putF f v r) from rfl]
  by_cases hk:k=f
  ·rw[if_pos hk]
   subst hk
   exact⟨by simp,fun g h=>by simpa using h⟩
  ·rw[if_neg hk]
   refine⟨?_,fun g h=>?_⟩
   ·rw[UQ]
    exact US _ i1
   ·rw[UQ] at h⊢
    rcases UO.mp h with e|e
    ·exact UO.mpr (.inl e)
    ·exact US _ (i2 g e)
theorem kd1(f:Str)(v:V):∀fs:List (Str×V),(putF f v fs).length≤fs.length+1
 |[]=>by simp[putF]
 |(k,x)::r=>by
  have ih:=kd1 f v r
  rw[show putF f v ((k,x)::r)=(if k=f then(k,v)::r else(k,x)::putF f v r) from rfl]
  by_cases hk:k=f
  ·rw[if_pos hk,Jg,Jg];omega
  ·rw[if_neg hk,Jg,Jg];omega
theorem RelO.some_of{v:V}{o:Option Value}(r:RelO (some v) o):∃u,o=some u∧RelV v u:=by
 cases o with
 |none=>exact(show False from r).elim
 |some u=>exact⟨u,rfl,r⟩
theorem RelO.none_of{o:Option Value}(r:RelO none o):o=none:=by
 cases o with
 |none=>rfl
 |some u=>exact(show False from r).elim
theorem kiC{v:V}{u:Value}(r:RelV v u):PySem.W.handedIn u=true:=by
 cases v with
 |non=>cases(show u=Value.none from r);rfl
 |bl b=>cases(show u=Value.bool b from r);rfl
 |int i=>obtain⟨t,e⟩:=(show ∃t,u=Value.int i t from r);cases e;rfl
 |str x=>obtain⟨t,e⟩:=(show ∃t,u=Value.str x t from r);cases e;rfl
 |byt b=>obtain⟨t,e⟩:=(show ∃t,u=Value.bytes b t from r);cases e;rfl
 |flt b=>obtain⟨t,e⟩:=(show ∃t,u=Value.float b t from r);cases e;rfl
 |ref a=>cases(show u=Value.ref a from r);rfl
 |ty n=>cases(show u=Value.type n from r);rfl
section
variable {P:Program} {w:World} {H H':Hp} {h h':Heap} {a C dx:Addr} {fs fs':List (Str×V)}
theorem keZ(hok:HOk P w H h)(e:H a=some (.ins C dx fs)):∃mA,ObjM h a dx C mA∧(∀f,RelO (fs.lookup f) (mA f))∧PySem.Within mA (fs.map (·.1))∧fs.length≤1000∧H dx=some (.own a):=by
 obtain⟨d,z,ne,ob,mA,n,r,q⟩:=(show ObjOk P w H h a (.ins C dx fs) from hok a _ e)
 exact⟨mA,⟨ob,n,ne⟩,r,q,z,d⟩
end
structure Cls (K:Uv) (C:Addr):Prop where
 pg:U5 K C Str.empty=true
 hd:U8 K C=true
 po:Jf K C=true
 sa:Ux K (.ref C) "__setattr__"=some (some (.builtin "object.__setattr__"))
theorem Cls.get{K:Uv}{C:Addr}(c:Cls K C)(f:Str):U5 K C f=true:=c.pg
noncomputable def NoAttr(K:Uv)(C:Addr)(f:Str):Prop:=Ux K (.ref C) f=some none
theorem NoAttr.taker{K:Uv}{C:Addr}{f:Str}(n:NoAttr K C f):NO K C f=some none:=by
 unfold NO
 rw[show Ux K (.ref C) f=some none from n]
 rfl
structure Meth (K:Uv) (C:Addr) (m:Str) (f:Addr):Prop where
 at_:Ux K (.ref C) m=some (some (.ref f))
 fn:U9 K (.ref f)=true
 kp:UJ K (.ref f)=true
section
variable {X:Cx} {pins:List (Addr×Obj)} {σ:St} {H:Hp} {s:Shared} {a C dx:Addr} {fs:List (Str×V)} {f:Str} {v:V} {A:Around} {E:Value→Shared→Prop}
theorem kho{b:Bool}{Q:Value→Shared→Prop}(I:Inv X pins σ H s)(e:H a=some (.ins C dx fs))(c:Cls X.K C)(n:NoAttr X.K C f)(l:fs.lookup f=some v)
  (h:∀u s',Inv X pins σ H s'→RelV v u→Q u s'):wpAny (model X.prog X.w) A (getAttr (.ref a) f b) Q E s:=by
 obtain⟨mA,O,r,_,_,_⟩:=keZ I.hok e
 obtain⟨u,hu,ru⟩:=RelO.some_of (v:=v) (o:=mA f) (by rw[←l];exact r f)
 exact get_map I.kIn O (c.get f) c.hd n hu (kiC ru) (h u _ (I.tok _) ru)
theorem ker{m:Str}{g:Addr}{pl:Sem Bool}{Q:Value×List Value→Shared→Prop}(I:Inv X pins σ H s)(e:H a=some (.ins C dx fs))(c:Cls X.K C)(k:Meth X.K C m g)(l:fs.lookup m=none)
  (h:Q (.ref g,[.ref a]) s):wpAny (model X.prog X.w) A (getMethod (.ref a) m pl) Q E s:=by
 obtain⟨mA,O,r,_,_,_⟩:=keZ I.hok e
 have hn:mA m=none:=RelO.none_of (by rw[←l];exact r m)
 exact kjG I.kIn O (c.get m) k.at_ k.fn hn h
theorem khb{y:V}{u:Value}{Q:Unit→Shared→Prop}(I:Inv X pins σ H s)(e:H a=some (.ins C dx fs))(c:Cls X.K C)(n:NoAttr X.K C f)(hl:fs.length<1000)(ry:RelV y u)
  (h:∀s',Inv X pins σ (upd H a (.ins C dx (putF f y fs))) s'→Q () s'):wpAny (model X.prog X.w) A (setAttr (.ref a) f u) Q E s:=by
 obtain⟨mA,O,r,wi,_,ho⟩:=keZ I.hok e
 have hz:(fs.map (·.1)).length≤sizeLine:=by rw[Uu,sizeLine_eq];omega
 refine kkF I.kIn O c.sa c.po n.taker c.hd wi hz fun h' O' sb=>h _ ?_
 have hd:∃o,h'.get? dx=some o:=let⟨o,_,_,e',_⟩:=O'.ns;⟨o,e'⟩
 refine I.write (x:=a) (e:=dx) (by rw[e];exact True.intro) (.inr ho) (fun b q hb z=>(sb.2 b hb).trans z) hd ?_
 refine⟨by rw[kak O.ne];exact ho,?_,O.ne,O'.obj,_,O'.ns,fun g=>?_,fun g hg=>?_⟩
 ·have:=kd1 f y fs;omega
 ·show RelO ((putF f y fs).lookup g) (if g=f then some u else mA g)
  rw[kab]
  by_cases q:g=f
  ·rw[if_pos q,if_pos q];exact ry
  ·rw[if_neg q,if_neg q];exact r g
 ·by_cases q:g=f
  ·rw[q];exact(kd2 f y fs).1
  ·refine(kd2 f y fs).2 g (wi g fun z=>hg ?_)
   show(if g=f then some u else mA g)=none
   rw[if_neg q];exact z
theorem Inv.made(I:Inv X pins σ H s):Inv X pins σ (upd (upd H s.heap.objs.size (.own (s.heap.objs.size+1))) (s.heap.objs.size+1) (.ins C s.heap.objs.size []))
  {s with heap:=(s.heap.push Ju).push (JB C s.heap.objs.size)}:=by
 have e1:(s.heap.push Ju).get? s.heap.objs.size=some Ju:=Heap.get?_push_size s.heap rfl
 have e2:((s.heap.push Ju).push (JB C s.heap.objs.size)).get? (s.heap.objs.size+1)=some (JB C s.heap.objs.size):=by
  have:=Heap.get?_push_size (s.heap.push Ju) (o:=JB C s.heap.objs.size) rfl
  rwa [Heap.size_push] at this
 have e3:(s.heap.push Ju).Ns s.heap.objs.size (fun _=>none):=⟨Ju,#[],_,e1,rfl,(fun e he=>absurd he (by simp)),fun _=>rfl⟩
 have I1:=I.laid (a:=s.heap.objs.size) (o:=.own (s.heap.objs.size+1)) (h':=s.heap.push Ju) (t':=s.toks) (fun b u q=>Heap.get?_push_of_some _ q) (Uw _) ⟨_,e1⟩
 refine I1.laid (a:=s.heap.objs.size+1) (o:=.ins C s.heap.objs.size []) (t':=s.toks) (fun b u q=>Heap.get?_push_of_some _ q) (Nf (Heap.size_push _ _)) ?_
 have ne:s.heap.objs.size≠s.heap.objs.size+1:=UV (NP _)
 refine⟨by rw[kak ne,kac],U1 _,ne,e2,fun _=>none,(Heap.Ns1.of_empty e3).at fun o q=>Heap.get?_push_of_some _ q,fun _=>True.intro,fun y hy=>absurd rfl hy⟩
theorem kk6{prog:Program}{w:World}{env:Env}{e:Expr}{f:Str}{pos:Pos}{s:Shared}{Q:Value→Shared→Prop}(hb:attributeBase e f env (eval e env)=eval e env)
  (h:wpAny (model prog w) A (eval e env) (fun o s₁=>wpAny (model prog w) A (getAttr o f true) Q E s₁) E s):wpAny (model prog w) A (eval (.Attribute e f pos) env) Q E s:=
 Attribute_any_ h (by rw[arm_eval_Attribute,hb])
end
noncomputable def tFld(K:Uv)(ta:TE)(f:Str):TE:=fun σ H Q=>ta σ H fun x H1=>∃a C dx fs v,x=.ref a∧H1 a=some (.ins C dx fs)∧Cls K C∧NoAttr K C f∧fs.lookup f=some v∧Q v H1
noncomputable def sFld(K:Uv)(ta tv:TE)(f:Str):TS:=fun D σ H=>tv σ H fun y H1=>ta σ H1 fun x H2=>∃a C dx fs,x=.ref a∧H2 a=some (.ins C dx fs)∧Cls K C∧NoAttr K C f∧fs.length<1000∧
 D.nx σ (upd H2 a (.ins C dx (putF f y fs)))
section
variable {X:Cx} {o e value:Expr} {f:Str} {pos pos' tpos:Pos} {ta tv:TE}
theorem klm(he:PE X e ta)(hb:attributeBase e f X.env (eval e X.env)=eval e X.env):PE X (.Attribute e f pos) (tFld X.K ta f):=by
 intro pins s σ H Q I h
 refine kk6 hb (thn (he pins s σ H _ I h) fun u s1 ⟨x,H1,I1,rx,a,C,dx,fs,v,ex,ea,c,n,l,q⟩=>?_)
 subst ex
 obtain rfl:u=Value.ref a:=rx
 exact kho I1 ea c n l fun u' s2 I2 ru=>⟨v,H1,I2,ru,q⟩
theorem kaL(ha:PE X o ta)(hv:PE X value tv)(hs:swapsWith value (some (.Attribute o f pos')) pos.line X.env=pure false):PS X (.Assign [.Attribute o f pos'] value pos) (sFld X.K ta tv f):=by
 intro pins s σ H D I h
 refine plainObj_wpAny_Assign_Attribute (thn (hv pins s σ H _ I h) fun u s1 ⟨y,H1,I1,ry,q⟩=>thn (ha pins s1 σ H1 _ I1 q) fun ov s2 ⟨x,H2,I2,rx,a,C,dx,fs,ex,ea,c,n,l,q2⟩=>?_) hs
 subst ex
 obtain rfl:ov=Value.ref a:=rx
 exact khb I2 ea c n l ry fun s3 I3=>⟨σ,_,I3,q2⟩
end
section
variable {X:Cx} {pins:List (Addr×Obj)} {σ:St} {H:Hp} {s:Shared} {A:Around} {E:Value→Shared→Prop} {Q:Value→Shared→Prop} {c:Value} {b:Bool}
inductive TyOf (K:Uv) (H:Hp):V→Value→Prop where
 |non:TyOf K H .non (.type "NoneType")
 |bl (x:Bool):TyOf K H (.bl x) (.type "bool")
 |int (i:Int):TyOf K H (.int i) (.type "int")
 |str (x:Str):TyOf K H (.str x) (.type "str")
 |flt (x:UInt64):TyOf K H (.flt x) (.type "float")
 |lst {a:Addr} {xs:List V} (e:H a=some (.lst xs)):TyOf K H (.ref a) (.type "list")
 |frz {a:Addr} {o:Obj} {xs:List V} (e:H a=some (.frz o (.lst xs))):TyOf K H (.ref a) (.type "list")
 |tup {a:Addr} {xs:List V} (e:H a=some (.tup xs)):TyOf K H (.ref a) (.type "tuple")
 |dK {a:Addr} {kvs:List (Key×V)} (e:H a=some (.dK kvs)):TyOf K H (.ref a) (.type "dict")
 |dT {a:Addr} {kvs:List (List Key×V)} (e:H a=some (.dT kvs)):TyOf K H (.ref a) (.type "dict")
 | ins {a C dx:Addr} {fs:List (Str×V)} (e:H a=some (.ins C dx fs)) (cl:Cls K C) (ha:Ux K (.ref C) "__class__"=some (some (.builtin "object.__class__")))
   (hn:JW K (.builtin "object.__class__") "__get__"=some (some (.builtin "getset_descriptor.__get__"))) (htk:NQ K (.builtin "object.__class__")=some true)
   (hm:UC K C (.type "object")=some true):TyOf K H (.ref a) (.ref C)
theorem kix{x:V}{u t:Value}(I:Inv X pins σ H s)(rx:RelV x u)(ty:TyOf X.K H x t)(e:UK X.K t c=some b)(h:∀tk,Q (.bool b) {s with toks:=tk}):
  wpAny (model X.prog X.w) A (call (.builtin "isinstance") [u,c]) Q E s:=by
 cases ty with
 |non=>cases(show u=Value.none from rx);exact Jo PySem.W.kitx_none I.kIn True.intro e (fun z=>nomatch z) h
 |bl y=>cases(show u=Value.bool y from rx);exact Jo PySem.W.kitx_bool I.kIn True.intro e (fun z=>nomatch z) h
 |int i=>obtain⟨t,q⟩:=(show ∃t,u=Value.int i t from rx);cases q;exact Jo PySem.W.kitx_int I.kIn True.intro e (fun z=>nomatch z) h
 |str y=>obtain⟨t,q⟩:=(show ∃t,u=Value.str y t from rx);cases q;exact Jo PySem.W.kitx_str I.kIn True.intro e (fun z=>nomatch z) h
 |flt y=>obtain⟨t,q⟩:=(show ∃t,u=Value.float y t from rx);cases q;exact Jo PySem.W.kitx_float I.kIn True.intro e (fun z=>nomatch z) h
 | @lst a xs ea=>
  cases(show u=Value.ref a from rx)
  obtain⟨_,_,n,_,h1⟩:=(show ObjOk X.prog X.w H s.heap a (.lst xs) from I.hok a _ ea)
  exact Jo PySem.W.kitx_list I.kIn ⟨_,h1,rfl⟩ e (fun z=>nomatch z) h
 | @frz a ob xs ea=>
  cases(show u=Value.ref a from rx)
  obtain⟨_,_,_,n,_,h1⟩:=(show ObjOk X.prog X.w H s.heap a (.frz ob (.lst xs)) from I.hok a _ ea)
  exact Jo PySem.W.kitx_list I.kIn ⟨_,h1,rfl⟩ e (fun z=>nomatch z) h
 | @tup a xs ea=>
  cases(show u=Value.ref a from rx)
  obtain⟨_,_,_,p⟩:=(show ObjOk X.prog X.w H s.heap a (.tup xs) from I.hok a _ ea)
  obtain⟨o,h1,h2,_⟩:=p
  exact Jo PySem.W.kitx_tuple I.kIn ⟨o,h1,h2⟩ e (fun z=>nomatch z) h
 | @dK a kvs ea=>
  cases(show u=Value.ref a from rx)
  obtain⟨_,_,vs,_,p⟩:=(show ObjOk X.prog X.w H s.heap a (.dK kvs) from I.hok a _ ea)
  obtain⟨o,es,ep,h1,h2,_⟩:=p
  exact Jo PySem.W.kitx_dict I.kIn ⟨o,h1,h2.1⟩ e (fun z=>nomatch z) h
 | @dT a kvs ea=>
  cases(show u=Value.ref a from rx)
  obtain⟨_,_,xs,_,o,es,ep,h1,h2,_⟩:=(show ObjOk X.prog X.w H s.heap a (.dT kvs) from I.hok a _ ea)
  exact Jo PySem.W.kitx_dict I.kIn ⟨o,h1,h2.1⟩ e (fun z=>nomatch z) h
 | @ins a C dx fs ea cl ha hn htk hm=>
  cases(show u=Value.ref a from rx)
  obtain⟨mA,O,_⟩:=keZ I.hok ea
  obtain⟨od,J,_⟩:=O.look
  exact Jo (PySem.W.kitx_own (cl.get _) cl.hd ha hn htk hm) I.kIn J e (fun z=>nomatch z) h
end
end L2
namespace L2
open PySem PySem.Spec PyProof.Rows
structure Room (k:Nat) (A:Around):Prop where
 hd:A.handled=none
 dp:A.depth+3*k+5<recursionLimit
 un:A.units+16*k+200<cLine
theorem Room.mono{j k:Nat}{A:Around}(r:Room k A)(h:j≤k):Room j A:=⟨r.hd,by have:=r.dp;omega,by have:=r.un;omega⟩
theorem Room.deeper{k:Nat}{A:Around}(r:Room (k+1) A)(env:Env):Room k (A.deeper env):=
 ⟨r.hd,by have:=r.dp;show A.depth+1+3*k+5<_;omega,by have:=r.un;show A.units+3+16*k+200<_;omega⟩
theorem Room.in1{k:Nat}{A:Around}(r:Room (k+1) A):Room k A.in1:=
 ⟨r.hd,by have:=r.dp;show A.depth+3*k+5<_;omega,by have:=r.un;show A.units+1+16*k+200<_;omega⟩
theorem khm{A:Around}{C:Addr}{us:List Value}{kw:List (Str×Value)}:(A.under (.builtin "type.__call__" ⟨.ref C::us,kw⟩)).depth=A.depth+1:=by
 first|rfl|simp[Around.under,Code.weight,Code.isCreation,Code.isGuard,Code.isCaller,Code.frames,Code.isFrame,guardIds]
theorem khl{A:Around}{C:Addr}{us:List Value}{kw:List (Str×Value)}:(A.under (.builtin "type.__call__" ⟨.ref C::us,kw⟩)).units=A.units+1:=by
 first|rfl|simp[Around.under,Code.cUnits,Code.frames,Code.isFrame]
theorem Room.make{k:Nat}{A:Around}(r:Room (k+1) A)(C:Addr)(us:List Value)(kw:List (Str×Value)):Room k (A.under (.builtin "type.__call__" ⟨.ref C::us,kw⟩)):=
 ⟨r.hd,by have:=r.dp;rw[khm];omega,by have:=r.un;rw[khl];omega⟩
theorem Room.depth{k:Nat}{A:Around}(r:Room k A):A.depth<recursionLimit:=by have:=r.dp;omega
theorem Room.units{k:Nat}{A:Around}(r:Room k A):A.units+64<cLine:=by have:=r.un;omega
noncomputable def tNil:TA:=fun _ H Q=>Q [] H
noncomputable def tCons(ta:TE)(tr:TA):TA:=fun σ H Q=>ta σ H fun x H1=>tr σ H1 fun xs H2=>Q (x::xs) H2
section
variable {X:Cx} {e:Expr} {es:List Expr} {te:TE} {t:TA} {pos:Pos}
theorem kae:PA X [] tNil:=fun _ _ _ _ H Q I h=>Calls.spliced_nil ⟨[],H,I, .nil,h⟩
theorem kaa(ha:PE X e te)(hr:PA X es t)(hs:starEach (e::es) X.env=(false,eval e X.env)::starEach es X.env:=by rfl):PA X (e::es) (tCons te t):=by
 intro pos pins s σ H Q I h
 rw[hs]
 show wpAny _ _ (spliced ((false,eval e X.env)::backTo pos (starEach es X.env))) _ _ s
 refine Calls.spliced_cons (thn (ha pins s σ H _ I h) fun u s1 ⟨x,H1,I1,r1,q1⟩=>?_)
 exact thn (hr pos pins s1 σ H1 _ I1 q1) fun us s2 ⟨xs,H2,I2,r2,q2⟩=>⟨x::xs,H2,I2, .cons r1 r2,q2⟩
noncomputable def tTup(t:TA):TE:=fun σ H Q=>t σ H fun xs H1=>xs.length≤sizeLine∧∀p,H1 p=none→Q (.ref p) (upd H1 p (.tup xs))
noncomputable def tLst(t:TA):TE:=fun σ H Q=>t σ H fun xs H1=>xs.length≤sizeLine∧∀p,H1 p=none→Q (.ref p) (upd H1 p (.lst xs))
theorem ka9{x1}(h:PA X es t):PE X (.Tuple es x1 pos) (tTup t):=by
 intro pins s σ H Q I hq
 refine wpAny_Tuple_spliced (thn (h pos pins s σ H _ I hq) fun us s1 ⟨xs,H1,I1,r,z,q⟩=>⟨by rw[←r.length];exact z,?_⟩)
 have hf:H1 s1.heap.objs.size=none:=I1.hok.fresh (Uw _)
 refine⟨.ref s1.heap.objs.size,upd H1 s1.heap.objs.size (.tup xs),I1.laid (t':=s1.toks) (fun b u e=>Heap.get?_push_of_some _ e) (Uw _) ?_,rfl,q _ hf⟩
 exact⟨z,us,r,⟨_,Heap.get?_push_size _ rfl,rfl,_,rfl⟩⟩
theorem kaI(h:PA X es t):PE X (.List es pos) (tLst t):=by
 intro pins s σ H Q I hq
 refine wpAny_List_spliced (thn (h pos pins s σ H _ I hq) fun us s1 ⟨xs,H1,I1,r,z,q⟩=>⟨by rw[←r.length];exact z,?_⟩)
 have hf:H1 s1.heap.objs.size=none:=I1.hok.fresh (Uw _)
 refine⟨.ref s1.heap.objs.size,upd H1 s1.heap.objs.size (.lst xs),I1.laid (t':=s1.toks) (fun b u e=>Heap.get?_push_of_some _ e) (Uw _) ?_,rfl,q _ hf⟩
 exact⟨z,us,0,r,Heap.get?_push_size _ rfl⟩
end
noncomputable abbrev Sp:=List V→Hp→VK→XK→Prop
noncomputable abbrev CXT:=List Env→Hp→Shared→XK→Value→Shared→Prop
structure Env0 (P:Program) (w:World) (K:Uv) (mg:Str→Option Value) (base:Heap) (A:Around) (outer:List Env) (s:Shared) (H:Hp):Prop where
 frames:A.frames=some outer
 mod:Mod K mg base
 bs:∀b o,base.get? b=some o→s.heap.get? b=some o∧H b=none
 bsz:base.objs.size≤s.heap.objs.size
 funs:s.heap.FunFrames base outer
 frf:∀b∈frs outer,H b=none
 hok:HOk P w H s.heap
 bare:AllBare s.gens
noncomputable def CE(outer:List Env)(P:Program)(w:World)(H:Hp)(s:Shared)(Q:VK)(u:Value)(s':Shared):Prop:=
 ∃v H',s'.os=s.os∧AllBare s'.gens∧Un (frs outer) [] H H' s.heap s'.heap∧HOk P w H' s'.heap∧RelV v u∧Q v H'
noncomputable def CR(CX:CXT)(outer:List Env)(P:Program)(w:World)(H:Hp)(s:Shared)(Q:VK)(E:XK)(r:Result)(s':Shared):Prop:=
 match r with
 | .ok (.ret u)=>CE outer P w H s Q u s'
 | .ok _=>False
 | .error e=>CX outer H s E e s'
structure FnOk (P:Program) (w:World) (K:Uv) (mg:Str→Option Value) (base:Heap) (CX:CXT) (k:Nat) (f:Addr) (fd:FuncData) (ps:List Str) (sp:Sp):Prop where
 len:∀vs H Q E,sp vs H Q E→vs.length=ps.length
 run:∀(A:Around) (outer:List Env) (s:Shared) (H:Hp) (args:Args) (us:List Value) (vs:List V) (Q:VK) (E:XK),Room k A→Env0 P w K mg base A outer s H→BindsTo s fd args (ps.zip us)→Vals vs us→sp vs H Q E→
  codeAny (model P w) A (.call (.ref f) args) (CR CX outer P w H s Q E) s
theorem FnOk.mono{P:Program}{w:World}{K:Uv}{mg:Str→Option Value}{base:Heap}{CX:CXT}{j k:Nat}{f:Addr}{fd:FuncData}{ps:List Str}{sp:Sp}(F:FnOk P w K mg base CX j f fd ps sp)(h:j≤k):
  FnOk P w K mg base CX k f fd ps sp:=⟨F.len,fun A outer s H args us vs Q E hr=>F.run A outer s H args us vs Q E (hr.mono h)⟩
theorem FnOk.imp{P:Program}{w:World}{K:Uv}{mg:Str→Option Value}{base:Heap}{CX:CXT}{k:Nat}{f:Addr}{fd:FuncData}{ps:List Str}{sp sp':Sp}(F:FnOk P w K mg base CX k f fd ps sp)
  (h:∀vs H Q E,sp' vs H Q E→sp vs H Q E):FnOk P w K mg base CX k f fd ps sp':=
 ⟨fun vs H Q E q=>F.len vs H Q E (h _ _ _ _ q),fun A outer s H args us vs Q E hr he hb hv hs=>F.run A outer s H args us vs Q E hr he hb hv (h _ _ _ _ hs)⟩
theorem Env0.make{P:Program}{w:World}{K:Uv}{mg:Str→Option Value}{base:Heap}{A:Around}{outer:List Env}{s:Shared}{H:Hp}(e:Env0 P w K mg base A outer s H)(C:Addr)(us:List Value)(kw:List (Str×Value)):
  Env0 P w K mg base (A.under (.builtin "type.__call__" ⟨.ref C::us,kw⟩)) outer s H:=⟨by first|exact e.frames|(simpa[Around.under,Code.envs,Code.isFrame,pushEnvs] using e.frames),e.mod,e.bs,e.bsz,e.funs,e.frf,e.hok,e.bare⟩
theorem Env0.in1{P:Program}{w:World}{K:Uv}{mg:Str→Option Value}{base:Heap}{A:Around}{outer:List Env}{s:Shared}{H:Hp}(e:Env0 P w K mg base A outer s H):
  Env0 P w K mg base A.in1 outer s H:=⟨e.frames,e.mod,e.bs,e.bsz,e.funs,e.frf,e.hok,e.bare⟩
section
variable {X:Cx} {pins:List (Addr×Obj)} {σ:St} {H:Hp} {s s':Shared}
theorem Inv.env0(I:Inv X pins σ H s):Env0 X.prog X.w X.K X.mg X.base X.A X.stack s H:=
 ⟨I.ok.frames,I.ok.mod,I.bs,Uy I.ok.bsz I.sz,I.stack,I.stkFree,I.hok,I.bare⟩
theorem Inv.after{Q:VK}{u:Value}(I:Inv X pins σ H s)(h:CE X.stack X.prog X.w H s Q u s'):EP X pins σ Q u s':=by
 obtain⟨v,H',os,bare,un,hok,r,q⟩:=h
 obtain⟨hh,g,d,t,os'⟩:=s'
 obtain rfl:os'=s.os:=os
 exact⟨v,H',I.call (h':=hh) (g':=g) (d':=d) (t':=t) (ch:=[]) un hok bare (fun b z=>absurd z (by simp)),r,q⟩
end
noncomputable def tCall(sp:Sp)(dvs:List V)(E:XK)(t:TA):TE:=fun σ H Q=>t σ H fun vs H1=>sp (vs++dvs) H1 Q E
noncomputable def tMeth(C:Addr)(m:Str)(sp:Sp)(dvs:List V)(E:XK)(ta:TE)(t:TA):TE:=fun σ H Q=>ta σ H fun x H1=>∃a dx fs,x=.ref a∧H1 a=some (.ins C dx fs)∧fs.lookup m=none∧
 t σ H1 fun vs H2=>sp (x::(vs++dvs)) H2 Q E
noncomputable def tMake(C:Addr)(sp:Sp)(dvs:List V)(E:XK)(t:TA):TE:=fun σ H Q=>t σ H fun vs H1=>∀x dx,H1 x=none→H1 dx=none→dx≠x→
 sp (.ref x::(vs++dvs)) (upd (upd H1 dx (.own x)) x (.ins C dx [])) (fun v H2=>v=.non∧Q (.ref x) H2) E
noncomputable def Binds(K:Uv)(fd:FuncData)(ps:List Str)(ds:List Value):Prop:=
 ∀(s:Shared) (us:List Value),K.In s.heap→(us++ds).length=ps.length→BindsTo s fd ⟨us,[]⟩ (ps.zip (us++ds))
theorem Binds.all{K:Uv}{fd:FuncData}{ps:List Str}(h:∀us:List Value,us.length=ps.length→bindArgs fd ⟨us,[]⟩=pure (ps.zip us)):Binds K fd ps []:=fun s us _ hl=>by
 rw[Ng] at hl⊢
 exact .of_eq (h us hl)
noncomputable def kc0(CX:CXT)(X:Cx)(E:XK):Prop:=∀(pins:List (Addr×Obj)) (σ:St) (H:Hp) (s:Shared) (e:Value) (s':Shared),Inv X pins σ H s→CX X.stack H s E e s'→X.xe e s'
section
variable {X:Cx} {CX:CXT} {k:Nat} {f C:Addr} {fd:FuncData} {ps:List Str} {sp:Sp} {dvs:List V} {ds:List Value} {E:XK} {x m:Str} {p pos apos:Pos} {e o:Expr} {es:List Expr} {ta:TE} {t:TA}
theorem kgG{pins:List (Addr×Obj)}{σ:St}{H:Hp}{s:Shared}{Q:VK}{us:List Value}{vs:List V}(F:FnOk X.prog X.w X.K X.mg X.base CX k f fd ps sp)(hr:Room k X.A)(hb:Binds X.K fd ps ds)(hd:Vals dvs ds)(hx:kc0 CX X E)
  (I:Inv X pins σ H s) (r:Vals vs us) (h:sp (vs++dvs) H Q E):wpAny (model X.prog X.w) X.A (call (.ref f) us) (EP X pins σ Q) X.xe s:=by
 have r2:Vals (vs++dvs) (us++ds):=r.append hd
 have hl:(us++ds).length=ps.length:=by rw[←r2.length];exact F.len _ _ _ _ h
 refine wpAny_call (codeAny_mono (F.run X.A X.stack s H ⟨us,[]⟩ (us++ds) (vs++dvs) Q E hr I.env0 (hb s us I.kIn hl) r2 h) fun r s' hq=>?_)
 cases r with
 |error e=>exact hx pins σ H s e s' I hq
 |ok fl=>
  cases fl with
  |ret u=>exact I.after hq
  |next=>exact False.elim hq
  |brk=>exact False.elim hq
  |cont=>exact False.elim hq
theorem kan(F:FnOk X.prog X.w X.K X.mg X.base CX k f fd ps sp)(hr:Room k X.A)(hg:Gl X x)(hm:X.mg x=some (.ref f))(hk:UJ X.K (.ref f)=true)(hb:Binds X.K fd ps ds)(hd:Vals dvs ds)(hx:kc0 CX X E)
  (ha:PA X (e::es) t) (hdb:(x==("__debug__" :Str))=false:=by decide) (he:starEach (e::es) X.env=(false,eval e X.env)::starEach es X.env:=by rfl) (hpl:(backTo pos (starEach es X.env)).any (·.1)=false:=by rfl):
  PE X (.Call (.Name x p) (e::es) [] pos) (tCall sp dvs E t):=by
 intro pins s σ H Q I h
 refine wpAny_Call_Name_kw (keY I hg hm ?_ hdb)
 refine Nh (h₀:=X.base) I.ok.mod.kin hk (thn (ha pos pins s σ H _ I h) fun us s1 ⟨vs,H1,I1,r,q⟩=>⟨I1.kIn,?_⟩) he hpl
 exact kgG F hr hb hd hx I1 r q
theorem kga{pl:Sem Bool}(he:PE X o ta)(c:Cls X.K C)(hm:Meth X.K C m f)(F:FnOk X.prog X.w X.K X.mg X.base CX k f fd ps sp)(hr:Room k X.A)(hb:Binds X.K fd ps ds)(hd:Vals dvs ds)(hx:kc0 CX X E)(ha:PA X (e::es) t)
  (hst:starEach (e::es) X.env=(false,eval e X.env)::starEach es X.env:=by rfl) (hpl:(backTo pos (starEach es X.env)).any (·.1)=false:=by rfl)
  (ht:eval (.Call (.Attribute o m apos) (e::es) [] pos) X.env=(do
   let ov ←eval o X.env
   standAt apos.atName
   let(f,first) ←holding [ov] (getMethod ov m pl)
   callWith pos f first (backTo pos (starEach (e::es) X.env)) (backToKw pos (keywordEach [] X.env))):=by rfl):
  PE X (.Call (.Attribute o m apos) (e::es) [] pos) (tMeth C m sp dvs E ta t):=by
 intro pins s σ H Q I h
 refine NR (pl:=pl) (thn (he pins s σ H _ I h) fun u s1 ⟨x,H1,I1,rx,a,dx,fs,ex,ea,l,q⟩=>?_) ht
 subst ex
 obtain rfl:u=Value.ref a:=rx
 refine ker I1 ea c hm l ?_
 refine Nh (first:=[.ref a]) (h₀:=X.base) I.ok.mod.kin hm.kp (thn (ha pos pins s1 σ H1 _ I1 q) fun us s2 ⟨vs,H2,I2,r,q2⟩=>⟨I2.kIn,?_⟩) hst hpl
 exact kgG (us:=.ref a::us) (vs:=.ref a::vs) F hr hb hd hx I2 (.cons rfl r) q2
theorem kjk{pl:Sem Bool}(he:PE X o ta)(c:Cls X.K C)(hm:Meth X.K C m f)(F:FnOk X.prog X.w X.K X.mg X.base CX k f fd ps sp)(hr:Room k X.A)(hb:Binds X.K fd ps ds)(hd:Vals dvs ds)(hx:kc0 CX X E)
  (ht:eval (.Call (.Attribute o m apos) [] [] pos) X.env=(do
   let ov ←eval o X.env
   standAt apos.atName
   let(f,first) ←holding [ov] (getMethod ov m pl)
   callWith pos f first (backTo pos (starEach [] X.env)) (backToKw pos (keywordEach [] X.env))):=by rfl):
  PE X (.Call (.Attribute o m apos) [] [] pos) (tMeth C m sp dvs E ta tNil):=by
 intro pins s σ H Q I h
 refine NR (pl:=pl) (thn (he pins s σ H _ I h) fun u s1 ⟨x,H1,I1,rx,a,dx,fs,ex,ea,l,q⟩=>?_) ht
 subst ex
 obtain rfl:u=Value.ref a:=rx
 refine ker I1 ea c hm l ?_
 exact Ma (first:=[.ref a]) I1.kIn hm.kp (kgG (us:=[.ref a]) (vs:=[.ref a]) F hr hb hd hx I1 (.cons rfl .nil) q)
structure Mk (K:Uv) (C f:Addr):Prop where
 makes:Ja K C=true
 init:Ux K (.ref C) "__init__"=some (some (.ref f))
 fn:U9 K (.ref f)=true
 kp:UJ K (.ref C)=true
theorem kgF{pins:List (Addr×Obj)}{σ:St}{H:Hp}{s:Shared}{Q:VK}{us:List Value}{vs:List V}(M:Mk X.K C f)(F:FnOk X.prog X.w X.K X.mg X.base CX k f fd ps sp)(hr:Room (k+1) X.A)(hb:Binds X.K fd ps ds)(hd:Vals dvs ds)
  (hx:kc0 CX X E) (I:Inv X pins σ H s) (r:Vals vs us)
  (h:∀x dx,H x=none→H dx=none→dx≠x→sp (.ref x::(vs++dvs)) (upd (upd H dx (.own x)) x (.ins C dx [])) (fun v H2=>v=.non∧Q (.ref x) H2) E):
  wpAny (model X.prog X.w) X.A (call (.ref C) us) (EP X pins σ Q) X.xe s:=by
 have hq:=h (s.heap.objs.size+1) s.heap.objs.size (I.hok.fresh (Jv _)) (I.hok.fresh (Uw _)) (UV (NP _))
 have I2:=Inv.made (C:=C) I
 have r2:Vals (V.ref (s.heap.objs.size+1)::(vs++dvs)) (Value.ref (s.heap.objs.size+1)::(us++ds)):=.cons rfl (r.append hd)
 have hl:(Value.ref (s.heap.objs.size+1)::us++ds).length=ps.length:=by
  have e:=r2.length
  rw[F.len _ _ _ _ hq] at e
  exact e.symm
 refine wpAny_call (kjy (f:=f) I.kIn M.makes M.init (beq_iff_eq.mp M.fn) (codeAny_mono (F.run _ X.stack _ _ ⟨Value.ref (s.heap.objs.size+1)::us,[]⟩ (Value.ref (s.heap.objs.size+1)::(us++ds)) _ _ E (hr.make C us [])
  (I2.env0.make C us []) (hb _ (Value.ref (s.heap.objs.size+1)::us) I2.kIn hl) r2 hq) fun r s' hq'=>?_))
 cases r with
 |error e=>exact hx pins σ _ _ e s' I2 hq'
 | ok fl=>
  cases fl with
  |ret u=>
   obtain⟨v,H',I3,rv,ev,q3⟩:=I2.after hq'
   subst ev
   exact⟨rv,⟨V.ref (s.heap.objs.size+1),H',I3,rfl,q3⟩⟩
  |next=>exact False.elim hq'
  |brk=>exact False.elim hq'
  |cont=>exact False.elim hq'
theorem kbe(M:Mk X.K C f)(F:FnOk X.prog X.w X.K X.mg X.base CX k f fd ps sp)(hr:Room (k+1) X.A)(hg:Gl X x)(hm:X.mg x=some (.ref C))(hb:Binds X.K fd ps ds)(hd:Vals dvs ds)(hx:kc0 CX X E)
  (ha:PA X (e::es) t) (hdb:(x==("__debug__" :Str))=false:=by decide) (he:starEach (e::es) X.env=(false,eval e X.env)::starEach es X.env:=by rfl) (hpl:(backTo pos (starEach es X.env)).any (·.1)=false:=by rfl):
  PE X (.Call (.Name x p) (e::es) [] pos) (tMake C sp dvs E t):=by
 intro pins s σ H Q I h
 refine wpAny_Call_Name_kw (keY I hg hm ?_ hdb)
 refine Nh (h₀:=X.base) I.ok.mod.kin M.kp (thn (ha pos pins s σ H _ I h) fun us s1 ⟨vs,H1,I1,r,q⟩=>⟨I1.kIn,?_⟩) he hpl
 exact kgF M F hr hb hd hx I1 r q
theorem kjl(M:Mk X.K C f)(F:FnOk X.prog X.w X.K X.mg X.base CX k f fd ps sp)(hr:Room (k+1) X.A)(hg:Gl X x)(hm:X.mg x=some (.ref C))(hb:Binds X.K fd ps ds)(hd:Vals dvs ds)(hx:kc0 CX X E)
  (hdb:(x==("__debug__" :Str))=false:=by decide):PE X (.Call (.Name x p) [] [] pos) (tMake C sp dvs E tNil):=by
 intro pins s σ H Q I h
 refine wpAny_Call_Name_kw (keY I hg hm ?_ hdb)
 exact Ma I.kIn M.kp (kgF (us:=[]) M F hr hb hd hx I .nil h)
end
section
variable {X:Cx} {CX:CXT} {k:Nat} {f C:Addr} {fd:FuncData} {ps ks:List Str} {sp:Sp} {E:XK} {x m:Str} {p pos apos kpos:Pos} {e o:Expr} {es:List Expr} {kws:List Keyword} {te ta:TE} {t tk:TA} {nm:Option Str}
variable {g:List Value→List Value→List Value} {gV:List V→List V→List V}
end
structure kaq (N P:List Str) (sc:Scope):Prop where
 kind:sc.kind=.function
 co:sc.isCoroutine=false
 gen:sc.isGenerator=false
 nd:N.Nodup
 pre:N.take P.length=P
 par:∀x∈P,sc.names.lookup x=some .local∨sc.names.lookup x=some .cell
 nofree:∀y∈sc.names,y.2≠.free
theorem kfO{kindOf:Str→Option NameKind}{x:Str}:∀{binds:List (Str×Value)} {m:Str→Option Value},(∀v,(x,v)∉binds)→bindL kindOf binds m x=m x
 |[],_,_=>rfl
 | (n,v)::r,m,h=>by
  unfold bindL
  rw[kfO fun w hw=>h w (US _ hw)]
  split
  ·have:x≠n:=by rintro rfl;exact h v UX
   simp[this]
  ·rfl
theorem kfQ{kindOf:Str→Option NameKind}{x:Str}:∀{binds:List (Str×Value)} {m:Str→Option Value},(∀v,(x,v)∉binds)→bindC kindOf binds m x=m x
 |[],_,_=>rfl
 | (n,v)::r,m,h=>by
  unfold bindC
  rw[kfQ fun w hw=>h w (US _ hw)]
  split
  ·rfl
  ·have:x≠n:=by rintro rfl;exact h v UX
   simp[this]
theorem kfP{kindOf:Str→Option NameKind}{x:Str}{v:Value}:∀{P:List Str} {vs:List Value} {i:Nat} {m:Str→Option Value},P.Nodup→P[i]?=some x→vs[i]?=some v→kindOf x=some .local→
  bindL kindOf (P.zip vs) m x=some v
 |[],_,_,_,_,h,_,_=>by simp at h
 |_::_,[],_,_,_,_,h,_=>by simp at h
 |p::P,w::vs,0,m,nd,h1,h2,hk=>by
  simp at h1 h2;subst h1;subst h2
  show bindL kindOf ((p,w)::P.zip vs) m p=_
  unfold bindL
  rw[kfO fun v hv=>(Jh.mp nd).1 (JC hv).1,if_pos hk]
  simp
 |p::P,w::vs,i+1,m,nd,h1,h2,hk=>by
  show bindL kindOf ((p,w)::P.zip vs) m x=_
  unfold bindL
  exact kfP (i:=i) (Jh.mp nd).2 (by simpa using h1) (by simpa using h2) hk
theorem kfR{kindOf:Str→Option NameKind}{x:Str}{v:Value}:∀{P:List Str} {vs:List Value} {i:Nat} {m:Str→Option Value},P.Nodup→P[i]?=some x→vs[i]?=some v→kindOf x≠some .local→
  bindC kindOf (P.zip vs) m x=some v
 |[],_,_,_,_,h,_,_=>by simp at h
 |_::_,[],_,_,_,_,h,_=>by simp at h
 |p::P,w::vs,0,m,nd,h1,h2,hk=>by
  simp at h1 h2;subst h1;subst h2
  show bindC kindOf ((p,w)::P.zip vs) m p=_
  unfold bindC
  rw[kfQ fun v hv=>(Jh.mp nd).1 (JC hv).1,if_neg hk]
  simp
 |p::P,w::vs,i+1,m,nd,h1,h2,hk=>by
  show bindC kindOf ((p,w)::P.zip vs) m x=_
  unfold bindC
  exact kfR (i:=i) (Jh.mp nd).2 (by simpa using h1) (by simpa using h2) hk
noncomputable def start(N:List Str)(vs:List V):St:=vs.map some++Uz (N.length-vs.length) none
noncomputable def cxOf(CX:CXT)(P:Program)(w:World)(K:Uv)(mg:Str→Option Value)(base:Heap)(N:List Str)(qual:Str)(scope:Scope)(f:Addr)(cd:Value)(A:Around)(outer:List Env)(s:Shared)(H:Hp)(E:XK):Cx where
 prog:=P
 w:=w
 K:=K
 mg:=mg
 base:=base
 A:=A.deeper (envOfC qual scope s.heap.objs.size f cd)
 N:=N
 s₀:=s
 H₀:=H
 env:=envOfC qual scope s.heap.objs.size f cd
 outer:=outer
 stack:=envOfC qual scope s.heap.objs.size f cd::outer
 ex:=[]
 calm:=true
 fn:=fun _=>true
 pn:=[]
 xe:=fun e s'=>wpAny (model P w) (A.deeper (envOfC qual scope s.heap.objs.size f cd)) (leaving (envOfC qual scope s.heap.objs.size f cd) e) (fun _ s''=>CX outer H s E e s'') (fun e' s''=>CX outer H s E e' s'') s'
theorem kdH{sc:Scope}{n:Nat}{x:Str}(h:sc.names.lookup x=some .cell):∃c,(cellsFrom n sc.names []).lookup x=some c:=by
 have q:=Mb sc.names n [] (.inl h)
 exact Option.isSome_iff_exists.mp q
theorem kiy{CX:CXT}{P:Program}{w:World}{K:Uv}{mg:Str→Option Value}{base:Heap}{N ps:List Str}{qual:Str}{scope:Scope}{f:Addr}{cd:Value}{A:Around}{outer:List Env}{s s1:Shared}{H:Hp}{E:XK}{us:List Value}{vs:List V}
  (S:kaq N ps scope) (hd:A.handled=none) (e0:Env0 P w K mg base A outer s H) (hl:vs.length=ps.length) (r:Vals vs us)
  (x:InCallC s s.heap.objs.size (bindL (envOfC qual scope s.heap.objs.size f cd).kindOf (ps.zip us) fun _=>none) (cellsFrom (s.heap.objs.size+1) scope.names []) (bindC (envOfC qual scope s.heap.objs.size f cd).kindOf (ps.zip us) fun _=>none) s1):
  Inv (cxOf CX P w K mg base N qual scope f cd A outer s H E) [] (start N vs) H s1:=by
 have hpl:ps.length≤N.length:=by have:=congrArg Ni S.pre;rw[UL] at this;omega
 obtain⟨h1,tk,rfl,hk⟩:=x.done
 have noA:∀b:Addr,b∉(cxOf CX P w K mg base N qual scope f cd A outer s H E).ex:=fun b z=>absurd (show b∈([]:List Addr) from z) (by simp)
 refine⟨⟨e0.mod,S.kind,rfl,rfl,Uw _,fun y z c h1 h2=>?_,fun y hy=>?_,fun y c _ h=>?_,fun _=>hd,Around.frames_deeper e0.frames, .inr ⟨rfl,rfl⟩,fun b z=>absurd z (noA b),e0.bs,e0.bsz,fun b _ _=>noA b,fun b z=>absurd z (noA b),e0.funs,e0.frf⟩,
  rfl,e0.bare,Un.kept hk,⟨_,x.toInCall.ns,fun i y v h1 h2 h3=>?_⟩,fun y c h=>⟨_,x.cell y c h⟩,e0.hok.fresh (Uw _),fun y c h=>?_,fun p hp=>absurd (show p∈([]:List (Addr×Obj)) from hp) (by simp),e0.hok.kept hk,?_⟩
 ·exact name_of_addr x.apart (PySem.mem_of_lookup h1) (PySem.mem_of_lookup h2)
 ·have hy:scope.names.lookup y=some .cell∨scope.names.lookup y=some .free:=hy
  rcases hy with hy|hy
  ·exact kdH hy
  ·exact absurd rfl (S.nofree _ (PySem.mem_of_lookup hy))
 ·exact UH (x.above y c (PySem.mem_of_lookup h))
 ·have hi:i<vs.length:=by
   unfold start at h2
   by_cases hi:i<vs.length
   ·exact hi
   ·rw[JQ (by simpa using hi)] at h2
    rw[NS] at h2
    split at h2 <;> cases h2
  have ha:vs[i]?=some v:=by
   unfold start at h2
   rw[JX (by simpa using hi),UF] at h2
   cases e:vs[i]? with
   |none=>rw[e] at h2;cases h2
   |some a=>rw[e] at h2;cases h2;rfl
  obtain⟨u,hu,rv⟩:=r.get ha
  have hp:ps[i]?=some y:=by
   rw[←S.pre,Mc (by omega)];exact h1
  have ndP:ps.Nodup:=by rw[←S.pre];exact S.nd.sublist (List.take_sublist _ _)
  refine⟨u,rv,?_⟩
  rcases S.par y (UE hp) with k|k
  ·exact .inl ⟨k,kfP ndP hp hu k⟩
  ·obtain⟨c,e⟩:=kdH (n:=s.heap.objs.size+1) k
   refine .inr ⟨.inl k,c,e,?_⟩
   have q:=x.cell y c e
   rw[kfR ndP hp hu (by show scope.names.lookup y≠_;rw[k];decide)] at q
   exact q
 ·exact e0.hok.fresh (UH (x.above y c (PySem.mem_of_lookup h)))
 ·unfold start
  show _=N.length
  rw[UW,Uu,JD]
  omega
theorem fn_of{CX:CXT}{P:Program}{w:World}{K:Uv}{mg:Str→Option Value}{base:Heap}{k:Nat}{f:Addr}{name qual:Str}{params:Arguments}{body:List Stmt}{scope:Scope}{dV kV doc pm cdv ct oc:Value}{an od:Option Addr}
  {osl:Array (Option Value)} {N ps:List Str} {sp:Sp} (lk:K.lookup f=some ⟨oc,od, .func (UI name qual params body scope dV kV doc pm an cdv ct),osl⟩) (hcd:U2 K cdv qual=true) (S:kaq N ps scope)
  (len:∀vs H Q E,sp vs H Q E→vs.length=ps.length)
  (hbody:∀(A:Around) (outer:List Env) (s:Shared) (H:Hp) (vs:List V) (Q:VK) (E:XK),Room k (A.deeper (envOfC qual scope s.heap.objs.size f cdv))→sp vs H Q E→
   ∃t,PSs (cxOf CX P w K mg base N qual scope f cdv A outer s H E) body t∧t {nx:=fun _ H'=>Q .non H',rt:=Q} (start N vs) H):
  FnOk P w K mg base CX (k+1) f (UI name qual params body scope dV kV doc pm an cdv ct) ps sp:=by
 refine⟨len,fun A outer s H args us vs Q E hr e0 hb r hsp=>?_⟩
 have hl:=len _ _ _ _ hsp
 have KX:K.In s.heap:=e0.mod.kin.keeps fun b o e=>(e0.bs b o e).1
 have lim:s.heap.NoLimit:=e0.mod.nolimit.keeps fun b o e=>(e0.bs b o e).1
 have hkind:∀y∈ps.zip us,scope.names.lookup y.1=some .local∨(scope.names.lookup y.1=some .cell∧((cellsFrom (s.heap.objs.size+1) scope.names []).lookup y.1).isSome=true):=fun⟨n,v⟩ hy=>by
  rcases S.par n (JC hy).1 with q|q
  ·exact .inl q
  ·exact .inr ⟨q,Mb _ _ _ (.inl q)⟩
 refine codeAny_call_function hr.depth (KX _ _ lk) rfl S.co S.gen rfl (PySem.W.codeRec_of KX hcd) (hb _ _ _ _ ?_)
 refine wpAny_newFunctionEnv_cells S.kind hkind fun env he s1 x=>?_
 subst he
 refine⟨lim.keeps x.toInCall.keep,codeAny_func ?_⟩
 obtain⟨t,ht,hq⟩:=hbody A outer s H vs Q E (hr.deeper _) hsp
 have I:Inv (cxOf CX P w K mg base N qual scope f cdv A outer s H E) [] (start N vs) H s1:=kiy S hr.hd e0 hl r x
 refine wpAny_mono (ht [] s1 (start N vs) H _ I hq) (fun fl s' hs=>?_) fun e s' hs=>hs
 have fin:∀{σ':St} {H':Hp} {v:V} {u:Value},Inv (cxOf CX P w K mg base N qual scope f cdv A outer s H E) [] σ' H' s'→RelV v u→Q v H'→CE outer P w H s Q u s':=
  fun {σ' H' v u} J rv q=>⟨v,H',J.os,J.bare,J.base,J.hok,rv,q⟩
 cases fl with
 |ret u=>
  obtain⟨v,σ',H',J,rv,q⟩:=hs
  exact fin J rv q
 |next=>
  obtain⟨σ',H',J,q⟩:=hs
  exact fin (v:=V.non) (u:=Value.none) J rfl q
 |brk=>
  obtain⟨_,_,_,q⟩:=hs
  exact False.elim q
 |cont=>
  obtain⟨_,_,_,q⟩:=hs
  exact False.elim q
end L2
namespace L2
open PySem PySem.Spec PyProof.Rows
section
variable {X:Cx} {x:Str} {p pos:Pos} {e:Expr} {es:List Expr} {t:TA} {id T:String} {r:List V→Hp→VK→Prop}
noncomputable def tCB(r:List V→Hp→VK→Prop)(t:TA):TE:=fun σ H Q=>t σ H fun vs H1=>r vs H1 Q
theorem kas(hc:CallR X (.builtin id) r)(hg:Gl X x)(hm:X.mg x=none)(hv:bootBuiltins x=some (.builtin id))(ha:PA X (e::es) t)(hn:x≠"__name__":=by decide)(hdb:(x==("__debug__" :Str))=false:=by decide)
  (he:starEach (e::es) X.env=(false,eval e X.env)::starEach es X.env:=by rfl) (hpl:(backTo pos (starEach es X.env)).any (·.1)=false:=by rfl):PE X (.Call (.Name x p) (e::es) [] pos) (tCB r t):=by
 intro pins s σ H Q I h
 refine wpAny_Call_Name_kw (kcs I hg hm hv ?_ hn hdb)
 exact PyProof.Rows.callWith_builtin1 (thn (ha pos pins s σ H _ I h) fun us s1 ⟨vs,H1,I1,r1,q1⟩=>hc pins s1 σ H1 vs us Q I1 r1 q1) he hpl
theorem kaX(hc:CallR X (.type T) r)(hg:Gl X x)(hm:X.mg x=none)(hv:bootBuiltins x=some (.type T))(ha:PA X (e::es) t)(hn:x≠"__name__":=by decide)(hdb:(x==("__debug__" :Str))=false:=by decide)
  (he:starEach (e::es) X.env=(false,eval e X.env)::starEach es X.env:=by rfl) (hpl:(backTo pos (starEach es X.env)).any (·.1)=false:=by rfl):PE X (.Call (.Name x p) (e::es) [] pos) (tCB r t):=by
 intro pins s σ H Q I h
 refine wpAny_Call_Name_kw (kcs I hg hm hv ?_ hn hdb)
 exact PyProof.Rows.callWith_type1 (thn (ha pos pins s σ H _ I h) fun us s1 ⟨vs,H1,I1,r1,q1⟩=>hc pins s1 σ H1 vs us Q I1 r1 q1) he hpl
end
end L2
namespace HT
open PySem PyProof.Rows
section
open PySem.SeqAt
open PySem.AutoSeq1 (wpAny_loadPart')
open PySem.MeetsSeq PySem.MeetsSeq2 PySem.MeetsSeq3
end
section
variable {prog:Program} {w:World} {A:Around} {E:Value→Shared→Prop} {s:Shared}
theorem cat_tup{t b:Addr}{vs ws:List Value}{Q:Value→Shared→Prop}(ht:IsTup s.heap t vs.toArray)(hb:IsTup s.heap b ws.toArray)(hv:vs≠[])
  (h1:ws=[]→Q (.ref t) s) (h2:ws≠[]→Q (.ref s.heap.objs.size) {s with heap:=s.heap.push {cls:=.type "tuple",data:=.seq (vs++ws).toArray}})
  (hsz:vs.length+ws.length≤sizeLine):wpAny (model prog w) A (binaryOp .Add (.ref t) (.ref b)) Q E s:=by
 obtain⟨⟨cls,dd,data,sl⟩,ho,hc,n,hd⟩:=id ht
 obtain⟨⟨cls2,dd2,data2,sl2⟩,ho2,hc2,n2,hd2⟩:=id hb
 simp only at hc hd hc2 hd2
 subst hc hd hc2 hd2
 have e:vs.toArray++ws.toArray=(vs++ws).toArray:=by simp
 by_cases hw:ws=[]
 ·exact concat_meets ⟨_,ho,rfl⟩ ⟨_,ho2,rfl⟩ noFill_tuple_add seq_tuple_add Md Me (Mf _ _)
   (tuple_addW1 t b vs.toArray ws.toArray n n2 dd dd2 sl sl2 (by simpa using hv) (by simp[hw])) ⟨ho,ho2,h1 hw⟩
 ·refine concat_meets ⟨_,ho,rfl⟩ ⟨_,ho2,rfl⟩ noFill_tuple_add seq_tuple_add Md Me (Mf _ _)
   (tuple_addW2 t b vs.toArray ws.toArray n n2 dd dd2 sl sl2 (by simpa using hv) (by simpa using hw) (by rw[UN,UN];exact hsz)) ⟨ho,ho2,?_⟩
  rw[e]
  exact h2 hw
noncomputable def sIx(n d:Nat):Option Int→Nat
 |none=>d
 |some v=>if v<0 then(v+(n:Int)).toNat else min v.toNat n
theorem sIx_none(n d:Nat):sIx n d none=d:=rfl
theorem sIx_nat(n d k:Nat):sIx n d (some (k:Int))=min k n:=by
 show(if(k:Int)<0 then((k:Int)+(n:Int)).toNat else min (k:Int).toNat n)=min k n
 rw[if_neg (by omega),Int.toNat_natCast]
theorem kld(n d:Nat)(hd:d≤n)(o:Option Int):sIx n d o≤n:=by
 cases o with
 |none=>exact hd
 |some v=>
  show(if v<0 then(v+(n:Int)).toNat else min v.toNat n)≤n
  by_cases hv:v<0
  ·rw[if_pos hv];omega
  ·rw[if_neg hv];exact Nat.min_le_right _ _
theorem kiV(v:Int)(n d:Nat):(if v<0 then max (v+(n:Int)) 0 else min v (n:Int))=((sIx n d (some v):Nat):Int):=by
 show(if v<0 then max (v+(n:Int)) 0 else min v (n:Int))=(((if v<0 then(v+(n:Int)).toNat else min v.toNat n):Nat):Int)
 by_cases hv:v<0
 ·simp only[if_pos hv];omega
 ·simp only[if_neg hv];omega
theorem khw(lo hi:Option Int)(n:Nat):Builtin.Slice.sliceAdjust lo hi 1 (n:Int)=(((sIx n 0 lo:Nat):Int),((sIx n n hi:Nat):Int)):=by
 have h1:¬((1:Int)<0):=by omega
 unfold Builtin.Slice.sliceAdjust
 simp only[h1,if_false]
 refine Prod.ext ?_ ?_
 ·cases lo with
  |none=>rfl
  |some v=>exact kiV v n 0
 ·cases hi with
  |none=>rfl
  |some v=>exact kiV v n n
theorem khd(i j:Nat):Builtin.Slice.slicePlaces (i:Int) (j:Int) 1=j-i:=by
 unfold Builtin.Slice.slicePlaces
 have h1:(1:Int) > 0:=by omega
 simp only[h1,if_true,Int.ediv_one]
 split <;> omega
theorem kel{v:Value}{o:Option Int}{Q:Option Int→Shared→Prop}(p:IsPart v o)(h:Q o s):wpAny (model prog w) A (Builtin.Slice.slicePartIndex v) Q E s:=by
 cases p with
 |none=>exact slicePart_none h
 |int i t=>exact slicePart_int h
theorem kdq{sl:Addr}{vl vu:Value}{lo hi:Option Int}{n:Nat}{Q:Int×Int×Nat→Shared→Prop}(hs:s.heap.IsSliceOf sl vl vu .none)(pl:IsPart vl lo)(pu:IsPart vu hi)
  (h:Q (((sIx n 0 lo:Nat):Int),1,sIx n n hi-sIx n 0 lo) s):wpAny (model prog w) A (Builtin.Slice.sliceApplied (.ref sl) (pure (n:Int))) Q E s:=by
 obtain⟨os,hos,hcs,hds⟩:=id hs
 unfold Builtin.Slice.sliceApplied Builtin.Slice.sliceFields
 refine wpAny_bind (wpAny_bind (wpAny_field hos hds (x:=vl) rfl (wpAny_bind (wpAny_field hos hds (x:=vu) rfl (wpAny_bind (wpAny_field hos hds (x:=.none) rfl (wpAny_pure ?_)))))))
 refine wpAny_bind (slicePart_none ?_)
 show wpAny _ _ (if((1:Int)==0)=true then _ else _) _ _ s
 rw[if_neg (by decide)]
 refine wpAny_bind (kel pl (wpAny_bind (kel pu (wpAny_bind (wpAny_pure ?_)))))
 show wpAny _ _ (match Builtin.Slice.sliceAdjust lo hi 1 (n:Int) with|(lo,hi)=>pure (lo,(1:Int),Builtin.Slice.slicePlaces lo hi 1)) _ _ s
 rw[khw lo hi n]
 show wpAny _ _ (pure (((sIx n 0 lo:Nat):Int),(1:Int),Builtin.Slice.slicePlaces ((sIx n 0 lo:Nat):Int) ((sIx n n hi:Nat):Int) 1)) _ _ s
 rw[khd]
 exact wpAny_pure h
theorem kji(xs:Array Value)(i k:Nat):((UB k).filterMap fun(m:Nat)=>xs[((i:Int)+(m:Int)*1).toNat]?).toArray=((xs.toList.drop i).take k).toArray:=by
 have e:(fun(m:Nat)=>xs[((i:Int)+(m:Int)*1).toNat]?)=fun m=>xs[i+m]?:=by
  funext m
  have:((i:Int)+(m:Int)*1).toNat=i+m:=by omega
  rw[this]
 rw[e]
 have:=pick_run xs i k
 rw[List.filterMap_map] at this
 have e2:((fun x=>xs[x]?)∘fun x=>i+x)=fun m=>xs[i+m]?:=rfl
 rw[e2] at this
 rw[this]
theorem getItem_tuple_cut{t sl:Addr}{items:Array Value}{vl vu:Value}{lo hi:Option Int}{Q:Value→Shared→Prop}(ht:IsTup s.heap t items)(hs:s.heap.IsSliceOf sl vl vu .none)(pl:IsPart vl lo)(pu:IsPart vu hi)
  (hw:¬(sIx items.size 0 lo=0∧sIx items.size items.size hi=items.size))
  (h:Q (.ref s.heap.objs.size) {s with heap:=s.heap.push {cls:=.type "tuple",data:=.seq ((items.toList.drop (sIx items.size 0 lo)).take (sIx items.size items.size hi-sIx items.size 0 lo)).toArray}})
  (hsz:items.size≤sizeLine):wpAny (model prog w) A (getItem (.ref t) (.ref sl)) Q E s:=by
 have htake:sizeOk (.seq ((items.toList.drop (sIx items.size 0 lo)).take (sIx items.size items.size hi-sIx items.size 0 lo)).toArray):=by
  show((items.toList.drop (sIx items.size 0 lo)).take (sIx items.size items.size hi-sIx items.size 0 lo)).toArray.size≤sizeLine
  rw[UN,UL,JY,JJ]
  omega
 have hj:sIx items.size items.size hi≤items.size:=kld _ _ (Uw _) hi
 obtain⟨os,hos,hcs,hds⟩:=id hs
 have hTs:s.TypeIs (.ref sl) "slice":=⟨os,hos,hcs⟩
 unfold getItem
 try with_reducible refine wpAny_holding ?_
 first|refine wpAny_bind (wpAny_pure ?_)|skip
 refine wpAny_bind (wpAny_sequenceKey ht.typeIs (by decide) ?_)
 refine wpAny_bind (wpAny_callSpecial?_slot (name:=Str.ofString "__getitem__") ht.typeIs PyProof.Rows.slot_tuple_getitem
  (wpAny_call_entry PyProof.Rows.slot_tuple_getitem ht.typeIs entry_tuple_getitem ?_ (args_tuple_getitem _ _)))
 show wpAny _ _ (Builtin.Tuple.tupleItemsOf (.ref t) >>= _) _ _ s
 refine wpAny_bind (tupleItemsOf_ ht ?_)
 refine wpAny_bind (wpAny_typeOf hTs ?_)
 rw[if_pos (by decide)]
 refine wpAny_bind (kdq hs pl pu ?_)
 have hno:¬((((sIx items.size 0 lo:Nat):Int)==0&&(1:Int)==1&&(sIx items.size items.size hi-sIx items.size 0 lo)==items.size)=true):=by
  intro q
  rw[Jq,Jq] at q
  have q1:((sIx items.size 0 lo:Nat):Int)=0:=eq_of_beq q.1.1
  have q2:sIx items.size items.size hi-sIx items.size 0 lo=items.size:=eq_of_beq q.2
  exact hw ⟨by omega,by omega⟩
 show wpAny _ _ (if(((sIx items.size 0 lo:Nat):Int)==0&&(1:Int)==1&&(sIx items.size items.size hi-sIx items.size 0 lo)==items.size)=true then _ else _) _ _ s
 rw[if_neg hno,kji]
 first
  |exact wpAny_bind (m:=Builtin.Tuple.tupleExact _) (wpAny_newObj_type (wpAny_pure ⟨_,rfl,wpAny_pure h⟩) htake)
  |exact wpAny_bind (m:=Builtin.Tuple.tupleExact _) (wpAny_newObj_type (wpAny_bind (wpAny_pure (wpAny_pure ⟨_,rfl,wpAny_pure h⟩))) htake)
  |exact wpAny_bind (wpAny_bind (m:=Builtin.Tuple.tupleExact _) (wpAny_newObj_type (wpAny_pure (wpAny_pure ⟨_,rfl,wpAny_pure h⟩)) htake))
  |exact wpAny_bind (wpAny_bind (m:=Builtin.Tuple.tupleExact _) (wpAny_newObj_type (wpAny_pure ⟨_,rfl,wpAny_pure h⟩) htake))
end
end HT
namespace L2
open PySem PySem.Spec PyProof.Rows
noncomputable abbrev TO:=St→Hp→(Option Int→Hp→Prop)→Prop
noncomputable def PO(X:Cx)(e:Option Expr)(t:TO):Prop:=
 ∀(pins:List (Addr×Obj)) (s:Shared) (σ:St) (H:Hp) (Q:Option Int→Hp→Prop),Inv X pins σ H s→t σ H Q→
  wpAny (model X.prog X.w) X.A (evalPart e X.env) (fun u s'=>∃o H',Inv X pins σ H' s'∧IsPart u o∧Q o H') X.xe s
noncomputable def kkA:TO:=fun _ H Q=>Q none H
noncomputable def tPart(t:TE):TO:=fun σ H Q=>t σ H fun x H1=>∃i,x=.int i∧Q (some i) H1
theorem intsAre_of{ns:List Int}:∀{us:List Value},Vals (ns.map V.int) us→IntsAre us ns:=by
 induction ns with
 |nil=>intro us r;rw[Nj] at r;cases r;exact .nil
 | cons n ns ih=>
  intro us r
  rw[UQ] at r
  cases r with
  |cons r1 r2=>
   obtain⟨t,e⟩:=r1
   subst e
   exact .cons n t (ih r2)
section
variable {X:Cx} {e:Expr} {te:TE} {lo hi:Option Expr} {tl th:TO} {pos p2:Pos}
theorem keN:PO X none kkA:=by
 intro pins s σ H Q I h
 rw[evalPart_none]
 exact wpAny_pure ⟨none,H,I, .none,h⟩
theorem kco(h:PE X e te):PO X (some e) (tPart te):=by
 intro pins s σ H Q I hw
 rw[evalPart_some]
 refine thn (h pins s σ H _ I hw) fun u s1 ⟨x,H1,I1,r1,q1⟩=>?_
 obtain⟨i,rfl,q⟩:=q1
 obtain⟨t,rfl⟩:=r1
 exact⟨some i,H1,I1, .int i t,q⟩
noncomputable def SlR(X:Cx)(r:V→Option Int→Option Int→Hp→VK→Prop):Prop:=
 ∀(pins:List (Addr×Obj)) (s:Shared) (σ:St) (H:Hp) (x:V) (v vl vu:Value) (lo hi:Option Int) (sl:Addr) (Q:VK),Inv X pins σ H s→RelV x v→s.heap.IsSliceOf sl vl vu .none→IsPart vl lo→IsPart vu hi→r x lo hi H Q→
  ∃T id,typeLookup (.type T) "__getitem__"=pure (some (.builtin id))∧s.TypeIs v T∧wpAny (model X.prog X.w) X.A (getItem v (.ref sl)) (EP X pins σ Q) X.xe s
theorem SlR.or{r r':V→Option Int→Option Int→Hp→VK→Prop}(h:SlR X r)(h':SlR X r'):SlR X (fun x lo hi H Q=>r x lo hi H Q∨r' x lo hi H Q):=by
 intro pins s σ H x v vl vu lo hi sl Q I rx hs pl pu q
 rcases q with q|q
 ·exact h pins s σ H x v vl vu lo hi sl Q I rx hs pl pu q
 ·exact h' pins s σ H x v vl vu lo hi sl Q I rx hs pl pu q
noncomputable def tSl(r:V→Option Int→Option Int→Hp→VK→Prop)(te:TE)(tl th:TO):TE:=fun σ H Q=>te σ H fun x H1=>tl σ H1 fun l H2=>th σ H2 fun u H3=>r x l u H3 Q
theorem kcz{r:V→Option Int→Option Int→Hp→VK→Prop}(hr:SlR X r)(he:PE X e te)(hl:PO X lo tl)(hu:PO X hi th):PE X (.Subscript e (.Slice lo hi none p2) pos) (tSl r te tl th):=by
 intro pins s σ H Q I h
 refine Subscript_ (thn (he pins s σ H _ I h) fun v s1 ⟨x,H1,I1,r1,q1⟩=>?_)
 refine wpAny_Slice (thn (hl pins s1 σ H1 _ I1 q1) fun vl s2 ⟨l,H2,I2,pl,q2⟩=>thn (hu pins s2 σ H2 _ I2 q2) fun vu s3 ⟨u,H3,I3,pu,q3⟩=>?_)
 rw[evalPart_none]
 refine wpAny_pure ?_
 have I4:Inv X pins σ H3 {s3 with heap:=s3.heap.push {cls:=.type "slice",data:=.fields #[vl,vu, .none]}}:=I3.kept (t':=s3.toks) fun b ob q=>Heap.get?_push_of_some _ q
 obtain⟨T,id,hT,ht,hg⟩:=hr pins {s3 with heap:=s3.heap.push {cls:=.type "slice",data:=.fields #[vl,vu, .none]}} σ H3 x v vl vu l u s3.heap.objs.size Q I4 r1 (Heap.IsSliceOf.new ..) pl pu q3
 show wpAny (model X.prog X.w) X.A (subscriptTail e (.Slice lo hi none p2) v (.ref s3.heap.objs.size)) (EP X pins σ Q) X.xe {s3 with heap:=s3.heap.push {cls:=.type "slice",data:=.fields #[vl,vu, .none]}}
 exact tail_any (ops:=[.ref s3.heap.objs.size,v]) ht hT hg (by with_unfolding_all rfl)
noncomputable def cutV(xs:List V)(lo hi:Option Int):List V:=(xs.drop (HT.sIx xs.length 0 lo)).take (HT.sIx xs.length xs.length hi-HT.sIx xs.length 0 lo)
theorem kd6(xs:List V)(lo hi:Option Int):(cutV xs lo hi).length≤xs.length:=by
 unfold cutV
 rw[UL,JY]
 omega
noncomputable def rSlT(K:Uv):V→Option Int→Option Int→Hp→VK→Prop:=fun x lo hi H Q=>∃a xs,x=.ref a∧SqT K H a xs∧
 ¬(HT.sIx xs.length 0 lo=0∧HT.sIx xs.length xs.length hi=xs.length)∧∀p,H p=none→Q (.ref p) (upd H p (.tup (cutV xs lo hi)))
theorem kj7:SlR X (rSlT X.K):=by
 intro pins s σ H x v vl vu lo hi sl Q I rx hs pl pu h
 obtain⟨a,xs,rfl,hx,hw,q⟩:=h
 cases rx
 obtain⟨its,r,ht,hz⟩:=I.tuple hx
 have hlen:its.toArray.size=xs.length:=by rw[UN];exact r.length.symm
 refine⟨"tuple",_,PyProof.Rows.slot_tuple_getitem.lookup,ht.typeIs,?_⟩
 refine HT.getItem_tuple_cut ht hs pl pu (by rw[hlen];exact hw) ?_ (by rw[hlen];exact hz)
 rw[hlen]
 refine⟨.ref s.heap.objs.size,_,I.laid (t':=s.toks) (o:=.tup (cutV xs lo hi)) (fun b ob q=>Heap.get?_push_of_some _ q) (Uw _) ?_,rfl,q _ (I.hok.fresh (Uw _))⟩
 exact⟨Uy (kd6 xs lo hi) hz,_,(r.drop (HT.sIx xs.length 0 lo)).take (HT.sIx xs.length xs.length hi-HT.sIx xs.length 0 lo),IsTup.new _ _⟩
noncomputable def rCatT(K:Uv):R2:=fun x y H Q=>∃a b xs ys,x=.ref a∧y=.ref b∧SqT K H a xs∧SqT K H b ys∧xs≠[]∧xs.length+ys.length≤sizeLine∧
 (ys=[]→Q (.ref a) H)∧(ys≠[]→∀p,H p=none→Q (.ref p) (upd H p (.tup (xs++ys))))
theorem Vals.nil_iff{xs:List V}{us:List Value}(r:Vals xs us):us=[]↔xs=[]:=by
 cases r with
 |nil=>simp
 |cons _ _=>simp
theorem kkO:OpR X (binaryOp .Add) (rCatT X.K):=by
 intro pins s σ H x y v u Q I rx ry h
 obtain⟨a,b,xs,ys,rfl,rfl,ha,hb,hx,hz,q1,q2⟩:=h
 cases rx
 cases ry
 obtain⟨its,r1,p1,_⟩:=I.tuple ha
 obtain⟨its2,r2,p2,_⟩:=I.tuple hb
 refine HT.cat_tup p1 p2 (fun z=>hx (r1.nil_iff.mp z)) (fun z=>⟨.ref a,H,I,rfl,q1 (r2.nil_iff.mp z)⟩) (fun z=>?_) (by rw[←r1.length,←r2.length];exact hz)
 refine⟨.ref s.heap.objs.size,_,I.laid (t':=s.toks) (o:=.tup (xs++ys)) (fun b ob q=>Heap.get?_push_of_some _ q) (Uw _) ?_,rfl,q2 (fun w=>z (r2.nil_iff.mpr w)) _ (I.hok.fresh (Uw _))⟩
 exact⟨by rw[UW];exact hz,_,r1.append r2,IsTup.new _ _⟩
end
end L2
namespace L2
open PySem PySem.Spec PyProof.Rows
noncomputable def ixN(n:Nat)(i:Int):Option Nat:=if 0≤i then(if i<n then some i.toNat else none) else if -(n:Int)≤i then some (i+n).toNat else none
noncomputable def atI{α:Type}(xs:List α)(i:Int):Option α:=(ixN xs.length i).bind fun j=>xs[j]?
theorem kiw{n:Nat}{i:Int}{j:Nat}(h:ixN n i=some j):seqIndex? i n=some j∧j<n∧-(n:Int)≤i∧i<n:=by
 unfold ixN at h
 by_cases h0:0≤i
 ·rw[if_pos h0] at h
  by_cases h1:i<n
  ·rw[if_pos h1] at h
   have e:i.toNat=j:=Option.some.inj h
   exact⟨by rw[seqIndex_of h0 h1,e],by omega,by omega,h1⟩
  ·rw[if_neg h1] at h;cases h
 ·rw[if_neg h0] at h
  by_cases h1: -(n:Int)≤i
  ·rw[if_pos h1] at h
   have e:(i+n).toNat=j:=Option.some.inj h
   exact⟨by rw[seqIndex_neg (by omega) h1,e],by omega,h1,by omega⟩
  ·rw[if_neg h1] at h;cases h
theorem ki4{α:Type}{xs:List α}{i:Int}{v: α}(h:atI xs i=some v):∃j,seqIndex? i xs.length=some j∧xs[j]?=some v∧j<xs.length∧-(xs.length:Int)≤i∧i<xs.length:=by
 unfold atI at h
 cases e:ixN xs.length i with
 |none=>rw[e] at h;cases h
 |some j=>
  rw[e] at h
  obtain⟨h1,h2,h3,h4⟩:=kiw e
  exact⟨j,h1,h,h2,h3,h4⟩
theorem kaY{α:Type}{xs:List α}{j:Nat}{v: α}(h:xs[j]?=some v):atI xs (j:Int)=some v:=by
 have hj:j<xs.length:=(UG.mp h).1
 have e:ixN xs.length (j:Int)=some j:=by
  unfold ixN
  rw[if_pos (by omega),if_pos (by omega)];simp
 unfold atI;rw[e];exact h
noncomputable def kla(b:Expr):Prop:=∀o i,subscripted b false o i=operate [o,i] (getItem o i)
noncomputable def IxR(X:Cx)(r:R2):Prop:=
 ∀(value slice:Expr) (pins:List (Addr×Obj)) (s:Shared) (σ:St) (H:Hp) (x y:V) (v u:Value) (Q:VK),Inv X pins σ H s→RelV x v→RelV y u→r x y H Q→
  subscripted slice false v u=operate [v,u] (getItem v u)→wpAny (model X.prog X.w) X.A (subscriptTail value slice v u) (EP X pins σ Q) X.xe s
noncomputable def MtR(X:Cx)(id:String)(r:V→List V→Hp→VK→Prop):Prop:=
 ∀(pins:List (Addr×Obj)) (s:Shared) (σ:St) (H:Hp) (x:V) (xs:List V) (v:Value) (us:List Value) (Q:VK),Inv X pins σ H s→RelV x v→Vals xs us→r x xs H Q→
  wpAny (model X.prog X.w) X.A (call (.builtin id) (v::us)) (EP X pins σ Q) X.xe s
section
variable {X:Cx} {a b:Expr} {ta tb:TE} {pos:Pos}
theorem IxR.or{r r':R2}(h:IxR X r)(h':IxR X r'):IxR X (fun x y H Q=>r x y H Q∨r' x y H Q):=by
 intro value slice pins s σ H x y v u Q I rx ry q hs
 rcases q with q|q
 ·exact h value slice pins s σ H x y v u Q I rx ry q hs
 ·exact h' value slice pins s σ H x y v u Q I rx ry q hs
theorem MtR.or{id:String}{r r':V→List V→Hp→VK→Prop}(h:MtR X id r)(h':MtR X id r'):MtR X id (fun x xs H Q=>r x xs H Q∨r' x xs H Q):=by
 intro pins s σ H x xs v us Q I rx rs q
 rcases q with q|q
 ·exact h pins s σ H x xs v us Q I rx rs q
 ·exact h' pins s σ H x xs v us Q I rx rs q
theorem pe_ix{r:R2}(hr:IxR X r)(ha:PE X a ta)(hb:PE X b tb)(hs:kla b):PE X (.Subscript a b pos) (tOp r ta tb):=by
 intro pins s σ H Q I h
 exact Subscript_ (binT ha hb I h fun v u s2 x y H2 I2 rx ry q=>hr a b pins s2 σ H2 x y v u Q I2 rx ry q (hs _ _))
noncomputable def rIxL(K:Uv):R2:=fun x y H Q=>∃p xs i v,x=.ref p∧y=.int i∧SqL K H p xs∧atI xs i=some v∧Q v H
noncomputable def rIxT(K:Uv):R2:=fun x y H Q=>∃p xs i v,x=.ref p∧y=.int i∧SqT K H p xs∧atI xs i=some v∧Q v H
theorem kaC:IxR X (rIxL X.K):=by
 intro value slice pins s σ H x y v u Q I rx ry h hs
 obtain⟨p,xs,i,z,rfl,rfl,hq,he,q⟩:=h
 cases rx
 obtain⟨t,rfl⟩:=ry
 obtain⟨its,r,pl,hz⟩:=I.list hq
 obtain⟨j,h1,h2,h3,h4,h5⟩:=ki4 he
 obtain⟨w,ew,rw'⟩:=r.get h2
 have hl:=r.length
 have hn:=kgX
 have fin:EP X pins σ Q w s:=⟨z,H,I,rw',q⟩
 by_cases h0:0≤i
 ·have hj:i.toNat=j:=by
   rw[seqIndex_of h0 h5] at h1
   exact Option.some.inj h1
  exact item_listR pl.isList h0 (by omega) (by rw[hj];simpa using ew) fin hs
 ·have hj:(i+(its.toArray.size:Int)).toNat=j:=by
   rw[seqIndex_neg (by omega) h4] at h1
   rw[UN,←hl]
   exact Option.some.inj h1
  exact subscriptTail_builtinR (x:=w) pl.isList.typeIs slot_list_getitem.lookup
   (wpAny_getItem_list_neg (Q:=fun r s'=>r=w∧EP X pins σ Q r s') pl.isList (by omega) (by rw[UN] <;> omega) (by omega) (by rw[hj];simpa using ew) ⟨rfl,fin⟩) hs
theorem kbd:IxR X (rIxT X.K):=by
 intro value slice pins s σ H x y v u Q I rx ry h hs
 obtain⟨p,xs,i,z,rfl,rfl,hq,he,q⟩:=h
 cases rx
 obtain⟨t,rfl⟩:=ry
 obtain⟨its,r,pl,hz⟩:=I.tuple hq
 obtain⟨j,h1,h2,h3,h4,h5⟩:=ki4 he
 obtain⟨w,ew,rw'⟩:=r.get h2
 have hl:=r.length
 have hn:=kgX
 have fin:EP X pins σ Q w s:=⟨z,H,I,rw',q⟩
 exact subscriptTail_builtinR (x:=w) pl.typeIs slot_tuple_getitem.lookup
  (getItem_tuple (j:=j) (Q:=fun r s'=>r=w∧EP X pins σ Q r s') pl (by omega) (by omega) (by rw[UN,←hl];exact h1) (by simpa using ew) ⟨rfl,fin⟩) hs
theorem khk(its:List Value)(n j:Nat)(u:Value):Obj.mapSeq (·.setIfInBounds j u) {cls:=.type "list",data:=.seq its.toArray n}= {cls:=.type "list",data:=.seq (its.set j u).toArray n}:=by
 simp[Obj.mapSeq]
theorem Inv.lst{pins:List (Addr×Obj)}{σ:St}{H:Hp}{s:Shared}{p:Addr}{xs:List V}(I:Inv X pins σ H s)(h:H p=some (.lst xs)):
  ∃(its:List Value) (n:Nat),Vals xs its∧s.heap.get? p=some {cls:=.type "list",data:=.seq its.toArray n}∧xs.length≤sizeLine:=by
 obtain⟨z,its,n,r,e⟩:=I.hok p _ h
 exact⟨its,n,r,e,z⟩
theorem Inv.lstUpd{pins:List (Addr×Obj)}{σ:St}{H:Hp}{s:Shared}{p:Addr}{xs ys:List V}{its its':List Value}{n n':Nat}{f:Obj→Obj}(I:Inv X pins σ H s)(h:H p=some (.lst xs))
  (ho:s.heap.get? p=some {cls:=.type "list",data:=.seq its.toArray n}) (hf:f {cls:=.type "list",data:=.seq its.toArray n}= {cls:=.type "list",data:=.seq its'.toArray n'}) (r:Vals ys its') (hz:ys.length≤sizeLine) (t:Nat):
  Inv X pins σ (upd H p (.lst ys)) {s with heap:=s.heap.update p f,toks:=t}:=by
 have e:(s.heap.update p f).get? p=some {cls:=.type "list",data:=.seq its'.toArray n'}:=by
  rw[Heap.get?_update_self f ho (by rw[hf] <;> rfl),hf]
 refine I.write (x:=p) (e:=p) (by rw[h];trivial) (.inl rfl) (fun b u hb q=>(Heap.get?_update_other _ _ (Ne.symm hb)).trans q) ⟨_,e⟩ ?_
 exact⟨hz,its',n',r,e⟩
noncomputable def rSetL:V→V→V→Hp→(Hp→Prop)→Prop:=fun o i v H Q=>∃p xs k j,o=.ref p∧i=.int k∧H p=some (.lst xs)∧ixN xs.length k=some j∧Q (upd H p (.lst (xs.set j v)))
theorem set_list:PSet X rSetL:=by
 intro pins s σ H o i v ov iv u Q I ro ri rv h
 obtain⟨p,xs,k,j,rfl,rfl,hp,hj,q⟩:=h
 cases ro
 obtain⟨t,rfl⟩:=ri
 obtain⟨its,n,r,ho,hz⟩:=I.lst hp
 obtain⟨h1,h2,h3,h4⟩:=kiw hj
 have hl:=r.length
 have hn:=kgX
 have I':Inv X pins σ (upd H p (.lst (xs.set j v))) {s with heap:=s.heap.update p (Obj.mapSeq (·.setIfInBounds j u))}:=
  I.lstUpd hp ho (khk its n j u) (r.set rv j) (by rw[NT];exact hz) s.toks
 by_cases h0:0≤k
 ·have hk:k.toNat=j:=by
   rw[seqIndex_of h0 h4] at h1
   exact Option.some.inj h1
  exact PySem.W.ki_setAt ho h0 (by omega) (by rw[UN,←hl];exact h4) (by rw[hk];exact⟨_,I',q⟩)
 ·have hk:(k+(its.toArray.size:Int)).toNat=j:=by
   rw[seqIndex_neg (by omega) h3] at h1
   rw[UN,←hl]
   exact Option.some.inj h1
  exact PySem.W.ki_setBack ho (by omega) (by rw[UN,←hl];exact h3) (by omega) (by rw[hk];exact⟨_,I',q⟩)
theorem kfh(lo hi:Option Int)(n:Nat):(sliceBounds lo hi none n).1=((HT.sIx n 0 lo:Nat):Int)∧(sliceBounds lo hi none n).2.1=((HT.sIx n n hi:Nat):Int)∧(sliceBounds lo hi none n).2.2=1:=by
 refine⟨?_,?_,rfl⟩
 ·cases lo with
  |none=>simp[sliceBounds,HT.sIx]
  |some i=>
   simp only[sliceBounds,HT.sIx,NU,show(1:Int) > 0 by decide,if_true]
   by_cases h:i<0
   ·simp only[h,if_true] <;> omega
   ·simp only[h,if_false] <;> omega
 ·cases hi with
  |none=>simp[sliceBounds,HT.sIx]
  |some i=>
   simp only[sliceBounds,HT.sIx,NU,show(1:Int) > 0 by decide,if_true]
   by_cases h:i<0
   ·simp only[h,if_true] <;> omega
   ·simp only[h,if_false] <;> omega
theorem keC(its:List Value)(lo hi:Option Int):slicePick its.toArray lo hi none=((its.drop (HT.sIx its.length 0 lo)).take (HT.sIx its.length its.length hi-HT.sIx its.length 0 lo)).toArray:=by
 obtain⟨h1,h2,h3⟩:=kfh lo hi its.toArray.size
 unfold slicePick
 rw[h1,h2,h3]
 simp only[sliceRange_one,pick_run,UN] <;> rfl
noncomputable def rSlL(K:Uv):V→Option Int→Option Int→Hp→VK→Prop:=fun x lo hi H Q=>∃a xs,x=.ref a∧SqL K H a xs∧∀p,H p=none→Q (.ref p) (upd H p (.lst (cutV xs lo hi)))
theorem keD:SlR X (rSlL X.K):=by
 intro pins s σ H x v vl vu lo hi sl Q I rx hs pl pu h
 obtain⟨a,xs,rfl,hx,q⟩:=h
 cases rx
 obtain⟨its,r,ht,hz⟩:=I.list hx
 have hlen:=r.length
 refine⟨"list",_,slot_list_getitem.lookup,ht.isList.typeIs,?_⟩
 refine wpAny_getItem_list_slice ht.isList hs pl pu .none (by simp) ?_ (by rw[UN] <;> omega)
 rw[keC,←hlen]
 refine⟨.ref s.heap.objs.size,_,I.laid (t':=s.toks) (o:=.lst (cutV xs lo hi)) (fun b ob q=>Heap.get?_push_of_some _ q) (Uw _) ?_,rfl,q _ (I.hok.fresh (Uw _))⟩
 exact⟨Uy (kd6 xs lo hi) hz,_,0,(r.drop (HT.sIx xs.length 0 lo)).take (HT.sIx xs.length xs.length hi-HT.sIx xs.length 0 lo),Heap.get?_push_size _ rfl⟩
noncomputable def flatV:V→Bool
 | .non=>true
 | .bl _=>true
 | .int _=>true
 | .str _=>true
 |_=>false
noncomputable def eqV:V→V→Bool
 | .non, .non=>true
 | .bl a, .bl b=>a==b
 | .bl a, .int b=>(if a then 1 else 0)==b
 | .int a, .bl b=>a==(if b then 1 else 0)
 | .int a, .int b=>a==b
 | .str a, .str b=>a==b
 |_,_=>false
theorem kiM{A:Around}{s:Shared}{y x:V}{u v:Value}(ry:RelV y u)(rx:RelV x v)(fy:flatV y=true)(fx:flatV x=true):SeqAt.EqAt A s u v (eqV y x):=by
 cases y with
 |non=>
  cases ry
  cases x with
  |non=>cases rx;exact SeqAt.EqAt.same _
  |bl b=>cases rx;exact SeqAt.EqAt.none_bool b
  |int b=>obtain⟨t,rfl⟩:=rx;exact SeqAt.EqAt.none_int b t
  |str b=>obtain⟨t,rfl⟩:=rx;exact SeqAt.EqAt.none_str b t
  |_=>exact absurd (show false=true from fx) UA
 |bl a=>
  cases ry
  cases x with
  |non=>cases rx;exact SeqAt.EqAt.bool_none a
  |bl b=>cases rx;exact SeqAt.EqAt.bool_bool a b
  |int b=>obtain⟨t,rfl⟩:=rx;exact SeqAt.EqAt.bool_int a b t
  |str b=>obtain⟨t,rfl⟩:=rx;exact SeqAt.EqAt.bool_str a b t
  |_=>exact absurd (show false=true from fx) UA
 |int a=>
  obtain⟨t',rfl⟩:=ry
  cases x with
  |non=>cases rx;exact SeqAt.EqAt.int_none a t'
  |bl b=>cases rx;exact SeqAt.EqAt.int_bool a t' b
  |int b=>obtain⟨t,rfl⟩:=rx;exact SeqAt.EqAt.int_int a t' b t
  |str b=>obtain⟨t,rfl⟩:=rx;exact SeqAt.EqAt.int_str a t' b t
  |_=>exact absurd (show false=true from fx) UA
 |str a=>
  obtain⟨t',rfl⟩:=ry
  cases x with
  |non=>cases rx;exact SeqAt.EqAt.str_none a t'
  |bl b=>cases rx;exact SeqAt.EqAt.str_bool a t' b
  |int b=>obtain⟨t,rfl⟩:=rx;exact SeqAt.EqAt.str_int a t' b t
  |str b=>obtain⟨t,rfl⟩:=rx;exact SeqAt.EqAt.str_str a t' b t
  |_=>exact absurd (show false=true from fx) UA
 |_=>exact absurd (show false=true from fy) UA
noncomputable def eqU(x:V)(u:Value):Bool:=match u with
 | .none=>eqV .non x
 | .bool b=>eqV (.bl b) x
 | .int i _=>eqV (.int i) x
 | .str z _=>eqV (.str z) x
 |_=>false
theorem kko{x y:V}{u:Value}(r:RelV y u)(f:flatV y=true):eqU x u=eqV y x:=by
 cases y with
 |non=>cases r;rfl
 |bl b=>cases r;rfl
 |int i=>obtain⟨t,rfl⟩:=r;rfl
 |str z=>obtain⟨t,rfl⟩:=r;rfl
 |_=>exact absurd (show false=true from f) UA
theorem kea{x:V}:∀{xs:List V} {us:List Value},Vals xs us→xs.all flatV=true→us.any (eqU x)=xs.any fun y=>eqV y x
 |_,_, .nil,_=>rfl
 |y::xs,u::us, .cons r t,f=>by
  rw[Nk,Jq] at f
  rw[Ji,Ji,kko r f.1,kea t f.2]
theorem kcV{A:Around}{s:Shared}{x:V}{v:Value}(rx:RelV x v)(fx:flatV x=true):∀{xs:List V} {us:List Value},Vals xs us→xs.all flatV=true→∀u∈us,SeqAt.EqAt A s u v (eqU x u)
 |_,_, .nil,_=>fun u hu=>by cases hu
 |y::xs,u::us, .cons r t,f=>fun u' hu=>by
  rw[Nk,Jq] at f
  rcases UO.mp hu with rfl|hu
  ·rw[kko r f.1];exact kiM r rx f.1 fx
  ·exact kcV rx fx t f.2 u' hu
noncomputable def inV(x:V)(xs:List V):Bool:=xs.any fun y=>eqV y x
noncomputable def rIn(K:Uv)(neg:Bool):R2:=fun x y H Q=>∃p xs,y=.ref p∧(SqL K H p xs∨SqT K H p xs)∧flatV x=true∧xs.all flatV=true∧Q (.bl (if neg then !inV x xs else inV x xs)) H
theorem kbn:OpR X (compareOp .In) (rIn X.K false):=by
 intro pins s σ H x y v u Q I rx ry h
 obtain⟨p,xs,rfl,hq,fx,fs,q⟩:=h
 cases ry
 rcases hq with hq|hq
 ·obtain⟨its,r,pl,hz⟩:=I.list hq
  refine SeqAt.in_listAt (eqU x) pl.isList (fun w hw=>kcV rx fx r fs w (by simpa using hw)) ⟨.bl _,H,I,rfl,?_⟩
  rw[show its.toArray.any (eqU x)=its.any (eqU x) by simp,kea r fs]
  exact q
 ·obtain⟨its,r,pl,hz⟩:=I.tuple hq
  refine SeqAt.in_tupleAt (eqU x) pl (fun w hw=>kcV rx fx r fs w (by simpa using hw)) ⟨.bl _,H,I,rfl,?_⟩
  rw[show its.toArray.any (eqU x)=its.any (eqU x) by simp,kea r fs]
  exact q
theorem kdj:OpR X (compareOp .NotIn) (rIn X.K true):=by
 intro pins s σ H x y v u Q I rx ry h
 obtain⟨p,xs,rfl,hq,fx,fs,q⟩:=h
 cases ry
 rcases hq with hq|hq
 ·obtain⟨its,r,pl,hz⟩:=I.list hq
  refine SeqAt.notIn_listAt (eqU x) pl.isList (fun w hw=>kcV rx fx r fs w (by simpa using hw)) ⟨.bl _,H,I,rfl,?_⟩
  rw[show its.toArray.any (eqU x)=its.any (eqU x) by simp,kea r fs]
  exact q
 ·obtain⟨its,r,pl,hz⟩:=I.tuple hq
  refine SeqAt.notIn_tupleAt (eqU x) pl (fun w hw=>kcV rx fx r fs w (by simpa using hw)) ⟨.bl _,H,I,rfl,?_⟩
  rw[show its.toArray.any (eqU x)=its.any (eqU x) by simp,kea r fs]
  exact q
theorem kaA:CallR X (.builtin "len") (fun xs H Q=>∃p ys,xs=[.ref p]∧(SqL X.K H p ys∨SqT X.K H p ys)∧Q (.int ys.length) H):=by
 intro pins s σ H xs us Q I r h
 obtain⟨p,ys,rfl,hq,q⟩:=h
 obtain⟨u,rfl,rx⟩:=vals1 r
 cases rx
 have hn:=kgX
 rcases hq with hq|hq
 ·obtain⟨its,r',pl,hz⟩:=I.list hq
  have hlen:=r'.length
  exact Calls.call_len_list pl.isList (by simp only[UN] <;> omega) ⟨.int ys.length,H,I.tok _,⟨s.toks+1,by rw[UN,hlen]⟩,q⟩
 ·obtain⟨its,r',pl,hz⟩:=I.tuple hq
  have hlen:=r'.length
  exact len_tuple pl (by simp only[UN] <;> omega) ⟨.int ys.length,H,I.tok _,⟨s.toks+1,by rw[UN,hlen]⟩,q⟩
theorem CallR.or{f:Value}{r r':List V→Hp→VK→Prop}(h:CallR X f r)(h':CallR X f r'):CallR X f (fun xs H Q=>r xs H Q∨r' xs H Q):=by
 intro pins s σ H xs us Q I rs q
 rcases q with q|q
 ·exact h pins s σ H xs us Q I rs q
 ·exact h' pins s σ H xs us Q I rs q
theorem kaM:CallR X (.type "list") (fun xs H Q=>∃p ys,xs=[.ref p]∧(SqL X.K H p ys∨SqT X.K H p ys)∧∀l,H l=none→Q (.ref l) (upd H l (.lst ys))):=by
 intro pins s σ H xs us Q I r h
 obtain⟨p,ys,rfl,hq,q⟩:=h
 obtain⟨u,rfl,rx⟩:=vals1 r
 cases rx
 have fin:∀(its:List Value),Vals ys its→ys.length≤sizeLine→∀(h':Heap) (c':Nat),(∀b o',s.heap.get? b=some o'→h'.get? b=some o')→
   h'.get? s.heap.objs.size=some {cls:=.type "list",dict:=none,data:=.seq its.toArray c',slots:=#[]}→EP X pins σ Q (.ref s.heap.objs.size) {s with heap:=h'}:=fun its r' hz h' c' kp e=>
  ⟨.ref s.heap.objs.size,_,I.laid (t':=s.toks) kp (Uw _) (show ObjOk X.prog X.w _ h' _ (.lst ys) from⟨hz,its,c',r',e⟩),rfl,q _ (I.hok.fresh (Uw _))⟩
 rcases hq with hq|hq
 ·obtain⟨its,r',pl,hz⟩:=I.list hq
  have hlen:=r'.length
  obtain⟨o,ho,hc,n,hd⟩:=pl.isList
  exact call_list_seq p (.inl rfl) ho hc hd (fun h' c' kp e=>fin its r' hz h' c' kp e) (by simp only[UN] <;> omega)
 ·obtain⟨its,r',pl,hz⟩:=I.tuple hq
  have hlen:=r'.length
  obtain⟨o,ho,hc,n,hd⟩:=pl
  exact call_list_seq p (.inr rfl) ho hc hd (fun h' c' kp e=>fin its r' hz h' c' kp e) (by simp only[UN] <;> omega)
noncomputable def tyV(K:Uv)(T:String)(x:V)(H:Hp):Prop:=match x with
 | .str _=>T="str"
 | .int _=>T="int"
 | .ref p=>(T="list"∧∃xs,SqL K H p xs)∨(T="tuple"∧∃o,K.lookup p=some o∧o.cls=.type "tuple"∧o.dict=none)∨
   (T="dict"∧((∃kvs,H p=some (.dK kvs))∨∃kvs,H p=some (.dT kvs)))∨(T="set"∧∃S n,H p=some (.set S n))
 |_=>False
theorem kjY{pins:List (Addr×Obj)}{σ:St}{H:Hp}{s:Shared}{T:String}{x:V}{v:Value}(I:Inv X pins σ H s)(r:RelV x v)(ty:tyV X.K T x H):
  s.TypeIs v T∧∀a,v=.ref a→∃ob,s.heap.get? a=some ob∧ob.dict=none:=by
 cases x with
 |str z=>
  obtain⟨t,rfl⟩:=r
  cases(show T="str" from ty)
  exact⟨typeIs_str s z t,fun _ e=>nomatch e⟩
 |int i=>
  obtain⟨t,rfl⟩:=r
  cases(show T="int" from ty)
  exact⟨typeIs_int s i t,fun _ e=>nomatch e⟩
 | ref p=>
  cases r
  rcases ty with⟨rfl,xs,hq⟩|⟨rfl,o,hk,hc,hd⟩|⟨rfl,hk⟩|⟨rfl,S,n,hk⟩
  ·obtain⟨its,_,pl,_⟩:=I.list hq
   refine⟨pl.isList.typeIs,fun a e=>?_⟩
   cases e
   obtain⟨o,n,e,c,hd,_⟩:=pl
   exact⟨o,e,hd⟩
  ·refine⟨⟨o,I.kIn p o hk,hc⟩,fun a e=>?_⟩
   cases e
   exact⟨o,I.kIn _ o hk,hd⟩
  ·have z:∃o,s.heap.get? p=some o∧o.ExactDict:=by
    rcases hk with⟨kvs,hk⟩|⟨kvs,hk⟩
    ·obtain⟨_,_,_,_,o,_,_,e,ex,_⟩:=I.hok p _ hk
     exact⟨o,e,ex⟩
    ·obtain⟨_,_,_,_,o,_,_,e,ex,_⟩:=I.hok p _ hk
     exact⟨o,e,ex⟩
   obtain⟨o,e,ex⟩:=z
   refine⟨⟨o,e,ex.1⟩,fun a e2=>?_⟩
   cases e2
   exact⟨o,e,ex.2.1⟩
  ·obtain⟨o,_,_,_,e,ex,_⟩:=I.hok p _ hk
   refine⟨⟨o,e,ex.1⟩,fun a e2=>?_⟩
   cases e2
   exact⟨o,e,ex.2.1⟩
 |_=>exact False.elim ty
noncomputable def tBM(K:Uv)(T:String)(r:V→List V→Hp→VK→Prop)(to:TE)(t:TA):TE:=fun σ H Q=>to σ H fun x H1=>tyV K T x H1∧t σ H1 fun xs H2=>r x xs H2 Q
variable {o e:Expr} {es:List Expr} {to:TE} {t:TA} {name:Str} {apos cpos:Pos} {T id:String} {r:V→List V→Hp→VK→Prop}
theorem pe_bm(pa:PlainAttrs T)(slot:Slot T name id)(hty:typeOf (.builtin id)=pure (.type "method_descriptor"))(hm:MtR X id r)(ho:PE X o to)(ha:PA X (e::es) t)
  (hbase:attributeBase o name X.env (eval o X.env)=eval o X.env:=by rfl)
  (hfew:((backTo cpos (starEach (e::es) X.env)).all (fun x=>!x.1)&&(backToKw cpos (keywordEach [] X.env)).all (fun x=>x.1.isSome)
   &&decide ((e::es).length+([]:List Keyword).length+(if([]:List Keyword).isEmpty then 0 else 1)<30))=true:=by rfl)
  (hline:(apos.endLine==cpos.line)=true:=by rfl) (hs:starEach (e::es) X.env=(false,eval e X.env)::starEach es X.env:=by rfl) (hplain:(backTo cpos (starEach es X.env)).any (·.1)=false:=by rfl):
  PE X (.Call (.Attribute o name apos) (e::es) [] cpos) (tBM X.K T r to t):=by
 intro pins s σ H Q I h
 refine wpAny_Call_method_late hbase hfew hline rfl (thn (ho pins s σ H _ I h) fun v s1 ⟨x,H1,I1,r1,ty,q1⟩=>?_)
 obtain⟨h1,h2⟩:=kjY I1 r1 ty
 refine⟨T,id,pa,slot,hty,h1,h2,?_⟩
 have hA:=ha cpos pins s1 σ H1 _ I1 q1
 rw[hs] at hA⊢
 refine Calls.callWith_builtin (by show(false||(backTo cpos (starEach es X.env)).any (·.1))=false;rw[hplain] <;> rfl) (Calls.evalArgs_plain ?_)
 exact thn hA fun us s2 ⟨vs,H2,I2,r2,q2⟩=>hm pins s2 σ H2 x vs v us Q I2 r1 r2 q2
end
end L2
namespace L2
open PySem PySem.Spec PyProof.Rows
noncomputable def MtM(X:Cx)(id:String)(r:V→List V→Hp→VK→Prop):Prop:=
 ∀(pins:List (Addr×Obj)) (s:Shared) (σ:St) (H:Hp) (x:V) (xs:List V) (v:Value) (us:List Value) (Q:VK),Inv X pins σ H s→RelV x v→Vals xs us→r x xs H Q→
  wpAny (model X.prog X.w) X.A (call (.builtin id) (v::us)) (EP X pins σ Q) X.xe s
theorem Vals.one:∀{x:V} {us:List Value},Vals [x] us→∃u,us=[u]∧RelV x u
 |_,_, .cons r .nil=>⟨_,rfl,r⟩
theorem Vals.two:∀{x y:V} {us:List Value},Vals [x,y] us→∃u v,us=[u,v]∧RelV x u∧RelV y v
 |_,_,_, .cons r (.cons q .nil)=>⟨_,_,rfl,r,q⟩
theorem Vals.zero:∀{us:List Value},Vals [] us→us=[]
 |_, .nil=>rfl
theorem Vals.dropLast{xs:List V}{us:List Value}(h:Vals xs us):Vals xs.dropLast us.dropLast:=by
 induction h with
 |nil=>exact .nil
 |cons r t ih=>
  cases t with
  |nil=>exact .nil
  |cons q t'=>exact .cons r ih
theorem Vals.reverse{xs:List V}{us:List Value}(h:Vals xs us):Vals xs.reverse us.reverse:=by
 induction h with
 |nil=>exact .nil
 |cons r t ih=>rw[Nl,Nl];exact Vals.append ih (.cons r .nil)
theorem Vals.rep{xs:List V}{us:List Value}(h:Vals xs us):∀k:Nat,Vals (Uz k xs).flatten (Uz k us).flatten
 |0=>.nil
 |k+1=>by
  rw[JE,JE,U0,U0]
  exact Vals.append h (Vals.rep h k)
theorem foldl_rep(its:List Value):∀(k:Nat) (acc:List Value),
  List.foldl (fun x1 x2=>x1++x2) acc.toArray (Uz k its.toArray)=(acc++(Uz k its).flatten).toArray
 |0,acc=>by simp
 | k+1,acc=>by
  have e:acc.toArray++its.toArray=(acc++its).toArray:=by simp
  have e2:(acc++its)++(Uz k its).flatten=acc++(Uz (k+1) its).flatten:=by
   rw[JE,U0,JR]
  rw[←e2,←foldl_rep its k (acc++its),←e,JE,List.foldl_cons]
section
variable {X:Cx} {pins:List (Addr×Obj)} {σ:St} {H:Hp} {s:Shared} {l b:Addr} {xs ys zs:List V}
theorem Inv.lset{its its':List Value}{n:Nat}{f:Array Value→Array Value}{t':Nat}(I:Inv X pins σ H s)(hH:H l=some (.lst xs))
  (e:s.heap.get? l=some {cls:=.type "list",data:=.seq its.toArray n}) (hf:f its.toArray=its'.toArray) (hv:Vals ys its') (hz:ys.length≤sizeLine):
  Inv X pins σ (upd H l (.lst ys)) {s with heap:=s.heap.update l (Obj.mapSeq f),toks:=t'}:=by
 have q:=PySem.IsL.update e f
 rw[hf] at q
 refine I.write (x:=l) (e:=l) (by rw[hH];exact trivial) (.inl rfl) (fun b' u hb hu=>(Heap.get?_update_other s.heap (Obj.mapSeq f) (Ne.symm hb)).trans hu) ⟨_,q⟩ ?_
 exact⟨hz,its',_,hv,q⟩
theorem Inv.lnew{its:List Value}{t':Nat}(I:Inv X pins σ H s)(hv:Vals ys its)(hz:ys.length≤sizeLine):
  Inv X pins σ (upd H s.heap.objs.size (.lst ys)) {s with heap:=s.heap.push {cls:=.type "list",data:=.seq its.toArray},toks:=t'}:=
 I.laid (fun _ _ q=>Heap.get?_push_of_some _ q) (Uw _) ⟨hz,its,0,hv,Heap.get?_push_size _ rfl⟩
theorem Inv.fresh(I:Inv X pins σ H s):H s.heap.objs.size=none:=I.hok.fresh (Uw _)
theorem Inv.lstM(I:Inv X pins σ H s)(hH:H l=some (.lst xs)):xs.length≤sizeLine∧∃(its:List Value) (n:Nat),Vals xs its∧xs.length=its.length∧s.heap.get? l=some {cls:=.type "list",data:=.seq its.toArray n}:=by
 obtain⟨z,its,n,r,e⟩:=I.hok l _ hH
 exact⟨z,its,n,r,r.length,e⟩
theorem kgS{n:Nat}(h:n≤sizeLine):Builtin.List.listTooLong n=false:=by
 unfold Builtin.List.listTooLong
 exact decide_eq_false (by omega)
end
section
variable {X:Cx}
noncomputable def kkJ:V→List V→Hp→VK→Prop:=fun x vs H Q=>∃l xs y,x=.ref l∧vs=[y]∧H l=some (.lst xs)∧xs.length<sizeLine∧Q .non (upd H l (.lst (xs++[y])))
theorem kbf:MtM X "list.append" kkJ:=by
 intro pins s σ H x vs v us Q I rx rv h
 obtain⟨l,xs,y,rfl,rfl,hH,hz,q⟩:=h
 cases rx
 obtain⟨u,rfl,ru⟩:=rv.one
 obtain⟨z,its,n,r,hl,e⟩:=I.lstM hH
 refine call_meets F.slot_list_append ⟨_,e,rfl⟩ F.entry_list_append (F.args_list_append_2 _ _) (PySem.list_append l its.toArray n u (by rw[UN];omega)) ⟨e,?_⟩
 refine⟨.non,_,I.lset (its':=its++[u]) hH e (by simp) (r.append (.cons ru .nil)) ?_,rfl,q⟩
 rw[UW,JK]
 omega
noncomputable def kkI:V→List V→Hp→VK→Prop:=fun x vs H Q=>∃l b xs zs,x=.ref l∧vs=[.ref b]∧H l=some (.lst xs)∧H b=some (.lst zs)∧xs.length+zs.length≤sizeLine∧Q .non (upd H l (.lst (xs++zs)))
theorem kfy:MtM X "list.extend" kkI:=by
 intro pins s σ H x vs v us Q I rx rv h
 obtain⟨l,b,xs,zs,rfl,rfl,hH,hB,hz,q⟩:=h
 cases rx
 obtain⟨u,rfl,ru⟩:=rv.one
 cases ru
 obtain⟨z,its,n,r,hl,e⟩:=I.lstM hH
 obtain⟨z2,its2,n2,r2,hl2,e2⟩:=I.lstM hB
 have hsz:its.toArray.size+its2.toArray.size≤sizeLine:=by rw[UN,UN];omega
 have hlong:¬(!its.toArray.isEmpty&&Builtin.List.listTooLong (its.toArray.size+its2.toArray.size))=true:=by
  rw[kgS hsz,Bool.and_false]
  exact UA
 refine call_meets F.slot_list_extend ⟨_,e,rfl⟩ F.entry_list_extend (F.args_list_extend_2 _ _)
  (AutoSeq1.list_extend_list_list_0 l its.toArray n b its2.toArray n2 hlong (by rw[UN];omega) (by omega)) ⟨e,e2,?_⟩
 refine⟨.non,_,I.lset (its':=its++its2) hH e (by simp) (r.append r2) ?_,rfl,q⟩
 rw[UW]
 omega
noncomputable def rCat:R2:=fun x y H Q=>∃l b xs zs,x=.ref l∧y=.ref b∧H l=some (.lst xs)∧H b=some (.lst zs)∧xs.length+zs.length≤sizeLine∧∀p,H p=none→Q (.ref p) (upd H p (.lst (xs++zs)))
theorem kkg:OpR X (binaryOp .Add) rCat:=by
 intro pins s σ H x y v u Q I rx ry h
 obtain⟨l,b,xs,zs,rfl,rfl,hH,hB,hz,q⟩:=h
 cases rx
 cases ry
 obtain⟨z,its,n,r,hl,e⟩:=I.lstM hH
 obtain⟨z2,its2,n2,r2,hl2,e2⟩:=I.lstM hB
 refine PySem.P.add_list e e2 ?_ (by rw[UN,UN];omega)
 have ea:its.toArray++its2.toArray=(its++its2).toArray:=by simp
 rw[ea]
 exact⟨.ref _,_,I.lnew (t':=s.toks) (r.append r2) (by rw[UW];omega),rfl,q _ I.fresh⟩
noncomputable def rRep:R2:=fun x y H Q=>∃l k xs,x=.ref l∧y=.int k∧H l=some (.lst xs)∧-(2 ^ 63)≤k∧k<2 ^ 63∧xs.length*k.toNat≤sizeLine∧
 ∀p,H p=none→Q (.ref p) (upd H p (.lst (Uz k.toNat xs).flatten))
theorem len_rep{α:Type}(xs:List α)(k:Nat):(Uz k xs).flatten.length=k*xs.length:=by
 induction k with
 |zero=>simp
 |succ k ih=>rw[JE,U0,UW,ih,Nat.succ_mul,Nat.add_comm]
theorem kkd:OpR X (binaryOp .Mult) rRep:=by
 intro pins s σ H x y v u Q I rx ry h
 obtain⟨l,k,xs,rfl,rfl,hH,h1,h2,hz,q⟩:=h
 cases rx
 obtain⟨t,rfl⟩:=ry
 obtain⟨z,its,n,r,hl,e⟩:=I.lstM hH
 have hlen:its.toArray.size*k.toNat≤sizeLine:=by rw[UN,←hl];exact hz
 have hcap:¬its.toArray.size*k.toNat > (2 ^ 63-1)/8:=by
  have:(sizeLine:Nat)≤(2 ^ 63-1)/8:=by decide
  omega
 have hfit:¬(!Builtin.List.listFitsIndex k)=true:=by
  rw[fitsIndex_both h1 h2]
  exact UA
 have hlong:¬Builtin.List.listTooLong (its.toArray.size*k.toNat)=true:=by
  rw[kgS hlen]
  exact UA
 have hnew:List.foldl (fun x1 x2=>x1++x2) #[] (Uz (if its.toArray.isEmpty=true then 0 else k.toNat) its.toArray)=(Uz k.toNat its).flatten.toArray:=by
  have f0:∀m:Nat,List.foldl (fun x1 x2=>x1++x2) #[] (Uz m its.toArray)=(Uz m its).flatten.toArray:=fun m=>by
   have:=foldl_rep its m []
   rw[Nm] at this
   exact this
  rw[f0]
  cases its with
  |nil=>simp
  |cons a r'=>rw[if_neg (by simp)]
 refine wpAny_binaryOp_repeat_ref (T:="list") (U:="int") (by decide) ⟨_,e,rfl⟩ (fun s'=>typeIs_int s' k t) noFill_list_mul F.fills_int_mul F.slot_int_rmul repeat_list F.slot_int_index.lookup
  (call_meets F.slot_int_rmul (typeIs_int s k t) F.entry_int_rmul (F.args_int_rmul_2 _ _) (int___rmul___int_list k t l its.toArray n)
   ⟨e,rfl,⟨_,e,rfl⟩,call_meets F.slot_list_mul ⟨_,e,rfl⟩ F.entry_list_mul (F.args_list_mul_2 _ _) (AutoListH.list___mul___list_int_3 l its.toArray n k t hfit hcap hlong) ⟨e,?_⟩⟩)
 rw[hnew]
 exact⟨.ref _,_,I.lnew (t':=s.toks) (r.rep k.toNat) (by rw[len_rep,Nat.mul_comm];exact hz),rfl,q _ I.fresh⟩
end
section
variable {prog:Program} {w:World} {A:Around} {E:Value→Shared→Prop} {s:Shared}
set_option maxRecDepth 100000 in
end
section
variable {X:Cx}
end
end L2
namespace Att
open PySem PySem.W PySem.Calls PyProof.Rows
theorem kd3{P:Params}{h:Heap}:∀(ns:List Int) (vs:List Value),WellAll P h vs (ns.map WData.int)→IntsAre vs ns:=by
 intro ns
 induction ns with
 |nil=>
  intro vs w
  rw[Nj] at w
  cases w
  exact .nil
 | cons n ns ih=>
  intro vs w
  rw[UQ] at w
  cases w with
  |cons a b=>
   cases a
   exact .cons _ _ (ih _ b)
theorem kh3{l:OpenLaw}{n:Nat}(hn:l.most=some n){P:Params}{h:Heap}{args:List WData}{vals:List Value}
  (hpre:l.row.toRowW.claim.pre args=true) (hwl:WellAll P h vals args):
  ∃a vs ns,vals=[Value.ref a]∧args=[WData.list (ns.map WData.int)]∧h.get? a=some {cls:=.type "list",data:=.seq vs.toArray}∧IntsAre vs ns∧ns.length≤n:=by
 have hsh:WShape.hasAll [] args [.list .int]=true:=(pre_splitW hpre).1
 have hc:l.pre.holds [] {args:=args}=true:=(pre_splitW hpre).2
 obtain⟨d,r,rfl,h1,h2⟩:=hasAllW_cons hsh
 obtain rfl:=hasAllW_nil h2
 obtain⟨xs,rfl,h3⟩:=hasW_list h1
 obtain⟨ns,rfl⟩:=items_int h3
 have hlen:ns.length≤n:=by
  unfold OpenLaw.pre at hc
  have h4:(WTm.not (.lt (.lit (.int (n:Int))) (.len (.arg 0)))).holds [] {args:=[.list (ns.map .int)]}=true:=by
   have h4:=(holds_andW hc).1
   rw[hn] at h4
   exact h4
  have h5:=condW_of h4 (w_not (w_lt w_lit (w_len_list (w_arg rfl))))
  rw[Uu] at h5
  refine Nat.le_of_not_lt fun q=>?_
  have q':(n:Int)<((ns.length:Nat):Int):=by omega
  first
   |(rw[decide_eq_true q'] at h5;exact absurd h5 (by decide))
   |(simp at h5;omega)
 cases hwl with
 |cons w1 w2=>
  cases w2
  cases w1 with
  |list ho hall=>exact⟨_,_,ns,rfl,rfl,ho,kd3 ns _ hall,hlen⟩
theorem kid(l:OpenLaw)(args:List WData):l.row.toRowW.claim.post args (.bool true) args=true:=
 postW_of (r:=l.row.toRowW) (X:=(true==true))
  (show WShape.has [] (.bool true) .bool=true by first|rfl|decide|simp[WShape.has,WShape.arms,WShape.armsAll])
  (show(WTm.eq .res (.lit (.bool true))).value [] {args:=args,res:=some (.bool true),after:=args}=some (.bool (true==true)) from w_eq_bool (w_res rfl) w_lit) rfl
theorem attach_call{l:OpenLaw}{n:Nat}{q:Program}{loose:List Str}{XP:(Str→Option Value)→Heap→Prop}{YP:World→Heap→Prop}{d:DefRec}
  (hn:l.most=some n) (hdf:d.params.defaults=[])
  (call:∀(w:World) (s₀ s₁:Shared) (mg mb:Str→Option Value) (fa:Addr) (o:Obj) (pm cd doc:Value) (a:Addr) (vs:List Value) (ns:List Int),
   Ground q loose [] XP w s₀ mg mb s₁.heap→YP w s₁.heap→
   s₁.heap.get? fa=some o→o.data=.func (docDef d.name d.params d.body d.scope pm cd doc)→s₁.heap.CodeRec cd d.name→mg d.name=some (.ref fa)→
   s₁.heap.get? a=some {cls:=.type "list",data:=.seq vs.toArray}→IntsAre vs ns→ns.length≤n→s₁.gens= #[]→
   codeAny (model l.prog w) callerA (.call (.ref fa) ⟨[.ref a],[]⟩) (fun r s'=>r=.ok (.ret (.bool true))∧OldK s₁.heap s'.heap∧s'.os=s₁.os∧AllBare s'.gens) s₁):
  WalkO q loose XP YP l.row.toRowW d [] (fun f vs=>PySem.call f vs):=by
 intro w s₀ s₁ mg mb G Y fa o pm cd doc dV kV ho hd hcd hD hmg hg args vals as hpre hlay hrd hwl hlo
 obtain rfl:dV=.none:=Dflts.none hD hdf
 obtain rfl:kV=.none:=Dflts.noKw hD
 obtain⟨a,vs,ns,rfl,rfl,hobj,hints,hlen⟩:=kh3 hn hpre hwl
 refine enter_call (codeAny_mono (call w s₀ s₁ mg mb fa o pm cd doc a vs ns G Y ho (fd_plain hd) hcd hmg hobj hints hlen hg) fun r s' hq=>?_)
 obtain⟨rfl,h2,h3,h4⟩:=hq
 exact⟨.inl ⟨.bool true, .bool true,[],rfl,fun _=>rfl, .bool true,kid l _,fun _=>⟨JS.nil,fun _ hm=>(nomatch hm)⟩⟩,h2,h3,h4⟩
section
variable {prog:Program} {w:World} {A:Around} {E:Value→Shared→Prop} {s:Shared} {K:Frag}
end
end Att
namespace L2
open PySem PySem.Spec PyProof.Rows
theorem ke8:∀{vs:List Value} {ns:List Int},IntsAre vs ns→Vals (ns.map V.int) vs
 |_,_, .nil=>.nil
 |_,_, .cons n t h=>.cons ⟨t,rfl⟩ (ke8 h)
end L2
namespace L2
open PySem PySem.Spec PyProof.Rows
end L2
namespace L2
open PySem PySem.Spec PyProof.Rows
noncomputable def inClass(s:Stmt)(j:Nat):Stmt:=match s with
 | .ClassDef _ _ _ body _ _ _ _ _ _ _=>body.getD j (.Pass ⟨0,0,0,0⟩)
 |_=>.Pass ⟨0,0,0,0⟩
noncomputable def kaE(s:Stmt):Arguments:=match s with
 | .FunctionDef _ a _ _ _ _ _ _ _ _=>a
 |_=>{posonlyargs:=[],args:=[],vararg:=none,kwonlyargs:=[],kw_defaults:=[],kwarg:=none,defaults:=[]}
noncomputable def kaD(s:Stmt):List Stmt:=match s with
 | .FunctionDef _ _ b _ _ _ _ _ _ _=>b
 |_=>[]
noncomputable def kag(s:Stmt):Scope:=match s with
 | .FunctionDef _ _ _ _ _ _ sc _ _ _=>sc
 |_=>{kind:=.function,names:=[],isGenerator:=false,isCoroutine:=false}
noncomputable abbrev CX0:CXT:=fun _ _ _ _ _ _=>False
noncomputable abbrev E0:XK:=fun _ _ _=>False
theorem pass0{X:Cx}:kc0 CX0 X E0:=fun _ _ _ _ _ _ _ h=>h.elim
structure Fun (K:Uv) (x qual:Str) (st:Stmt) (f:Addr) (fd:FuncData):Prop where
 ex:∃(oc:Value) (od:Option Addr) (kV doc pm:Value) (an:Option Addr) (cdv ct:Value) (osl:Array (Option Value)),
  fd=UI x qual (kaE st) (kaD st) (kag st) .none kV doc pm an cdv ct∧K.lookup f=some ⟨oc,od, .func fd,osl⟩∧U2 K cdv qual=true
 kp:UJ K (.ref f)=true
section
variable {P:Program} {w:World} {K:Uv} {mg:Str→Option Value} {base:Heap}
theorem Fun.ok{x qual:Str}{st:Stmt}{f:Addr}{fd:FuncData}{N ps:List Str}{k:Nat}{sp:Sp}(F:Fun K x qual st f fd)(S:kaq N ps (kag st))(len:∀vs H Q E,sp vs H Q E→vs.length=ps.length)
  (hbody:∀(cdv:Value) (A:Around) (outer:List Env) (s:Shared) (H:Hp) (vs:List V) (Q:VK) (E:XK),Room k (A.deeper (envOfC qual (kag st) s.heap.objs.size f cdv))→sp vs H Q E→
   ∃t,PSs (cxOf CX0 P w K mg base N qual (kag st) f cdv A outer s H E).nox (kaD st) t∧t {nx:=fun _ H'=>Q .non H',rt:=Q} (start N vs) H):FnOk P w K mg base CX0 (k+1) f fd ps sp:=by
 obtain⟨oc,od,kV,doc,pm,an,cdv,ct,osl,rfl,lk,hcd⟩:=F.ex
 refine fn_of lk hcd S len fun A outer s H vs Q E hr hsp=>?_
 obtain⟨t,h,q⟩:=hbody cdv A outer s H vs Q E hr hsp
 exact⟨t,h.nox,q⟩
theorem Fun.binds{x qual:Str}{st:Stmt}{f:Addr}{fd:FuncData}{ps:List Str}(F:Fun K x qual st f fd)
  (h:∀(kV doc pm:Value) (an:Option Addr) (cdv ct:Value) (us:List Value),us.length=ps.length→bindArgs (UI x qual (kaE st) (kaD st) (kag st) .none kV doc pm an cdv ct) ⟨us,[]⟩=pure (ps.zip us)):Binds K fd ps []:=by
 obtain⟨oc,od,kV,doc,pm,an,cdv,ct,osl,rfl,lk,hcd⟩:=F.ex
 exact .all (h kV doc pm an cdv ct)
end
theorem hu_of{A:Around}{k:Nat}(hr:Room k A):A.units+1<cLine:=Jr (Nat.add_le_add_left (by decide:1≤64) _) hr.units
theorem kar{n:Nat}(h:n≤1000):n<sizeLine:=Jr h (by decide)
section
variable {X:Cx}
theorem pv(i:Nat){x:Str}{pos:Pos}(hN:X.N[i]?=some x:=by rfl)(hv:Vis X.env.scope x:=by first|exact Or.inl rfl|exact Or.inr (Or.inl rfl)|exact Or.inr (Or.inr rfl))(hd:(x==("__debug__" :Str))=false:=by decide)
  (hcd:(x==("__classdict__" :Str))=false:=by decide):PE X (.Name x pos) (tVar i):=klk hN hv hd hcd
end
theorem iteF{A B:Prop}(h:B):if false=true then A else B:=by
 rw[if_neg UA]
 exact h
theorem iteT{A B:Prop}(h:A):if true=true then A else B:=by
 rw[if_pos rfl]
 exact h
theorem ite2{c A B:Prop} [Decidable c] (h1:c→A) (h2:¬c→B):if c then A else B:=by
 by_cases h:c
 ·rw[if_pos h]
  exact h1 h
 ·rw[if_neg h]
  exact h2 h
end L2
set_option maxHeartbeats 4000000
namespace L3
end L3
namespace L2
open PySem PySem.Spec PyProof.Rows
section
variable {X:Cx}
theorem log2_small{n:Nat}(h:n<2 ^ 200):n.log2<9000:=by
 by_cases h0:n=0
 ·subst h0
  decide
 ·have h1:n.log2<200:=(Nat.log2_lt h0).mpr h
  omega
noncomputable def CDivB(_ j:Int):Prop:=0<j∧j<2 ^ 199
theorem kjq:OpR X (binaryOp .FloorDiv) (rI CDivB fun i j=>.int (i/j)):=opI fun i j _ _ _ _ _ hc q=>by
 have h1:(0:Int)<j:=hc.1
 have h2:j<2 ^ 199:=hc.2
 have h3:j.natAbs<2 ^ 200:=by omega
 exact floordiv_int (by omega) (by rw[Int.fdiv_eq_ediv_of_nonneg i (by omega)];exact q) (.inl (PyProof.noPylong_of_log2 (log2_small h3)))
theorem kdI(hc:X.calm=true):CallR X (.builtin "sum") (fun xs H Q=>∃(p:Addr) (ns:List Int),xs=[.ref p]∧SqL X.K H p (ns.map V.int)∧Q (.int ns.sum) H):=by
 intro pins s σ H xs us Q I r h
 obtain⟨p,ns,rfl,hq,q⟩:=h
 obtain⟨u,rfl,rx⟩:=vals1 r
 cases rx
 obtain⟨its,r',pl,hz⟩:=I.list hq
 have hi:IntsAre its ns:=intsAre_of r'
 have ha:=hi.allInts
 obtain⟨zs,hx⟩:=ha.items
 have hl:=pl.isList
 rw[hx] at hl
 refine sum_intListG (I.ok.hd hc) hl fun h' tk t' hk=>⟨.int ns.sum,H,I.kept hk,⟨t',?_⟩,q⟩
 have e2:preSum (numAt zs) zs.size=(numsOf (intItems zs).toList).sum:=by
  rw[nums_intItems,preSum_eq,JF (by simp)]
 have e3:numsOf its.toArray.toList=ns:=hi.numsOf
 rw[e2,←hx,e3]
noncomputable def eqVs:List V→List V→Bool
 |[],[]=>true
 |x::xs,y::ys=>eqV x y&&eqVs xs ys
 |_,_=>false
theorem kc7:∀(xs ys:List V),xs.length=ys.length→(UB xs.length).all (fun j=>eqV (xs.getD j .non) (ys.getD j .non))=eqVs xs ys
 |[],[],_=>rfl
 |[],_::_,h=>by simp at h
 |_::_,[],h=>by simp at h
 |x::xs,y::ys,h=>by
  have ih:=kc7 xs ys (by simpa using h)
  show(UB (xs.length+1)).all _=(eqV x y&&eqVs xs ys)
  rw[List.range_succ_eq_map,Nk,List.all_map]
  show(eqV x y&&_)=_
  rw[←ih]
  rfl
theorem kg2:∀{x:V},flatV x=true→eqV x x=true
 | .non,_=>rfl
 | .bl b,_=>by simp[eqV]
 | .int i,_=>by simp[eqV]
 | .str z,_=>by simp[eqV]
theorem kfG:∀{xs:List V},xs.all flatV=true→eqVs xs xs=true
 |[],_=>rfl
 |x::xs,h=>by
  rw[Nk,Jq] at h
  show(eqV x x&&eqVs xs xs)=true
  rw[kg2 h.1,kfG h.2]
  rfl
theorem kfH:∀{ns ms:List Int},eqVs (ns.map V.int) (ms.map V.int)=decide (ns=ms)
 |[],[]=>by simp[eqVs]
 |[],_::_=>by simp[eqVs]
 |_::_,[]=>by simp[eqVs]
 |n::ns,m::ms=>by
  show((n==m)&&eqVs (ns.map V.int) (ms.map V.int))=_
  rw[kfH]
  by_cases h:n=m <;> by_cases h':ns=ms <;> simp[h,h']
theorem kiI{xs:List V}(h:xs.all flatV=true){j:Nat}(hj:j<xs.length):flatV xs[j]=true:=by
 rw[JG] at h
 exact h _ (List.getElem_mem hj)
theorem kiL{A:Around}{s:Shared}{xs ys:List V}{us ws:List Value}(r:Vals xs us)(q:Vals ys ws)(fx:xs.all flatV=true)(fy:ys.all flatV=true):
  ∀j (h1:j<us.toArray.size) (h2:j<ws.toArray.size),SeqAt.EqAt A s us.toArray[j] ws.toArray[j] (eqV (xs.getD j .non) (ys.getD j .non)):=by
 intro j h1 h2
 have l1:=r.length
 have l2:=q.length
 have h1':j<us.length:=by simpa using h1
 have h2':j<ws.length:=by simpa using h2
 have k1:j<xs.length:=by omega
 have k2:j<ys.length:=by omega
 obtain⟨u,e1,r1⟩:=r.get (i:=j) (x:=xs[j]) (by simp[k1])
 obtain⟨w,e2,r2⟩:=q.get (i:=j) (x:=ys[j]) (by simp[k2])
 have g1:us.toArray[j]=u:=by
  have:=UG.mp e1
  obtain⟨_,e⟩:=this
  simpa using e
 have g2:ws.toArray[j]=w:=by
  have:=UG.mp e2
  obtain⟨_,e⟩:=this
  simpa using e
 have d1:xs.getD j .non=xs[j]:=by simp[k1]
 have d2:ys.getD j .non=ys[j]:=by simp[k2]
 rw[g1,g2,d1,d2]
 exact kiM r1 r2 (kiI fx k1) (kiI fy k2)
noncomputable def cV:V→Value
 | .ty n=>.type n
 | .ref a=>.ref a
 |_=>.none
theorem kaK:CallR X (.builtin "isinstance") (fun xs H Q=>∃x c t b,xs=[x,c]∧((∃n,c=.ty n)∨∃a,c=.ref a)∧TyOf X.K H x t∧UK X.K t (cV c)=some b∧Q (.bl b) H):=by
 intro pins s σ H xs us Q I r h
 obtain⟨x,c,t,b,rfl,hc,ty,e,q⟩:=h
 obtain⟨u,w',rfl,r1,r2⟩:=vals2 r
 have ew:w'=cV c:=by
  rcases hc with⟨n,rfl⟩|⟨a,rfl⟩
  ·exact r2
  ·exact r2
 subst ew
 exact kix I r1 ty e fun tk=>⟨.bl b,H,I.tok tk,rfl,q⟩
theorem b_isi:bootBuiltins "isinstance"=some (.builtin "isinstance"):=by decide +kernel
theorem b_int:bootBuiltins "int"=some (.type "int"):=by decide +kernel
theorem ki1:bootBuiltins "bool"=some (.type "bool"):=by decide +kernel
theorem kbI:bootBuiltins "list"=some (.type "list"):=by decide +kernel
theorem b_sum:bootBuiltins "sum"=some (.builtin "sum"):=by decide +kernel
theorem b_min:bootBuiltins "min"=some (.builtin "min"):=by decide +kernel
theorem b_max:bootBuiltins "max"=some (.builtin "max"):=by decide +kernel
theorem b_len:bootBuiltins "len"=some (.builtin "len"):=by decide +kernel
theorem kaW(K:Uv)(t:Value):UK K t t=some true:=by
 unfold UK
 rw[if_pos (by simp)]
theorem kdn(K:Uv):UK K (.type "int") (.type "bool")=some false:=by
 have e:(Value.type "int" ==Value.type "bool")=false:=by decide +kernel
 unfold UK PySem.W.kitCls PySem.W.subIn
 rw[e,if_neg UA]
 show(if PySem.W.kitMeta "bool"=true then _ else _)=_
 rw[if_pos (by decide +kernel)]
 show(fastBuiltinMro "int").map (·.contains (Value.type "bool"))=some false
 decide +kernel
noncomputable def tCut(t:TS):TS:=fun D σ H=>∃P:St→Hp→Prop,t {D with nx:=P} σ H∧∀σ' H',P σ' H'→D.nx σ' H'
theorem kfn{st:Stmt}{t:TS}(h:PS X st t):PS X st (tCut t):=by
 intro pins s σ H D I hw
 obtain⟨P,h1,h2⟩:=hw
 refine thn (h pins s σ H {D with nx:=P} I h1) fun f s' q=>?_
 cases f with
 |next=>
  obtain⟨σ',H',I',q'⟩:=q
  exact⟨σ',H',I',h2 σ' H' q'⟩
 |brk=>exact q
 |cont=>exact q
 |ret u=>exact q
noncomputable def tCutE(t:TE):TE:=fun σ H Q=>∃P:V→Hp→Prop,t σ H P∧∀v H',P v H'→Q v H'
theorem kln{e:Expr}{t:TE}(h:PE X e t):PE X e (tCutE t):=by
 intro pins s σ H Q I hw
 obtain⟨P,h1,h2⟩:=hw
 exact thn (h pins s σ H P I h1) fun u s' ⟨v,H',I',r,q⟩=>⟨v,H',I',r,h2 v H' q⟩
noncomputable def Its(lo st:Int)(n:Nat):It:=⟨fun i _=>i<n,fun i H x H'=>H'=H∧x=.int (lo+i*st),fun i _=>n≤i⟩
theorem khB{P:Program}{w:World}{K:Uv}{tg:Expr}(it:Addr)(lo st:Int)(n:Nat):Turn P w K tg (Its lo st n) [it] it (fun i h=>IsRangeIter h it (lo+(i:Nat)*st) ((n:Int)-(i:Nat)) st) where
 mem:=by simp
 obj:=fun i h st b hb=>by
  have e:b=it:=by simpa using hb
  subst e
  exact⟨_,st,fun v z=>by
   have z':Data.fields _=Data.cell v:=z
   cases z'⟩
 keep:=fun i h h' st k=>k it (by simp) _ st
 item:=by
  intro X hP hw hK hc i pins s σ H E I hf st' hg
  subst hP hw hK
  obtain⟨f0,f1,f2,f3,f4,f5⟩:=hf it (by simp)
  have W:=Walks.range (prog:=X.prog) (w:=X.w) (I.ok.hd hc) it lo st n
  refine W.item i s _ _ hg st' fun v h' tk hv st'' kk=>?_
  obtain⟨t,rfl⟩:=hv
  have I1:Inv X pins σ H {s with heap:=h',toks:=tk}:=I.turned (fun b o hb e=>kk b o (by simpa using hb) e) f0 f1 f3 f4 f5
  exact⟨_,rfl,go_of (s:={s with heap:=h',toks:=tk}) (n:="range_iterator") st'' rfl rfl (by decide) ⟨.int (lo+i*st),H,I1,⟨t,rfl⟩,⟨rfl,rfl⟩,st'',fun b hb=>(hf b hb).1⟩⟩
 done:=by
  intro X hP hw hK hc i pins s σ H E I hf st hg
  subst hP hw hK
  obtain⟨f0,f1,f2,f3,f4,f5⟩:=hf it (by simp)
  exact wpAny_pyNext_range_end (I.ok.hd hc) st (by have:n≤i:=hg;omega) fun h' eb=>⟨rfl,I.turned (t':=s.toks) (fun b o hb e=>eb b o hb e) f0 f1 f3 f4 f5⟩
 self:=fun _ _ _ _ _ st h=>wpAny_pyIter_rangeiter st h
theorem kfi{a b c:Int}(hc:0<c)(ha: -(2 ^ 31)≤a∧a<2 ^ 31)(hb: -(2 ^ 31)≤b∧b<2 ^ 31):0≤Builtin.Range.rangeSize a b c∧Builtin.Range.rangeSize a b c<2 ^ 33:=by
 unfold Builtin.Range.rangeSize
 rw[if_pos hc]
 split
 ·have h1:0≤(b-a-1)/c:=Int.ediv_nonneg (by omega) (by omega)
  have h2:(b-a-1)/c≤b-a-1:=Int.ediv_le_self _ (by omega)
  omega
 ·omega
theorem kha{a b c:Int}(hc:0<c)(hc2:c<2 ^ 30)(ha: -(2 ^ 31)≤a∧a<2 ^ 31)(hb: -(2 ^ 31)≤b∧b<2 ^ 31):Builtin.Range.small a b c=true:=by
 have h:=kfi hc ha hb
 unfold Builtin.Range.small
 generalize Builtin.Range.rangeSize a b c=n at h
 simp only[Builtin.Range.rangeFitsLong,Jq,Np,decide_eq_true_eq,beq_iff_eq,show c > 0 from hc,if_true]
 omega
end
theorem kiR(xs:List V)(k:Nat):cutV xs none (some (k:Int))=xs.take k:=by
 unfold cutV
 rw[HT.sIx_none,HT.sIx_nat,List.drop_zero,Nat.sub_zero,Mg]
 omega
theorem kjO(ns:List Int)(lo hi:Option Int):∃ms:List Int,cutV (ns.map V.int) lo hi=ms.map V.int∧ms.length≤ns.length:=by
 refine⟨(ns.drop (HT.sIx ns.length 0 lo)).take (HT.sIx ns.length ns.length hi-HT.sIx ns.length 0 lo),?_,?_⟩
 ·unfold cutV
  rw[Uu,←NV,←JT]
 ·rw[UL,JY]
  omega
end L2
namespace L2
open PySem PySem.Spec PyProof.Rows
theorem Inv.adopt{X:Cx}{pins:List (Addr×Obj)}{σ:St}{H:Hp}{s:Shared}{a:Addr}{o:HO}(I:Inv X pins σ H s)(f:FpOk X pins H a)(h0:X.s₀.heap.objs.size≤a)(new:ObjOk X.prog X.w (upd H a o) s.heap a o):Inv X pins σ (upd H a o) s:=by
 obtain⟨hn,hL,_,_,hC,hp⟩:=f
 have nt:∀b u,H b=some u→b≠a:=fun b u e=>kaj e hn
 refine⟨I.ok,I.os,I.bare,⟨I.base.keep,I.base.slot,fun b ob e n hx=>?_,I.base.there,fun b xs e=>?_,fun b ob u e=>?_,fun b ps e=>?_⟩,I.loc,I.cell,?_,fun x c e=>?_,fun p hp'=>?_,fun b u e=>?_,I.len⟩
 ·rw[kak (UV (UT (Heap.lt_size e) h0))]
  exact I.base.free b ob e n hx
 ·have q:=I.base.tups b xs e
  rw[kak (nt _ _ q)]
  exact q
 ·have q:=I.base.frzs b ob u e
  rw[kak (nt _ _ q)]
  exact q
 ·obtain⟨m,q⟩:=I.base.tbls b ps e
  exact⟨m,by rw[kak (nt _ _ q)];exact q⟩
 ·rw[kak (Ne.symm hL)]
  exact I.free
 ·rw[kak (hC x c e)]
  exact I.freeC x c e
 ·obtain⟨e,n,r⟩:=I.pin p hp'
  exact⟨e,by rw[kak (hp p hp')];exact n,r⟩
 ·by_cases hb:b=a
  ·subst hb
   rw[kac] at e
   cases e
   exact new
  ·rw[kak hb] at e
   exact(I.hok b u e).stay (fun c v _ q=>q) (fun c q=>by rw[kak (nt _ _ q)];exact q) fun c xs q=>by rw[kak (nt _ _ q)];exact q
noncomputable def capσ(cap:List (Option Nat))(σ:St):St:=cap.map fun o=>match o with
 |some i=>(σ[i]?).getD none
 |none=>none
noncomputable def closL(cells:List (Str×Addr))(names:List (Str×NameKind)):List (Str×Addr)→List (Str×Addr):=fun acc=>names.foldl (fun acc p=>if p.2== .free then(p.1,(cells.lookup p.1).getD 0)::acc else acc) acc
theorem kd4{α β:Type}{f: α→β→Sem (ForInStep β)}{g: β→α→β}:∀(l:List α) (b: β),(∀x∈l,∀b,f x b=pure (.yield (g b x)))→forIn l b f=pure (l.foldl g b)
 |[],b,_=>by rw[NW];rfl
 |x::l,b,h=>by
  rw[NY,h x UX]
  show forIn l (g b x) f=_
  rw[kd4 l (g b x) fun y hy=>h y (US _ hy)]
  rfl
theorem ke3{scope:Scope}{env:Env}(h:∀x∈scope.names,x.2=.free→∃c,env.cells.lookup x.1=some c):closureFor scope env=pure (closL env.cells scope.names []):=by
 unfold closureFor
 dsimp only
 rw[kd4 (g:=fun acc p=>if p.2== .free then(p.1,(env.cells.lookup p.1).getD 0)::acc else acc) scope.names [] fun x hx b=>?_]
 ·rfl
 ·obtain⟨n,k⟩:=x
  by_cases hk:k=.free
  ·subst hk
   obtain⟨c,ec⟩:=h _ hx rfl
   have ec':env.cells.lookup n=some c:=ec
   have e1:cellOf env n=pure c:=by unfold cellOf;rw[ec']
   simp only[beq_self_eq_true,if_true,e1,ec',Option.getD_some]
   rfl
  ·have:(k==NameKind.free)=false:=by simpa using hk
   simp only[this,Jl,if_false]
theorem keu(cells:List (Str×Addr))(p:Str×NameKind)(r:List (Str×NameKind))(acc:List (Str×Addr)):closL cells (p::r) acc=closL cells r (if p.2== .free then(p.1,(cells.lookup p.1).getD 0)::acc else acc):=rfl
theorem kdG{cells:List (Str×Addr)}{x:Str}{c:Addr}:∀(names:List (Str×NameKind)) (acc:List (Str×Addr)),(closL cells names acc).lookup x=some c→(((x,NameKind.free)∈names∧c=(cells.lookup x).getD 0)∨acc.lookup x=some c)
 |[],acc,h=>.inr h
 | (n,k)::r,acc,h=>by
  rw[keu] at h
  rcases kdG r _ h with⟨h1,h2⟩|h1
  ·exact .inl ⟨US _ h1,h2⟩
  ·by_cases hk:k=.free
   ·subst hk
    simp only[beq_self_eq_true,if_true] at h1
    rw[U4] at h1
    by_cases hx:x=n
    ·subst hx
     simp only[beq_self_eq_true] at h1
     exact .inl ⟨UX,(Option.some.inj h1).symm⟩
    ·have hb:(x==n)=false:=beq_eq_false_iff_ne.mpr hx
     rw[hb] at h1
     exact .inr h1
   ·have:(k==NameKind.free)=false:=by simpa using hk
    simp only[this,Jl,if_false] at h1
    exact .inr h1
theorem kcy{cells:List (Str×Addr)}{x:Str}:∀(names:List (Str×NameKind)) (acc:List (Str×Addr)),((x,NameKind.free)∈names∨∃c,acc.lookup x=some c)→∃c,(closL cells names acc).lookup x=some c
 |[],acc,h=>by
  rcases h with h|h
  ·cases h
  ·exact h
 | (n,k)::r,acc,h=>by
  rw[keu]
  refine kcy r _ ?_
  by_cases hm:(x,NameKind.free)∈r
  ·exact .inl hm
  ·refine .inr ?_
   rcases h with h|⟨c,h⟩
   ·rcases UO.mp h with e|h
    ·cases e
     simp[U4]
    ·exact absurd h hm
   ·split
    ·rw[U4]
     by_cases hx:x=n
     ·subst hx
      simp
     ·have hb:(x==n)=false:=beq_eq_false_iff_ne.mpr hx
      rw[hb]
      exact⟨c,h⟩
    ·exact⟨c,h⟩
theorem kcc:∀(names:List (Str×NameKind)) (n:Nat) (acc acc':List (Str×Addr)),cellsFrom n names (acc++acc')=cellsFrom n names acc++acc'
 |[],_,_,_=>rfl
 |(m,k)::r,n,acc,acc'=>by
  unfold cellsFrom
  split
  ·exact kcc r (n+1) ((m,n)::acc) acc'
  ·exact kcc r n acc acc'
theorem kbU(names:List (Str×NameKind))(n:Nat)(acc:List (Str×Addr))(x:Str):(cellsFrom n names acc).lookup x=((cellsFrom n names []).lookup x).or (acc.lookup x):=by
 rw[←List.lookup_append,←kcc,Nm]
theorem kcb{x:Str}:∀(names:List (Str×NameKind)) (n:Nat) (acc:List (Str×Addr)),(x,NameKind.cell)∉names→(cellsFrom n names acc).lookup x=acc.lookup x
 |[],_,_,_=>rfl
 | (m,k)::r,n,acc,h=>by
  unfold cellsFrom
  by_cases hk:k=.cell
  ·subst hk
   simp only[beq_self_eq_true,if_true]
   rw[kcb r _ _ fun z=>h (US _ z),U4]
   have hx:x≠m:=fun e=>h (by rw[e];exact UX)
   have hb:(x==m)=false:=beq_eq_false_iff_ne.mpr hx
   rw[hb]
  ·have:(k==NameKind.cell)=false:=by simpa using hk
   simp only[this,Jl,if_false]
   exact kcb r _ _ fun z=>h (US _ z)
noncomputable def relN(names ns:List (Str×NameKind)):List (Str×NameKind):=names.map fun(n,k)=>if(k== .free&&ns.lookup n==some .cell) then(n, .cell) else(n,k)
theorem kcO{scope:Scope}{env:Env}(hk:env.scope.kind=.function):(relabel scope env).names=relN scope.names env.scope.names:=by
 unfold relabel relN
 have e:(ScopeKind.function==ScopeKind.function)=true:=by decide
 simp only[hk,e,Nq]
 rfl
theorem kcJ{ns:List (Str×NameKind)}{x:Str}:∀(names:List (Str×NameKind)),(relN names ns).lookup x=(names.lookup x).map fun k=>if(k== .free&&ns.lookup x==some .cell) then .cell else k
 |[]=>rfl
 | (n,k)::r=>by
  have ih:=kcJ (ns:=ns) (x:=x) r
  show Jn x ((if(k== .free&&ns.lookup n==some .cell)=true then(n,NameKind.cell) else(n,k))::relN r ns)=_
  by_cases hx:x=n
  ·subst hx
   by_cases hc:(k== .free&&ns.lookup x==some .cell)=true
   ·rw[if_pos hc]
    simp only[U4,beq_self_eq_true,Nr]
    rw[if_pos hc]
   ·rw[if_neg hc]
    simp only[U4,beq_self_eq_true,Nr]
    rw[if_neg hc]
  ·have hb:(x==n)=false:=beq_eq_false_iff_ne.mpr hx
   by_cases hc:(k== .free&&ns.lookup n==some .cell)=true
   ·rw[if_pos hc]
    simp only[U4,hb]
    exact ih
   ·rw[if_neg hc]
    simp only[U4,hb]
    exact ih
theorem kkH{names ns:List (Str×NameKind)}{x:Str}(h:(relN names ns).lookup x=some .cell∨(relN names ns).lookup x=some .free):names.lookup x=some .cell∨names.lookup x=some .free:=by
 rw[kcJ] at h
 cases e:names.lookup x with
 |none=>rw[e] at h;simp at h
 |some k=>
  rw[e] at h
  cases k <;> simp_all
theorem kh6{names ns:List (Str×NameKind)}{x:Str}(h:names.lookup x=some .free):(relN names ns).lookup x=some .cell∨(relN names ns).lookup x=some .free:=by
 rw[kcJ,h]
 by_cases hc:ns.lookup x==some .cell
 ·left;simp[hc]
 ·right;simp[hc]
structure CompScope (X:Cx) (scope:Scope) (N:List Str) (cap:List (Option Nat)):Prop where
 kind:scope.kind=.function
 names:∀x∈scope.names,x.2=.local→scope.names.lookup x.1=some .local
 free:∀x∈scope.names,x.2=.free→X.env.scope.names.lookup x.1=some .cell∨X.env.scope.names.lookup x.1=some .free
 nd:N.Nodup
 len:cap.length=N.length
 cap:∀(j i:Nat) (x:Str),cap[j]?=some (some i)→N[j]?=some x→X.N[i]?=some x∧scope.names.lookup x=some .free∧(x,NameKind.cell)∉scope.names
noncomputable def kdp(X:Cx)(scope:Scope)(C:Addr):List (Str×Addr):=cellsFrom (C+1) scope.names (closL X.env.cells scope.names [])
noncomputable def cxC(X:Cx)(scope:Scope)(N:List Str)(fp:List Addr)(s:Shared)(H:Hp)(C:Addr):Cx:=
 {X with N:=N,s₀:=s,H₀:=H,env:=compEnvC scope (kdp X scope C) C X.env,outer:=X.stack,ex:=fp,fn:=fun x=>scope.names.lookup x==some .cell,pn:=[],xe:=fun _ _=>False}
theorem keW{M:Model}{A:Around}{E:Value→Shared→Prop}{s:Shared}{scope:Scope}{globals:Addr}{cl:List (Str×Addr)}{qual:Str}{func:Option Addr}{code:Value}{outer:Env}{builtins:Addr}{Q:Env→Shared→Prop}
  (hQ:Q (newEnv scope s.heap.objs.size globals (cellsFrom (s.heap.objs.size+1) scope.names cl) qual func code (some outer) builtins) {s with heap:=pushCells (s.heap.push {cls:=.type "dict",data:=.dict #[]}) scope.names}):
  wpAny M A (newFunctionEnv scope globals cl [] qual func code (some outer) builtins) Q E s:=by
 simp only[newFunctionEnv,Option.isSome_some,if_true]
 refine wpAny_bind (wpAny_alloc ?_)
 refine wpAny_bind (wpAny_layCells _ (fun name kind cells=>by cases hkc:kind==NameKind.cell <;> simp[hkc]) _ _ _ _ ?_)
 rw[show({s with heap:=s.heap.push {cls:=.type "dict",data:=.dict #[]}}:Shared).heap.objs.size=s.heap.objs.size+1 from Heap.size_push ..]
 exact wpAny_bind (wpAny_pure (wpAny_pure hQ))
section
variable {X:Cx} {scope:Scope} {N:List Str} {cap:List (Option Nat)} {pins:List (Addr×Obj)} {σ:St} {H:Hp} {s:Shared}
theorem khH(I:Inv X pins σ H s){b:Addr}(hb:b∈frs X.stack):b<s.heap.objs.size:=by
 obtain⟨_,o,ho,_⟩:=I.stack.mem hb
 exact Heap.lt_size ho
theorem kcx(S:CompScope X scope N cap)(I:Inv X pins σ H s):closureFor scope X.env=pure (closL X.env.cells scope.names []):=
 ke3 fun x hx hf=>I.ok.has x.1 (S.free x hx hf)
theorem kbV{C:Addr}{x:Str}{c:Addr}(S:CompScope X scope N cap)(I:Inv X pins σ H s)(h:(kdp X scope C).lookup x=some c):(cellsFrom (C+1) scope.names []).lookup x=some c∨X.env.cells.lookup x=some c:=by
 unfold kdp at h
 rw[kbU] at h
 cases e:(cellsFrom (C+1) scope.names []).lookup x with
 |some c'=>
  rw[e] at h
  exact .inl h
 | none=>
  rw[e] at h
  have h':(closL X.env.cells scope.names []).lookup x=some c:=h
  rcases kdG _ _ h' with⟨h1,h2⟩|h1
  ·obtain⟨c',ec⟩:=I.ok.has x (S.free _ h1 rfl)
   rw[ec] at h2
   rw[h2]
   exact .inr ec
  ·cases h1
theorem kjC{fp:List Addr}{C D:Addr}{o:Obj}{s4:Shared}{m:Str→Option Value}(S:CompScope X scope N cap)(I:Inv X pins σ H s)(f:∀b∈fp,FpOk X pins H b)(hfp:∀b∈fp,b<s.heap.objs.size)
  (hk:∀b u,s.heap.get? b=some u→s4.heap.get? b=some u) (hns:s4.heap.Ns C m) (hC:s.heap.objs.size≤C) (hD:s.heap.objs.size≤D) (hDC:D≠C) (eD:s4.heap.get? D=some o) (hcell:∀v,o.data≠.cell v)
  (hnew:CellsOk s4.heap (C+1) (cellsFrom (C+1) scope.names [])) (hos:s4.os=s.os) (hg:s4.gens=s.gens):Inv (cxC X scope N fp s H C) [(D,o)] (capσ cap σ) H s4:=by
 have stkne:∀b∈fp,b∉frs X.stack:=fun b hb hz=>by
  obtain⟨_,h1,h2,_⟩:=f b hb
  rcases UO.mp (I.stkSub b hz) with e|e
  ·exact h1 e
  ·exact h2 e
 have nw:∀{x:Str} {c:Addr},(cellsFrom (C+1) scope.names []).lookup x=some c→s4.heap.IsCell c none∧Nat.lt C c:=fun {x c} h=>hnew.empty x c (PySem.mem_of_lookup h)
 have od:∀{x:Str} {c:Addr},X.env.cells.lookup x=some c→c<s.heap.objs.size:=fun {x c} h=>let⟨_,q⟩:=I.cell x c h;q.lt
 refine⟨⟨I.ok.mod,S.kind,I.ok.glob,I.ok.blt,hC,fun x y c h1 h2=>?_,fun x h=>?_,fun x c h1 h2=>?_,I.ok.hd,I.ok.frames, .inl rfl,fun b hb=>⟨?_,fun x c e=>?_⟩,I.bs,Uy I.ok.bsz I.sz,fun b ob e hb=>?_,stkne,I.stack,I.stkFree⟩,
  hos,by rw[hg];exact I.bare,Un.kept hk,⟨m,hns,fun j x v e1 e2 e3=>?_⟩,fun x c e=>?_,I.hok.fresh hC,fun x c e=>?_,fun p hp=>?_,I.hok.kept hk,?_⟩
 ·rcases kbV S I h1 with q1|q1 <;> rcases kbV S I h2 with q2|q2
  ·exact name_of_addr hnew.apart (PySem.mem_of_lookup q1) (PySem.mem_of_lookup q2)
  ·exact absurd (Jr hC (nw q1).2) (Nat.not_lt_of_lt (od q2))
  ·exact absurd (Jr hC (nw q2).2) (Nat.not_lt_of_lt (od q1))
  ·exact I.ok.inj x y c q1 q2
 ·have h':(relabel scope X.env).names.lookup x=some .cell∨(relabel scope X.env).names.lookup x=some .free:=h
  rw[kcO I.ok.kind] at h'
  show ∃c,(cellsFrom (C+1) scope.names (closL X.env.cells scope.names [])).lookup x=some c
  rw[kbU]
  rcases kkH h' with q|q
  ·obtain⟨c,e⟩:=kdH (n:=C+1) q
   exact⟨c,by rw[e];rfl⟩
  ·obtain⟨c,e⟩:=kcy (cells:=X.env.cells) scope.names [] (.inl (PySem.mem_of_lookup q))
   cases e2:(cellsFrom (C+1) scope.names []).lookup x with
   |some c'=>exact⟨c',rfl⟩
   |none=>exact⟨c,e⟩
 ·have h1':(scope.names.lookup x==some .cell)=true:=h1
  have q:scope.names.lookup x=some .cell:=by simpa using h1'
  obtain⟨c',e⟩:=kdH (n:=C+1) q
  have h2':(cellsFrom (C+1) scope.names (closL X.env.cells scope.names [])).lookup x=some c:=h2
  rw[kbU,e] at h2'
  have h3:c'=c:=Option.some.inj h2'
  rw[←h3]
  exact UH (Jr hC (nw e).2)
 ·exact UV (UT (hfp b hb) hC)
 ·rcases kbV S I e with q|q
  ·exact Je (Nat.lt_trans (UT (hfp b hb) hC) (nw q).2)
  ·exact(f b hb).2.2.2.2.1 x c q
 ·obtain⟨_,_,_,h4,_⟩:=f b hb
  rcases h4 with h4|h4
  ·exact I.ok.noex b ob e h4
  ·exact absurd (UT (Heap.lt_size e) (Uy I.ok.bsz h4)) (Jp _)
 ·
  have e2':(cap.map fun o=>match o with|some i=>(σ[i]?).getD none|none=>none)[j]?=some (some v):=e2
  rw[UF] at e2'
  cases ec:cap[j]? with
  |none=>rw[ec] at e2';cases e2'
  | some oi=>
   rw[ec] at e2'
   cases oi with
   |none=>cases e2'
   | some i=>
    have e4:(σ[i]?).getD none=some v:=Option.some.inj e2'
    have e5: σ[i]?=some (some v):=by
     cases q: σ[i]? with
     |none=>rw[q] at e4;cases e4
     |some w=>rw[q] at e4;exact congrArg some e4
    obtain⟨h1,hf,hnc⟩:=S.cap j i x ec e1
    have hm:=PySem.mem_of_lookup hf
    have h2:=S.free _ hm rfl
    obtain⟨mo,_,hl⟩:=I.loc
    obtain⟨u,ru,lk⟩:=hl i x v h1 e5 (.inr h2)
    have h3:(relabel scope X.env).names.lookup x=some .cell∨(relabel scope X.env).names.lookup x=some .free:=by
     rw[kcO I.ok.kind]
     exact kh6 hf
    refine⟨u,ru, .inr ⟨h3,?_⟩⟩
    rcases lk with⟨k1,_⟩|⟨_,c,ec',z⟩
    ·have k1':X.env.scope.names.lookup x=some .local:=k1
     rcases h2 with h2|h2 <;> rw[h2] at k1' <;> cases k1'
    ·obtain⟨c',ec2⟩:=kcy (cells:=X.env.cells) scope.names [] (.inl hm)
     have ec3:(kdp X scope C).lookup x=some c':=by
      unfold kdp
      rw[kcb _ _ _ hnc]
      exact ec2
     rcases kdG _ _ ec2 with⟨_,q2⟩|q2
     ·rw[ec'] at q2
      have q3:c'=c:=q2
      subst q3
      obtain⟨oc,ho,hd⟩:=z
      exact⟨c',ec3,oc,hk _ _ ho,hd⟩
     ·cases q2
 ·rcases kbV S I e with q|q
  ·exact⟨none,(nw q).1⟩
  ·obtain⟨v,oc,ho,hd⟩:=I.cell x c q
   exact⟨v,oc,hk _ _ ho,hd⟩
 ·rcases kbV S I e with q|q
  ·exact I.hok.fresh (Uy hC (UH (nw q).2))
  ·exact I.freeC x c q
 ·have e:p=(D,o):=by simpa[cxC] using hp
  subst e
  exact⟨eD,I.hok.fresh hD,hDC,fun hz=>absurd (khH I hz) (Nat.not_lt.mpr hD),hcell⟩
 ·show(cap.map _).length=N.length
  rw[Uu,S.len]
theorem comp_back{fp:List Addr}{C:Addr}{σ':St}{H':Hp}{s':Shared}(I:Inv X pins σ H s)(f:∀b∈fp,FpOk X pins H b)(J:Inv (cxC X scope N fp s H C) [] σ' H' s'):Inv X pins σ H' s':=
 I.call' (ch:=fp) J.os J.base J.hok J.bare fun b hb=>let⟨_,h1,_,h3,h4,h5⟩:=f b hb;⟨h3,h1,h4,h5⟩
end
noncomputable def PIf(X:Cx)(ifs:List Expr)(t:TT):Prop:=∀(pins:List (Addr×Obj)) (s:Shared) (σ:St) (H:Hp) (Q:Bool→Hp→Prop),Inv X pins σ H s→t σ H Q→
 wpAny (model X.prog X.w) X.A (forIn ifs true fun c r=>if r=true then do let ok ←isTrue c X.env (eval c X.env);pure (ForInStep.yield ok) else pure (ForInStep.yield r)) (TP X pins σ Q) X.xe s
noncomputable def tYes:TT:=fun _ H Q=>Q true H
theorem kie{X:Cx}:PIf X [] tYes:=fun _ _ _ H _ I h=>wpAny_tests_nil ⟨H,I,h⟩
theorem kf9{X:Cx}{c:Expr}{t:TT}(h:PT X c t):PIf X [c] t:=fun pins s σ H Q I hw=>wpAny_tests_one (h pins s σ H Q I hw)
theorem kfJ{prog:Program}{w:World}{A:Around}{R:Result→Shared→Prop}{s:Shared}{elt target iter:Expr}{ifs:List Expr}{scope:Scope}{pos:Pos}{it acc:Value}{env:Env}(I:Nat→Shared→Prop)
  (turn:∀n s,I n s→wpAny (model prog w) A (pyNext it) (fun r s₁=>match r with
   |none=>R (.ok .next) s₁
   | some v=>wpAny (model prog w) A (letOwnedTupleGo target it v) (fun _ s₁'=>wpAny (model prog w) A (assign target env v) (fun _ s₂=>
     wpAny (model prog w) A (forIn ifs true fun c r=>if r=true then do let ok ←isTrue c env (eval c env);pure (ForInStep.yield ok) else pure (ForInStep.yield r)) (fun ok s₂'=>
      if ok=true then wpAny (model prog w) A (eval elt env) (fun x s₃=>
       wpAny (model prog w) A (call (.builtin "list.append") [acc,x]) (fun _ s₄=>∃m,m<n∧I m s₄) (fun _ _=>False) s₃) (fun _ _=>False) s₂'
      else ∃m,m<n∧I m s₂') (fun _ _=>False) s₂) (fun _ _=>False) s₁') (fun _ _=>False) s₁) (fun _ _=>False) s)
  (n:Nat) (h:I n s):codeAny (model prog w) A (.compLoop (.ListComp elt [⟨target,iter,ifs,0⟩] scope pos) 0 it acc env) R s:=by
 refine codeAny_loop rfl I (fun n s hI=>?_) n h
 show wpAny _ _ ((compTurn (.ListComp elt [⟨target,iter,ifs,0⟩] scope pos) 0 it acc env).onRaise (fun x=>do noteFrame x env;theTreesLotGoes x)) _ _ s
 refine wpAny_noted ?_
 rw[compTurn_list]
 refine wpAny_bind (wpAny_standAt (wpAny_bind (wpAny_mono (turn n s hI) (fun r s₁ h₁=>?_) fun _ _ h'=>h'.elim)))
 cases r with
 |none=>exact wpAny_pure h₁
 | some v=>
  refine wpAny_bind (wpAny_mono h₁ (fun _ s₁' h₁'=>?_) fun _ _ h'=>h'.elim)
  refine wpAny_bind (wpAny_mono h₁' (fun _ s₂ h₂=>wpAny_bind (wpAny_mono h₂ (fun ok s₂' h₂'=>?_) fun _ _ h'=>h'.elim)) fun _ _ h'=>h'.elim)
  cases ok with
  |false=>exact wpAny_pure ⟨rfl,h₂'⟩
  |true=>
   exact wpAny_bind (wpAny_bind (wpAny_mono h₂' (fun x s₃ h₃=>wpAny_bind (wpAny_mono h₃ (fun _ s₄ h₄=>wpAny_pure (wpAny_pure ⟨rfl,h₄⟩)) fun _ _ h'=>h'.elim)) fun _ _ h'=>h'.elim))
noncomputable def klc(wi:TI)(cap:List (Option Nat))(g:TG)(tt:TT)(te:TE):TE:=fun σ H Q=>wi σ H fun J H1=>∃W:Nat→Nat→St→List V→Hp→Prop,(∃m,W 0 m (capσ cap σ) [] H1)∧∀i m σ' ys H',W i m σ' ys H'→
 (J.stop i H'∧∀D,H' D=none→Q (.ref D) (upd H' D (.lst ys)))∨(J.go i H'∧ys.length<sizeLine∧∃(N:St→V→Hp→Prop) (N0:St→Hp→Prop),(∀σ2 y H4,N σ2 y H4→∃m',m'<m∧W (i+1) m' σ2 (ys++[y]) H4)∧(∀σ2 H4,N0 σ2 H4→∃m',m'<m∧W (i+1) m' σ2 ys H4)∧
  ∀x H2,J.yld i H' x H2→g x σ' H2 fun σ2 H3=>tt σ2 H3 fun b H4=>if b=true then te σ2 H4 (N σ2) else N0 σ2 H4)
noncomputable def tComp(wi:TI)(cap:List (Option Nat))(g:TG)(te:TE):TE:=fun σ H Q=>wi σ H fun J H1=>∃W:Nat→Nat→St→List V→Hp→Prop,(∃m,W 0 m (capσ cap σ) [] H1)∧∀i m σ' ys H',W i m σ' ys H'→
 (J.stop i H'∧∀D,H' D=none→Q (.ref D) (upd H' D (.lst ys)))∨(J.go i H'∧ys.length<sizeLine∧∃N:St→V→Hp→Prop,(∀σ2 y H4,N σ2 y H4→∃m',m'<m∧W (i+1) m' σ2 (ys++[y]) H4)∧
  ∀x H2,J.yld i H' x H2→g x σ' H2 fun σ2 H3=>te σ2 H3 (N σ2))
section
variable {X:Cx} {scope:Scope} {N:List Str} {cap:List (Option Nat)} {pins:List (Addr×Obj)} {σ:St} {H2:Hp} {s2:Shared} {tg elt iter:Expr} {ifs:List Expr} {pos:Pos} {g:TG} {tt:TT} {te:TE}
theorem kdg{fp:List Addr}{it:Addr}{tn:Nat→Heap→Prop}{J:It}{Q:VK}{RR:Value→Addr→Result→Shared→Prop}{E:Value→Shared→Prop}(S:CompScope X scope N cap)(hc:X.calm=true)
  (hg:∀fp s H C,PG (cxC X scope N fp s H C) tg g) (ht:∀fp s H C,PIf (cxC X scope N fp s H C) ifs tt) (he:∀fp s H C,PE (cxC X scope N fp s H C) elt te)
  (I2:Inv X pins σ H2 s2) (T:Turn X.prog X.w X.K tg J fp it tn) (st2:tn 0 s2.heap) (f2:∀b∈fp,FpOk X pins H2 b)
  (W:Nat→Nat→St→List V→Hp→Prop) {m0:Nat} (w0:W 0 m0 (capσ cap σ) [] H2)
  (turn:∀i m σ' ys H',W i m σ' ys H'→(J.stop i H'∧∀D,H' D=none→Q (.ref D) (upd H' D (.lst ys)))∨(J.go i H'∧ys.length<sizeLine∧∃(N:St→V→Hp→Prop) (N0:St→Hp→Prop),(∀σ2 y H4,N σ2 y H4→∃m',m'<m∧W (i+1) m' σ2 (ys++[y]) H4)∧(∀σ2 H4,N0 σ2 H4→∃m',m'<m∧W (i+1) m' σ2 ys H4)∧
   ∀x H2,J.yld i H' x H2→g x σ' H2 fun σ2 H3=>tt σ2 H3 fun b H4=>if b=true then te σ2 H4 (N σ2) else N0 σ2 H4))
  (hRR:∀(D C:Addr) (H':Hp) (s':Shared) (m:Str→Option Value),Inv X pins σ H' s'→FpOk X pins H' C→C≠D→s'.heap.Ns C m→Q (.ref D) H'→RR (.ref D) C (.ok .next) s'):
  wpAny (model X.prog X.w) X.A (newList []) (fun acc s₃=>wpAny (model X.prog X.w) X.A (newFunctionEnv scope X.env.globals (closL X.env.cells scope.names []) [] X.env.qual none .none (some X.env)) (fun cenv s₄=>
   codeAny (model X.prog X.w) X.A (.compStart (.ListComp elt [⟨tg,iter,ifs,0⟩] scope pos) 0 (.ref it) acc {cenv with scope:=relabel scope X.env}) (RR acc cenv.locals) s₄) E s₃) E s2:=by
 refine wpAny_newObj_type (keW ?_)
 dsimp only
 generalize hP:s2.heap.push {cls:=.type "list",dict:=none,data:=.seq ([]:List Value).toArray}=P
 have hnew:CellsOk (pushCells (P.push {cls:=.type "dict",data:=.dict #[]}) scope.names) (P.objs.size+1) (cellsFrom (P.objs.size+1) scope.names []):=by
  have q:=cellsFrom_ok scope.names (P.push {cls:=.type "dict",data:=.dict #[]}) (P.objs.size+1) [] ⟨fun _ _ hm=>(nomatch hm),JS.nil⟩ (by rw[Heap.size_push];exact Uw _)
  rwa [Heap.size_push] at q
 have hns₁:(pushCells (P.push {cls:=.type "dict",data:=.dict #[]}) scope.names).Ns P.objs.size (fun _=>none):=(Heap.Ns.new P (.type "dict")).keeps (pushCells_keeps _ _)
 have keep₁:∀b o,P.get? b=some o→(pushCells (P.push {cls:=.type "dict",data:=.dict #[]}) scope.names).get? b=some o:=fun b o e=>pushCells_keeps _ _ b o (Heap.get?_push_of_some _ e)
 generalize pushCells (P.push {cls:=.type "dict",data:=.dict #[]}) scope.names=h₁ at hnew hns₁ keep₁⊢
 have hC:P.objs.size=s2.heap.objs.size+1:=by rw[←hP,Heap.size_push]
 have hDC:s2.heap.objs.size≠P.objs.size:=by rw[hC];exact UV (NP _)
 have hCle:s2.heap.objs.size≤P.objs.size:=by rw[hC];exact Jv _
 have hDle:s2.heap.objs.size≤s2.heap.objs.size:=Uw _
 have old:∀b o,s2.heap.get? b=some o→h₁.get? b=some o:=fun b o e=>keep₁ b o (hP▸Heap.get?_push_of_some _ e)
 have hacc:h₁.get? s2.heap.objs.size=some {cls:=.type "list",data:=.seq ([]:List Value).toArray}:=keep₁ _ _ (hP▸Heap.get?_push_size _ rfl)
 have hfp:∀b∈fp,b<s2.heap.objs.size:=fun b hb=>let⟨_,e,_⟩:=T.obj 0 _ st2 b hb;Heap.lt_size e
 generalize hDd:s2.heap.objs.size=D at hacc hDC hDle⊢
 rw[hDd] at hCle hC
 generalize P.objs.size=C at hnew hns₁ hC hDC hCle⊢
 have dne:∀b∈fp,D≠b:=fun b hb=>Je (hDd▸hfp b hb)
 have cne:∀b∈fp,b≠C:=fun b hb=>UV (UT (hDd▸hfp b hb) hCle)
 have stkne:∀b∈fp,b∉frs X.stack:=fun b hb hz=>by
  obtain⟨_,h1,h2,_⟩:=f2 b hb
  rcases UO.mp (I2.stkSub b hz) with e|e
  ·exact h1 e
  ·exact h2 e
 have dfs:D∉frs X.stack:=fun hz=>absurd (khH I2 hz) (by rw[hDd];exact Jp _)
 have dcell:∀x c,(kdp X scope C).lookup x=some c→c≠D:=fun x c e z=>by
  rcases kbV S I2 e with e|e
  ·have q:Nat.lt C c:=(hnew.empty x c (PySem.mem_of_lookup e)).2
   rw[z] at q
   exact absurd (Jr hCle q) (Jp _)
  ·obtain⟨v,q⟩:=I2.cell x c e
   have:=q.lt
   rw[z,hDd] at this
   exact absurd this (Jp _)
 have bcell:∀b∈fp,∀x c,(kdp X scope C).lookup x=some c→c≠b:=fun b hb x c e=>by
  rcases kbV S I2 e with e|e
  ·have q:Nat.lt C c:=(hnew.empty x c (PySem.mem_of_lookup e)).2
   exact Je (Nat.lt_trans (UT (hDd▸hfp b hb) hCle) q)
  ·exact(f2 b hb).2.2.2.2.1 x c e
 have stat:∀{o:Obj} {H':Hp},(∀b∈fp,H' b=none)→∀b∈fp,FpOk (cxC X scope N fp s2 H2 C) [(D,o)] H' b:=fun {o H'} hn b hb=>
  ⟨hn b hb,cne b hb,stkne b hb, .inl hb,bcell b hb,fun p hp=>by
   have e:p=(D,o):=by simpa[cxC] using hp
   subst e
   exact dne b hb⟩
 have loop:∀s₃:Shared,s₃= {s2 with heap:=h₁}→
   codeAny (model X.prog X.w) X.A (.compLoop (.ListComp elt [⟨tg,iter,ifs,0⟩] scope pos) 0 (.ref it) (.ref D) (compEnvC scope (kdp X scope C) C X.env)) (RR (.ref D) C) s₃:=by
  rintro s₃ rfl
  have I3:Inv (cxC X scope N fp s2 H2 C) [(D,_)] (capσ cap σ) H2 {s2 with heap:=h₁}:=
   kjC S I2 f2 hfp old hns₁ (by rw[hDd];exact hCle) (by rw[hDd];exact Uw _) hDC hacc (fun v z=>by cases z) hnew rfl rfl
  refine kfJ (fun n s'=>∃i σ' ys H' its k,Inv (cxC X scope N fp s2 H2 C) [] σ' H' s'∧tn i s'.heap∧(∀b∈fp,H' b=none)∧H' D=none∧s'.heap.get? D=some {cls:=.type "list",data:=.seq (its:List Value).toArray k}∧Vals ys its∧ys.length≤sizeLine∧W i n σ' ys H') ?_ m0
   ⟨0,_,[],H2,[],_,I3.pins_of (fun p hp=>nomatch hp),T.keep _ _ _ st2 (fun b hb o e=>old b o e),fun b hb=>(f2 b hb).1,I2.hok.fresh (by rw[hDd];exact Uw _),hacc, .nil,U1 _,w0⟩
  rintro n s3 ⟨i,σ3,ys,H3,its,k,J3,st3,fr3,hD3,e3,r3,z3,w3⟩
  have J3':Inv (cxC X scope N fp s2 H2 C) [(D,{cls:=.type "list",data:=.seq its.toArray k})] σ3 H3 s3:=J3.pins_of fun p hp=>by
   have e:p=(D,{cls:=.type "list",data:=.seq its.toArray k}):=by simpa using hp
   subst e
   exact⟨e3,hD3,hDC,dfs,fun v z=>by cases z⟩
  rcases turn i n σ3 ys H3 w3 with⟨stop,qn⟩|⟨go,hlt,N',N0',hN,hN0,step⟩
  ·refine thn (T.done (cxC X scope N fp s2 H2 C) rfl rfl rfl hc i _ s3 σ3 H3 (fun _ _=>False) J3' (stat fr3) st3 stop) fun r s4 ⟨hr,I4⟩=>?_
   subst hr
   have e4:=(I4.pin (D,{cls:=.type "list",data:=.seq its.toArray k}) (by simp[cxC])).1
   have B:Inv X pins σ H3 s4:=comp_back I2 f2 (I4.pins_of fun p hp=>nomatch hp)
   obtain⟨m,hm,_⟩:=I4.loc
   have fD:FpOk X pins H3 D:=I2.fpOk (by rw[hDd];exact Uw _) hD3
   have B':Inv X pins σ (upd H3 D (.lst ys)) s4:=B.adopt fD (by rw[←hDd];exact I2.sz) ⟨z3,its,k,r3,e4⟩
   refine hRR D C _ s4 m B' (I2.fpOk (by rw[hDd];exact hCle) ?_) hDC.symm hm (qn D hD3)
   rw[kak hDC.symm]
   exact I4.free
  ·refine thn (T.item (cxC X scope N fp s2 H2 C) rfl rfl rfl hc i _ s3 σ3 H3 (fun _ _=>False) J3' (stat fr3) st3 go) fun r s4 ⟨u,hr,h4⟩=>?_
   subst hr
   refine thn h4 fun _ s5 ⟨x,H5,I5,r5,y5,st5,fr5⟩=>?_
   have I5':=I5.pinned (stat fr5) (T.obj _ _ st5)
   refine thn (hg fp s2 H2 C _ s5 σ3 H5 x u _ I5' r5 (step x H5 y5)) fun _ s6 ⟨σ6,H6,I6,q6⟩=>?_
   refine thn (ht fp s2 H2 C _ s6 σ6 H6 _ I6 q6) fun ok s6' ⟨H6',I6',q6'⟩=>?_
   cases ok with
   | false=>
    have q6':N0' σ6 H6':=by simpa using q6'
    obtain⟨m',hm',w7⟩:=hN0 σ6 H6' q6'
    have p7:=I6'.pin (D,{cls:=.type "list",data:=.seq its.toArray k}) (by simp[cxC])
    have e7:s6'.heap.get? D=some {cls:=.type "list",data:=.seq its.toArray k}:=p7.1
    have pf:∀b∈fp,∀o,s5.heap.get? b=some o→s6'.heap.get? b=some o∧H6' b=none:=fun b hb o e=>
     let z:=I6'.pin (b,o) (U7 _ (U7 _ (kcA hb e)))
     ⟨z.1,z.2.1⟩
    refine⟨m',hm',i+1,σ6,ys,H6',its,_,I6'.pins_of (fun p hp=>nomatch hp),T.keep _ _ _ st5 (fun b hb o e=>(pf b hb o e).1),fun b hb=>?_,p7.2.1,e7,r3,z3,w7⟩
    obtain⟨o,e,_⟩:=T.obj _ _ st5 b hb
    exact(pf b hb o e).2
   |true=>
   have q6':te σ6 H6' (N' σ6):=by simpa using q6'
   refine thn (he fp s2 H2 C _ s6' σ6 H6' _ I6' q6') fun v s7 ⟨y,H7,I7,r7,q7⟩=>?_
   obtain⟨m',hm',w7⟩:=hN σ6 y H7 q7
   have p7:=I7.pin (D,{cls:=.type "list",data:=.seq its.toArray k}) (by simp[cxC])
   have e7:s7.heap.get? D=some {cls:=.type "list",data:=.seq its.toArray k}:=p7.1
   have hl7:=r3.length
   refine call_meets F.slot_list_append ⟨_,e7,rfl⟩ F.entry_list_append (F.args_list_append_2 _ _) (PySem.list_append D its.toArray k v (by rw[UN];omega)) ⟨e7,?_⟩
   have q8:=PySem.IsL.update e7 (·.push v)
   have ex8:its.toArray.push v=(its++[v]).toArray:=by simp
   rw[ex8] at q8
   have pf:∀b∈fp,∀o,s5.heap.get? b=some o→s7.heap.get? b=some o∧H7 b=none:=fun b hb o e=>
    let z:=I7.pin (b,o) (U7 _ (U7 _ (kcA hb e)))
    ⟨z.1,z.2.1⟩
   have I7':Inv (cxC X scope N fp s2 H2 C) [] σ6 H7 s7:=I7.pins_of fun p hp=>nomatch hp
   refine⟨m',hm',i+1,σ6,ys++[y],H7,its++[v],_,I7'.turned (it:=D) (fun b o hb e=>(Heap.get?_update_other _ _ (Ne.symm hb)).trans e) p7.2.1 hDC (.inr (by show s2.heap.objs.size≤D;rw[hDd];exact Uw _)) dcell (fun p hp=>nomatch hp),
    T.keep _ _ _ st5 (fun b hb o e=>(Heap.get?_update_other _ _ (dne b hb)).trans (pf b hb o e).1),fun b hb=>?_,p7.2.1,q8,r3.append (.cons r7 .nil),by rw[UW,JK];omega,w7⟩
   obtain⟨o,e,_⟩:=T.obj _ _ st5 b hb
   exact(pf b hb o e).2
 have st1:tn 0 h₁:=T.keep _ _ _ st2 (fun b hb o e=>old b o e)
 exact codeAny_compStart_list (loop _ rfl) (T.self X.A 0 _ _ _ st1 (loop _ rfl))
theorem keP{wi:TI}(S:CompScope X scope N cap)(hc:X.calm=true)(hi:PI X tg iter wi)(hg:∀fp s H C,PG (cxC X scope N fp s H C) tg g)(ht:∀fp s H C,PIf (cxC X scope N fp s H C) ifs tt)(he:∀fp s H C,PE (cxC X scope N fp s H C) elt te)
  (hs:∀x,foldedSetIterable iter X.env x=pure x:=by intro _;rfl):PE X (.ListComp elt [⟨tg,iter,ifs,0⟩] scope pos) (klc wi cap g tt te):=by
 intro pins s σ H Q I h
 rw[eval_ListComp]
 refine wpAny_comprehension_free (use:=none) rfl hs (kcx S I) S.kind S.names (thn (hi pins s σ H _ I h) fun v s1 h1=>thn h1 fun itv s2 h2=>?_)
 obtain⟨it,fp,tn,J,H2,e,I2,T,st2,f2,W,⟨m0,w0⟩,turn⟩:=h2
 subst e
 refine kdg (RR:=fun acc C=>compPost (model X.prog X.w) X.A X.xe none (EP X pins σ Q) acc C) S hc hg ht he I2 T st2 f2 W w0 turn fun D C H' s' m B fC hCD hm q=>?_
 obtain⟨c0,c1,c2,c3,c4,c5⟩:=fC
 exact⟨m,hm,fun h' hs'=>⟨.ref D,H',B.turned (t':=s'.toks) (fun b o hb e=>(hs'.2 b hb).trans e) c0 c1 c3 c4 c5,rfl,q⟩⟩
theorem kfI{J:It}{Q:VK}{W:Nat→Nat→St→List V→Hp→Prop}(h:∀i m σ' ys H',W i m σ' ys H'→(J.stop i H'∧∀D,H' D=none→Q (.ref D) (upd H' D (.lst ys)))∨(J.go i H'∧ys.length<sizeLine∧∃N:St→V→Hp→Prop,(∀σ2 y H4,N σ2 y H4→∃m',m'<m∧W (i+1) m' σ2 (ys++[y]) H4)∧
   ∀x H2,J.yld i H' x H2→g x σ' H2 fun σ2 H3=>te σ2 H3 (N σ2))):∀i m σ' ys H',W i m σ' ys H'→(J.stop i H'∧∀D,H' D=none→Q (.ref D) (upd H' D (.lst ys)))∨(J.go i H'∧ys.length<sizeLine∧∃(N:St→V→Hp→Prop) (N0:St→Hp→Prop),(∀σ2 y H4,N σ2 y H4→∃m',m'<m∧W (i+1) m' σ2 (ys++[y]) H4)∧(∀σ2 H4,N0 σ2 H4→∃m',m'<m∧W (i+1) m' σ2 ys H4)∧
   ∀x H2,J.yld i H' x H2→g x σ' H2 fun σ2 H3=>tYes σ2 H3 fun b H4=>if b=true then te σ2 H4 (N σ2) else N0 σ2 H4):=by
 intro i m σ' ys H' w
 rcases h i m σ' ys H' w with h|⟨go,hl,N,hN,st⟩
 ·exact .inl h
 ·refine .inr ⟨go,hl,N,fun _ _=>False,hN,(fun _ _ z=>z.elim),fun x H2 y=>?_⟩
  have e:(fun(σ2:St) (H3:Hp)=>tYes σ2 H3 fun b H4=>if b=true then te σ2 H4 (N σ2) else False)=fun σ2 H3=>te σ2 H3 (N σ2):=by
   funext σ2 H3
   show(if true=true then te σ2 H3 (N σ2) else False)=te σ2 H3 (N σ2)
   rw[if_pos rfl]
  rw[e]
  exact st x H2 y
theorem kbv{wi:TI}(S:CompScope X scope N cap)(hc:X.calm=true)(hi:PI X tg iter wi)(hg:∀fp s H C,PG (cxC X scope N fp s H C) tg g)(he:∀fp s H C,PE (cxC X scope N fp s H C) elt te)
  (hs:∀x,foldedSetIterable iter X.env x=pure x:=by intro _;rfl):PE X (.ListComp elt [⟨tg,iter,[],0⟩] scope pos) (tComp wi cap g te):=by
 intro pins s σ H Q I h
 rw[eval_ListComp]
 refine wpAny_comprehension_free (use:=none) rfl hs (kcx S I) S.kind S.names (thn (hi pins s σ H _ I h) fun v s1 h1=>thn h1 fun itv s2 h2=>?_)
 obtain⟨it,fp,tn,J,H2,e,I2,T,st2,f2,W,⟨m0,w0⟩,turn⟩:=h2
 subst e
 refine kdg (RR:=fun acc C=>compPost (model X.prog X.w) X.A X.xe none (EP X pins σ Q) acc C) S hc hg (fun _ _ _ _=>kie) he I2 T st2 f2 W w0 (kfI turn) fun D C H' s' m B fC hCD hm q=>?_
 obtain⟨c0,c1,c2,c3,c4,c5⟩:=fC
 exact⟨m,hm,fun h' hs'=>⟨.ref D,H',B.turned (t':=s'.toks) (fun b o hb e=>(hs'.2 b hb).trans e) c0 c1 c3 c4 c5,rfl,q⟩⟩
theorem keL{wi:TI}{i:Nat}{y:Str}{py spos:Pos}(S:CompScope X scope N cap)(hc:X.calm=true)(hi:PI X tg iter wi)(hg:∀fp s H C,PG (cxC X scope N fp s H C) tg g)(he:∀fp s H C,PE (cxC X scope N fp s H C) elt te)
  (hA:PG X (.Name y py) (gName i)) (hsw:swapsWith (.ListComp elt [⟨tg,iter,[],0⟩] scope pos) (some (.Name y py)) spos.line X.env=pure true:=by rfl)
  (hs:∀x,foldedSetIterable iter X.env x=pure x:=by intro _;rfl):PS X (.Assign [.Name y py] (.ListComp elt [⟨tg,iter,[],0⟩] scope pos) spos) (tAsg (tComp wi cap g te) (gName i)):=by
 intro pins s σ H D I h
 rw[exec_Assign_Name_used _ _ _ _ hsw]
 refine wpAny_bind (wpAny_standAt (wpAny_bind ?_))
 show wpAny _ X.A (do let _ ←comprehension (.ListComp elt [⟨tg,iter,[],0⟩] scope pos) scope X.env _ (newList []) false (eval iter X.env) (some (assign (.Name y py) X.env))) _ _ s
 refine wpAny_bind (wpAny_mono (wpAny_comprehension_free (use:=some (assign (.Name y py) X.env)) (Q:=fun _ s'=>SP X pins D .next s') rfl hs (kcx S I) S.kind S.names
  (thn (hi pins s σ H _ I h) fun v s1 h1=>thn h1 fun itv s2 h2=>?_)) (fun _ s' hq=>wpAny_pure (wpAny_pure hq)) fun _ _ e=>e)
 obtain⟨it,fp,tn,J,H2,e,I2,T,st2,f2,W,⟨m0,w0⟩,turn⟩:=h2
 subst e
 refine kdg (Q:=fun v H'=>gName i v σ H' D.nx) (RR:=fun acc C=>compPost (model X.prog X.w) X.A X.xe (some (assign (.Name y py) X.env)) (fun _ s'=>SP X pins D .next s') acc C) S hc hg (fun _ _ _ _=>kie) he I2 T st2 f2 W w0 (kfI (Q:=fun v H'=>gName i v σ H' D.nx) turn) fun D' C H' s' m B fC hCD hm q=>?_
 obtain⟨c0,c1,c2,c3,c4,c5⟩:=fC
 obtain⟨oC,es,ep,eC,dC,kC⟩:=hm
 have B':Inv X (pins++[(C,oC)]) σ H' s':=B.pins_of fun p hp=>by
  rcases Jd.mp hp with hp|hp
  ·exact B.pin p (U7 _ hp)
  ·have e:p=(C,oC):=by simpa using hp
   subst e
   exact⟨eC,c0,c1,c2,fun v z=>by rw[dC] at z;cases z⟩
 refine thn (hA _ s' σ H' (.ref D') (.ref D') _ B' rfl q) fun _ s'' ⟨σ2,H3,I3,q3⟩=>?_
 obtain⟨e3,n3,_⟩:=I3.pin (C,oC) (U7 _ (U7 _ (by simp)))
 exact⟨m,⟨oC,es,ep,e3,dC,kC⟩,fun h' hs'=>⟨σ2,H3,I3.unpinned.turned (t':=s''.toks) (fun b o hb e=>(hs'.2 b hb).trans e) n3 c1 c3 c4 c5,q3⟩⟩
end
section
variable {g:TG} {te:TE} {σ:St} {H:Hp} {R:List V→Hp→Addr→Prop}
theorem ka3{K:Uv}{a:Addr}{xs:List V}(Pv:Nat→St→List V→Hp→Prop)(h0:Pv 0 σ [] H)(hz:xs.length≤sizeLine)(hl:∀i σ ys H,i≤xs.length→Pv i σ ys H→SqL K H a xs∧ys.length=i)
  (hs:∀i x σ ys H,xs[i]?=some x→Pv i σ ys H→g x σ H fun σ2 H2=>te σ2 H2 fun y H3=>Pv (i+1) σ2 (ys++[y]) H3) (hd:∀σ ys H,Pv xs.length σ ys H→∀D,H D=none→R ys H D):
  ∃ W:Nat→Nat→St→List V→Hp→Prop,(∃m,W 0 m σ [] H)∧∀i m σ' ys H',W i m σ' ys H'→
   ((Itl K a).stop i H'∧∀D,H' D=none→R ys H' D)∨((Itl K a).go i H'∧ys.length<sizeLine∧∃N:St→V→Hp→Prop,(∀σ2 y H4,N σ2 y H4→∃m',m'<m∧W (i+1) m' σ2 (ys++[y]) H4)∧
    ∀x H2,(Itl K a).yld i H' x H2→g x σ' H2 fun σ2 H3=>te σ2 H3 (N σ2)):=by
 refine⟨fun i m σ ys H=>m=xs.length-i∧i≤xs.length∧Pv i σ ys H,⟨xs.length,by simp,U1 _,h0⟩,?_⟩
 rintro i m σ ys H ⟨rfl,hi,p⟩
 obtain⟨q,el⟩:=hl i σ ys H hi p
 by_cases hlt:i<xs.length
 ·refine .inr ⟨⟨xs,xs[i],q,by simp[hlt]⟩,by omega,fun σ2 y H3=>Pv (i+1) σ2 (ys++[y]) H3,fun σ' y H' p'=>⟨xs.length-(i+1),by omega,rfl,hlt,p'⟩,fun x H' yl=>?_⟩
  obtain⟨e,yl⟩:=yl
  subst e
  exact hs i x σ ys _ (yl xs q) p
 ·have e:i=xs.length:=by omega
  subst e
  exact .inl ⟨⟨xs,q,Uw _⟩,hd σ ys H p⟩
theorem khr{lo:Int}{n:Nat}(Pv:Nat→St→List V→Hp→Prop)(h0:Pv 0 σ [] H)(hz:n≤sizeLine)(hl:∀i σ ys H,i≤n→Pv i σ ys H→ys.length=i)
  (hs:∀i σ ys H,i<n→Pv i σ ys H→g (.int (lo+i)) σ H fun σ2 H2=>te σ2 H2 fun y H3=>Pv (i+1) σ2 (ys++[y]) H3) (hd:∀σ ys H,Pv n σ ys H→∀D,H D=none→R ys H D):
  ∃ W:Nat→Nat→St→List V→Hp→Prop,(∃m,W 0 m σ [] H)∧∀i m σ' ys H',W i m σ' ys H'→
   ((Itr lo n).stop i H'∧∀D,H' D=none→R ys H' D)∨((Itr lo n).go i H'∧ys.length<sizeLine∧∃N:St→V→Hp→Prop,(∀σ2 y H4,N σ2 y H4→∃m',m'<m∧W (i+1) m' σ2 (ys++[y]) H4)∧
    ∀x H2,(Itr lo n).yld i H' x H2→g x σ' H2 fun σ2 H3=>te σ2 H3 (N σ2)):=by
 refine⟨fun i m σ ys H=>m=n-i∧i≤n∧Pv i σ ys H,⟨n,by simp,U1 _,h0⟩,?_⟩
 rintro i m σ ys H ⟨rfl,hi,p⟩
 have el:=hl i σ ys H hi p
 by_cases hlt:i<n
 ·refine .inr ⟨hlt,by omega,fun σ2 y H3=>Pv (i+1) σ2 (ys++[y]) H3,fun σ' y H' p'=>⟨n-(i+1),by omega,rfl,hlt,p'⟩,fun x H' yl=>?_⟩
  obtain⟨e,yl⟩:=yl
  subst e yl
  exact hs i σ ys _ hlt p
 ·have e:i=n:=by omega
  subst e
  exact .inl ⟨Uw _,hd σ ys H p⟩
end
theorem CompScope.plain{X:Cx}{scope:Scope}{N:List Str}(kind:scope.kind=.function)(names:∀x∈scope.names,x.2=.local→scope.names.lookup x.1=some .local)(_:∀x∈scope.names,x.2≠.cell)(nf:∀x∈scope.names,x.2≠.free)(nd:N.Nodup):
  CompScope X scope N (Uz N.length none):=by
 refine⟨kind,names,fun x hx hf=>absurd hf (nf x hx),nd,by simp,fun j i x e _=>?_⟩
 rw[NS] at e
 split at e
 ·cases e
 ·cases e
noncomputable def kks(scope:Scope)(ns:List (Str×NameKind))(XN N:List Str)(cap:List (Option Nat)):Bool:=
 scope.kind== .function&&scope.names.all (fun x=>!(x.2== .local)||scope.names.lookup x.1==some .local)&&scope.names.all (fun x=>!(x.2== .free)||(ns.lookup x.1==some .cell||ns.lookup x.1==some .free))&&decide N.Nodup&&decide (cap.length=N.length) &&
  (cap.zip N).all fun p=>match p.1 with
   |none=>true
   |some i=>XN[i]? ==some p.2&&scope.names.lookup p.2==some .free&&scope.names.all fun y=>!(y.1==p.2&&y.2== .cell)
theorem CompScope.of{X:Cx}{scope:Scope}{N:List Str}{cap:List (Option Nat)}(ns:List (Str×NameKind))(XN:List Str)(hn:X.env.scope.names=ns)(hN:X.N=XN)(h:kks scope ns XN N cap=true):CompScope X scope N cap:=by
 unfold kks at h
 simp only[Jq,decide_eq_true_eq,JG,Np,Bool.not_eq_true',beq_iff_eq,beq_eq_false_iff_ne] at h
 obtain⟨⟨⟨⟨⟨h1,h2⟩,h3⟩,h4⟩,h5⟩,h6⟩:=h
 refine⟨h1,fun x hx hl=>?_,fun x hx hf=>?_,h4,h5,fun j i x e1 e2=>?_⟩
 ·rcases h2 x hx with q|q
  ·exact absurd hl q
  ·exact q
 ·rw[hn]
  rcases h3 x hx with q|q
  ·exact absurd hf q
  ·exact q
 ·have hz:(cap.zip N)[j]?=some (some i,x):=by
   rw[List.getElem?_zip_eq_some]
   exact⟨e1,e2⟩
  have q:=h6 _ (UE hz)
  simp only[Jq,beq_iff_eq,JG,Bool.not_eq_true',Bool.and_eq_false_iff,beq_eq_false_iff_ne] at q
  obtain⟨⟨q1,q2⟩,q3⟩:=q
  refine⟨by rw[hN];exact q1,q2,fun z=>?_⟩
  rcases q3 _ z with q|q
  ·exact q rfl
  ·exact q rfl
end L2
namespace L2
open PySem PySem.Spec PyProof.Rows
theorem Inv.turnedL{X:Cx}{pins:List (Addr×Obj)}{σ:St}{H:Hp}{s:Shared}{h':Heap}{t':Nat}{ch:List Addr}(I:Inv X pins σ H s)(k:∀b o,b∉ch→s.heap.get? b=some o→h'.get? b=some o)(hf:∀b∈ch,FpOk X pins H b):
  Inv X pins σ H {s with heap:=h',toks:=t'}:=by
 have nch:∀b u,H b=some u→b∉ch:=fun b u e z=>by
  have:=(hf b z).1
  rw[this] at e
  cases e
 refine I.step (g':=s.gens) (d':=s.drawn) (ch:=ch) (fun b hb=>let⟨_,h1,_,h3,h4,h5⟩:=hf b hb;⟨h3,h1,h4,h5⟩) (fun b o _ _ hc e _=>k b o hc e) (fun b o _ _ hc e _=>⟨o.slots,k b o hc e⟩) (fun _ _ _ _ n=>n)
  (fun b o hc e=>⟨o,k b o hc e⟩) (fun _ _ e=>e) (fun _ _ _ e=>e) (fun b ps e=>⟨#[],by rw[e];simp⟩) (fun m hm=>?_) (fun b u e=>?_) I.bare
 ·obtain⟨o,es,ep,ho,r⟩:=hm
  exact⟨o,es,ep,k _ o (fun z=>(hf _ z).2.1 rfl) ho,r⟩
 ·refine(I.hok b u e).stay (fun c v hc q=>k c v ?_ q) (fun _ q=>q) fun _ _ q=>q
  rcases hc with z|z
  ·rw[z];exact nch b u e
  ·exact nch c _ z
noncomputable def Ite(a:Addr):It:=⟨fun i H=>∃xs x,H a=some (.lst xs)∧xs[i]?=some x,fun i H x H'=>∃t y,H t=none∧x=.ref t∧H'=upd H t (.tup [.int i,y])∧∀xs,H a=some (.lst xs)→xs[i]?=some y,fun i H=>∃xs,H a=some (.lst xs)∧xs.length≤i⟩
theorem khD{P:Program}{w:World}{K:Uv}{es:List Expr}{k:Nat}{pos:Pos}(a e it:Addr)(hne:e≠it):Turn P w K (.Tuple es k pos) (Ite a) [e,it] e (fun i h=>(∃old,IsEnum h e it ((i:Nat):Int) old)∧h.IsListIter it a i) where
 mem:=by simp
 obj:=fun i h st b hb=>by
  obtain⟨⟨old,he⟩,o,eo,c,d⟩:=st
  have hb':b=e∨b=it:=by simpa using hb
  rcases hb' with rfl|rfl
  ·exact⟨_,he,fun v z=>by
    have z':Data.fields _=Data.cell v:=z
    cases z'⟩
  ·exact⟨o,eo,fun v z=>by rw[d] at z;cases z⟩
 keep:=fun i h h' st k=>⟨let⟨old,he⟩:=st.1;⟨old,k e (by simp) _ he⟩,st.2.at fun o eo=>k it (by simp) o eo⟩
 item:=by
  intro X hP hw hK hc i pins s σ H E I hf st hg
  subst hP hw hK
  obtain⟨⟨old,he⟩,hit⟩:=st
  obtain⟨xs,x,hq,hx⟩:=hg
  obtain⟨its,n,r,ho,hz⟩:=I.lst hq
  obtain⟨u,hu,ru⟩:=r.get hx
  have hl:s.heap.IsList a its.toArray:=⟨_,ho,rfl,n,rfl⟩
  refine wpAny_pyNext_enum_item he hit hl (x:=u) (by simpa using hu) hne fun h1 heo hit1 ht1 hz1 hk1=>?_
  refine⟨.ref s.heap.objs.size,rfl,wpAny_letOwnedTupleGo_enum heo fun h2 he2 hs2=>?_⟩
  have hs2':Heap.SameBut e h1 h2:=hs2
  have el:e<s.heap.objs.size:=Heap.lt_size he
  have kk:∀b o,b∉[e,it]→s.heap.get? b=some o→h2.get? b=some o:=fun b o hb eo=>by
   have hb':b≠e∧b≠it:=by simpa using hb
   exact(hs2'.2 b hb'.1).trans (hk1 b o hb'.1 hb'.2 eo)
  have I1:Inv X pins σ H {s with heap:=h2,toks:=s.toks+1}:=I.turnedL (ch:=[e,it]) kk hf
  have fr:H s.heap.objs.size=none:=I.hok.fresh (Uw _)
  have ft:FpOk X pins H s.heap.objs.size:=I.fpOk (Uw _) fr
  have ht2:h2.get? s.heap.objs.size=some {cls:=.type "tuple",data:=.seq #[.int i s.toks,u]}:=(hs2'.2 _ (Je el)).trans ht1
  have I2:Inv X pins σ (upd H s.heap.objs.size (.tup [.int i,x])) {s with heap:=h2,toks:=s.toks+1}:=
   I1.adopt ft I.sz ⟨by show 2≤sizeLine;decide,[.int i s.toks,u], .cons ⟨_,rfl⟩ (.cons ru .nil),_,ht2,rfl,_,rfl⟩
  have hit2:h2.IsListIter it a (i+1):=hit1.extBut hs2'.extBut (Ne.symm hne)
  refine⟨.ref s.heap.objs.size,_,I2,rfl,⟨s.heap.objs.size,x,fr,rfl,rfl,fun ys hy=>by rw[hq] at hy;cases hy;exact hx⟩,⟨⟨u,?_⟩,hit2⟩,fun b hb=>?_⟩
  ·have e1:((i+1:Nat):Int)=(i:Int)+1:=rfl
   rw[e1]
   exact he2
  ·have hbl:b<s.heap.objs.size:=by
    have hb':b=e∨b=it:=by simpa using hb
    rcases hb' with rfl|rfl
    ·exact el
    ·obtain⟨o,eo,_⟩:=hit
     exact Heap.lt_size eo
   rw[kak (UV hbl)]
   exact(hf b hb).1
 done:=by
  intro X hP hw hK hc i pins s σ H E I hf st hg
  subst hP hw hK
  obtain⟨⟨old,he⟩,hit⟩:=st
  obtain⟨xs,hq,hx⟩:=hg
  obtain⟨its,n,r,ho,hz⟩:=I.lst hq
  have hl:s.heap.IsList a its.toArray:=⟨_,ho,rfl,n,rfl⟩
  have hlen:=r.length
  obtain⟨f0,f1,f2,f3,f4,f5⟩:=hf it (by simp)
  exact wpAny_pyNext_enum_end (I.ok.hd hc) he hit hl (by simp;omega) fun h' eb=>⟨rfl,I.turned (t':=s.toks) (fun b o hb e=>eb b o hb e) f0 f1 f3 f4 f5⟩
 self:=fun _ _ _ _ _ st h=>let⟨_,he⟩:=st.1;wpAny_pyIter_enum he h
section
variable {X:Cx}
noncomputable def iEnum(ta:TA):TI:=fun σ H R=>ta σ H fun vs H1=>∃a xs,vs=[.ref a]∧H1 a=some (.lst xs)∧R (Ite a) H1
theorem kig{es:List Expr}{k:Nat}{tpos:Pos}{e:Expr}{ta:TA}{p pos:Pos}(hg:Gl X "enumerate")(hm:X.mg "enumerate"=none)(ha:PA X [e] ta)(he:starEach [e] X.env=(false,eval e X.env)::starEach [] X.env:=by rfl)
  (hpl:(backTo pos (starEach [] X.env)).any (·.1)=false:=by rfl):PI X (.Tuple es k tpos) (.Call (.Name "enumerate" p) [e] [] pos) (iEnum ta):=by
 intro pins s σ H R I h
 refine Call_ (kcs I hg hm boot_enumerate (PyProof.Rows.callWith_type1 (thn (ha pos pins s σ H _ I h) fun us s1 ⟨vs,H1,I1,r1,q1⟩=>?_) he hpl))
 obtain⟨a,xs,rfl,hq,q⟩:=q1
 obtain⟨u,rfl,rx⟩:=vals1 r1
 cases rx
 obtain⟨its,n,r,ho,hz⟩:=I1.lst hq
 refine call_enumerate_1 ho fun h' he' hit' hsz hk=>wpAny_pyIter_enum he' ?_
 have I2:Inv X pins σ H1 {s1 with heap:=h'}:=I1.kept (t':=s1.toks) hk
 refine⟨s1.heap.objs.size+1,[s1.heap.objs.size+1,s1.heap.objs.size],_,_,H1,rfl,I2,khD a (s1.heap.objs.size+1) s1.heap.objs.size (Nat.succ_ne_self _),⟨⟨_,he'⟩,hit'⟩,fun b hb=>?_,q⟩
 have hb':b=s1.heap.objs.size+1∨b=s1.heap.objs.size:=by simpa using hb
 have hle:s1.heap.objs.size≤b:=by rcases hb' with rfl|rfl <;> omega
 exact I1.fpOk hle (I1.hok.fresh hle)
end
theorem kjH{a:Addr}{xs:List V}{g:TG}{tb:TS}{D:Ends}{σ:St}{H:Hp}(Pv:Nat→St→Hp→Prop)(h0:Pv 0 σ H)(hl:∀i σ H,i≤xs.length→Pv i σ H→H a=some (.lst xs))
  (hs:∀i y t σ H,xs[i]?=some y→Pv i σ H→H t=none→g (.ref t) σ (upd H t (.tup [.int (i:Nat),y])) fun σ2 H2=>tb {D with nx:=Pv (i+1),ct:=Pv (i+1),bk:=D.nx} σ2 H2) (hd:∀σ H,Pv xs.length σ H→D.nx σ H):
  ∃W:Nat→Nat→St→Hp→Prop,(∃m,W 0 m σ H)∧∀i m σ H,W i m σ H→
   ((Ite a).stop i H∧D.nx σ H)∨((Ite a).go i H∧∃N:St→Hp→Prop,(∀σ' H',N σ' H'→∃m',m'<m∧W (i+1) m' σ' H')∧∀x H',(Ite a).yld i H x H'→g x σ H' fun σ2 H2=>tb {D with nx:=N,ct:=N,bk:=D.nx} σ2 H2):=by
 refine⟨fun i m σ H=>m=xs.length-i∧i≤xs.length∧Pv i σ H,⟨xs.length,by simp,U1 _,h0⟩,?_⟩
 rintro i m σ H ⟨rfl,hi,p⟩
 have q:=hl i σ H hi p
 by_cases hlt:i<xs.length
 ·refine .inr ⟨⟨xs,xs[i],q,by simp[hlt]⟩,Pv (i+1),fun σ' H' p'=>⟨xs.length-(i+1),by omega,rfl,hlt,p'⟩,fun x H' y=>?_⟩
  obtain⟨t,y,hn,rfl,rfl,hy⟩:=y
  exact hs i y t σ _ (hy xs q) p hn
 ·have e:i=xs.length:=by omega
  subst e
  exact .inl ⟨⟨xs,q,Uw _⟩,hd σ H p⟩
section
variable {X:Cx}
theorem kg6:∀{bs:List Bool} {us:List Value} {i:Nat} {v:Value},Vals (bs.map V.bl) us→us[i]?=some v→∃b,bs[i]?=some b∧v=.bool b
 |[],_,_,_, .nil,e=>by simp at e
 |b::bs,u::us,0,v, .cons r _,e=>by
  have e':u=v:=by simpa using e
  subst e'
  exact⟨b,rfl,r⟩
 |b::bs,u::us,i+1,v, .cons _ t,e=>by
  obtain⟨b',h1,h2⟩:=kg6 (i:=i) (v:=v) t (by simpa using e)
  exact⟨b',by simpa using h1,h2⟩
theorem kjQ(hc:X.calm=true):CallR X (.builtin "all") (fun xs H Q=>∃(p:Addr) (bs:List Bool),xs=[.ref p]∧SqL X.K H p (bs.map V.bl)∧Q (.bl (bs.all id)) H):=by
 intro pins s σ H xs us Q I r h
 obtain⟨p,bs,rfl,hq,q⟩:=h
 obtain⟨u,rfl,rx⟩:=vals1 r
 cases rx
 obtain⟨its,r',pl,hz⟩:=I.list hq
 have hl:=pl.isList
 have hlt:p<s.heap.objs.size:=by obtain⟨_,e,_⟩:=hl;exact Heap.lt_size e
 have hlen:=r'.length
 refine call_all_walk (wpAny_pyIter_list hl ?_)
 refine⟨s.heap.objs.size,[s.heap.objs.size,p],[s.heap.objs.size],its.toArray.size,_,_,fun i=>(bs[i]?).getD true,rfl,Walks.list (A:=X.A.in1) (I.ok.hd hc) _ p (UV hlt) its.toArray,
  ⟨⟨_,Heap.get?_push_size _ rfl,rfl,rfl⟩,hl.push _⟩,fun i v s' Q' E' hP hQ=>?_,fun h' tk hk=>?_⟩
 ·obtain⟨b,e,rfl⟩:=kg6 (i:=i) (v:=v) r' (by simpa using hP)
  simp only[e,Option.getD_some] at hQ
  exact wpAny_truthy_bool hQ
 ·have e:((UB its.toArray.size).all fun i=>(bs[i]?).getD true)=bs.all id:=by
   rw[UN,←hlen,Uu]
   exact LSm.range_all bs
  rw[e]
  exact⟨.bl _,H,I.kept (LSm.kept_iter hk),rfl,q⟩
theorem b_all:bootBuiltins "all"=some (.builtin "all"):=by decide +kernel
end
section
variable {X:Cx}
end
end L2
namespace L2
open PySem PySem.Spec PyProof.Rows
section
variable {prog:Program} {w:World} {A:Around} {E:Value→Shared→Prop} {s:Shared}
end
section
variable {X:Cx}
end
section
variable {X:Cx} {CX:CXT} {k:Nat} {f C:Addr} {fd:FuncData} {ps ks:List Str} {sp:Sp} {E:XK} {x:Str} {p pos:Pos} {e:Expr} {es:List Expr} {kws:List Keyword} {t tk:TA} {g:List Value→List Value→List Value} {gV:List V→List V→List V}
end
end L2
namespace L2
open PySem PySem.Spec PyProof.Rows
noncomputable def kbC(K:Uv):List V→Hp→VK→Prop:=fun xs H Q=>∃p ys,xs=[.ref p]∧(SqL K H p ys∨SqT K H p ys)∧∀l,H l=none→Q (.ref l) (upd H l (.lst ys))
noncomputable def ka4(K:Uv):List V→Hp→VK→Prop:=fun xs H Q=>∃p ys,xs=[.ref p]∧(SqL K H p ys∨SqT K H p ys)∧Q (.int ys.length) H
noncomputable def rSum(K:Uv):List V→Hp→VK→Prop:=fun xs H Q=>∃(p:Addr) (ns:List Int),xs=[.ref p]∧SqL K H p (ns.map V.int)∧Q (.int ns.sum) H
noncomputable def rIsi(K:Uv):List V→Hp→VK→Prop:=fun xs H Q=>∃x c t b,xs=[x,c]∧((∃n,c=.ty n)∨∃a,c=.ref a)∧TyOf K H x t∧UK K t (cV c)=some b∧Q (.bl b) H
section
variable {X:Cx} {K:Uv} {pos:Pos}
theorem kam{e:Expr}{ta:TE}{f:Str}(he:PE X e ta)(hb:attributeBase e f X.env (eval e X.env)=eval e X.env)(hK:X.K=K:=by rfl):PE X (.Attribute e f pos) (tFld K ta f):=by
 subst hK
 exact klm he hb
theorem kaH{tg l:Expr}{tl:TE}(hl:PE X l tl)(hK:X.K=K:=by rfl):PI X tg l (iList K tl):=by
 subst hK
 exact kkL hl
theorem kbm{es:List Expr}{k:Nat}{t:TGs}{n:Nat}(hc:X.calm=true)(h:PGs X es t)(hK:X.K=K:=by rfl)
  (hn:(assignEach es X.env).length=n:=by rfl) (hst:(assignEach es X.env).findIdx? (·.1)=none:=by rfl):PG X (.Tuple es k pos) (gTup K n t):=by
 subst hK
 exact klj hc h hn hst
end
end L2
namespace L2
open PySem PySem.Spec PyProof.Rows
inductive DEq (K:Uv) (H:Hp):Nat→V→V→Prop
 |flat {n:Nat} {x y:V} (fx:flatV x=true) (fy:flatV y=true) (e:eqV x y=true):DEq K H n x y
 |same {n:Nat} (a:Addr):DEq K H n (.ref a) (.ref a)
 |lst {n:Nat} {a b:Addr} {xs ys:List V} (ha:SqL K H a xs) (hb:SqL K H b ys) (hl:xs.length=ys.length) (h:∀(i:Nat) (x y:V),xs[i]?=some x→ys[i]?=some y→DEq K H n x y):DEq K H (n+1) (.ref a) (.ref b)
 |tup {n:Nat} {a b:Addr} {xs ys:List V} (ha:SqT K H a xs) (hb:SqT K H b ys) (hl:xs.length=ys.length) (h:∀(i:Nat) (x y:V),xs[i]?=some x→ys[i]?=some y→DEq K H n x y):DEq K H (n+1) (.ref a) (.ref b)
theorem DEq.self{K:Uv}{H:Hp}{n:Nat}{x:V}(h:flatV x=true):DEq K H n x x:=.flat h h (kg2 h)
theorem DEq.int{K:Uv}{H:Hp}{n:Nat}(i:Int):DEq K H n (.int i) (.int i):=.self rfl
theorem DEq.bl{K:Uv}{H:Hp}{n:Nat}(i:Bool):DEq K H n (.bl i) (.bl i):=.self rfl
theorem DEq.non{K:Uv}{H:Hp}{n:Nat}:DEq K H n .non .non:=.self rfl
theorem DEq.str{K:Uv}{H:Hp}{n:Nat}(i:Str):DEq K H n (.str i) (.str i):=.self rfl
theorem DEq.flats{K:Uv}{H:Hp}{n:Nat}{a b:Addr}{xs:List V}(ha:SqL K H a xs)(hb:SqL K H b xs)(f:xs.all flatV=true):DEq K H (n+1) (.ref a) (.ref b):=
 .lst ha hb rfl fun i x y e1 e2=>by
  rw[e1] at e2
  cases e2
  exact .self (JG.mp f _ (UE e1))
section
variable {X:Cx}
theorem all_true(n:Nat):(UB n).all (fun _=>true)=true:=by simp
theorem kdo{xs:List V}{us:List Value}(r:Vals xs us){j:Nat}(h:j<us.toArray.size):∃x,xs[j]?=some x∧RelV x us.toArray[j]:=by
 have h':j<us.length:=by simpa using h
 have l:=r.length
 obtain⟨u,e,ru⟩:=r.get (i:=j) (x:=xs[j]'(by omega)) (by simp[show j<xs.length by omega])
 refine⟨xs[j]'(by omega),by simp[show j<xs.length by omega],?_⟩
 have:us.toArray[j]=u:=by
  obtain⟨_,e'⟩:=UG.mp e
  simpa using e'
 rw[this]
 exact ru
theorem kkp{pins:List (Addr×Obj)}{σ:St}{H:Hp}{s:Shared}(I:Inv X pins σ H s){n:Nat}{x y:V}(h:DEq X.K H n x y):∀{A:Around} {u w:Value},A.units+n<cLine→RelV x u→RelV y w→SeqAt.EqAt A s u w true:=by
 induction h with
 |flat fx fy e=>
  intro A u w _ r1 r2
  have:=kiM (A:=A) (s:=s) r1 r2 fx fy
  rw[e] at this
  exact this
 |same a=>
  intro A u w _ r1 r2
  cases r1
  cases r2
  exact SeqAt.EqAt.same _
 | @lst n a b xs ys ha hb hl h ih=>
  intro A u w hu r1 r2
  cases r1
  cases r2
  by_cases e:a=b
  ·subst e
   exact SeqAt.EqAt.same _
  obtain⟨us,q1,p1,z1⟩:=I.list ha
  obtain⟨ws,q2,p2,z2⟩:=I.list hb
  have l1:=q1.length
  have l2:=q2.length
  have key:=SeqAt.RcAt.lists (A:=A) (e:=fun _=>true) p1.isList p2.isList (by simp;omega) (by omega) fun j h1 h2=>by
   obtain⟨x,e1,g1⟩:=kdo q1 h1
   obtain⟨y,e2,g2⟩:=kdo q2 h2
   exact ih j x y e1 e2 (A:=A.in1) (by show A.units+1+n<cLine;omega) g1 g2
  rw[all_true] at key
  exact SeqAt.EqAt.of_refs e key
 | @tup n a b xs ys ha hb hl h ih=>
  intro A u w hu r1 r2
  cases r1
  cases r2
  by_cases e:a=b
  ·subst e
   exact SeqAt.EqAt.same _
  obtain⟨us,q1,p1,z1⟩:=I.tuple ha
  obtain⟨ws,q2,p2,z2⟩:=I.tuple hb
  have l1:=q1.length
  have l2:=q2.length
  have key:=SeqAt.RcAt.tuples (A:=A) (e:=fun _=>true) p1 p2 (by omega) fun j h1 h2=>by
   obtain⟨x,e1,g1⟩:=kdo q1 h1
   obtain⟨y,e2,g2⟩:=kdo q2 h2
   exact ih j x y e1 e2 (A:=A.in1) (by show A.units+1+n<cLine;omega) g1 g2
  rw[all_true,show(us.toArray.size==ws.toArray.size)=true by simp;omega] at key
  exact SeqAt.EqAt.of_refs e key
noncomputable def klh(K:Uv)(b:Bool):R2:=fun x y H Q=>∃(a c:Addr) (xs ys:List V),x=.ref a∧y=.ref c∧((SqL K H a xs∧SqL K H c ys)∨(SqT K H a xs∧SqT K H c ys))∧xs.length=ys.length∧(∀(i:Nat) (x y:V),xs[i]?=some x→ys[i]?=some y→DEq K H 32 x y)∧Q (.bl b) H
theorem kke(hu:X.A.units+64<cLine):OpR X (compareOp .NotEq) (klh X.K false):=by
 intro pins s σ H x y v u Q I rx ry h
 obtain⟨a,c,xs,ys,rfl,rfl,hq,hl,hd,q⟩:=h
 cases rx
 cases ry
 show wpAny _ _ (richCompare .NotEq (.ref a) (.ref c)) _ _ s
 rcases hq with⟨ha,hb⟩|⟨ha,hb⟩
 ·obtain⟨us,q1,p1,z1⟩:=I.list ha
  obtain⟨ws,q2,p2,z2⟩:=I.list hb
  have l1:=q1.length
  have l2:=q2.length
  refine SeqAt.RcNeAt.lists (e:=fun _=>true) p1.isList p2.isList (by simp;omega) (by omega) (fun j h1 h2=>?_) _ _ _ _ ⟨.bl false,H,I,?_,q⟩
  ·obtain⟨x,e1,g1⟩:=kdo q1 h1
   obtain⟨y,e2,g2⟩:=kdo q2 h2
   exact kkp I (hd j x y e1 e2) (by show X.A.units+1+32<cLine;omega) g1 g2
  ·rw[all_true]
   rfl
 ·obtain⟨us,q1,p1,z1⟩:=I.tuple ha
  obtain⟨ws,q2,p2,z2⟩:=I.tuple hb
  have l1:=q1.length
  have l2:=q2.length
  refine SeqAt.RcNeAt.tuples (e:=fun _=>true) p1 p2 (by omega) (fun j h1 h2=>?_) _ _ _ _ ⟨.bl false,H,I,?_,q⟩
  ·obtain⟨x,e1,g1⟩:=kdo q1 h1
   obtain⟨y,e2,g2⟩:=kdo q2 h2
   exact kkp I (hd j x y e1 e2) (by show X.A.units+1+32<cLine;omega) g1 g2
  ·rw[all_true,show(us.toArray.size==ws.toArray.size)=true by simp;omega]
   rfl
end
noncomputable def Itz(a b:Addr):It:=⟨fun i H=>∃xs ys x y,H a=some (.lst xs)∧H b=some (.lst ys)∧xs[i]?=some x∧ys[i]?=some y,
 fun i H v H'=>∃t x y,H t=none∧v=.ref t∧H'=upd H t (.tup [x,y])∧(∀xs,H a=some (.lst xs)→xs[i]?=some x)∧∀ys,H b=some (.lst ys)→ys[i]?=some y,
 fun i H=>∃xs ys,H a=some (.lst xs)∧H b=some (.lst ys)∧(xs.length≤i∨ys.length≤i)⟩
theorem kgv{P:Program}{w:World}{K:Uv}{es:List Expr}{k:Nat}{pos:Pos}(a b z TI TO i1 i2:Addr)(nd:[z,TI,TO,i1,i2].Nodup):
  Turn P w K (.Tuple es k pos) (Itz a b) [z,TI,TO,i1,i2] z (fun i h=>IsZip h z TI TO .none∧IsPair h TI (.ref i1) (.ref i2)∧(∃u v,IsPair h TO u v)∧h.IsListIter i1 a i∧h.IsListIter i2 b i) where
 mem:=by simp
 obj:=fun i h st b hb=>by
  obtain⟨hz,hI,⟨_,_,hO⟩,⟨o1,e1,_,d1⟩,⟨o2,e2,_,d2⟩⟩:=st
  simp only[UO,Jb,or_false] at hb
  rcases hb with rfl|rfl|rfl|rfl|rfl
  ·exact⟨_,hz,fun v q=>by cases(show Data.fields _=Data.cell v from q)⟩
  ·exact⟨_,hI,fun v q=>by cases(show Data.seq _ _=Data.cell v from q)⟩
  ·exact⟨_,hO,fun v q=>by cases(show Data.seq _ _=Data.cell v from q)⟩
  ·exact⟨o1,e1,fun v q=>by rw[d1] at q;cases q⟩
  ·exact⟨o2,e2,fun v q=>by rw[d2] at q;cases q⟩
 keep:=fun i h h' st kk=>by
  obtain⟨hz,hI,⟨u,v,hO⟩,h1,h2⟩:=st
  exact⟨kk z (by simp) _ hz,kk TI (by simp) _ hI,⟨u,v,kk TO (by simp) _ hO⟩,h1.at fun o e=>kk i1 (by simp) o e,h2.at fun o e=>kk i2 (by simp) o e⟩
 item:=by
  intro X hP hw hK hc i pins s σ H E I hf st hg
  subst hP hw hK
  obtain⟨hz,hI,⟨u,v,hO⟩,h1,h2⟩:=st
  obtain⟨xs,ys,x,y,ha,hb,hx,hy⟩:=hg
  obtain⟨its1,n1,r1,ho1,_⟩:=I.lst ha
  obtain⟨its2,n2,r2,ho2,_⟩:=I.lst hb
  obtain⟨u1,g1,ru1⟩:=r1.get hx
  obtain⟨u2,g2,ru2⟩:=r2.get hy
  have L1:s.heap.IsList a its1.toArray:=⟨_,ho1,rfl,n1,rfl⟩
  have L2':s.heap.IsList b its2.toArray:=⟨_,ho2,rfl,n2,rfl⟩
  have off:∀{l:Addr} {zs:List V},H l=some (.lst zs)→l∉[z,TI,TO,i1,i2]:=fun {l zs} e m=>by
   have:=(hf l m).1
   rw[this] at e
   cases e
  have oa:=off ha
  have ob:=off hb
  have nd':=nd
  simp only[Jh,UO,Jb,or_false,not_or,JZ,and_true,not_false_eq_true] at nd' oa ob
  obtain⟨⟨nzI,nzO,nz1,nz2⟩,⟨nIO,nI1,nI2⟩,⟨nO1,nO2⟩,n12⟩:=nd'
  have D:ZipApart z TI TO i1 i2 a b:=⟨Ne.symm nzI,Ne.symm nzO,Ne.symm nz1,Ne.symm nz2,nIO,nI1,nI2,nO1,nO2,n12,oa.1,oa.2.2.1,oa.2.2.2.1,oa.2.2.2.2,ob.1,ob.2.2.1,ob.2.2.2.1,ob.2.2.2.2⟩
  refine wpAny_pyNext_zip_item D hz hI hO h1 h2 L1 L2' (x:=u1) (y:=u2) (by simpa using g1) (by simpa using g2) fun h' a1 a2 a3 a4 a5 a6 a7=>?_
  refine⟨.ref s.heap.objs.size,rfl,wpAny_letOwnedTupleGo_zip a1 fun h2' z2 s2=>?_⟩
  have s2':Heap.SameBut z h' h2':=s2
  have zl:z<s.heap.objs.size:=Heap.lt_size hz
  have kk:∀b o,b∉[z,TI,TO,i1,i2]→s.heap.get? b=some o→h2'.get? b=some o:=fun b o hb eo=>by
   simp only[UO,Jb,or_false,not_or] at hb
   exact(s2'.2 b hb.1).trans (a7 b o hb.1 hb.2.2.1 hb.2.2.2.1 hb.2.2.2.2 eo)
  have I1:Inv X pins σ H {s with heap:=h2',toks:=s.toks}:=I.turnedL (ch:=[z,TI,TO,i1,i2]) kk hf
  have fr:H s.heap.objs.size=none:=I.hok.fresh (Uw _)
  have ft:FpOk X pins H s.heap.objs.size:=I.fpOk (Uw _) fr
  have t2:h2'.get? s.heap.objs.size=some {cls:=.type "tuple",data:=.seq #[u1,u2]}:=(s2'.2 _ (Je zl)).trans a5
  have I2:Inv X pins σ (upd H s.heap.objs.size (.tup [x,y])) {s with heap:=h2',toks:=s.toks}:=
   I1.adopt ft I.sz ⟨by show 2≤sizeLine;decide,[u1,u2], .cons ru1 (.cons ru2 .nil),_,t2,rfl,_,rfl⟩
  have hI2:IsPair h2' TI (.ref i1) (.ref i2):=(s2'.2 _ (Ne.symm nzI)).trans (a7 TI _ (Ne.symm nzI) nIO nI1 nI2 hI)
  refine⟨.ref s.heap.objs.size,_,I2,rfl,⟨s.heap.objs.size,x,y,fr,rfl,rfl,fun ws e=>by rw[ha] at e;cases e;exact hx,fun ws e=>by rw[hb] at e;cases e;exact hy⟩,
   ⟨z2,hI2,⟨_,_,(s2'.2 _ (Ne.symm nzO)).trans a2⟩,a3.extBut s2'.extBut (Ne.symm nz1),a4.extBut s2'.extBut (Ne.symm nz2)⟩,fun b hb=>?_⟩
  have hbl:b<s.heap.objs.size:=by
   simp only[UO,Jb,or_false] at hb
   rcases hb with rfl|rfl|rfl|rfl|rfl
   ·exact zl
   ·exact Heap.lt_size hI
   ·exact Heap.lt_size hO
   ·obtain⟨o,e,_⟩:=h1;exact Heap.lt_size e
   ·obtain⟨o,e,_⟩:=h2;exact Heap.lt_size e
  rw[kak (UV hbl)]
  exact(hf b hb).1
 done:=by
  intro X hP hw hK hc i pins s σ H E I hf st hg
  subst hP hw hK
  obtain⟨hz,hI,⟨u,v,hO⟩,h1,h2⟩:=st
  obtain⟨xs,ys,ha,hb,hx⟩:=hg
  obtain⟨its1,n1,r1,ho1,_⟩:=I.lst ha
  obtain⟨its2,n2,r2,ho2,_⟩:=I.lst hb
  have L1:s.heap.IsList a its1.toArray:=⟨_,ho1,rfl,n1,rfl⟩
  have L2':s.heap.IsList b its2.toArray:=⟨_,ho2,rfl,n2,rfl⟩
  have hlen1:=r1.length
  have hlen2:=r2.length
  have off:∀{l:Addr} {zs:List V},H l=some (.lst zs)→l∉[z,TI,TO,i1,i2]:=fun {l zs} e m=>by
   have:=(hf l m).1
   rw[this] at e
   cases e
  have oa:=off ha
  have ob:=off hb
  have nd':=nd
  simp only[Jh,UO,Jb,or_false,not_or,JZ,and_true,not_false_eq_true] at nd' oa ob
  obtain⟨⟨nzI,nzO,nz1,nz2⟩,⟨nIO,nI1,nI2⟩,⟨nO1,nO2⟩,n12⟩:=nd'
  have D:ZipApart z TI TO i1 i2 a b:=⟨Ne.symm nzI,Ne.symm nzO,Ne.symm nz1,Ne.symm nz2,nIO,nI1,nI2,nO1,nO2,n12,oa.1,oa.2.2.1,oa.2.2.2.1,oa.2.2.2.2,ob.1,ob.2.2.1,ob.2.2.2.1,ob.2.2.2.2⟩
  refine wpAny_pyNext_zip_end (I.ok.hd hc) D hz hI hO h1 h2 L1 L2' ?_ fun h' hk=>⟨rfl,?_⟩
  ·rcases hx with hx|hx
   ·exact .inl (by simp;omega)
   ·exact .inr (by simp;omega)
  ·refine I.turnedL (t':=s.toks) (ch:=[z,TI,TO,i1,i2]) (fun b o hb e=>?_) hf
   simp only[UO,Jb,or_false,not_or] at hb
   exact hk b o hb.1 hb.2.2.1 hb.2.2.2.1 hb.2.2.2.2 e
 self:=fun _ _ _ _ _ st h=>wpAny_pyIter_zip st.1 h
theorem kgo(n:Nat):([n+4,n+2,n+3,n,n+1]:List Nat).Nodup:=by
 simp only[Jh,UO,Jb,or_false,not_or,JZ,and_true,not_false_eq_true]
 omega
theorem kgp{n x:Nat}(h:x∈([n+4,n+2,n+3,n,n+1]:List Nat)):n≤x:=by
 simp only[UO,Jb,or_false] at h
 omega
section
variable {X:Cx}
noncomputable def iZip(ta:TA):TI:=fun σ H R=>ta σ H fun vs H1=>∃a b xs ys,vs=[.ref a, .ref b]∧H1 a=some (.lst xs)∧H1 b=some (.lst ys)∧R (Itz a b) H1
theorem kku:bootBuiltins "zip"=some (.type "zip"):=by decide +kernel
theorem keO{es:List Expr}{k:Nat}{tpos:Pos}{e1 e2:Expr}{ta:TA}{p pos:Pos}(hg:Gl X "zip")(hm:X.mg "zip"=none)(ha:PA X [e1,e2] ta)(he:starEach [e1,e2] X.env=(false,eval e1 X.env)::starEach [e2] X.env:=by rfl)
  (hpl:(backTo pos (starEach [e2] X.env)).any (·.1)=false:=by rfl):PI X (.Tuple es k tpos) (.Call (.Name "zip" p) [e1,e2] [] pos) (iZip ta):=by
 intro pins s σ H R I h
 refine Call_ (kcs I hg hm kku (PyProof.Rows.callWith_type1 (thn (ha pos pins s σ H _ I h) fun us s1 ⟨vs,H1,I1,r1,q1⟩=>?_) he hpl))
 obtain⟨a,b,xs,ys,rfl,qa,qb,q⟩:=q1
 cases r1 with
 | cons ra rr=>
  cases rr with
  |cons rb rr=>
   cases rr
   cases ra
   cases rb
   obtain⟨its1,n1,_,ho1,_⟩:=I1.lst qa
   obtain⟨its2,n2,_,ho2,_⟩:=I1.lst qb
   refine call_zip_2 (xs:=its1.toArray) (ys:=its2.toArray) ⟨_,ho1,rfl,n1,rfl⟩ ⟨_,ho2,rfl,n2,rfl⟩ fun h' b1 b2 b3 b4 b5 _ hk=>wpAny_pyIter_zip b1 ?_
   have I2:Inv X pins σ H1 {s1 with heap:=h'}:=I1.kept (t':=s1.toks) hk
   refine⟨s1.heap.objs.size+4,[s1.heap.objs.size+4,s1.heap.objs.size+2,s1.heap.objs.size+3,s1.heap.objs.size,s1.heap.objs.size+1],_,_,H1,rfl,I2,kgv a b _ _ _ _ _ (kgo _),⟨b1,b2,⟨_,_,b3⟩,b4,b5⟩,fun x hx=>?_,q⟩
   have hle:s1.heap.objs.size≤x:=kgp hx
   exact I1.fpOk hle (I1.hok.fresh hle)
end
theorem kiH{a b:Addr}{xs ys:List V}{g:TG}{tb:TS}{D:Ends}{σ:St}{H:Hp}(Pv:Nat→St→Hp→Prop)(h0:Pv 0 σ H)(hl:∀i σ H,i≤min xs.length ys.length→Pv i σ H→H a=some (.lst xs)∧H b=some (.lst ys))
  (hs:∀i x y t σ H,xs[i]?=some x→ys[i]?=some y→Pv i σ H→H t=none→g (.ref t) σ (upd H t (.tup [x,y])) fun σ2 H2=>tb {D with nx:=Pv (i+1),ct:=Pv (i+1),bk:=D.nx} σ2 H2) (hd:∀σ H,Pv (min xs.length ys.length) σ H→D.nx σ H):
  ∃W:Nat→Nat→St→Hp→Prop,(∃m,W 0 m σ H)∧∀i m σ H,W i m σ H→
   ((Itz a b).stop i H∧D.nx σ H)∨((Itz a b).go i H∧∃N:St→Hp→Prop,(∀σ' H',N σ' H'→∃m',m'<m∧W (i+1) m' σ' H')∧∀x H',(Itz a b).yld i H x H'→g x σ H' fun σ2 H2=>tb {D with nx:=N,ct:=N,bk:=D.nx} σ2 H2):=by
 refine⟨fun i m σ H=>m=min xs.length ys.length-i∧i≤min xs.length ys.length∧Pv i σ H,⟨min xs.length ys.length,by simp,U1 _,h0⟩,?_⟩
 rintro i m σ H ⟨rfl,hi,p⟩
 obtain⟨q1,q2⟩:=hl i σ H hi p
 by_cases hlt:i<min xs.length ys.length
 ·refine .inr ⟨⟨xs,ys,xs[i]'(by omega),ys[i]'(by omega),q1,q2,by simp[show i<xs.length by omega],by simp[show i<ys.length by omega]⟩,Pv (i+1),fun σ' H' p'=>⟨min xs.length ys.length-(i+1),by omega,rfl,hlt,p'⟩,fun x H' y=>?_⟩
  obtain⟨t,x,y,hn,rfl,rfl,h1,h2⟩:=y
  exact hs i x y t σ _ (h1 _ q1) (h2 _ q2) p hn
 ·have e:i=min xs.length ys.length:=by omega
  refine .inl ⟨⟨xs,ys,q1,q2,by omega⟩,?_⟩
  rw[e] at p
  exact hd σ H p
theorem ke2{a b:Addr}{xs ys:List V}{g:TG}{te:TE}{σ:St}{H:Hp}{R:List V→Hp→Addr→Prop}(Pv:Nat→St→List V→Hp→Prop)(h0:Pv 0 σ [] H)(hz:min xs.length ys.length≤sizeLine)(hl:∀i σ zs H,i≤min xs.length ys.length→Pv i σ zs H→H a=some (.lst xs)∧H b=some (.lst ys)∧zs.length=i)
  (hs:∀i x y t σ zs H,xs[i]?=some x→ys[i]?=some y→Pv i σ zs H→H t=none→g (.ref t) σ (upd H t (.tup [x,y])) fun σ2 H2=>te σ2 H2 fun z H3=>Pv (i+1) σ2 (zs++[z]) H3) (hd:∀σ zs H,Pv (min xs.length ys.length) σ zs H→∀D,H D=none→R zs H D):
  ∃ W:Nat→Nat→St→List V→Hp→Prop,(∃m,W 0 m σ [] H)∧∀i m σ' zs H',W i m σ' zs H'→
   ((Itz a b).stop i H'∧∀D,H' D=none→R zs H' D)∨((Itz a b).go i H'∧zs.length<sizeLine∧∃N:St→V→Hp→Prop,(∀σ2 y H4,N σ2 y H4→∃m',m'<m∧W (i+1) m' σ2 (zs++[y]) H4)∧
    ∀x H2,(Itz a b).yld i H' x H2→g x σ' H2 fun σ2 H3=>te σ2 H3 (N σ2)):=by
 refine⟨fun i m σ zs H=>m=min xs.length ys.length-i∧i≤min xs.length ys.length∧Pv i σ zs H,⟨min xs.length ys.length,by simp,U1 _,h0⟩,?_⟩
 rintro i m σ zs H ⟨rfl,hi,p⟩
 obtain⟨q1,q2,el⟩:=hl i σ zs H hi p
 by_cases hlt:i<min xs.length ys.length
 ·refine .inr ⟨⟨xs,ys,xs[i]'(by omega),ys[i]'(by omega),q1,q2,by simp[show i<xs.length by omega],by simp[show i<ys.length by omega]⟩,by omega,fun σ2 y H3=>Pv (i+1) σ2 (zs++[y]) H3,fun σ' y H' p'=>⟨min xs.length ys.length-(i+1),by omega,rfl,hlt,p'⟩,fun x H' yl=>?_⟩
  obtain⟨t,x,y,hn,rfl,rfl,h1,h2⟩:=yl
  exact hs i x y t σ zs _ (h1 _ q1) (h2 _ q2) p hn
 ·have e:i=min xs.length ys.length:=by omega
  refine .inl ⟨⟨xs,ys,q1,q2,by omega⟩,?_⟩
  rw[e] at p
  exact hd σ zs H p
end L2
namespace L2
open PySem PySem.Spec PyProof.Rows
section
variable {g:TG} {tt:TT} {te:TE} {σ:St} {H:Hp} {R:List V→Hp→Addr→Prop}
theorem kg4{J:It}{n:Nat}(Pv:Nat→St→List V→Hp→Prop)(h0:Pv 0 σ [] H)(hz:n≤sizeLine)(hl:∀i σ ys H,i≤n→Pv i σ ys H→ys.length≤i)(hgo:∀i σ ys H,i<n→Pv i σ ys H→J.go i H)(hst:∀σ ys H,Pv n σ ys H→J.stop n H)
  (hs:∀i σ ys H x H',i<n→Pv i σ ys H→J.yld i H x H'→g x σ H' fun σ2 H2=>tt σ2 H2 fun b H3=>if b=true then te σ2 H3 (fun y H4=>Pv (i+1) σ2 (ys++[y]) H4) else Pv (i+1) σ2 ys H3) (hd:∀σ ys H,Pv n σ ys H→∀D,H D=none→R ys H D):
  ∃ W:Nat→Nat→St→List V→Hp→Prop,(∃m,W 0 m σ [] H)∧∀i m σ' ys H',W i m σ' ys H'→
   (J.stop i H'∧∀D,H' D=none→R ys H' D)∨(J.go i H'∧ys.length<sizeLine∧∃(N:St→V→Hp→Prop) (N0:St→Hp→Prop),(∀σ2 y H4,N σ2 y H4→∃m',m'<m∧W (i+1) m' σ2 (ys++[y]) H4)∧(∀σ2 H4,N0 σ2 H4→∃m',m'<m∧W (i+1) m' σ2 ys H4)∧
    ∀x H2,J.yld i H' x H2→g x σ' H2 fun σ2 H3=>tt σ2 H3 fun b H4=>if b=true then te σ2 H4 (N σ2) else N0 σ2 H4):=by
 refine⟨fun i m σ ys H=>m=n-i∧i≤n∧Pv i σ ys H,⟨n,by simp,U1 _,h0⟩,?_⟩
 rintro i m σ ys H ⟨rfl,hi,p⟩
 have el:=hl i σ ys H hi p
 by_cases hlt:i<n
 ·refine .inr ⟨hgo i σ ys H hlt p,by omega,fun σ2 y H3=>Pv (i+1) σ2 (ys++[y]) H3,fun σ2 H3=>Pv (i+1) σ2 ys H3,fun σ' y H' p'=>⟨n-(i+1),by omega,rfl,hlt,p'⟩,fun σ' H' p'=>⟨n-(i+1),by omega,rfl,hlt,p'⟩,fun x H' yl=>?_⟩
  exact hs i σ ys H x H' hlt p yl
 ·have e:i=n:=by omega
  subst e
  exact .inl ⟨hst σ ys H p,hd σ ys H p⟩
theorem ket{K:Uv}{a:Addr}{xs:List V}(Pv:Nat→St→List V→Hp→Prop)(h0:Pv 0 σ [] H)(hz:xs.length≤sizeLine)(hl:∀i σ ys H,i≤xs.length→Pv i σ ys H→SqL K H a xs∧ys.length≤i)
  (hs:∀i x σ ys H,xs[i]?=some x→Pv i σ ys H→g x σ H fun σ2 H2=>tt σ2 H2 fun b H3=>if b=true then te σ2 H3 (fun y H4=>Pv (i+1) σ2 (ys++[y]) H4) else Pv (i+1) σ2 ys H3) (hd:∀σ ys H,Pv xs.length σ ys H→∀D,H D=none→R ys H D):
  ∃ W:Nat→Nat→St→List V→Hp→Prop,(∃m,W 0 m σ [] H)∧∀i m σ' ys H',W i m σ' ys H'→
   ((Itl K a).stop i H'∧∀D,H' D=none→R ys H' D)∨((Itl K a).go i H'∧ys.length<sizeLine∧∃(N:St→V→Hp→Prop) (N0:St→Hp→Prop),(∀σ2 y H4,N σ2 y H4→∃m',m'<m∧W (i+1) m' σ2 (ys++[y]) H4)∧(∀σ2 H4,N0 σ2 H4→∃m',m'<m∧W (i+1) m' σ2 ys H4)∧
    ∀x H2,(Itl K a).yld i H' x H2→g x σ' H2 fun σ2 H3=>tt σ2 H3 fun b H4=>if b=true then te σ2 H4 (N σ2) else N0 σ2 H4):=
 kg4 Pv h0 hz (fun i σ ys H hi p=>(hl i σ ys H hi p).2) (fun i σ ys H hi p=>⟨xs,xs[i],(hl i σ ys H (UH hi) p).1,by simp[hi]⟩) (fun σ ys H p=>⟨xs,(hl _ σ ys H (Uw _) p).1,Uw _⟩)
  (fun i σ ys H x H' hi p yl=>by
   obtain⟨e,q⟩:=yl
   subst e
   exact hs i x σ ys _ (q xs (hl i σ ys _ (UH hi) p).1) p) hd
theorem khs{a:Addr}{xs:List V}(Pv:Nat→St→List V→Hp→Prop)(h0:Pv 0 σ [] H)(hz:xs.length≤sizeLine)(hl:∀i σ ys H,i≤xs.length→Pv i σ ys H→H a=some (.lst xs)∧ys.length≤i)
  (hs:∀i y t σ ys H,xs[i]?=some y→Pv i σ ys H→H t=none→g (.ref t) σ (upd H t (.tup [.int (i:Nat),y])) fun σ2 H2=>tt σ2 H2 fun b H3=>if b=true then te σ2 H3 (fun y H4=>Pv (i+1) σ2 (ys++[y]) H4) else Pv (i+1) σ2 ys H3) (hd:∀σ ys H,Pv xs.length σ ys H→∀D,H D=none→R ys H D):
  ∃ W:Nat→Nat→St→List V→Hp→Prop,(∃m,W 0 m σ [] H)∧∀i m σ' ys H',W i m σ' ys H'→
   ((Ite a).stop i H'∧∀D,H' D=none→R ys H' D)∨((Ite a).go i H'∧ys.length<sizeLine∧∃(N:St→V→Hp→Prop) (N0:St→Hp→Prop),(∀σ2 y H4,N σ2 y H4→∃m',m'<m∧W (i+1) m' σ2 (ys++[y]) H4)∧(∀σ2 H4,N0 σ2 H4→∃m',m'<m∧W (i+1) m' σ2 ys H4)∧
    ∀x H2,(Ite a).yld i H' x H2→g x σ' H2 fun σ2 H3=>tt σ2 H3 fun b H4=>if b=true then te σ2 H4 (N σ2) else N0 σ2 H4):=
 kg4 Pv h0 hz (fun i σ ys H hi p=>(hl i σ ys H hi p).2) (fun i σ ys H hi p=>⟨xs,xs[i],(hl i σ ys H (UH hi) p).1,by simp[hi]⟩) (fun σ ys H p=>⟨xs,(hl _ σ ys H (Uw _) p).1,Uw _⟩)
  (fun i σ ys H x H' hi p yl=>by
   obtain⟨t,y,hn,rfl,rfl,hy⟩:=yl
   exact hs i y t σ ys _ (hy xs (hl i σ ys _ (UH hi) p).1) p hn) hd
end
section
variable {X:Cx}
noncomputable def isI(k:Int):Value→Bool
 | .int a _=>a==k
 |_=>false
theorem kfC:∀{ns:List Int} {us:List Value},Vals (ns.map V.int) us→∀(j:Nat) (n:Int),ns[j]?=some n→∃t,us[j]?=some (.int n t)
 |[],_,_,j,n,e=>by simp at e
 | m::ns,u::us, .cons r t,j,n,e=>by
  cases j with
  |zero=>
   have e':m=n:=by simpa using e
   subst e'
   obtain⟨t,rfl⟩:=r
   exact⟨t,rfl⟩
  |succ j=>
   obtain⟨q,h⟩:=kfC t j n (by simpa using e)
   exact⟨q,by simpa using h⟩
end
end L2
namespace L2
open PySem PySem.Spec PyProof.Rows
structure BaseT (K:Uv) (C:Addr) (m:Str) (f:Addr):Prop where
 rd:PySem.W.readsIn K C (.type "type")=true
 ga:JW K (.ref C) "__getattribute__"=some (some (.builtin "type.__getattribute__"))
 fc:PySem.W.findCls K (.ref C) (.type "type") m=some (.val (.ref f))
section
variable {X:Cx} {CX:CXT} {k:Nat} {f C:Addr} {fd:FuncData} {ps:List Str} {sp:Sp} {dvs:List V} {ds:List Value} {E:XK} {x m:Str} {p pos apos:Pos} {e o:Expr} {es:List Expr} {ta:TE} {t:TA}
theorem kdQ{pl:Sem Bool}(B:BaseT X.K C m f)(F:FnOk X.prog X.w X.K X.mg X.base CX k f fd ps sp)(hr:Room k X.A)(hg:Gl X x)(hm:X.mg x=some (.ref C))(hk:UJ X.K (.ref f)=true)(hb:Binds X.K fd ps ds)(hd:Vals dvs ds)(hx:kc0 CX X E)
  (ha:PA X (e::es) t) (hdb:(x==("__debug__" :Str))=false:=by decide)
  (hst:starEach (e::es) X.env=(false,eval e X.env)::starEach es X.env:=by rfl) (hpl:(backTo pos (starEach es X.env)).any (·.1)=false:=by rfl)
  (ht:eval (.Call (.Attribute (.Name x p) m apos) (e::es) [] pos) X.env=(do
   let ov ←eval (.Name x p) X.env
   standAt apos.atName
   let(f,first) ←holding [ov] (getMethod ov m pl)
   callWith pos f first (backTo pos (starEach (e::es) X.env)) (backToKw pos (keywordEach [] X.env))):=by rfl):
  PE X (.Call (.Attribute (.Name x p) m apos) (e::es) [] pos) (tCall sp dvs E t):=by
 intro pins s σ H Q I h
 refine NR (pl:=pl) (thn (kc8 (v:=.ref C) hg hm rfl hdb pins s σ H (fun y H1=>y=.ref C∧H1=H) I ⟨rfl,rfl⟩) fun u s1 ⟨y,H1,I1,ry,ey,eH⟩=>?_) ht
 subst ey eH
 obtain rfl:u=Value.ref C:=ry
 refine PySem.W.method_cls I1.kIn B.ga (PySem.W.cls_value I1.kIn B.rd B.fc rfl ?_)
 have I2:=I1.tok (s1.toks+1)
 refine Nh (h₀:=X.base) I.ok.mod.kin hk (thn (ha pos pins _ σ H1 _ I2 h) fun us s2 ⟨vs,H2,I3,r,q2⟩=>⟨I3.kIn,?_⟩) hst hpl
 exact kgG F hr hb hd hx I3 r q2
end
theorem kgt:bootBuiltins "tuple"=some (.type "tuple"):=by decide +kernel
theorem kgl{n j:Nat}(h:j<n):ixN n (j:Int)=some j:=by
 unfold ixN
 rw[if_pos (by omega),if_pos (by omega)]
 simp
section
variable {X:Cx}
end
section
variable {X:Cx}
noncomputable def klx(ta:TA):TI:=fun σ H R=>ta σ H fun vs H1=>∃i j k:Int,vs=[.int i, .int j, .int k]∧(-(2 ^ 31)≤i∧i<2 ^ 31)∧(-(2 ^ 31)≤j∧j<2 ^ 31)∧0<k∧k<2 ^ 30∧R (Its i k (Builtin.Range.rangeSize i j k).toNat) H1
theorem khe{tg a b c:Expr}{ta:TA}{p pos:Pos}(hg:Gl X "range")(hm:X.mg "range"=none)(ha:PA X [a,b,c] ta)(he:starEach [a,b,c] X.env=(false,eval a X.env)::starEach [b,c] X.env:=by rfl)
  (hpl:(backTo pos (starEach [b,c] X.env)).any (·.1)=false:=by rfl):PI X tg (.Call (.Name "range" p) [a,b,c] [] pos) (klx ta):=by
 intro pins s σ H R I h
 refine Call_ (kcs I hg hm boot_range (PyProof.Rows.callWith_type1 (thn (ha pos pins s σ H _ I h) fun us s1 ⟨vs,H1,I1,r1,q1⟩=>?_) he hpl))
 obtain⟨i,j,k,e,hi,hj,hk,hk2,q⟩:=q1
 subst e
 cases r1 with
 | cons r rr=>
  cases rr with
  | cons r' rr=>
   cases rr with
   | cons r'' rr=>
    cases rr
    obtain⟨t,rfl⟩:=r
    obtain⟨t',rfl⟩:=r'
    obtain⟨t'',rfl⟩:=r''
    refine call_range_3 (by omega) ?_ (.inl (PyProof.noPylong_small (by omega)))
    refine wpAny_pyIter_range (IsRange.new ..) (kha hk hk2 hi hj) ?_
    have I2:Inv X pins σ H1 {s1 with heap:=s1.heap.push {cls:=.type "range",data:=.fields #[.int i t, .int j t', .int k t'']},toks:=s1.toks}:=I1.kept fun b o e=>Heap.get?_push_of_some _ e
    have hn:=kfi hk hi hj
    refine⟨(s1.heap.push {cls:=.type "range",data:=.fields #[.int i t, .int j t', .int k t'']}).objs.size,[(s1.heap.push {cls:=.type "range",data:=.fields #[.int i t, .int j t', .int k t'']}).objs.size],_,_,H1,rfl,
     I2.kept (t':=s1.toks) fun b o e=>Heap.get?_push_of_some _ e,khB _ i k (Builtin.Range.rangeSize i j k).toNat,?_,fun b hb=>?_,q⟩
    ·have e1:i+((0:Nat):Int)*k=i:=by simp
     have e2:(((Builtin.Range.rangeSize i j k).toNat:Nat):Int)-((0:Nat):Int)=Builtin.Range.rangeSize i j k:=by omega
     show IsRangeIter _ _ (i+((0:Nat):Int)*k) ((((Builtin.Range.rangeSize i j k).toNat:Nat):Int)-((0:Nat):Int)) k
     rw[e1,e2]
     exact Heap.get?_push_size _ rfl
    ·have e:b=(s1.heap.push {cls:=.type "range",data:=.fields #[.int i t, .int j t', .int k t'']}).objs.size:=by simpa using hb
     subst e
     exact I2.fpOk (Uw _) (I2.hok.fresh (Uw _))
end
section
variable {g:TG} {te:TE} {σ:St} {H:Hp} {R:List V→Hp→Addr→Prop}
theorem kiT{lo st:Int}{n:Nat}(Pv:Nat→St→List V→Hp→Prop)(h0:Pv 0 σ [] H)(hz:n≤sizeLine)(hl:∀i σ ys H,i≤n→Pv i σ ys H→ys.length=i)
  (hs:∀i σ ys H,i<n→Pv i σ ys H→g (.int (lo+i*st)) σ H fun σ2 H2=>te σ2 H2 fun y H3=>Pv (i+1) σ2 (ys++[y]) H3) (hd:∀σ ys H,Pv n σ ys H→∀D,H D=none→R ys H D):
  ∃ W:Nat→Nat→St→List V→Hp→Prop,(∃m,W 0 m σ [] H)∧∀i m σ' ys H',W i m σ' ys H'→
   ((Its lo st n).stop i H'∧∀D,H' D=none→R ys H' D)∨((Its lo st n).go i H'∧ys.length<sizeLine∧∃N:St→V→Hp→Prop,(∀σ2 y H4,N σ2 y H4→∃m',m'<m∧W (i+1) m' σ2 (ys++[y]) H4)∧
    ∀x H2,(Its lo st n).yld i H' x H2→g x σ' H2 fun σ2 H3=>te σ2 H3 (N σ2)):=by
 refine⟨fun i m σ ys H=>m=n-i∧i≤n∧Pv i σ ys H,⟨n,by simp,U1 _,h0⟩,?_⟩
 rintro i m σ ys H ⟨rfl,hi,p⟩
 have el:=hl i σ ys H hi p
 by_cases hlt:i<n
 ·refine .inr ⟨hlt,by omega,fun σ2 y H3=>Pv (i+1) σ2 (ys++[y]) H3,fun σ' y H' p'=>⟨n-(i+1),by omega,rfl,hlt,p'⟩,fun x H' yl=>?_⟩
  obtain⟨e,yl⟩:=yl
  subst e yl
  exact hs i σ ys _ hlt p
 ·have e:i=n:=by omega
  subst e
  exact .inl ⟨Uw _,hd σ ys H p⟩
end
theorem kf1{L m:Nat}(hm:0<m):(Builtin.Range.rangeSize 0 ((L:Int)-(m:Int)+1) (m:Int)).toNat=L/m:=by
 unfold Builtin.Range.rangeSize
 rw[if_pos (by omega)]
 by_cases h:m≤L
 ·rw[if_pos (by omega),show(L:Int)-(m:Int)+1-0-1=((L-m:Nat):Int) by omega,←Int.natCast_ediv,Nat.div_eq_sub_div hm h]
  generalize (L-m)/m=q
  omega
 ·rw[if_neg (by omega),Nat.div_eq_of_lt (by omega)]
  rfl
theorem b_str:bootBuiltins "str"=some (.type "str"):=by decide +kernel
end L2
namespace L2
open PySem PySem.Spec PyProof.Rows
inductive Src where
 |p (i:Nat)
 |k (j:Nat)
 |d (v:Value) (x:V)
noncomputable def Src.val(us ws:List Value):Src→Value
 | .p i=>us.getD i .none
 | .k j=>ws.getD j .none
 | .d v _=>v
noncomputable def Src.abs(vs zs:List V):Src→V
 | .p i=>vs.getD i .non
 | .k j=>zs.getD j .non
 | .d _ x=>x
noncomputable def Src.Ok:Src→Prop
 | .d v x=>RelV x v
 |_=>True
section
variable {X:Cx} {CX:CXT} {k:Nat} {f C:Addr} {fd:FuncData} {ps ks:List Str} {sp:Sp} {E:XK} {x:Str} {p pos:Pos} {kws:List Keyword} {tk:TA} {g:List Value→List Value→List Value} {gV:List V→List V→List V}
end
end L2
namespace L2
open PySem PySem.Spec PyProof.Rows
noncomputable def atK(kvs:List (Key×V))(k:Key):Option V:=(kvs.find? fun p=>decide (p.1=k)).map Prod.snd
theorem kgu:∀{kvs:List (Key×V)} {vs:List (Key×Value)},KV kvs vs→∀k,RelO (atK kvs k) (valueAt vs k)
 |_,_, .nil,_=>True.intro
 | p::ps,q::qs, .cons h t,k=>by
  obtain⟨h1,h2⟩:=h
  have ih:=kgu t k
  unfold atK valueAt at *
  by_cases e:p.1=k
  ·have e':q.1=k:=h1.symm.trans e
   simp only[J0,e,e',decide_true,Nr]
   exact h2
  ·have e':¬q.1=k:=fun z=>e (h1.trans z)
   simp only[J0,e,e',decide_false]
   exact ih
theorem kvAny:∀{kvs:List (Key×V)} {vs:List (Key×Value)},KV kvs vs→∀k:Key,atK kvs k=none→(vs.any fun p=>decide (p.1=k))=false
 |_,_, .nil,_,_=>rfl
 | p::ps,q::qs, .cons h t,k,hn=>by
  obtain⟨h1,h2⟩:=h
  unfold atK at hn
  by_cases e:p.1=k
  ·simp[J0,e] at hn
  ·have e':¬q.1=k:=fun z=>e (h1.trans z)
   rw[Ji,decide_eq_false e',Bool.false_or]
   refine kvAny t k ?_
   unfold atK
   simpa[J0,e] using hn
theorem kkl:∀{kvs:List (Key×V)} {vs:List (Key×Value)},KV kvs vs→∀{k:Key} {y:V} {u:Value},RelV y u→KV (kvs++[(k,y)]) (vs++[(k,u)])
 |_,_, .nil,_,_,_,r=>.cons ⟨rfl,r⟩ .nil
 |_,_, .cons h t,_,_,_,r=>.cons h (kkl t r)
theorem kvLen:∀{kvs:List (Key×V)} {vs:List (Key×Value)},KV kvs vs→kvs.length=vs.length
 |_,_, .nil=>rfl
 |_,_, .cons _ t=>by rw[Jg,Jg,kvLen t]
theorem kkk:∀{kvs:List (Key×V)} {vs:List (Key×Value)},KV kvs vs→Vals (kvs.map Prod.snd) (vs.map Prod.snd)
 |_,_, .nil=>.nil
 |_,_, .cons h t=>.cons h.2 (kkk t)
section
variable {X:Cx}
noncomputable def klb:TE:=fun _ H Q=>∀p,H p=none→Q (.ref p) (upd H p (.dK []))
theorem kjm{pos:Pos}:PE X (.Dict [] [] pos) klb:=fun pins s σ H Q I h=>
 have big:sysModules<s.heap.objs.size:=Nat.lt_trans (by decide) (show mainGlobals<s.heap.objs.size from(I.mod.glob.keeps I.bk).lt)
 wpAny_Dict_empty ⟨.ref s.heap.objs.size,_,I.laid (a:=s.heap.objs.size) (o:=.dK []) (t':=s.toks) (fun _ _ q=>Heap.get?_push_of_some _ q) (Uw _)
  (show ObjOk X.prog X.w _ _ _ (.dK []) from⟨U1 _,beq_eq_false_iff_ne.mpr (Ne.symm (UV big)),[], .nil,Heap.DictOf.new _⟩),rfl,h _ (I.hok.fresh (Uw _))⟩
noncomputable def rSetd:V→List V→Hp→VK→Prop:=fun x vs H Q=>∃(a:Addr) (kvs:List (Key×V)) (i:Int) (y:V),x=.ref a∧vs=[.int i,y]∧H a=some (.dK kvs)∧kvs.length<sizeLine∧(∀v,atK kvs (.inl i)=some v→Q v H)∧(atK kvs (.inl i)=none→Q y (upd H a (.dK (kvs++[(.inl i,y)]))))
theorem keX:MtM X "dict.setdefault" rSetd:=by
 intro pins s σ H x vs v us Q I rx rv h
 obtain⟨a,kvs,i,y,rfl,rfl,e,hz,h1,h2⟩:=h
 cases rx
 obtain⟨u1,u2,rfl,⟨t,rfl⟩,ru2⟩:=vals2 rv
 obtain⟨z,hd,ws,rel,dd⟩:=(show ObjOk X.prog X.w H s.heap a (.dK kvs) from I.hok a _ e)
 have key:(kcL X.prog X.w).is (Sum.inl i:Key) (.int i t)=true:=kgf _ _ i t
 refine call_meetsIn Mh dd.typeIs PySem.F.entry_dict_setdefault (PySem.F.args_dict_setdefault_3 _ _ _) (kt_meets_setdefault (kcL X.prog X.w) a key hd u2)
  ⟨ws,dd,by rw[←kvLen rel];exact z,fun v hv=>?_,fun hn h' dd' hs=>?_⟩
 ·have r:=kgu rel (Sum.inl i)
  rw[hv] at r
  cases ea:atK kvs (Sum.inl i) with
  |none=>rw[ea] at r;exact(show False from r).elim
  |some w'=>
   rw[ea] at r
   exact⟨w',H,I.tok _,r,h1 w' ea⟩
 ·have r:=kgu rel (Sum.inl i)
  rw[hn] at r
  have ea:atK kvs (Sum.inl i)=none:=by
   cases ea:atK kvs (Sum.inl i) with
   |none=>rfl
   |some w'=>rw[ea] at r;exact(show False from r).elim
  have est:stored ws (Sum.inl i:Key) u2=ws++[(Sum.inl i,u2)]:=by
   unfold stored
   rw[kvAny rel _ ea,if_neg UA]
  rw[est] at dd'
  have he:∃q,h'.get? a=some q:=let⟨q,_,_,hq,_⟩:=dd';⟨q,hq⟩
  refine⟨y,_,I.write (x:=a) (e:=a) (by rw[e];exact True.intro) (.inl rfl) (fun b q hb w'=>(hs.2 b hb).trans w') he ?_,ru2,h2 ea⟩
  exact(show ObjOk X.prog X.w _ h' a (.dK (kvs++[(.inl i,y)])) from⟨by rw[UW,JK];omega,hd,_,kkl rel ru2,dd'⟩)
noncomputable def khE(te:TE):TE:=fun σ H Q=>te σ H fun v H1=>∃(a:Addr) (kvs:List (Key×V)),v=.ref a∧H1 a=some (.dK kvs)∧∀l,H1 l=none→Q (.ref l) (upd H1 l (.lst (kvs.map Prod.snd)))
theorem kgb{e:Expr}{te:TE}{p1 pos1 apos cpos:Pos}(hc:X.calm=true)(h1:Gl X "list")(m1:X.mg "list"=none)(he:PE X e te)
  (hbase:attributeBase e "values" X.env (eval e X.env)=eval e X.env:=by rfl) (hline:(apos.endLine==cpos.line)=true:=by rfl)
  (s2:starEach [.Call (.Attribute e "values" apos) [] [] cpos] X.env=[(false,eval (.Call (.Attribute e "values" apos) [] [] cpos) X.env)]:=by rfl):PE X (.Call (.Name "list" p1) [.Call (.Attribute e "values" apos) [] [] cpos] [] pos1) (khE te):=by
 intro pins s σ H Q I h
 refine wpAny_Call_Name_kw (kcs I h1 m1 kbI ?_ (by decide) (by decide))
 refine PyProof.Rows.callWith_type1 ?_ s2 rfl
 rw[s2]
 refine Calls.spliced_cons (wpAny_Call_method0_late hbase hline (thn (he pins s σ H _ I h) fun u s3 ⟨v,H1,I1,r1,a,kvs,ev,ea,q⟩=>?_))
 subst ev
 cases r1
 obtain⟨t1,t2⟩:=kjY (T:="dict") (x:=.ref a) (v:=.ref a) I1 rfl (.inr (.inr (.inl ⟨rfl, .inl ⟨kvs,ea⟩⟩)))
 obtain⟨z,hd,ws,rel,dd⟩:=(show ObjOk X.prog X.w H1 s3.heap a (.dK kvs) from I1.hok a _ ea)
 obtain⟨ep,hat⟩:=dd.dictAt
 refine⟨"dict","dict.values",Mi,Mj,PySem.F.type_dict_values,t1,t2,Calls.callWith_builtin rfl (PySem.evalArgs_none ?_)⟩
 refine call_meetsIn Mj dd.typeIs PySem.F.entry_dict_values (PySem.F.args_dict_values_1 _) (meets_dict_values (kcL X.prog X.w) a hd) ⟨⟨ws,dd⟩,Calls.spliced_nil ?_⟩
 refine PySem.W.kdl_call (PySem.W.kdl_values (knd:=kcL X.prog X.w) (kvs:=ws) (ep:=ep)) (I1.ok.hd hc) ⟨⟨_,Heap.get?_push_size _ rfl,rfl,rfl⟩,hat.push _⟩ (by rw[←kvLen rel];exact z) fun h' tk acc' c' hk hS hacc=>?_
 have hv:acc'.toList=ws.map (·.2):=PySem.W.kdl_vals_eq acc'.toList (by rw[JJ];exact hacc.1) fun j v' ej=>hacc.2 j v' (by rw[←Array.getElem?_toList];exact ej)
 generalize ho:({cls:=.type "dict_values",data:=.fields #[.ref a]}:Obj)=ob at *
 have hsz:(s3.heap.push ob).objs.size=s3.heap.objs.size+1:=Heap.size_push ..
 have rv:Vals (kvs.map Prod.snd) acc'.toList:=by rw[hv];exact kkk rel
 have I2:Inv X pins σ (upd H1 (s3.heap.push ob).objs.size (.lst (kvs.map Prod.snd))) {s3 with heap:=h',toks:=tk}:=
  I1.laid (fun b o e=>hk b o (Heap.get?_push_of_some _ e)) (by rw[hsz];exact Jv _) (show ObjOk X.prog X.w _ h' _ (.lst (kvs.map Prod.snd)) from⟨by rw[Uu];exact z,acc'.toList,c',rv,by simpa using hS⟩)
 exact⟨.ref _,_,I2,rfl,q _ (I1.hok.fresh (by rw[hsz];exact Jv _))⟩
end
end L2
namespace L2
open PySem PySem.Spec PyProof.Rows
section
variable {X:Cx}
end
end L2
namespace Stb
open PySem PyProof.Rows
noncomputable def T(xs:Array Keyed)(i:Nat):Int:=match xs[i]? with
 |some p=>numOf p.2
 |none=>0
theorem T_at{xs ys:Array Keyed}{i j:Nat}(h:xs[i]?=ys[j]?):T xs i=T ys j:=by unfold T;rw[h]
noncomputable def Lx(xs:Array Keyed)(i j:Nat):Prop:=K xs i<K xs j∨(K xs i=K xs j∧T xs i<T xs j)
theorem Lx.trans{xs:Array Keyed}{i j k:Nat}(h:Lx xs i j)(h':Lx xs j k):Lx xs i k:=by unfold Lx at *;omega
theorem Lx.le{xs:Array Keyed}{i j:Nat}(h:Lx xs i j):K xs i≤K xs j:=by unfold Lx at *;omega
noncomputable def Up(xs:Array Keyed)(k:Nat):Prop:=∀i j,i<j→j<k→Lx xs i j
noncomputable def Dn(xs:Array Keyed)(k:Nat):Prop:=∀i j,i<j→j<k→Lx xs j i
noncomputable def Lat(a₀ xs:Array Keyed)(k:Nat):Prop:=∀i j,i<j→k≤j→j<a₀.size→T xs i<T xs j
theorem Lat.mono{a₀ xs:Array Keyed}{k k':Nat}(h:Lat a₀ xs k)(hk:k≤k'):Lat a₀ xs k':=fun i j h1 h2 h3=>h i j h1 (by omega) h3
theorem kg5{xs:Array Keyed}{src d:Nat}(hs:src<xs.size)(hd:d≤src)(k:Nat):
  ∃k',(K (bubble xs src d) k=K xs k'∧T (bubble xs src d) k=T xs k')∧k'=if k=src-d then src else if src-d<k∧k≤src then k-1 else k:=by
 refine⟨_,?_,rfl⟩
 have e:=getElem?_bubble hs d hd k
 have e':(bubble xs src d)[k]?=xs[if k=src-d then src else if src-d<k∧k≤src then k-1 else k]?:=by
  rw[e]
  split
  ·rfl
  ·split <;> rfl
 exact⟨K_congr e',T_at e'⟩
theorem kcf{xs:Array Keyed}{i j:Nat}(hj:j≤xs.size)(k:Nat):
  ∃k',(K (mirror xs i j ((j-i)/2)) k=K xs k'∧T (mirror xs i j ((j-i)/2)) k=T xs k')∧k'=if i≤k∧k<j then i+j-1-k else k:=by
 refine⟨_,?_,rfl⟩
 have e:=getElem?_mirror_all (i:=i) hj k
 have e':(mirror xs i j ((j-i)/2))[k]?=xs[if i≤k∧k<j then i+j-1-k else k]?:=by
  rw[e]
  split <;> rfl
 exact⟨K_congr e',T_at e'⟩
theorem kgh{a₀ xs:Array Keyed}{i j k:Nat}(hj:j≤xs.size)(hk:j≤k)(h:Lat a₀ xs k):Lat a₀ (mirror xs i j ((j-i)/2)) k:=by
 intro a b hab hkb hb
 obtain⟨a',⟨_,ea⟩,ha⟩:=kcf (i:=i) hj a
 obtain⟨b',⟨_,eb⟩,hb'⟩:=kcf (i:=i) hj b
 rw[ea,eb]
 rw[if_neg (by omega)] at hb'
 subst hb'
 refine h _ _ ?_ hkb hb
 rw[ha]
 split <;> omega
section
variable {prog:Program} {w:World} {A:Around} {E:Value→Shared→Prop} {s:Shared} {a₀:Array Keyed}
theorem asc{st:SortSt}{a nrem:Nat}{Q:AscSt→SortSt→Prop}(h0:IntKeys a₀)(hn:nrem≤a₀.size)(ha:1≤a)(han:a≤nrem)(hB:SBase a₀ st)(hs:Up (arrOf st) a)(hl:Lat a₀ (arrOf st) a)
  (h:∀n,a≤n→n≤nrem→Up (arrOf st) n→(n=nrem∨K (arrOf st) n<K (arrOf st) (n-1))→Q (none,n) st):wpS (model prog w) A E s (ascLoop a nrem) Q st:=by
 unfold ascLoop
 refine wpS_forRange (I:=fun x c st'=>st'=st∧c=(none,x)∧Up (arrOf st) x) ?turn ?over ⟨rfl,rfl,hs⟩
 case over=>
  rintro c st' ⟨rfl,rfl,u⟩
  rw[show max a nrem=nrem by omega] at u⊢
  exact h nrem han (Uw _) u (.inl rfl)
 case turn=>
  rintro x c st' hax hxn ⟨rfl,rfl,u⟩
  dsimp only
  refine wpS_bind (wpS_ltK hB h0 (by omega) (by omega) ?_)
  by_cases c1:K (arrOf st') x<K (arrOf st') (x-1)
  ·simp only[c1,decide_true,if_true]
   exact wpS_pure (h x hax (by omega) u (.inr c1))
  ·simp only[c1,decide_false,Jl,if_false]
   refine wpS_pure ⟨rfl,rfl,fun i j hij hj=>?_⟩
   by_cases hjx:j<x
   ·exact u i j hij hjx
   ·have e:j=x:=by omega
    subst e
    have t1:=hl (j-1) j (by omega) hax (by omega)
    have l1:Lx (arrOf st') (j-1) j:=by unfold Lx;omega
    by_cases e2:i=j-1
    ·rw[e2];exact l1
    ·exact(u i (j-1) (by omega) (by omega)).trans l1
theorem tail{st:SortSt}{n nrem:Nat}{Q:Option Nat→SortSt→Prop}(h0:IntKeys a₀)(hn:nrem≤a₀.size)(h1:1≤n)(hnn:n≤nrem)(hB:SBase a₀ st)(hs:Dn (arrOf st) n)(hl:Lat a₀ (arrOf st) n)
  (h:∀m st',SBase a₀ st'→1≤m→m≤nrem→Up (arrOf st') m→Lat a₀ (arrOf st') m→Q (some m) st'):wpS (model prog w) A E s (tail3 n nrem) Q st:=by
 unfold tail3
 have sz:n≤(arrOf st).size:=by rw[hB.size];omega
 refine wpS_bind (wpS_reverse ?_)
 have hB2:SBase a₀ (setArr st (mirror (arrOf st) 0 n ((n-0)/2))):=hB.setArr (mirror_perm _ _ _ _)
 have hl2:Lat a₀ (mirror (arrOf st) 0 n ((n-0)/2)) n:=kgh sz (Uw _) hl
 refine wpS_bind (asc h0 hn h1 hnn hB2 ?_ hl2 fun m hm1 hm2 hu _=>wpS_pure (h m _ hB2 (by omega) hm2 hu (hl2.mono hm1)))
 intro i j hij hj
 show Lx (mirror (arrOf st) 0 n ((n-0)/2)) i j
 obtain⟨i',⟨k1,t1⟩,e1⟩:=kcf (i:=0) sz i
 obtain⟨j',⟨k2,t2⟩,e2⟩:=kcf (i:=0) sz j
 rw[if_pos (by omega)] at e1 e2
 have:=hs j' i' (by omega) (by omega)
 unfold Lx at this⊢
 rw[k1,k2,t1,t2]
 exact this
structure Fl (a₀ xs:Array Keyed) (x neq:Nat):Prop where
 few:neq+1≤x
 hd:Dn xs (x-(neq+1))
 cr:∀i j,i<x-(neq+1)→x-(neq+1)≤j→j<x→K xs j<K xs i
 tl:∀i j,x-(neq+1)≤i→i<j→j<x→K xs i=K xs j∧T xs i<T xs j
 lat:Lat a₀ xs x
theorem Fl.turned{xs:Array Keyed}{x neq:Nat}(h:Fl a₀ xs x neq)(hx:x≤xs.size):Dn (mirror xs (x-(neq+1)) x ((x-(x-(neq+1)))/2)) x∧(∀i,i<x→K xs (x-1)≤K (mirror xs (x-(neq+1)) x ((x-(x-(neq+1)))/2)) i)∧Lat a₀ (mirror xs (x-(neq+1)) x ((x-(x-(neq+1)))/2)) x∧
  ∀k,x≤k→K (mirror xs (x-(neq+1)) x ((x-(x-(neq+1)))/2)) k=K xs k:=by
 have hf:=h.few
 refine⟨fun i j hij hj=>?_,fun i hi=>?_,kgh hx (Uw _) h.lat,fun k hk=>?_⟩
 ·obtain⟨i',⟨k1,t1⟩,e1⟩:=kcf (i:=x-(neq+1)) hx i
  obtain⟨j',⟨k2,t2⟩,e2⟩:=kcf (i:=x-(neq+1)) hx j
  unfold Lx
  rw[k1,k2,t1,t2]
  by_cases c1:j<x-(neq+1)
  ·rw[if_neg (by omega)] at e1 e2
   subst e1 e2
   exact h.hd i' j' hij c1
  ·rw[if_pos (by omega)] at e2
   by_cases c2:i<x-(neq+1)
   ·rw[if_neg (by omega)] at e1
    subst e1
    exact .inl (h.cr i' j' c2 (by omega) (by omega))
   ·rw[if_pos (by omega)] at e1
    have:=h.tl j' i' (by omega) (by omega) (by omega)
    omega
 ·obtain⟨i',⟨k1,_⟩,e1⟩:=kcf (i:=x-(neq+1)) hx i
  rw[k1]
  by_cases c2:i<x-(neq+1)
  ·rw[if_neg (by omega)] at e1
   subst e1
   have:=h.cr i' (x-1) c2 (by omega) (by omega)
   omega
  ·rw[if_pos (by omega)] at e1
   by_cases c3:i'=x-1
   ·rw[c3];exact Int.le_refl _
   ·have:=h.tl i' (x-1) (by omega) (by omega) (by omega)
    omega
 ·obtain⟨k',⟨k1,_⟩,e1⟩:=kcf (i:=x-(neq+1)) hx k
  rw[if_neg (by omega)] at e1
  rw[k1,e1]
theorem Fl.plain{xs:Array Keyed}{x:Nat}(h:Fl a₀ xs x 0):Dn xs x∧(∀i,i<x→K xs (x-1)≤K xs i):=by
 have hf:=h.few
 refine⟨fun i j hij hj=>?_,fun i hi=>?_⟩
 ·by_cases c1:j<x-(0+1)
  ·exact h.hd i j hij c1
  ·exact .inl (h.cr i j (by omega) (by omega) hj)
 ·by_cases c3:i=x-1
  ·rw[c3];exact Int.le_refl _
  ·have:=h.cr i (x-1) (by omega) (by omega) (by omega)
   omega
theorem Fl.next{xs:Array Keyed}{x:Nat}(hd:Dn xs x)(hk:∀i,i<x→K xs x<K xs i)(hl:Lat a₀ xs x):Fl a₀ xs (x+1) 0:=
 ⟨by omega,fun i j h1 h2=>hd i j h1 (by omega),fun i j h1 h2 h3=>by
  have e:j=x:=by omega
  subst e
  exact hk i (by omega),fun i j h1 h2 h3=>by omega,hl.mono (by omega)⟩
theorem desc{st:SortSt}{n nrem:Nat}{Q:DescSt→SortSt→Prop}(h0:IntKeys a₀)(hn:nrem≤a₀.size)(hnn:n≤nrem)(hB:SBase a₀ st)(hs:Fl a₀ (arrOf st) n 0)
  (h:∀m neq st',SBase a₀ st'→n≤m→m≤nrem→Fl a₀ (arrOf st') m neq→Q (none,m,neq) st'):wpS (model prog w) A E s (descLoop n nrem) Q st:=by
 unfold descLoop
 refine wpS_forRange (I:=fun x c st'=>∃neq,c=(none,x,neq)∧SBase a₀ st'∧Fl a₀ (arrOf st') x neq) ?turn ?over ⟨0,rfl,hB,hs⟩
 case over=>
  rintro c st' ⟨neq,rfl,hB',f⟩
  rw[show max n nrem=nrem by omega] at f⊢
  exact h nrem neq st' hB' hnn (Uw _) f
 case turn=>
  rintro x c st' hax hxn ⟨neq,rfl,hB',f⟩
  dsimp only
  have few:=f.few
  have sz:x≤(arrOf st').size:=by rw[hB'.size];omega
  refine wpS_bind (wpS_ltK hB' h0 (by omega) (by omega) ?_)
  by_cases c1:K (arrOf st') x<K (arrOf st') (x-1)
  ·simp only[c1,decide_true,if_true]
   by_cases c2:neq > 0
   ·rw[if_pos c2]
    obtain⟨d1,d2,d3,d4⟩:=f.turned sz
    refine wpS_bind (wpS_reverse (wpS_pure ⟨0,rfl,hB'.setArr (mirror_perm _ _ _ _),Fl.next d1 (fun i hi=>?_) d3⟩))
    have:=d2 i hi
    have e:=d4 x (Uw _)
    show K (mirror (arrOf st') _ _ _) x<K (mirror (arrOf st') _ _ _) i
    omega
   ·rw[if_neg c2]
    have e:neq=0:=by omega
    subst e
    obtain⟨d1,d2⟩:=f.plain
    exact wpS_pure ⟨0,rfl,hB',Fl.next d1 (fun i hi=>by have:=d2 i hi;omega) f.lat⟩
  ·simp only[c1,decide_false,Jl,if_false]
   refine wpS_bind (wpS_ltK hB' h0 (by omega) (by omega) ?_)
   by_cases c2:K (arrOf st') (x-1)<K (arrOf st') x
   ·simp only[c2,decide_true,if_true]
    exact wpS_pure (h x neq st' hB' hax (by omega) f)
   ·simp only[c2,decide_false,Jl,if_false]
    have ek:K (arrOf st') x=K (arrOf st') (x-1):=by omega
    refine wpS_pure ⟨neq+1,rfl,hB',⟨by omega,?_,?_,?_,f.lat.mono (by omega)⟩⟩
    ·rw[show x+1-(neq+1+1)=x-(neq+1) by omega]
     exact f.hd
    ·rw[show x+1-(neq+1+1)=x-(neq+1) by omega]
     intro i j h1 h2 h3
     by_cases c3:j<x
     ·exact f.cr i j h1 h2 c3
     ·have e:j=x:=by omega
      subst e
      rw[ek]
      exact f.cr i (j-1) h1 (by omega) (by omega)
    ·rw[show x+1-(neq+1+1)=x-(neq+1) by omega]
     intro i j h1 h2 h3
     by_cases c3:j<x
     ·exact f.tl i j h1 h2 c3
     ·have e:j=x:=by omega
      subst e
      refine⟨?_,f.lat i j h2 (Uw _) (by omega)⟩
      rw[ek]
      by_cases c4:i=j-1
      ·rw[c4]
      ·exact(f.tl i (j-1) h1 (by omega) (by omega)).1
theorem falls{st:SortSt}{n nrem:Nat}{Q:Option Nat→SortSt→Prop}(h0:IntKeys a₀)(hn:nrem≤a₀.size)(hnn:n+1≤nrem)(hB:SBase a₀ st)(hs:Fl a₀ (arrOf st) (n+1) 0)
  (h:∀m st',SBase a₀ st'→1≤m→m≤nrem→Up (arrOf st') m→Lat a₀ (arrOf st') m→Q (some m) st'):wpS (model prog w) A E s (descPart n nrem) Q st:=by
 unfold descPart
 refine wpS_bind (wpS_lift (wpAny_rule ⟨rfl,?_⟩))
 refine wpS_bind (desc h0 hn hnn hB hs fun m neq st' hB' hm1 hm2 f=>?_)
 dsimp only
 have sz:m≤(arrOf st').size:=by rw[hB'.size];omega
 by_cases c2:neq > 0
 ·rw[if_pos c2]
  obtain⟨d1,_,d3,_⟩:=f.turned sz
  exact wpS_bind (wpS_reverse (tail h0 hn (by omega) hm2 (hB'.setArr (mirror_perm _ _ _ _)) d1 d3 h))
 ·rw[if_neg c2]
  have e:neq=0:=by omega
  subst e
  exact tail h0 hn (by omega) hm2 hB' f.plain.1 f.lat h
theorem count{st:SortSt}{nrem:Nat}{Q:Option Nat→SortSt→Prop}(h0:IntKeys a₀)(hn:nrem≤a₀.size)(h1:1≤nrem)(hB:SBase a₀ st)(hl:Lat a₀ (arrOf st) 1)
  (h:∀m st',SBase a₀ st'→1≤m→m≤nrem→Up (arrOf st') m→Lat a₀ (arrOf st') m→Q (some m) st'):wpS (model prog w) A E s (countRun' 0 nrem) Q st:=by
 rw[countRun0_eq]
 refine wpS_bind (asc h0 hn (Uw 1) h1 hB (fun i j hij hj=>by omega) hl fun n hn1 hn2 hu hor=>?_)
 dsimp only
 by_cases c1:n=nrem
 ·rw[if_pos (by simpa using c1)]
  exact wpS_pure (h n st hB hn1 hn2 hu (hl.mono hn1))
 ·rw [if_neg (by simpa using c1)]
  have lt:K (arrOf st) n<K (arrOf st) (n-1):=hor.resolve_left c1
  by_cases c2:n > 1
  ·rw [if_pos c2]
   refine wpS_bind (wpS_ltK hB h0 (by omega) (by omega) ?_)
   by_cases c3:K (arrOf st) 0<K (arrOf st) (n-1)
   ·simp only[c3,decide_true,if_true]
    exact wpS_pure (h n st hB hn1 hn2 hu (hl.mono hn1))
   ·simp only[c3,decide_false,Jl,if_false]
    have sz:n≤(arrOf st).size:=by rw[hB.size];omega
    have same:∀i,i<n→K (arrOf st) i=K (arrOf st) (n-1):=fun i hi=>by
     by_cases z:i=0
     ·subst z
      have:=(hu 0 (n-1) (by omega) (by omega)).le
      omega
     ·have a1:=(hu 0 i (by omega) hi).le
      by_cases z2:i=n-1
      ·rw[z2]
      ·have a2:=(hu i (n-1) (by omega) (by omega)).le
       omega
    refine wpS_bind (wpS_reverse (falls h0 hn (by omega) (hB.setArr (mirror_perm _ _ _ _)) (Fl.next (fun i j hij hj=>?_) (fun i hi=>?_) (kgh sz (Uw _) (hl.mono hn1))) h))
    ·show Lx (mirror (arrOf st) 0 n ((n-0)/2)) j i
     obtain⟨i',⟨k1,t1⟩,e1⟩:=kcf (i:=0) sz i
     obtain⟨j',⟨k2,t2⟩,e2⟩:=kcf (i:=0) sz j
     rw[if_pos (by omega)] at e1 e2
     have:=hu j' i' (by omega) (by omega)
     unfold Lx at this⊢
     rw[k1,k2,t1,t2]
     exact this
    ·show K (mirror (arrOf st) 0 n ((n-0)/2)) n<K (mirror (arrOf st) 0 n ((n-0)/2)) i
     obtain⟨i',⟨k1,_⟩,e1⟩:=kcf (i:=0) sz i
     obtain⟨n',⟨k2,_⟩,e2⟩:=kcf (i:=0) sz n
     rw[if_pos (by omega)] at e1
     rw[if_neg (by omega)] at e2
     subst e2
     rw[k1,k2,same i' (by omega)]
     exact lt
  ·rw[if_neg c2]
   have e:n=1:=by omega
   subst e
   refine falls h0 hn (by omega) hB (Fl.next (fun i j hij hj=>by omega) (fun i hi=>?_) hl) h
   have z:i=0:=by omega
   subst z
   exact lt
theorem insert{st:SortSt}{n ok:Nat}{Q:Bool→SortSt→Prop}(h0:IntKeys a₀)(hn:n≤a₀.size)(h1:1≤ok)(hok:ok≤n)(hB:SBase a₀ st)(hs:Up (arrOf st) ok)(hl:Lat a₀ (arrOf st) ok)
  (h:∀st',SBase a₀ st'→Up (arrOf st') n→Q true st'):wpS (model prog w) A E s (binarySort' 0 n ok) Q st:=by
 rw[binarySort'_eq]
 simp only[Nat.zero_add]
 refine wpS_bind (wpS_mono (wpS_forRange (I:=fun k c st'=>c=(none,())∧SBase a₀ st'∧Up (arrOf st') (min k n)∧Lat a₀ (arrOf st') (min k n)) (Q:=fun c st'=>c=(none,())∧SBase a₀ st'∧Up (arrOf st') n) ?turn ?over ?begin) ?behind)
 case behind=>
  rintro c st' ⟨rfl,hB',hu⟩
  exact wpS_pure (h st' hB' hu)
 case begin=>
  rw[show max ok 1=ok by omega,show min ok n=ok by omega]
  exact⟨rfl,hB,hs,hl⟩
 case over=>
  rintro c st' ⟨hc,hB',hu,_⟩
  refine⟨hc,hB',?_⟩
  rwa [show min (max (max ok 1) n) n=n by omega] at hu
 case turn=>
  rintro k c st' hak hkn ⟨rfl,hB',hu,hla⟩
  rw[show min k n=k by omega] at hu hla
  have hk:k<a₀.size:=by omega
  refine wpS_bind (wpS_mono (wpS_forRange (I:=fun x c st''=>st''=st'∧∃l r,c=(none,l,r)∧l≤r∧r≤k∧r-l≤k-x∧(∀i,i<l→K (arrOf st') i≤K (arrOf st') k)∧(∀i,r≤i→i<k→K (arrOf st') k<K (arrOf st') i))
   (Q:=fun c st''=>st''=st'∧∃l r,c=(none,l,r)∧l≤k∧(∀i,i<l→K (arrOf st') i≤K (arrOf st') k)∧(∀i,l≤i→i<k→K (arrOf st') k<K (arrOf st') i)) ?turn2 ?over2 ?begin2) ?behind2)
  case begin2=>exact⟨rfl,0,k,rfl,by omega,by omega,by omega,fun i hi=>by omega,fun i a b=>by omega⟩
  case over2=>
   rintro c st'' ⟨rfl,l,r,rfl,hlr,hrk,hm,lo,hi⟩
   have e:l=r:=by omega
   subst e
   exact⟨rfl,l,l,rfl,hrk,lo,hi⟩
  case turn2=>
   rintro x c st'' _ hxk ⟨rfl,l,r,rfl,hlr,hrk,hm,lo,hi⟩
   dsimp only
   by_cases c1:l≥r
   ·rw[if_pos c1]
    have e:l=r:=by omega
    subst e
    exact wpS_pure ⟨rfl,l,l,rfl,hrk,lo,hi⟩
   ·rw[if_neg c1]
    refine wpS_bind (wpS_ltK hB' h0 hk (by omega) ?_)
    by_cases c2:K (arrOf st'') k<K (arrOf st'') ((l+r)/2)
    ·simp only[c2,decide_true,if_true]
     refine wpS_pure ⟨rfl,l,(l+r)/2,rfl,by omega,by omega,by omega,lo,fun i a b=>?_⟩
     by_cases z:i=(l+r)/2
     ·rw[z];exact c2
     ·exact Int.lt_of_lt_of_le c2 (hu _ _ (by omega) b).le
    ·simp only[c2,decide_false,Jl,if_false]
     refine wpS_pure ⟨rfl,(l+r)/2+1,r,rfl,by omega,by omega,by omega,fun i a=>?_,hi⟩
     by_cases z:i=(l+r)/2
     ·rw[z];omega
     ·exact Int.le_trans (hu i ((l+r)/2) (by omega) (by omega)).le (Int.not_lt.mp c2)
  case behind2=>
   rintro c st'' ⟨rfl,l,r,rfl,hlk,lo,hi⟩
   show wpS _ _ _ _ (do moveDown' k l;pure (ForInStep.yield (none,()))) _ _
   rw[moveDown'_eq]
   have hks:k<(arrOf st'').size:=by rw[hB'.size];exact hk
   refine wpS_bind (wpS_modify (wpS_pure ⟨rfl,hB'.setArr (bubble_perm _ _ _),?_,?_⟩))
   ·rw [show min (k+1) n=k+1 by omega]
    intro i j hij hj
    show Lx (bubble (arrOf st'') k (k-l)) i j
    obtain⟨i',⟨k1,t1⟩,e1⟩:=kg5 hks (show k-l≤k by omega) i
    obtain⟨j',⟨k2,t2⟩,e2⟩:=kg5 hks (show k-l≤k by omega) j
    rw[show k-(k-l)=l by omega] at e1 e2
    unfold Lx
    rw[k1,k2,t1,t2]
    by_cases z1:i=l
    ·rw[if_pos z1] at e1
     rw[if_neg (by omega),if_pos (by omega)] at e2
     subst e1
     exact .inl (hi j' (by omega) (by omega))
    ·rw[if_neg z1] at e1
     by_cases z2:j=l
     ·rw[if_pos z2] at e2
      rw[if_neg (by omega)] at e1
      subst e2
      have a1:=lo i' (by omega)
      have a2:=hla i' j' (by omega) (Uw _) hk
      omega
     ·rw[if_neg z2] at e2
      refine hu i' j' ?_ ?_
      ·rw[e1,e2]
       repeat' split
       all_goals omega
      ·rw[e2]
       split <;> omega
   ·rw[show min (k+1) n=k+1 by omega]
    intro a b hab hkb hb
    show T (bubble (arrOf st'') k (k-l)) a<T (bubble (arrOf st'') k (k-l)) b
    obtain⟨a',⟨_,t1⟩,e1⟩:=kg5 hks (show k-l≤k by omega) a
    obtain⟨b',⟨_,t2⟩,e2⟩:=kg5 hks (show k-l≤k by omega) b
    rw[show k-(k-l)=l by omega] at e1 e2
    rw[if_neg (by omega),if_neg (by omega)] at e2
    subst e2
    rw[t1,t2]
    refine hla a' b' ?_ (by omega) hb
    rw[e1]
    repeat' split
    all_goals omega
noncomputable def Done(a₀:Array Keyed)(st:SortSt):Prop:=(arrOf st).Perm a₀∧failedOf st=none∧pendingOf st= #[(0,a₀.size,0)]∧Up (arrOf st) a₀.size
theorem done{st:SortSt}(hB:SBase a₀ st)(hu:Up (arrOf st) a₀.size):Done a₀ (setPending st ((pendingOf st).push (0,a₀.size,0))):=⟨hB.perm,hB.failed,by show(pendingOf st).push _=_;rw[hB.pend];rfl,hu⟩
theorem runs{st:SortSt}{Q:Unit→SortSt→Prop}(h0:IntKeys a₀)(hB:SBase a₀ st)(h2:2≤a₀.size)(h64:a₀.size<64)(hl:Lat a₀ (arrOf st) 1)
  (h:∀st',(arrOf st').Perm a₀→failedOf st'=none→Up (arrOf st') a₀.size→Q () st'):wpS (model prog w) A E s sortRuns' Q st:=by
 rw[sortRuns'_eq]
 refine wpS_bind (wpS_get ?_)
 dsimp only
 have mr:minRun' a₀.size a₀.size 0=a₀.size:=by
  obtain⟨f,hf⟩:∃f,a₀.size=f+1:=⟨a₀.size-1,by omega⟩
  have z:minRun' (f+1) a₀.size 0=a₀.size:=by rw[minRun'_succ,if_pos h64];rfl
  rwa [←hf] at z
 simp only[hB.size,mr]
 refine wpS_bind (wpS_mono (wpS_forRange (I:=fun x c st'=>(x=0∧c=(none,0)∧st'=st)∨(1≤x∧c=(none,a₀.size)∧Done a₀ st')) (Q:=fun c st'=>c=(none,a₀.size)∧Done a₀ st') ?turn ?over (.inl ⟨rfl,rfl,rfl⟩)) ?behind)
 case over=>
  rintro c st' (⟨hx,_,_⟩|⟨_,hc,hD⟩)
  ·omega
  ·exact⟨hc,hD⟩
 case turn=>
  rintro x c st' _ hx (⟨rfl,rfl,rfl⟩|⟨hx1,rfl,hD⟩)
  ·dsimp only
   rw[if_neg (by omega)]
   simp only[Nat.sub_zero,JL,Nat.zero_add]
   refine wpS_bind (count h0 (Uw _) (by omega) hB hl fun m st2 hB2 hm1 hm2 hu2 hl2=>?_)
   dsimp only
   by_cases c1:m<a₀.size
   ·rw[if_pos c1]
    refine wpS_bind (wpS_lift (wpAny_rule ⟨rfl,?_⟩))
    refine wpS_bind (insert h0 (Uw _) hm1 hm2 hB2 hu2 hl2 fun st3 hB3 hu3=>?_)
    simp only[Bool.not_true,Jl,if_false]
    refine wpS_bind (wpS_get ?_)
    have hb:(pendingOf st3).back?=none:=by rw[hB3.pend];rfl
    rw[hb]
    dsimp only
    exact wpS_bind (wpS_modify (wpS_pure (.inr ⟨by omega,rfl,done hB3 hu3⟩)))
   ·rw[if_neg c1]
    have e:m=a₀.size:=by omega
    subst e
    refine wpS_bind (wpS_get ?_)
    have hb:(pendingOf st2).back?=none:=by rw[hB2.pend];rfl
    rw[hb]
    dsimp only
    exact wpS_bind (wpS_modify (wpS_pure (.inr ⟨by omega,rfl,done hB2 hu2⟩)))
  ·dsimp only
   rw[if_pos (Uw _)]
   exact wpS_pure ⟨rfl,hD⟩
 case behind=>
  rintro c st' ⟨rfl,hD⟩
  dsimp only
  refine wpS_bind (wpS_mono (wpS_forRange (I:=fun _ c st''=>st''=st'∧c=(none,())) (Q:=fun c st''=>st''=st'∧c=(none,())) ?_ (fun _ _ z=>z) ⟨rfl,rfl⟩) ?_)
  ·rintro x c st'' _ _ ⟨rfl,rfl⟩
   refine wpS_bind (wpS_get ?_)
   rw[if_pos (by rw[hD.2.2.1];exact Uw 1)]
   exact wpS_pure ⟨rfl,rfl⟩
  ·rintro c st'' ⟨rfl,rfl⟩
   exact wpS_pure (h _ hD.1 hD.2.1 hD.2.2.2)
end
end Stb
namespace Stb
open PySem PyProof.Rows
structure SJ (J:Shared→Prop) (n0:Nat):Prop where
 sz:∀s,J s→n0≤s.heap.objs.size
 push:∀s c xs n,J s→J {s with heap:=s.heap.push (seqObj c xs n)}
 upd:∀s b g,J s→n0≤b→J {s with heap:=s.heap.update b (Obj.mapSeq g)}
noncomputable def Tells(J:Shared→Prop)(n0:Nat)(k:Int)(s:Shared)(v:Value)(s':Shared):Prop:=(∃t,v=.int k t)∧J s'∧∀b o,n0≤b→s.heap.get? b=some o→s'.heap.get? b=some o
noncomputable def Rows(keys:Array Value)(vs:List Value)(out:Array Value):Prop:=∃xs:Array Keyed,xs.Perm (keys.zip vs.toArray)∧Up xs xs.size∧out=xs.map (·.2)
section
variable {prog:Program} {w:World} {A:Around} {E:Value→Shared→Prop} {s:Shared} {J:Shared→Prop} {n0:Nat} {a kS:Addr} {vs:List Value} {kz:List Int} {keys:Array Value} {e e1:Nat} {P:PySem.Fin→Shared→Prop}
theorem tailK(S:SJ J n0)(hJ:J s)(hk:s.heap.get? kS=some (seqObj "list" keys e))(ha:s.heap.get? a=some (seqObj "list" #[] e1))(ne:kS≠a)(nk:n0≤kS)(na:n0≤a){st:SortSt}(hz:keys.size≤64)(hp:(arrOf st).Perm (keys.zip vs.toArray))(hu:Up (arrOf st) (arrOf st).size)
  (hf:failedOf st=none) (hv:vs.length≤64) (h:∀h' out c,J {s with heap:=h'}→h'.get? a=some (seqObj "list" out c)→Rows keys vs out→P (.done (.ret .none)) {s with heap:=h'}):wpAny (model prog w) A (ksk_tail a false e1 (.ref kS) st) P E s:=by
 have sz2:(arrOf st).size≤64:=by
  have hvs:vs.toArray.size=vs.length:=by simp
  rw[hp.size_eq,Nt]
  omega
 have q1:=Heap.SameBut.update s.heap kS (Obj.mapSeq fun _=>(#[]:Array Value))
 have g1:(s.heap.update kS (Obj.mapSeq fun _=>(#[]:Array Value))).get? a=some (seqObj "list" #[] e1):=(q1.2 a ne.symm).trans ha
 have J1:=S.upd s kS (fun _=>#[]) hJ nk
 have J2:=S.upd _ a (fun _=>(arrOf st).map (·.2)) J1 na
 unfold ksk_tail
 try dsimp only
 refine wpAny_bind (listUpdate_at hk rfl ?_ (by rw[sizeLine_eq];omega) (U1 _))
 refine wpAny_bind (wpAny_letGo ?_)
 refine wpAny_bind (seqEpoch_at g1 rfl ?_)
 refine wpAny_bind (listUpdate_at g1 rfl ?_ (U1 _) (by simp only[Jl,if_false,Array.size_map];rw[sizeLine_eq];omega))
 rw[hf]
 simp only[bne_self_eq_false,Jl,if_false]
 exact wpAny_pure (h _ _ _ J2 (get?_update_seq g1 fun _=>(arrOf st).map (·.2)) ⟨arrOf st,hp,hu,rfl⟩)
theorem zip_T{keys:Array Value}{vs:List Value}{i:Nat}(hl:keys.size=vs.length):T (keys.zip vs.toArray) i=match vs[i]? with|some v=>numOf v|none=>0:=by
 unfold T
 have hvs:vs.toArray.size=vs.length:=by simp
 cases ev:vs[i]? with
 |none=>
  have hi:vs.length≤i:=NJ.mp ev
  have e:(keys.zip vs.toArray)[i]?=none:=Array.getElem?_eq_none (by rw[Nt];omega)
  rw[e]
 | some v=>
  have hi:i<vs.length:=(UG.mp ev).1
  have hz:i<(keys.zip vs.toArray).size:=by rw[Nt];omega
  have ev':vs[i]=v:=by
   rw[Jw hi] at ev
   exact Option.some.inj ev
  have e:(keys.zip vs.toArray)[i]?=some (keys[i]'(by omega),vs[i]):=by
   rw[NZ hz]
   simp
  rw[e,ev']
theorem endK(S:SJ J n0)(hJ:J s)(hk:s.heap.get? kS=some (seqObj "list" keys e))(ha:s.heap.get? a=some (seqObj "list" #[] e1))(ne:kS≠a)(nk:n0≤kS)(na:n0≤a)(hi:IntsAre keys.toList kz)(hl:keys.size=vs.length)(h64:vs.length<64)
  (up:∀(i j:Nat) (x y:Value),i<j→vs[i]?=some x→vs[j]?=some y→numOf x<numOf y)
  (h:∀h' out c,J {s with heap:=h'}→h'.get? a=some (seqObj "list" out c)→Rows keys vs out→P (.done (.ret .none)) {s with heap:=h'}):wpAny (model prog w) A (ksk_end a false vs.toArray e1 (.ref kS) keys) P E s:=by
 have hvs:vs.toArray.size=vs.length:=by simp
 have zs:(keys.zip vs.toArray).size=vs.length:=by rw[Nt];omega
 unfold ksk_end
 try dsimp only
 simp only[Jl,if_false]
 by_cases h2:vs.toArray.size<2
 ·rw[if_pos h2,if_pos h2]
  refine wpAny_bind (wpAny_pure ?_)
  rw[StateT.run_pure]
  refine wpAny_bind (wpAny_pure ?_)
  try dsimp only
  refine tailK (st:=SortSt.mk' general' (keys.zip vs.toArray) #[] 7 none) S hJ hk ha ne nk na (by omega) (Array.Perm.refl _) ?_ rfl (by omega) h
  intro i j hij hj
  have hj2:j<(keys.zip vs.toArray).size:=hj
  rw[zs] at hj2
  rw[UN] at h2
  omega
 ·rw[if_neg h2,if_neg h2]
  rw[UN] at h2
  rw[ksk_kind hi (by rw[hl];omega)]
  refine wpAny_bind (wpAny_pure ?_)
  have lat:Lat (keys.zip vs.toArray) (keys.zip vs.toArray) 1:=fun i j hij _ hj=>by
   rw[zs] at hj
   rw[zip_T hl,zip_T hl,Jw (show i<vs.length by omega),Jw hj]
   exact up i j _ _ hij (Jw (show i<vs.length by omega)) (Jw hj)
  refine wpAny_bind (wpAny_mono (runs (a₀:=keys.zip vs.toArray) (st:=SortSt.mk' oneType' (keys.zip vs.toArray) #[] 7 none) (Q:=fun _ st'=>(arrOf st').Perm (keys.zip vs.toArray)∧failedOf st'=none∧Up (arrOf st') (keys.zip vs.toArray).size)
   (ksk_intKeys hi) ⟨Array.Perm.refl _,rfl,rfl,rfl⟩ (by rw[zs];omega) (by rw[zs];exact h64) lat fun st' b1 b2 b3=>⟨b1,b2,b3⟩) ?_ fun _ _ z=>z)
  rintro⟨⟨⟩,st'⟩ s' ⟨rfl,b1,b2,b3⟩
  try dsimp only
  exact tailK S hJ hk ha ne nk na (by omega) b1 (by rw[b1.size_eq];exact b3) b2 (by omega) h
theorem restK{f:Value}(S:SJ J n0)(hJ:J s)(hk:s.heap.get? kS=some (seqObj "list" #[] 0))(ha:s.heap.get? a=some (seqObj "list" #[] e1))(ne:kS≠a)(nk:n0≤kS)(na:n0≤a)(hl:kz.length=vs.length)(h64:vs.length<64)
  (up:∀(i j:Nat) (x y:Value),i<j→vs[i]?=some x→vs[j]?=some y→numOf x<numOf y)
  (turn:∀(i:Nat) (v:Value) (k:Int),vs[i]?=some v→kz[i]?=some k→∀s',J s'→wpAny (model prog w) A (call f [v]) (Tells J n0 k s') (fun _ _=>False) s')
  (h:∀s' keys out c,J s'→s'.heap.get? a=some (seqObj "list" out c)→IntsAre keys.toList kz→keys.size=vs.length→Rows keys vs out→P (.done (.ret .none)) s'):wpAny (model prog w) A (ksk_rest a f false vs.toArray e1 (.ref kS)) P E s:=by
 unfold ksk_rest
 refine wpAny_bind (wpAny_rule ?_)
 first
  |rw[List.forIn_toArray]
  |rw[←Array.forIn_toList]
 refine wpAny_bind (ksk_fold (fun i s'=>J s'∧∃kA e,s'.heap.get? kS=some (seqObj "list" kA e)∧s'.heap.get? a=some (seqObj "list" #[] e1)∧IntsAre kA.toList (kz.take i)) vs 0 s ⟨hJ,#[],0,hk,ha,by simpa using IntsAre.nil⟩ ?turnP ?doneP)
 case turnP=>
  rintro j x s' hx ⟨J',kA,e,g1,g2,hi⟩
  simp only[Nat.zero_add] at hi⊢
  have hj:j<vs.length:=(UG.mp hx).1
  obtain⟨k,ek⟩:∃k,kz[j]?=some k:=⟨_,Jw (by omega)⟩
  have lz:kA.size≤vs.length:=by
   have h1:=hi.length
   rw[JJ,UL] at h1
   omega
  refine wpAny_bind (wpAny_attempt (wpAny_mono (turn j x k hx ek s' J') (fun v s'' hT=>?_) fun _ _ z=>z.elim))
  obtain⟨⟨t,rfl⟩,J2,kp⟩:=hT
  try dsimp only
  have g1':=kp _ _ nk g1
  have g2':=kp _ _ na g2
  have q1:=Heap.SameBut.update s''.heap kS (Obj.mapSeq (·.push (.int k t)))
  refine wpAny_bind (listUpdate_at g1' rfl ?_ (by rw[sizeLine_eq];omega) (Uy (Nf (Array.size_push ..)) (by rw[sizeLine_eq];omega)))
  have et:kz.take (j+1)=kz.take j++[k]:=by rw[Jx,ek];simp
  have ep:(kA.push (Value.int k t)).toList=kA.toList++[Value.int k t]:=by simp
  exact wpAny_pure ⟨rfl,S.upd _ kS _ J2 nk,kA.push (.int k t),_,get?_update_seq g1' (·.push (.int k t)),(q1.2 a ne.symm).trans g2',by rw[ep,et];exact ksk_snoc hi⟩
 case doneP=>
  rintro s' ⟨J',kA,e,g1,g2,hi⟩
  have e3:kz.take (0+vs.length)=kz:=JF (by omega)
  rw[e3] at hi
  have lk:kA.size=vs.length:=by
   have:=hi.length
   rw[JJ] at this
   omega
  try dsimp only
  refine wpAny_bind (listItems_at g1 rfl ?_)
  exact endK S J' g1 g2 ne nk na hi lk h64 up fun h' out c z1 z2 z3=>h _ kA out c z1 z2 hi lk z3
theorem sortK{f:Value}{n:Nat}(S:SJ J n0)(hJ:J s)(ho:s.heap.get? a=some (seqObj "list" vs.toArray n))(na:n0≤a)(hl:kz.length=vs.length)(h64:vs.length<64)
  (up:∀(i j:Nat) (x y:Value),i<j→vs[i]?=some x→vs[j]?=some y→numOf x<numOf y)
  (turn:∀(i:Nat) (v:Value) (k:Int),vs[i]?=some v→kz[i]?=some k→∀s',J s'→wpAny (model prog w) A (call f [v]) (Tells J n0 k s') (fun _ _=>False) s')
  (h:∀s' keys out c,J s'→s'.heap.get? a=some (seqObj "list" out c)→IntsAre keys.toList kz→keys.size=vs.length→Rows keys vs out→P (.done (.ret .none)) s'):wpAny (model prog w) A (ksk_tree a f false) P E s:=by
 have la:a<s.heap.objs.size:=Heap.lt_size ho
 have J1:=S.upd s a (fun _=>#[]) hJ na
 have J2:=S.push _ "tuple" vs.toArray 0 J1
 have J3:=S.push _ "list" #[] 0 J2
 obtain⟨e1,g1⟩:∃e1,(s.heap.update a (Obj.mapSeq fun _=>(#[]:Array Value))).get? a=some (seqObj "list" #[] e1):=⟨_,get?_update_seq ho fun _=>#[]⟩
 have sz:((s.heap.update a (Obj.mapSeq fun _=>(#[]:Array Value))).push (seqObj "tuple" vs.toArray 0)).objs.size=s.heap.objs.size+1:=by rw[size_push',Heap.size_update]
 have n0s:=S.sz s hJ
 unfold ksk_tree
 refine wpAny_bind (listItems_at ho rfl ?_)
 refine wpAny_bind (listUpdate_at ho rfl ?_ (by rw[UN,sizeLine_eq];omega) (U1 _))
 refine wpAny_bind (seqEpoch_at g1 rfl ?_)
 refine wpAny_bind (wpAny_newTuple ?_ (by show vs.length≤_;rw[sizeLine_eq];omega))
 refine wpAny_bind (wpAny_newList ?_ (U1 _))
 refine wpAny_holding ?_
 refine restK (s:={s with heap:=((s.heap.update a (Obj.mapSeq fun _=>(#[]:Array Value))).push (seqObj "tuple" vs.toArray 0)).push (seqObj "list" #[] 0)}) (kS:=((s.heap.update a (Obj.mapSeq fun _=>(#[]:Array Value))).push (seqObj "tuple" vs.toArray 0)).objs.size)
  S J3 (Heap.get?_push_size _ rfl) (Heap.get?_push_of_some _ (Heap.get?_push_of_some _ g1)) (by rw[sz];exact Je (Nat.lt_succ_of_lt la)) (by rw[sz];omega) na hl h64 up turn h
end
section
variable {prog:Program} {w:World} {A:Around} {E:Value→Shared→Prop} {s:Shared} {J:Shared→Prop} {n0:Nat} {vs:List Value} {kz:List Int} {Q:Value→Shared→Prop}
theorem sortedK{l f:Addr}(S:SJ J n0)(hJ:J s)(hL:s.heap.IsList l vs.toArray)(hl:kz.length=vs.length)(h64:vs.length<64)
  (up:∀(i j:Nat) (x y:Value),i<j→vs[i]?=some x→vs[j]?=some y→numOf x<numOf y)
  (turn:∀(i:Nat) (v:Value) (k:Int),vs[i]?=some v→kz[i]?=some k→∀s',J s'→wpAny (model prog w) A.in1.in1 (call (.ref f) [v]) (Tells J n0 k s') (fun _ _=>False) s')
  (h:∀s' D keys out c,n0≤D→J s'→s'.heap.get? D=some (seqObj "list" out c)→IntsAre keys.toList kz→keys.size=vs.length→Rows keys vs out→Q (.ref D) s'):wpAny (model prog w) A (call (.builtin "sorted") [.ref l] [(Str.ofString "key", .ref f)]) Q E s:=by
 refine call_function_entry_kw kind_sorted plain_sorted entry_sorted (ksk_s1 _ _) ?_
 unfold Builtin.«sorted»
 refine wpAny_bind (m:=checkCount "sorted" 1 1 _) (wpAny_pure ?_)
 refine wpAny_bind (collect_list hL ?_ (by rw[sizeLine_eq];omega))
 refine wpAny_bind (wpAny_newList ?_ (by rw[sizeLine_eq];omega))
 have n0s:=S.sz s hJ
 have J1:=S.push s "list" #[] 0 hJ
 have J2:=S.upd _ s.heap.objs.size (· ++vs.toArray) J1 n0s
 have J3:=S.push _ "list" vs.toArray 0 J2
 have sz:((s.heap.push (seqObj "list" #[] 0)).update s.heap.objs.size (Obj.mapSeq (· ++vs.toArray))).objs.size=s.heap.objs.size+1:=by rw[Heap.size_update,size_push']
 have g1:(((s.heap.push (seqObj "list" #[] 0)).update s.heap.objs.size (Obj.mapSeq (· ++vs.toArray))).push (seqObj "list" vs.toArray 0)).get? (s.heap.objs.size+1)=some (seqObj "list" vs.toArray 0):=by
  rw[←sz]
  exact Heap.get?_push_size _ rfl
 show wpAny _ _ _ _ _ {s with heap:=((s.heap.push (seqObj "list" #[] 0)).update s.heap.objs.size (Obj.mapSeq (· ++vs.toArray))).push (seqObj "list" vs.toArray 0)}
 rw[sz]
 refine wpAny_bind (wpAny_holding (wpAny_call_entry_kw slot_list_sort ⟨_,g1,rfl⟩ entry_list_sort ?inner (ksk_l1 _ _)))
 case inner=>
  show wpAny (model prog w) A.in1.in1 (Builtin.«list.sort» ⟨[.ref (s.heap.objs.size+1)],[(Str.ofString "key", .ref f)]⟩) _ _ _
  rw[ksk_t1]
  refine sortK (s:={s with heap:=((s.heap.push (seqObj "list" #[] 0)).update s.heap.objs.size (Obj.mapSeq (· ++vs.toArray))).push (seqObj "list" vs.toArray 0)}) S J3 g1 (by omega) hl h64 up turn fun s' keys out c z1 z2 z3 z4 z5=>⟨_,rfl,?_⟩
  exact wpAny_pure ⟨_,rfl,h s' _ keys out c (by omega) z1 z2 z3 z4 z5⟩
end
end Stb
namespace L2
open PySem PySem.Spec PyProof.Rows
structure kc1 (X:Cx) (scope:Scope) (x:Str) (N:List Str) (cap:List (Option Nat)):Prop where
 S:CompScope X scope N (none::cap)
 hd:N[0]?=some x
 par:scope.names.lookup x=some .local
 co:scope.isCoroutine=false
 gen:scope.isGenerator=false
 nocell:∀y∈scope.names,y.2≠.cell
noncomputable abbrev kit(X:Cx)(scope:Scope)(qual:Str)(L f c:Addr):Env:=PySem.W.envX qual scope L f (.ref c) (closL X.env.cells scope.names [])
noncomputable def cxL(X:Cx)(A:Around)(scope:Scope)(N:List Str)(qual:Str)(f c:Addr)(s:Shared)(H:Hp):Cx:=
 {X with A:=A.deeper (kit X scope qual s.heap.objs.size f c),N:=N,s₀:=s,H₀:=H,env:=kit X scope qual s.heap.objs.size f c,outer:=X.stack,stack:=kit X scope qual s.heap.objs.size f c::X.stack,ex:=[],fn:=fun _=>false,calm:=true,pn:=[],xe:=fun _ _=>False}
section
variable {X:Cx} {A:Around} {scope:Scope} {x:Str} {N:List Str} {cap:List (Option Nat)} {pins:List (Addr×Obj)} {σ:St} {H:Hp} {s s1:Shared} {qual:Str} {f c:Addr}
theorem kct(S:kc1 X scope x N cap)(I:Inv X pins σ H s){y:Str}{a:Addr}(h:(closL X.env.cells scope.names []).lookup y=some a):X.env.cells.lookup y=some a:=by
 rcases kdG _ _ h with⟨h1,h2⟩|h1
 ·obtain⟨a',ea⟩:=I.ok.has y (S.S.free _ h1 rfl)
  rw[ea] at h2
  rw[h2]
  exact ea
 ·cases h1
theorem kkY(S:kc1 X scope x N cap)(I:Inv X pins σ H s)(hfr:A.frames=some X.stack)(hh:A.handled=none){v:V}{u:Value}(r:RelV v u){h1:Heap}{t:Nat}(hns:h1.Ns s.heap.objs.size fun y=>[(x,u)].reverse.lookup y)(hk:∀b o,s.heap.get? b=some o→h1.get? b=some o):
  Inv (cxL X A scope N qual f c s H) [] (some v::capσ cap σ) H {s with heap:=h1,toks:=t}:=by
 have noA:∀b:Addr,b∉(cxL X A scope N qual f c s H).ex:=fun b z=>absurd (show b∈([]:List Addr) from z) (by simp)
 have od:∀{y:Str} {a:Addr},X.env.cells.lookup y=some a→a<s.heap.objs.size:=fun {y a} h=>let⟨_,q⟩:=I.cell y a h;q.lt
 refine⟨⟨I.ok.mod,S.S.kind,rfl,rfl,Uw _,fun y z a e1 e2=>I.ok.inj y z a (kct S I e1) (kct S I e2),fun y hy=>?_,fun y a e1 _=>?_,fun _=>hh,Around.frames_deeper hfr, .inr ⟨rfl,rfl⟩,fun b z=>absurd z (noA b),I.bs,Uy I.ok.bsz I.sz,fun b _ _=>noA b,fun b z=>absurd z (noA b),I.stack,I.stkFree⟩,
  rfl,I.bare,Un.kept hk,⟨_,hns,fun j y w e1 e2 e3=>?_⟩,fun y a e=>?_,I.hok.fresh (Uw _),fun y a e=>I.freeC y a (kct S I e),fun p hp=>absurd (show p∈([]:List (Addr×Obj)) from hp) (by simp),I.hok.kept hk,?_⟩
 ·have hy':scope.names.lookup y=some .cell∨scope.names.lookup y=some .free:=hy
  rcases hy' with q|q
  ·exact absurd rfl (S.nocell _ (PySem.mem_of_lookup q))
  ·exact kcy (cells:=X.env.cells) scope.names [] (.inl (PySem.mem_of_lookup q))
 ·cases(show false=true from e1)
 ·cases j with
  | zero=>
   have ex:y=x:=by
    have e1':N[0]?=some y:=e1
    rw[S.hd] at e1'
    exact(Option.some.inj e1').symm
   have ev:w=v:=by
    have e2':some (some v)=some (some w):=e2
    exact(Option.some.inj (Option.some.inj e2')).symm
   subst ex ev
   refine⟨u,r, .inl ⟨S.par,?_⟩⟩
   simp
  | succ j=>
   have e2':(capσ cap σ)[j]?=some (some w):=by simpa using e2
   have e2'':(cap.map fun o=>match o with|some i=>(σ[i]?).getD none|none=>none)[j]?=some (some w):=e2'
   rw[UF] at e2''
   cases ec:cap[j]? with
   |none=>rw[ec] at e2'';cases e2''
   | some oi=>
    rw[ec] at e2''
    cases oi with
    |none=>cases e2''
    | some i=>
     have e4:(σ[i]?).getD none=some w:=Option.some.inj e2''
     have e5: σ[i]?=some (some w):=by
      cases q: σ[i]? with
      |none=>rw[q] at e4;cases e4
      |some w'=>rw[q] at e4;exact congrArg some e4
     obtain⟨q1,hf,_⟩:=S.S.cap (j+1) i y (by simpa using ec) e1
     have hm:=PySem.mem_of_lookup hf
     have q2:=S.S.free _ hm rfl
     obtain⟨mo,_,hl⟩:=I.loc
     obtain⟨u',ru,lk⟩:=hl i y w q1 e5 (.inr q2)
     refine⟨u',ru, .inr ⟨.inr hf,?_⟩⟩
     rcases lk with⟨k1,_⟩|⟨_,a,ea,z⟩
     ·have k1':X.env.scope.names.lookup y=some .local:=k1
      rcases q2 with q2|q2 <;> rw[q2] at k1' <;> cases k1'
     ·obtain⟨a',ea2⟩:=kcy (cells:=X.env.cells) scope.names [] (.inl hm)
      have e6:=kct S I ea2
      rw[ea] at e6
      have e7:a=a':=Option.some.inj e6
      subst e7
      obtain⟨oc,ho,hd⟩:=z
      exact⟨a,ea2,oc,hk _ _ ho,hd⟩
 ·obtain⟨w,oc,ho,hd⟩:=I.cell y a (kct S I e)
  exact⟨w,oc,hk _ _ ho,hd⟩
 ·have:=S.S.len
  show(some v::capσ cap σ).length=N.length
  rw[←this,Jg,Jg]
  unfold capσ
  rw[Uu]
theorem kjA{name:Str}{params:Arguments}{body:Expr}{pm ctv:Value}{te:TE}{v:V}{u:Value}{Q:VK}(S:kc1 X scope x N cap)(I:Inv X pins σ H s)(hfr:A.frames=some X.stack)(hh:A.handled=none)(hdp:A.depth<recursionLimit)
  (ho:s.heap.get? f=some (Nu name qual params body scope (closL X.env.cells scope.names []) pm c ctv)) (hcd:s.heap.CodeRec (.ref c) qual)
  (hbind:bindArgs (PySem.W.kla_fn name qual params body scope (closL X.env.cells scope.names []) pm (.ref c) ctv) ⟨[u],[]⟩=pure [(x,u)]) (r:RelV v u) (he:PE (cxL X A scope N qual f c s H) body te) (hq:te (some v::capσ cap σ) H Q):
  wpAny (model X.prog X.w) A (call (.ref f) [u]) (fun w' s'=>∃v' H',Inv X pins σ H' s'∧RelV v' w'∧Q v' H'∧Un (frs X.stack) [] H H' s.heap s'.heap∧s.heap.objs.size≤s'.heap.objs.size) (fun _ _=>False) s:=by
 refine wpAny_call (PySem.W.kla_callFunE hdp ho rfl S.co S.gen rfl hcd ?_)
 rw[hbind]
 refine wpAny_pure (wpAny_newFunctionEnv S.nocell (fun y hy=>?_) (fun h1 hns hsb=>⟨I.nolimit.fresh _ hsb,?_⟩) S.S.kind)
 ·rw[Jy] at hy
  subst hy
  exact S.par
 have hk:∀b o,s.heap.get? b=some o→h1.get? b=some o:=fun b o e=>hsb.extBut b o (UV (Heap.lt_size e)) (Heap.get?_push_of_some _ e)
 have J:=kkY (A:=A) (qual:=qual) (f:=f) (c:=c) (t:=s.toks+1) S I hfr hh r hns hk
 refine PySem.W.kla_codeExpr (wpAny_mono (he [] _ _ _ Q J hq) (fun w' s' hw=>?_) fun _ _ z=>z.elim)
 obtain⟨v',H',J',rv,qv⟩:=hw
 exact⟨v',H',I.call' (ch:=[]) J'.os J'.base J'.hok J'.bare (fun b hb=>by simp at hb),rv,qv,J'.base,J'.sz⟩
end
end L2
namespace L2
open PySem PySem.Spec PyProof.Rows
noncomputable def CodeO(c:Addr)(qual:Str):HO:=.ext fun h=>h.CodeRec (.ref c) qual
noncomputable def lamQ:Str:="falling_groups.<locals>.<lambda>"
noncomputable def TbAt(P:Addr)(H:Hp):Prop:=∃ps:Array Value,H P=some (.tbl ps)∧TriplesOk ps.toList∧∀pos c,codeAmong pos ps.toList=some c→∃c',c=.ref c'∧H c'=some (CodeO c' lamQ)
structure Grew (P:Addr) (H H':Hp):Prop where
 kp:∀b o,b≠P→H b=some o→H' b=some o
 tb:TbAt P H'
theorem ki7{pos:Pos}{a b:Int}{c:Value}(l:List Value)(h:TriplesOk l){x:Value}(e:codeAmong pos (l++[rawInt a,rawInt b,c])=some x):codeAmong pos l=some x∨x=c:=by
 fun_induction TriplesOk l with
 |case1=>
  right
  unfold rawInt codeAmong at e
  simp only[Nm] at e
  split at e
  ·exact(Option.some.inj e).symm
  ·simp[codeAmong] at e
 | case2 n t m u d rest ih=>
  simp only[N1,codeAmong] at e⊢
  split at e
  ·left
   rename_i hc
   rw[if_pos hc]
   exact e
  ·rename_i hc
   rw[if_neg hc]
   exact ih h e
 |case3=>exact h.elim
noncomputable def CodeK(K:Uv)(c P:Addr):Prop:=
 ∃o vs file tf flags tg inF text tt,K.lookup c=some o∧o.cls=.type "code"∧o.data=.fields vs∧vs[11]?=some (.ref P)∧vs.getD 11 .none=.ref P∧vs.getD 18 .none=.str file tf∧vs.getD 7 .none=.int flags tg∧vs.getD 9 .none=.bool inF∧vs.getD 10 .none=.int text tt∧c≠P
theorem CodeK.hd{K:Uv}{c P:Addr}{h:Heap}(x:CodeK K c P)(X:K.In h):PySem.W.CodeHd h c P:=by
 obtain⟨o,vs,file,tf,flags,tg,inF,text,tt,e,r⟩:=x
 exact⟨o,vs,file,tf,flags,tg,inF,text,tt,X _ _ e,r⟩
noncomputable def BltM(mg:Str→Option Value)(base:Heap):Prop:=∃bm ob,mg "__builtins__"=some (.ref bm)∧bm≠builtinsNs∧base.get? bm=some ob∧ob.cls=.type "module"∧ob.dict=some builtinsNs∧ob.data=.plain
section
variable {X:Cx} {scope:Scope} {x:Str} {N:List Str} {cap:List (Option Nat)} {pins:List (Addr×Obj)} {σ:St} {H:Hp} {s:Shared} {c0 P:Addr} {params:Arguments} {body:Expr} {lpos:Pos}
theorem kjz{E:Value→Shared→Prop}{Q:Value→Shared→Prop}(S:kc1 X scope x N cap)(I:Inv X pins σ H s)(hcode:X.env.code=.ref c0)(CK:CodeK X.K c0 P)(hB:BltM X.mg X.base)(TB:TbAt P H)(hq:X.env.qual++ "<lambda>"=lamQ)(hdef:defaultsOf params X.env=([],[]))
  (h:∀(s':Shared) (H':Hp) (f c:Addr) (pm ctv:Value),Inv X pins σ H' s'→Grew P H H'→s'.heap.get? f=some (Nu "<lambda>" lamQ params body scope (closL X.env.cells scope.names []) pm c ctv)→H' f=none→s.heap.objs.size≤f→(∀b,s.heap.objs.size≤b→s'.heap.objs.size≤b→H' b=none)→H' c=some (CodeO c lamQ)→Q (.ref f) s'):
  wpAny (model X.prog X.w) X.A (eval (.Lambda params body scope lpos) X.env) Q E s:=by
 obtain⟨ps,eP,ht,hor⟩:=TB
 have hP:s.heap.get? P=some (Nv ps):=(show ObjOk X.prog X.w H s.heap P (.tbl ps) from I.hok P _ eP)
 have hg:=I.mod.glob.keeps I.bk
 have nbP:∀b o,X.base.get? b=some o→b≠P:=fun b o e z=>by
  have:=(I.bs b o e).2
  rw[z,eP] at this
  cases this
 have hgP:mainGlobals≠P:=by
  obtain⟨o,_,_,e,_⟩:=I.mod.glob
  exact nbP _ o e
 have hb:s.heap.BuiltinsAt X.mg P:=by
  obtain⟨bm,ob,b1,b2,b3,b4,b5,b6⟩:=hB
  refine⟨bm,ob,b1,b2,fun z=>?_,nbP _ ob b3,I.bk _ _ b3,b4,b5,b6⟩
  obtain⟨o,es,ep,e,hd,_⟩:=I.mod.glob
  rw[←z,b3] at e
  cases e
  rw[b6] at hd
  cases hd
 have CH:=CK.hd I.kIn
 refine PySem.W.kla_eval hdef ?_
 rw[hq]
 cases hor':codeAmong lpos ps.toList with
 | none=>
  have hnf:=hor'
  refine PySem.W.kla_makeFunction (mg:=X.mg) (kcx S.S I) I.ok.glob hg hcode CH hP ht hnf hgP hb fun c' ctv h' tk hx hge hlt hrec htb=>?_
  have hc0:H c'=none:=I.hok.fresh hge
  have nPc:P≠c':=kaj eP hc0
  have szP:P<s.heap.objs.size:=Heap.lt_size hP
  generalize hob:Nu "<lambda>" lamQ params body scope (closL X.env.cells scope.names []) ((X.mg "__name__").getD .none) c' ctv=ob
  have k2:∀b o,b≠P→s.heap.get? b=some o→(h'.push ob).get? b=some o:=fun b o hbp e=>Heap.get?_push_of_some _ (hx b o hbp e)
  have nN:∀{b:Addr},H b=none→b≠P:=fun {b} n z=>by rw[z,eP] at n;cases n
  have at2:∀{b:Addr},b≠P→b≠c'→(upd (upd H P (.tbl (ps++ #[rawInt lpos.line,rawInt lpos.col, .ref c']))) c' (CodeO c' lamQ)) b=H b:=fun {b} h1 h2=>by rw[kak h2,kak h1]
  have eP2:(upd (upd H P (.tbl (ps++ #[rawInt lpos.line,rawInt lpos.col, .ref c']))) c' (CodeO c' lamQ)) P=some (.tbl (ps++ #[rawInt lpos.line,rawInt lpos.col, .ref c'])):=by rw[kak nPc,kac]
  have ec2:(upd (upd H P (.tbl (ps++ #[rawInt lpos.line,rawInt lpos.col, .ref c']))) c' (CodeO c' lamQ)) c'=some (CodeO c' lamQ):=kac
  have fresh2:∀b,s.heap.objs.size≤b→(h'.push ob).objs.size≤b→(upd (upd H P (.tbl (ps++ #[rawInt lpos.line,rawInt lpos.col, .ref c']))) c' (CodeO c' lamQ)) b=none:=fun b h1 h2=>by
   rw[Heap.size_push] at h2
   rw[at2 (Je (UT szP h1)) (Je (UT hlt (Nat.le_of_succ_le h2)))]
   exact I.hok.fresh h1
  have ff:(upd (upd H P (.tbl (ps++ #[rawInt lpos.line,rawInt lpos.col, .ref c']))) c' (CodeO c' lamQ)) h'.objs.size=none:=by
   have h1:s.heap.objs.size≤h'.objs.size:=Uy hge (UH hlt)
   rw[at2 (Je (UT szP h1)) (Je hlt)]
   exact I.hok.fresh h1
  generalize upd (upd H P (.tbl (ps++ #[rawInt lpos.line,rawInt lpos.col, .ref c']))) c' (CodeO c' lamQ)=H2 at *
  have un:Un X.fs [] H H2 s.heap (h'.push ob):=by
   refine⟨fun b o e n _ _=>k2 b o (nN n) e,fun b o e n _ _=>⟨o.slots,k2 b o (nN n) e⟩,fun b o e n _=>?_,fun b o e _=>?_,fun b xs e=>?_,fun b o u e=>?_,fun b qs e=>?_⟩
   ·rw[at2 (nN n) (UV (UT (Heap.lt_size e) hge))]
    exact n
   ·by_cases hbp:b=P
    ·subst hbp
     exact⟨_,Heap.get?_push_of_some _ htb⟩
    ·exact⟨o,k2 b o hbp e⟩
   ·rw[at2 (ne_of e eP (by intro z;cases z)) (kaj e hc0)]
    exact e
   ·rw[at2 (ne_of e eP (by intro z;cases z)) (kaj e hc0)]
    exact e
   ·by_cases hbp:b=P
    ·subst hbp
     rw[eP] at e
     cases e
     exact⟨_,eP2⟩
    ·refine⟨#[],?_⟩
     rw[at2 hbp (kaj e hc0),e]
     simp
  have hok2:HOk X.prog X.w H2 (h'.push ob):=fun b u e=>by
   by_cases hbp:b=P
   ·subst hbp
    rw[eP2] at e
    cases e
    exact(show(h'.push ob).get? b=some _ from Heap.get?_push_of_some _ htb)
   ·by_cases hbc:b=c'
    ·subst hbc
     rw[ec2] at e
     cases e
     obtain⟨cc,oc,vs,t,e1,e2,e3,e4⟩:=hrec
     cases e1
     refine(show ObjOk X.prog X.w H2 (h'.push ob) b (CodeO b lamQ) from⟨⟨b,oc,vs,t,rfl,Heap.get?_push_of_some _ e2,e3,e4⟩,⟨oc,Heap.get?_push_of_some _ e2⟩,fun h1 h2 q k=>?_⟩)
     obtain⟨c3,o3,vs3,t3,z1,z2,z3,z4⟩:=q
     cases z1
     exact⟨b,o3,vs3,t3,rfl,k _ z2,z3,z4⟩
    ·rw[at2 hbp hbc] at e
     have nown:∀d y,H d=some (.own y)→d≠P∧d≠c':=fun d y r=>⟨ne_of r eP (by intro z;cases z),kaj r hc0⟩
     refine(I.hok b u e).stay (fun d v hd r=>k2 d v ?_ r) (fun d r=>by rw[at2 (nown d b r).1 (nown d b r).2];exact r) fun d xs r=>by rw[at2 (ne_of r eP (by intro z;cases z)) (kaj r hc0)];exact r
     rcases hd with rfl|hd
     ·exact hbp
     ·exact(nown d b hd).1
  subst hob
  refine h _ H2 h'.objs.size c' _ ctv (I.un (t':=tk) un hok2) ⟨fun b o hbp e=>by rw[at2 hbp (kaj e hc0)];exact e,_,eP2,?_,fun pos d ed=>?_⟩ (Heap.get?_push_size _ rfl) ff (Uy hge (UH hlt)) fresh2 ec2
  ·have:=TriplesOk_snoc lpos.line lpos.col (.ref c') ps.toList ht
   simpa using this
  ·have ed':codeAmong pos (ps.toList++[rawInt lpos.line,rawInt lpos.col, .ref c'])=some d:=by simpa using ed
   rcases ki7 ps.toList ht ed' with z|z
   ·obtain⟨d',rfl,ed2⟩:=hor pos d z
    exact⟨d',rfl,by rw[at2 (ne_of ed2 eP (by intro z;cases z)) (kaj ed2 hc0)];exact ed2⟩
   ·exact⟨c',z,ec2⟩
 |some cv=>
  have hf:=hor'
  obtain⟨c',rfl,ec'⟩:=hor lpos cv hf
  refine PySem.W.kla_makeFunctionHit (mg:=X.mg) (kcx S.S I) I.ok.glob hg hcode CH hP ht hf hb fun ctv h' tk hk hsz=>?_
  have k2:∀b o,s.heap.get? b=some o→(h'.push (Nu "<lambda>" lamQ params body scope (closL X.env.cells scope.names []) ((X.mg "__name__").getD .none) c' ctv)).get? b=some o:=fun b o e=>Heap.get?_push_of_some _ (hk b o e)
  exact h _ H h'.objs.size c' _ ctv (I.kept (t':=tk) k2) ⟨fun b o _ e=>e,ps,eP,ht,hor⟩ (Heap.get?_push_size _ rfl) (I.hok.fresh hsz) hsz (fun b h1 _=>I.hok.fresh h1) ec'
end
end L2
namespace L2
open PySem PySem.Spec PyProof.Rows
theorem kdE:∀{ns:List Int} {us:List Value},Vals (ns.map V.int) us→IntsAre us ns
 |[],_, .nil=>.nil
 |n::ns,_, .cons h t=>by
  obtain⟨tk,rfl⟩:=h
  exact .cons n tk (kdE t)
theorem kdC:∀{us:List Value} {ns:List Int},IntsAre us ns→Vals (ns.map V.int) us
 |_,_, .nil=>.nil
 |_,_, .cons n t h=>.cons ⟨t,rfl⟩ (kdC h)
theorem kje{ns:List Int}{key:Int→Int}{keys:Array Value}{us:List Value}{out:Array Value}(hu:IntsAre us ns)(hk:IntsAre keys.toList (ns.map key))(hl:keys.size=us.length)(h:Stb.Rows keys us out):
  ∃ms:List Int,IntsAre out.toList ms∧ms.Perm ns∧ms.Pairwise fun a b=>key a<key b∨(key a=key b∧a<b):=by
 obtain⟨xs,hp,hup,rfl⟩:=h
 have pl:xs.toList.Perm (keys.toList.zip us):=by
  rw[←ksk_zip]
  exact Array.perm_iff_toList_perm.mp hp
 have mem:∀p∈keys.toList.zip us,p.2∈us∧numOf p.1=key (numOf p.2):=fun p hp=>by
  obtain⟨i,hi,rfl⟩:=List.mem_iff_getElem.mp hp
  have l1:i<keys.toList.length:=by
   rw[List.length_zip] at hi
   omega
  have l2:i<us.length:=by
   rw[List.length_zip] at hi
   omega
  rw[List.getElem_zip]
  refine⟨List.getElem_mem l2,?_⟩
  have e1:(keys.toList.map numOf)[i]?=(ns.map key)[i]?:=by rw[hk.nums]
  have e2:(us.map numOf)[i]?=ns[i]?:=by rw[hu.nums]
  rw[UF,Jw l1,UF] at e1
  rw[UF,Jw l2] at e2
  rw[←e2] at e1
  exact Option.some.inj e1
 have memx:∀p∈xs.toList,p.2∈us∧numOf p.1=key (numOf p.2):=fun p hp=>mem p (pl.mem_iff.mp hp)
 refine⟨xs.toList.map fun p=>numOf p.2,?_,?_,?_⟩
 ·have e:(xs.map (·.2)).toList=xs.toList.map (·.2):=by simp
  rw[e]
  have:=intsAre_map (xs.toList.map (·.2)) fun v hv=>by
   obtain⟨p,hp',rfl⟩:=UR.mp hv
   exact hu.all _ (memx p hp').1
  rw[UU] at this
  exact this
 ·have h1:=pl.map (fun p:Keyed=>numOf p.2)
  have e2:(keys.toList.zip us).map (fun p:Keyed=>numOf p.2)=ns:=by
   have e3:(keys.toList.zip us).map (fun p:Keyed=>numOf p.2)=((keys.toList.zip us).map Prod.snd).map numOf:=by rw[UU];rfl
   rw[e3,List.map_snd_zip (by have e:=JJ (xs:=keys);omega),hu.nums]
  rw[e2] at h1
  exact h1
 ·rw[JM]
  intro i j hi hj hij
  have hi':i<xs.size:=by simpa using hi
  have hj':j<xs.size:=by simpa using hj
  have q:=hup i j hij hj'
  have ki:=(memx xs[i] (by simp)).2
  have kj:=(memx xs[j] (by simp)).2
  unfold Stb.Lx Stb.T at q
  rw[K_eq hi',K_eq hj',NZ hi',NZ hj'] at q
  simp only[J4,Array.getElem_toList]
  rw[←ki,←kj]
  exact q
section
variable {X:Cx} {scope:Scope} {x:Str} {N:List Str} {cap:List (Option Nat)} {pins:List (Addr×Obj)} {σ:St} {H:Hp} {s1:Shared} {f:Addr} {fo:Obj}
noncomputable def Held(X:Cx)(pins:List (Addr×Obj))(σ:St)(H:Hp)(n0:Nat)(f:Addr)(fo:Obj)(s:Shared):Prop:=Inv X pins σ H s∧n0≤s.heap.objs.size∧s.heap.get? f=some fo
theorem kkZ(I:Inv X pins σ H s1)(hf:f<s1.heap.objs.size):Stb.SJ (Held X pins σ H s1.heap.objs.size f fo) s1.heap.objs.size where
 sz:=fun s h=>h.2.1
 push:=fun s c xs n h=>⟨h.1.kept (t':=s.toks) fun b o e=>Heap.get?_push_of_some _ e,Uy h.2.1 (by rw[Heap.size_push];exact Jv _),Heap.get?_push_of_some _ h.2.2⟩
 upd:=fun s b g h hb=>by
  obtain⟨q1,q2,q3,q4,q5,q6⟩:=I.fpOk hb (I.hok.fresh hb)
  have sb:=Heap.SameBut.update s.heap b (Obj.mapSeq g)
  exact⟨h.1.turned (t':=s.toks) (it:=b) (fun d o hd e=>(sb.2 d hd).trans e) q1 q2 q4 q5 q6,by rw[Heap.size_update];exact h.2.1,(sb.2 f (UV (UT hf hb))).trans h.2.2⟩
noncomputable def kjc(K:Uv)(P:Addr)(tl:TE)(cap:List (Option Nat))(te:TE):TE:=fun σ H Q=>tl σ H fun v H1=>∃(a:Addr) (ns:List Int) (key:Int→Int),v=.ref a∧SqL K H1 a (ns.map V.int)∧ns.length<64∧ns.Pairwise (· < ·)∧TbAt P H1∧a≠P∧
 (∀H2,Grew P H1 H2→∀n∈ns,te (some (.int n)::capσ cap σ) H2 fun v H3=>v=.int (key n)∧H3=H2)∧
 ∀(H2:Hp) (l:Addr) (ms:List Int),Grew P H1 H2→H1 l=none→H2 l=none→ms.Perm ns→(ms.Pairwise fun a b=>key a<key b∨(key a=key b∧a<b))→Q (.ref l) (upd H2 l (.lst (ms.map V.int)))
theorem ke4:bootBuiltins "sorted"=some (.builtin "sorted"):=by decide +kernel
theorem Grew.seq{K:Uv}{P:Addr}{H H':Hp}{a:Addr}{xs:List V}(g:Grew P H H')(ha:a≠P)(h:SqL K H a xs):SqL K H' a xs:=by
 rcases h with(h|⟨o,h⟩)|h
 ·exact .inl (.inl (g.kp _ _ ha h))
 ·exact .inl (.inr ⟨o,g.kp _ _ ha h⟩)
 ·exact .inr h
theorem khf{l:Expr}{tl te:TE}{c0 P:Addr}{params:Arguments}{body:Expr}{lpos p pos kpos:Pos}(hl:PE X l tl)(S:kc1 X scope x N cap)(hc:X.calm=true)(hdp:X.A.depth<recursionLimit)(hcode:X.env.code=.ref c0)(CK:CodeK X.K c0 P)(hB:BltM X.mg X.base)
  (hg:Gl X "sorted") (hm:X.mg "sorted"=none) (hbind:∀(cl:List (Str×Addr)) (pm:Value) (c:Addr) (ctv u:Value),bindArgs (PySem.W.kla_fn "<lambda>" lamQ params body scope cl pm (.ref c) ctv) ⟨[u],[]⟩=pure [(x,u)])
  (he:∀A f c s H,PE (cxL X A scope N lamQ f c s H) body te) (hq:X.env.qual++ "<lambda>"=lamQ) (hdef:defaultsOf params X.env=([],[]):=by rfl) (s1:starEach [l] X.env=[(false,eval l X.env)]:=by rfl):
  PE X (.Call (.Name "sorted" p) [l] [⟨some "key", .Lambda params body scope lpos,kpos⟩] pos) (kjc X.K P tl cap te):=by
 intro pins s σ H Q I h
 refine wpAny_Call_Name_kw (kcs I hg hm ke4 ?_ (by decide) (by decide))
 refine callWith_kw ?_ (by rw[s1];rfl) (by rw[s1];rfl)
 rw[s1]
 refine Calls.spliced_cons (thn (hl pins s σ H _ I h) fun u s3 ⟨v,H1,I1,r1,a,ns,key,ev,hS,h64,hup,TB,haP,hte,q⟩=>Calls.spliced_nil ?_)
 subst ev
 cases r1
 show wpAny _ _ (evalAll ((do let v ←eval (.Lambda params body scope lpos) X.env;standAt pos;pure v):: [])) _ _ s3
 refine wpAny_evalAll_cons (wpAny_bind (kjz S I1 hcode CK hB TB hq hdef fun s4 H4 lf c pm ctv I4 G ef ff hsf hfr ec=>wpAny_bind (wpAny_standAt (wpAny_pure (wpAny_evalAll_nil ?_)))))
 show wpAny _ _ (call (.builtin "sorted") [.ref a] [(Str.ofString "key", .ref lf)]) _ _ s4
 obtain⟨its,rv,pl,hz⟩:=I4.list (G.seq haP hS)
 have hi:=kdE rv
 have lu:=hi.length
 have lf4:lf<s4.heap.objs.size:=Heap.lt_size ef
 have rising:∀(i j:Nat) (y z:Value),i<j→its[i]?=some y→its[j]?=some z→numOf y<numOf z:=fun i j y z hij ey ez=>by
  have e1:ns[i]?=some (numOf y):=by rw[←hi.nums,UF,ey];rfl
  have e2:ns[j]?=some (numOf z):=by rw[←hi.nums,UF,ez];rfl
  obtain⟨l1,q1⟩:=UG.mp e1
  obtain⟨l2,q2⟩:=UG.mp e2
  have:=JM.mp hup i j l1 l2 hij
  rw[q1,q2] at this
  exact this
 refine Stb.sortedK (kz:=ns.map key) (J:=Held X pins σ H4 s4.heap.objs.size lf _) (kkZ I4 lf4) ⟨I4,Uw _,ef⟩ pl.isList (by rw[Uu,lu]) (by omega) rising (fun i v k ev ek s5 hJ=>?_) fun s5 D keys out cc hD hJ eD hk hkl hR=>?_
 ·have en:ns[i]?=some (numOf v):=by rw[←hi.nums,UF,ev];rfl
  have ek':k=key (numOf v):=by
   rw[UF,en] at ek
   exact(Option.some.inj ek).symm
  subst ek'
  obtain⟨n,t,rfl⟩:=hi.all v (UE ev)
  have hcr:s5.heap.CodeRec (.ref c) lamQ:=(show ObjOk X.prog X.w H4 s5.heap c (CodeO c lamQ) from hJ.1.hok c _ ec).1
  refine wpAny_mono (kjA (A:=X.A.in1.in1) (v:=.int n) (u:=.int n t) S hJ.1 I.ok.frames (I.ok.hd hc) hdp hJ.2.2 hcr (hbind _ _ _ _ _) ⟨t,rfl⟩ (he _ _ _ _ _) (hte H4 G n (UE en))) (fun w' s6 hw=>?_) fun _ _ z=>z
  obtain⟨v',H6,I6,rv',⟨e1,e2⟩,un,sz6⟩:=hw
  subst e1 e2
  have nst:∀b,s3.heap.objs.size≤b→b∉frs X.stack:=fun b hb z=>absurd (khH I1 z) (Nat.not_lt.mpr hb)
  have s34:s3.heap.objs.size≤s4.heap.objs.size:=UH (Jr hsf lf4)
  have kp:∀b o,s3.heap.objs.size≤b→H6 b=none→s5.heap.get? b=some o→s6.heap.get? b=some o:=fun b o hb hn e=>un.keep b o e hn (nst b hb) (by simp)
  refine⟨rv',⟨I6,?_,kp lf _ hsf ff hJ.2.2⟩,fun b o hb e=>kp b o (Uy s34 hb) (I4.hok.fresh hb) e⟩
  exact Uy hJ.2.1 sz6
 ·obtain⟨ms,m1,m2,m3⟩:=kje hi hk (by omega) hR
  have hn:H4 D=none:=I4.hok.fresh hD
  have fp:=I4.fpOk hD hn
  have h10:H1 D=none:=I1.hok.fresh (Uy (UH (Jr hsf lf4)) hD)
  have vm:=kdC m1
  have lz:(ms.map V.int).length≤sizeLine:=by
   rw[Uu,m2.length_eq,sizeLine_eq]
   omega
  refine⟨.ref D,_,hJ.1.adopt (a:=D) (o:=.lst (ms.map V.int)) fp ?_ ?_,rfl,q H4 D ms G h10 hn m2 m3⟩
  ·exact Uy I4.sz hD
  ·exact(show ObjOk X.prog X.w _ s5.heap D (.lst (ms.map V.int)) from⟨lz,out.toList,cc,vm,by simpa using eD⟩)
end
end L2
namespace L2
open PySem PySem.W PyProof.Rows
section
variable {X:Cx}
noncomputable def klg:V→List V→Hp→VK→Prop:=fun x vs H Q=>∃(l:Addr) (ns:List Int) (k:Int),x=.ref l∧vs=[.int k]∧H l=some (.lst (ns.map V.int))∧Q (.int (ns.count k:Nat)) H
theorem kd7:∀{ns:List Int} {us:List Value} (k:Int),Vals (ns.map V.int) us→us.countP (isI k)=ns.count k
 |[],_,_, .nil=>rfl
 |m::ns,_::us,k, .cons r t=>by
  obtain⟨tk,rfl⟩:=r
  rw[List.countP_cons,Nw,kd7 k t]
  rfl
theorem kjv:MtM X "list.count" klg:=by
 intro pins s σ H x vs v us Q I rx rv h
 obtain⟨l,ns,k,rfl,rfl,hH,q⟩:=h
 cases rx
 obtain⟨u,rfl,ru⟩:=rv.one
 obtain⟨t,rfl⟩:=ru
 obtain⟨z,its,n,r,hl,e⟩:=I.lstM hH
 refine call_meets F.slot_list_count ⟨_,e,rfl⟩ F.entry_list_count (F.args_list_count_2 _ _)
  (MeetsSeq.list_count l its.toArray n (.int k t) (isI k) (fun y hy=>?_)) ⟨e,?_⟩
 ·obtain⟨j,hj',rfl⟩:=Array.mem_iff_getElem.mp hy
  have hjl:j<its.length:=by simpa using hj'
  have hln:its.length=ns.length:=by rw[←hl,Uu]
  obtain⟨tk,et⟩:=kfC r j ns[j] (by simp)
  obtain⟨_,e'⟩:=UG.mp et
  have e2:its.toArray[j]=.int ns[j] tk:=by simpa using e'
  rw[e2]
  exact MeetsSeq.EqGives.int _ k tk t
 ·refine⟨.int (ns.count k:Nat),H,I.tok _,⟨s.toks,?_⟩,q⟩
  rw[List.toList_toArray,kd7 k r]
end
end L2
namespace L2
open PySem PySem.W PyProof.Rows
section
variable {X:Cx} {pins:List (Addr×Obj)} {σ:St} {H:Hp} {s:Shared} {A:Around} {E:Value→Shared→Prop} {Q:Value→Shared→Prop}
theorem kkW{x:V}{u t:Value}{tp:Addr}{cs:List Value}{b:Bool}(I:Inv X pins σ H s)(rx:RelV x u)(ty:TyOf X.K H x t)(ht:IsTup s.heap tp cs.toArray)(e:PySem.W.kitAny X.K t cs=some b)
  (h:∀tk,Q (.bool b) {s with toks:=tk}) (hx:∀a,x=.ref a→(∃xs,H a=some (.lst xs))∨∃xs,H a=some (.tup xs)):wpAny (model X.prog X.w) A (call (.builtin "isinstance") [u, .ref tp]) Q E s:=by
 obtain⟨⟨oc,od,dt,sl⟩,ho,hc,n,hd⟩:=ht
 have hc':oc=.type "tuple":=hc
 have hd':dt=.seq cs.toArray n:=hd
 subst hc' hd'
 cases ty with
 |non=>
  cases(show u=Value.none from rx)
  exact kia_tup kitx_none I.kIn True.intro ho e (by intro z;cases z) h
 |bl y=>
  cases(show u=Value.bool y from rx)
  exact kia_tup kitx_bool I.kIn True.intro ho e (by intro z;cases z) h
 |int i=>
  obtain⟨t,q⟩:=(show ∃t,u=Value.int i t from rx)
  cases q
  exact kia_tup kitx_int I.kIn True.intro ho e (by intro z;cases z) h
 |str y=>
  obtain⟨t,q⟩:=(show ∃t,u=Value.str y t from rx)
  cases q
  exact kia_tup kitx_str I.kIn True.intro ho e (by intro z;cases z) h
 |flt y=>
  obtain⟨t,q⟩:=(show ∃t,u=Value.float y t from rx)
  cases q
  exact kia_tup kitx_float I.kIn True.intro ho e (by intro z;cases z) h
 | @lst a xs ea=>
  cases(show u=Value.ref a from rx)
  have ok:ObjOk X.prog X.w H s.heap a (.lst xs):=I.hok a _ ea
  obtain⟨_,_,m,_,h1⟩:=ok
  exact kia_tup kitx_list I.kIn ⟨_,h1,rfl⟩ ho e (by intro z;cases z) h
 | @tup a xs ea=>
  cases(show u=Value.ref a from rx)
  have ok:ObjOk X.prog X.w H s.heap a (.tup xs):=I.hok a _ ea
  obtain⟨_,_,_,o,h1,h2,_⟩:=ok
  exact kia_tup kitx_tuple I.kIn ⟨o,h1,h2⟩ ho e (by intro z;cases z) h
 | @frz a o xs ea=>rcases hx a rfl with⟨ys,z⟩|⟨ys,z⟩ <;> rw[ea] at z <;> cases z
 | @dK a o ea=>rcases hx a rfl with⟨ys,z⟩|⟨ys,z⟩ <;> rw[ea] at z <;> cases z
 | @dT a o ea=>rcases hx a rfl with⟨ys,z⟩|⟨ys,z⟩ <;> rw[ea] at z <;> cases z
 | @ins a C dx fs ea=>rcases hx a rfl with⟨ys,z⟩|⟨ys,z⟩ <;> rw[ea] at z <;> cases z
theorem kbQ{K:Uv}{n m:String}(e:(Value.type n==Value.type m)=false)(hk:kitMeta m=true)(hf:(fastBuiltinMro n).map (·.contains (Value.type m))=some false):kitOne K (.type n) (.type m)=some false:=by
 unfold kitOne kitCls subIn
 rw[e,if_neg UA]
 show(if kitMeta m=true then _ else _)=_
 rw[if_pos hk]
 exact hf
theorem kg7{K:Uv}{t c c':Value}(h1:kitOne K t c=some false)(h2:kitOne K t c'=some false):kitAny K t [c,c']=some false:=by simp only[kitAny,h1,h2]
theorem any_t{K:Uv}{t c c':Value}(h1:kitOne K t c=some true):kitAny K t [c,c']=some true:=by simp only[kitAny,h1]
theorem klB{K:Uv}{t c c':Value}(h1:kitOne K t c=some false)(h2:kitOne K t c'=some true):kitAny K t [c,c']=some true:=by simp only[kitAny,h1,h2]
noncomputable def isSeq:Value→Bool
 | .type n=>n== "list" ||n== "tuple"
 |_=>false
noncomputable def kka(K:Uv):List V→Hp→VK→Prop:=fun xs H Q=>∃(x:V) (tp:Addr) (t:Value),xs=[x, .ref tp]∧SqT K H tp [.ty "list", .ty "tuple"]∧TyOf K H x t∧(t=.type "NoneType"∨t=.type "bool"∨t=.type "int"∨t=.type "str"∨t=.type "list"∨t=.type "tuple")∧
  (∀a,x=.ref a→(∃xs,H a=some (.lst xs))∨∃xs,H a=some (.tup xs))∧Q (.bl (isSeq t)) H
theorem kht:CallR X (.builtin "isinstance") (kka X.K):=by
 intro pins s σ H xs us Q I r h
 obtain⟨x,tp,t,rfl,ht,ty,hor,hx,q⟩:=h
 obtain⟨u,w',rfl,r1,r2⟩:=vals2 r
 cases(show w'=Value.ref tp from r2)
 obtain⟨its,rv,pl,hz⟩:=I.tuple ht
 obtain⟨u1,u2,rfl,ra,rb⟩:=vals2 rv
 cases(show u1=Value.type "list" from ra)
 cases(show u2=Value.type "tuple" from rb)
 refine kkW I r1 ty pl (b:=isSeq t) ?_ (fun tk=>⟨.bl _,H,I.tok tk,rfl,q⟩) hx
 rcases hor with rfl|rfl|rfl|rfl|rfl|rfl
 ·exact kg7 (kbQ (by decide +kernel) (by decide +kernel) (by decide +kernel)) (kbQ (by decide +kernel) (by decide +kernel) (by decide +kernel))
 ·exact kg7 (kbQ (by decide +kernel) (by decide +kernel) (by decide +kernel)) (kbQ (by decide +kernel) (by decide +kernel) (by decide +kernel))
 ·exact kg7 (kbQ (by decide +kernel) (by decide +kernel) (by decide +kernel)) (kbQ (by decide +kernel) (by decide +kernel) (by decide +kernel))
 ·exact kg7 (kbQ (by decide +kernel) (by decide +kernel) (by decide +kernel)) (kbQ (by decide +kernel) (by decide +kernel) (by decide +kernel))
 ·exact any_t (kaW _ _)
 ·exact klB (kbQ (by decide +kernel) (by decide +kernel) (by decide +kernel)) (kaW _ _)
noncomputable def kj9(K:Uv):List V→Hp→VK→Prop:=fun xs H Q=>∃(a:Addr) (ns:List Int),xs=[.ref a]∧SqL K H a (ns.map V.int)∧ns.length<64∧∀(D:Addr) (ms:List Int),H D=none→ms.Perm ns→ms.Pairwise (·≤·)→Q (.ref D) (upd H D (.lst (ms.map V.int)))
theorem kfL:CallR X (.builtin "sorted") (kj9 X.K):=by
 intro pins s σ H xs us Q I r h
 obtain⟨a,ns,rfl,hS,h64,q⟩:=h
 obtain⟨u,rfl,rx⟩:=vals1 r
 cases rx
 obtain⟨its,rv,pl,hz⟩:=I.list hS
 have hi:=kdE rv
 have lu:=hi.length
 refine sorted_ints pl.isList hi (by omega) fun out ms h1 h2 h3=>?_
 obtain⟨e,he⟩:=sortedAll_at s.heap its out
 have hn:H (s.heap.objs.size+1)=none:=I.hok.fresh (Jv _)
 have lz:(ms.map V.int).length≤sizeLine:=by
  rw[Uu,h2.length_eq,sizeLine_eq]
  omega
 exact⟨.ref (s.heap.objs.size+1),_,I.laid (t':=s.toks) (fun b o z=>sortedAll_old z) (Jv _) (show ObjOk X.prog X.w (upd H (s.heap.objs.size+1) (.lst (ms.map V.int))) (sortedAll s.heap its out) (s.heap.objs.size+1) (.lst (ms.map V.int)) from⟨lz,out.toList,e,kdC h1,by simpa using he⟩),rfl,q _ ms hn h2 h3⟩
theorem kk4{l:Addr}{vs:List Value}{prog:Program}{w:World}{R:List Value→Shared→Prop}(ht:IsTup s.heap l vs.toArray)(hz:vs.length≤sizeLine)
  (k:R vs {s with heap:=(s.heap.push (seqObj "list" #[] 0)).update s.heap.objs.size (Obj.mapSeq (· ++vs.toArray))}):wpAny (model prog w) A (collect (.ref l)) R E s:=by
 obtain⟨o,g1,g2,n,g3⟩:=ht
 have g4:(s.heap.push (seqObj "list" #[] 0)).get? l=some o:=Heap.get?_push_of_some _ g1
 have z1:(s.heap.push (seqObj "list" #[] 0)).get? s.heap.objs.size=some (seqObj "list" #[] 0):=Heap.get?_push_size _ rfl
 unfold collect
 refine wpAny_bind (wpAny_runValue (codeAny_builtin entry_proto_collect' (show wpAny _ _ (do again (.builtin "list.__iadd__" ⟨[←newList [], .ref l],[]⟩)) _ _ s from
  wpAny_bind (wpAny_newList (wpAny_pure ⟨Code.quiet_builtin _ (by decide +kernel),codeAny_builtin entry_list_iadd' (show wpAny _ _ (Builtin.List.listExtendWith (.ref s.heap.objs.size) (.ref l) (.ref s.heap.objs.size)) _ _ _ from ?_)⟩)))))
 unfold Builtin.List.listExtendWith
 refine wpAny_bind (wpAny_typeOf (T:="tuple") ⟨o,g4,g2⟩ (?_:wpAny _ _ _ _ _ _))
 rw[if_pos (by rw[show(Value.type "tuple" ==Value.type "tuple")=true by rfl];simp)]
 refine wpAny_bind (listItems_at g4 g3 (wpAny_bind (listItems_at (xs:=#[]) (n:=0) z1 rfl (?_:wpAny _ _ _ _ _ _))))
 rw[if_neg (by simp)]
 have fit:(#[]++vs.toArray).size≤sizeLine+1:=by simp only[Array.size_append,UN,List.length_nil];omega
 refine wpAny_bind (listUpdate_at (xs:=#[]) (n:=0) z1 rfl (wpAny_pure (?_:wpAny _ _ _ _ _ _)) (U1 _) fit)
 refine wpAny_bind (wpAny_load (get?_update_seq z1 _) (?_:wpAny _ _ _ _ _ _))
 show wpAny _ _ (pure ((#[]:Array Value)++vs.toArray).toList) R E _
 rw[show((#[]:Array Value)++vs.toArray).toList=vs by simp]
 exact wpAny_pure k
theorem kkB{l:Addr}{vs:List Value}{ns:List Int}{prog:Program}{w:World}{R:Value→Shared→Prop}(ht:IsTup s.heap l vs.toArray)(hi:IntsAre vs ns)(h64:vs.length<64)
  (k:∀(out:Array Value) (ms:List Int),IntsAre out.toList ms→ms.Perm ns→ms.Pairwise (·≤·)→R (.ref (s.heap.objs.size+1)) {s with heap:=sortedAll s.heap vs out}):wpAny (model prog w) A (call (.builtin "sorted") [.ref l]) R E s:=by
 have hz:vs.length≤sizeLine:=by rw[sizeLine_eq];omega
 refine Calls.call_function_entry kind_sorted plain_sorted entry_sorted (args_sorted1 _) (?_:wpAny _ _ _ _ _ _)
 unfold Builtin.«sorted»
 refine wpAny_bind (m:=checkCount "sorted" 1 1 _) (wpAny_pure (wpAny_bind (kk4 ht hz (wpAny_bind (wpAny_newList (?_:wpAny _ _ _ _ _ _))))))
 have z1:((s.heap.push (seqObj "list" #[] 0)).update s.heap.objs.size (Obj.mapSeq (· ++vs.toArray))).objs.size=s.heap.objs.size+1:=by rw[Heap.size_update,size_push']
 have z2:=Heap.get?_push_size ((s.heap.push (seqObj "list" #[] 0)).update s.heap.objs.size (Obj.mapSeq (· ++vs.toArray))) (o:=seqObj "list" vs.toArray 0) rfl
 rw[z1] at z2
 show wpAny _ _ _ _ _ {s with heap:=((s.heap.push (seqObj "list" #[] 0)).update s.heap.objs.size (Obj.mapSeq (· ++vs.toArray))).push (seqObj "list" vs.toArray 0),toks:=_}
 rw[z1]
 exact wpAny_bind (wpAny_holding (wpAny_call_entry slot_list_sort ⟨_,z2,rfl⟩ entry_list_sort (list_sort_tree z2 hi h64 fun out ms a1 a2 a3=>⟨_,rfl,wpAny_pure ⟨_,rfl,k out ms a1 a2 a3⟩⟩) (args_list_sort _)))
noncomputable def kj8(K:Uv):List V→Hp→VK→Prop:=fun xs H Q=>∃(a:Addr) (ns:List Int),xs=[.ref a]∧SqT K H a (ns.map V.int)∧ns.length<64∧∀(D:Addr) (ms:List Int),H D=none→ms.Perm ns→ms.Pairwise (·≤·)→Q (.ref D) (upd H D (.lst (ms.map V.int)))
theorem kfK:CallR X (.builtin "sorted") (kj8 X.K):=by
 intro pins s σ H xs us Q I r h
 obtain⟨a,ns,rfl,hS,h64,q⟩:=h
 obtain⟨u,rfl,rx⟩:=vals1 r
 cases rx
 obtain⟨its,rv,pl,hz⟩:=I.tuple hS
 have hi:=kdE rv
 have lu:=hi.length
 refine kkB pl hi (by omega) fun out ms h1 h2 h3=>?_
 obtain⟨e,he⟩:=sortedAll_at s.heap its out
 have hn:H (s.heap.objs.size+1)=none:=I.hok.fresh (Jv _)
 have lz:(ms.map V.int).length≤sizeLine:=by
  rw[Uu,h2.length_eq,sizeLine_eq]
  omega
 exact⟨.ref (s.heap.objs.size+1),_,I.laid (t':=s.toks) (fun b o z=>sortedAll_old z) (Jv _) (show ObjOk X.prog X.w (upd H (s.heap.objs.size+1) (.lst (ms.map V.int))) (sortedAll s.heap its out) (s.heap.objs.size+1) (.lst (ms.map V.int)) from⟨lz,out.toList,e,kdC h1,by simpa using he⟩),rfl,q _ ms hn h2 h3⟩
noncomputable def rowV(H:Hp):V→List V
 | .ref b=>match H b with
  |some (.lst zs)=>zs
  |some (.tup zs)=>zs
  |_=>[]
 |_=>[]
theorem kgI{H:Hp}{b:Addr}{zs:List V}(h:H b=some (.lst zs)):rowV H (.ref b)=zs:=by simp only[rowV,h]
theorem kgH{H:Hp}{b:Addr}{zs:List V}(h:H b=some (.tup zs)):rowV H (.ref b)=zs:=by simp only[rowV,h]
noncomputable def rowU(H:Hp)(xs:List V):Value→Bool
 | .ref b=>eqVs (rowV H (.ref b)) xs
 |_=>false
theorem kiK{pins:List (Addr×Obj)}{σ:St}{H:Hp}{s:Shared}(I:Inv X pins σ H s){A:Around}{a b:Addr}{xs zs:List V}(hu:A.units<cLine)
  (h:(H b=some (.lst zs)∧H a=some (.lst xs))∨(H b=some (.tup zs)∧H a=some (.tup xs))) (hl:zs.length=xs.length) (fz:zs.all flatV=true) (fx:xs.all flatV=true):SeqAt.EqAt A s (.ref b) (.ref a) (eqVs zs xs):=by
 by_cases e:b=a
 ·subst e
  have ez:zs=xs:=by
   rcases h with⟨h1,h2⟩|⟨h1,h2⟩
   ·rw[h1] at h2;cases h2;rfl
   ·rw[h1] at h2;cases h2;rfl
  rw[ez,kfG fx]
  exact SeqAt.EqAt.same _
 rcases h with⟨h1,h2⟩|⟨h1,h2⟩
 ·obtain⟨us,q1,p1,z1⟩:=I.list (SqL.of h1)
  obtain⟨ws,q2,p2,z2⟩:=I.list (SqL.of h2)
  have l1:=q1.length
  have l2:=q2.length
  have key:=SeqAt.RcAt.lists (A:=A) p1.isList p2.isList (by simp;omega) hu (kiL q1 q2 fz fx)
  rw[show us.toArray.size=zs.length by simp[l1],kc7 zs xs hl] at key
  exact SeqAt.EqAt.of_refs e key
 ·obtain⟨us,q1,p1,z1⟩:=I.tuple (SqT.of h1)
  obtain⟨ws,q2,p2,z2⟩:=I.tuple (SqT.of h2)
  have l1:=q1.length
  have l2:=q2.length
  have key:=SeqAt.RcAt.tuples (A:=A) p1 p2 hu (kiL q1 q2 fz fx)
  rw[show min us.toArray.size ws.toArray.size=zs.length by simp;omega,show(us.toArray.size==ws.toArray.size)=true by simp;omega,Nq,kc7 zs xs hl] at key
  exact SeqAt.EqAt.of_refs e key
noncomputable def rInR:R2:=fun x y H Q=>∃(a p:Addr) (xs:List V) (bs:List Addr),x=.ref a∧y=.ref p∧H p=some (.lst (bs.map V.ref))∧xs.all flatV=true∧(∀b∈bs,∃zs,((H b=some (.lst zs)∧H a=some (.lst xs))∨(H b=some (.tup zs)∧H a=some (.tup xs)))∧zs.length=xs.length∧zs.all flatV=true)∧
 Q (.bl (bs.any fun b=>eqVs (rowV H (.ref b)) xs)) H
theorem kkf(hu:X.A.units+1<cLine):OpR X (compareOp .In) rInR:=by
 intro pins s σ H x y v u Q I rx ry h
 obtain⟨a,p,xs,bs,rfl,rfl,hp,fx,hb,q⟩:=h
 cases rx
 cases ry
 obtain⟨its,r,pl,hz⟩:=I.list (SqL.of hp)
 have hit:∀(bs:List Addr) (its:List Value),Vals (bs.map V.ref) its→its=bs.map Value.ref:=by
  intro bs
  induction bs with
  |nil=>intro its r;cases r;rfl
  | cons b bs ih=>
   intro its r
   cases r with
   |cons r1 r2=>
    cases r1
    rw[ih _ r2]
    rfl
 have ei:=hit bs its r
 subst ei
 refine SeqAt.in_listAt (rowU H xs) pl.isList (fun w hw=>?_) ⟨.bl _,H,I,rfl,?_⟩
 ·have hw':w∈bs.map Value.ref:=by simpa using hw
  obtain⟨b,hb',rfl⟩:=UR.mp hw'
  obtain⟨zs,h1,h2,h3⟩:=hb b hb'
  have e:rowV H (.ref b)=zs:=by
   rcases h1 with⟨h1,_⟩|⟨h1,_⟩
   ·exact kgI h1
   ·exact kgH h1
  show SeqAt.EqAt _ s (.ref b) (.ref a) (eqVs (rowV H (.ref b)) xs)
  rw[e]
  exact kiK I (by show X.A.units+1<cLine;exact hu) h1 h2 h3 fx
 ·rw[show(bs.map Value.ref).toArray.any (rowU H xs)=(bs.map Value.ref).any (rowU H xs) by simp,J6]
  exact q
end
end L2
namespace L2
open PySem PySem.W PyProof.Rows
section
variable {X:Cx}
end
end L2
namespace L2
open PySem PySem.Spec PyProof.Rows
section
variable {prog:Program} {w:World} {A:Around} {E:Value→Shared→Prop} {s:Shared}
theorem nextT{q t:Addr}{k:Nat}{vs:Array Value}{v:Value}{Q:Value→Shared→Prop}(J:IsTupIter s.heap q t k)(T:IsTup s.heap t vs)(e:vs[k]?=some v)
  (K:∀g,IsTupIter g q t (k+1)→Heap.SameBut q s.heap g→Q v {s with heap:=g}):wpAny (model prog w) A (Builtin.SmallTypes.nextOf (.ref q)) Q E s:=by
 obtain⟨c,hc,c1,c2⟩:=id J
 obtain⟨u,hu,_,nu,du⟩:=T
 unfold Builtin.SmallTypes.nextOf
 refine wpAny_bind (wpAny_callSpecial?_slot (name:=Str.ofString "__next__") J.typeIs slot_tupleiter_next (wpAny_call_entry slot_tupleiter_next J.typeIs entry_tupleiter_next ?_ (args_tupleiter_next _)))
 show wpAny _ _ (field (.ref q) 0 >>= _) _ _ s
 refine wpAny_bind (wpAny_field hc c2 (x:=.ref t) rfl ?_)
 show wpAny _ _ (if(Value.ref t==Value.none)=true then _ else _) _ _ s
 rw[if_neg (show ¬(Value.ref t==Value.none)=true from UA)]
 show wpAny _ _ (field (.ref q) 1 >>= _) _ _ s
 refine wpAny_bind (wpAny_field hc c2 (x:=.int k 0) rfl (?_:wpAny _ _ (seqItems? (.ref t) >>= _) _ _ s))
 refine wpAny_bind (wpAny_seqItems hu du ?_)
 simp only[Int.toNat_natCast,e]
 refine wpAny_bind (wpAny_setField hc c2 (by simp) (wpAny_pure ⟨v,rfl,wpAny_pure (K _ ⟨_,Heap.get?_update_self _ hc (Obj.isFreed_of_fields (Obj.data_mapFields c2 _)),(Obj.cls_mapFields ..).trans c1,?_⟩ (Heap.SameBut.update ..))⟩))
 rw[Obj.data_mapFields c2]
 simp[rawInt]
theorem kfx{q t:Addr}{k:Nat}{vs:Array Value}{Q:Value→Shared→Prop}(n:A.handled=none)(J:IsTupIter s.heap q t k)(T:IsTup s.heap t vs)(e:vs[k]?=none)
  (K:∀g x,Heap.ExtBut q s.heap g→(∃o,g.get? x=some o∧o.cls=.type "StopIteration")→E (.ref x) {s with heap:=g}):wpAny (model prog w) A (Builtin.SmallTypes.nextOf (.ref q)) Q E s:=by
 obtain⟨c,hc,c1,c2⟩:=id J
 obtain⟨u,hu,_,nu,du⟩:=T
 unfold Builtin.SmallTypes.nextOf
 refine wpAny_bind (wpAny_callSpecial?_slot (name:=Str.ofString "__next__") J.typeIs slot_tupleiter_next (wpAny_call_entry slot_tupleiter_next J.typeIs entry_tupleiter_next ?_ (args_tupleiter_next _)))
 show wpAny _ _ (field (.ref q) 0 >>= _) _ _ s
 refine wpAny_bind (wpAny_field hc c2 (x:=.ref t) rfl ?_)
 show wpAny _ _ (if(Value.ref t==Value.none)=true then _ else _) _ _ s
 rw[if_neg (show ¬(Value.ref t==Value.none)=true from UA)]
 show wpAny _ _ (field (.ref q) 1 >>= _) _ _ s
 refine wpAny_bind (wpAny_field hc c2 (x:=.int k 0) rfl (?_:wpAny _ _ (seqItems? (.ref t) >>= _) _ _ s))
 refine wpAny_bind (wpAny_seqItems hu du ?_)
 simp only[Int.toNat_natCast,e]
 refine wpAny_bind (wpAny_rule (wpAny_bind (wpAny_setField hc c2 (by simp) (?_:wpAny _ _ (newExc (.type "StopIteration") [] >>= _) _ _ _))))
 refine wpAny_bind ?_
 simp only[newExc,newTuple]
 refine wpAny_bind (wpAny_newObj_type (wpAny_bind (m:=firstArgMember _ _) (wpAny_of_eq (a:=Value.none) (by first|rfl|(simp only[firstArgMember];rfl)) (wpAny_newObj_type ?_ (by size_fits)))) (by size_fits))
 simp only[raiseNew]
 refine wpAny_bind (wpAny_handled ?_)
 first|rw[n]|rw[show A.in1.handled=none from n]
 exact wpAny_bind (wpAny_pure (wpAny_throw (K _ _ (((Heap.SameBut.update ..).extBut.push _).push _) ⟨_,Heap.get?_push_size _ rfl,rfl⟩)))
theorem zipT{Z P O a b t u:Addr}{j k:Nat}{vs ws:Array Value}{x y c e:Value}{Q:Value→Shared→Prop}(D:ZipApart Z P O a b t u)(Hz:IsZip s.heap Z P O .none)(Hi:IsPair s.heap P (.ref a) (.ref b))(Ho:IsPair s.heap O c e)
  (J:IsTupIter s.heap a t j) (L:IsTupIter s.heap b u k) (T:IsTup s.heap t vs) (U:IsTup s.heap u ws) (hx:vs[j]?=some x) (hy:ws[k]?=some y)
  (K:∀g,IsZip g Z P O (rawInt s.heap.objs.size)→IsPair g O x y→IsTupIter g a t (j+1)→IsTupIter g b u (k+1)→IsPair g s.heap.objs.size x y→
   (∀n o,n≠Z→n≠O→n≠a→n≠b→s.heap.get? n=some o→g.get? n=some o)→Q (.ref s.heap.objs.size) {s with heap:=g}):
  wpAny (model prog w) A (Builtin.«zip.__next__» ⟨[.ref Z],[]⟩) (fun f s'=>∃v,f=.done (.ret v)∧Q v s') E s:=by
 show wpAny _ _ (field (.ref Z) 2 >>= _) _ _ _
 refine wpAny_bind (wpAny_field Hz rfl (x:=.bool false) rfl (?_:wpAny _ _ (field (.ref Z) 3 >>= _) _ _ _))
 refine wpAny_bind (wpAny_field Hz rfl (x:=.ref P) rfl (wpAny_bind (wpAny_seqItems Hi rfl ?_)))
 show wpAny _ _ (Builtin.SmallTypes.ownedTupleIsFree (.ref Z) >>= _) _ _ _
 refine wpAny_bind ?_
 unfold Builtin.SmallTypes.ownedTupleIsFree
 refine wpAny_bind (wpAny_field Hz rfl (x:=.none) rfl (wpAny_pure ?_))
 simp only[if_true]
 refine wpAny_bind (wpAny_rule (wpAny_bind (wpAny_field Hz rfl (x:=.ref O) rfl (wpAny_bind (wpAny_setField_rec Hz (by simp) fun g1 (Z1:IsZip g1 Z P O .ellipsis) r1=>?_)))))
 refine wpAny_bind ?_
 simp only[J7,List.zipIdx_nil,NY,NW]
 refine wpAny_bind (wpAny_bind (wpAny_onRaise (?_:wpAny _ _ (Builtin.SmallTypes.nextOf (.ref a) >>= _) _ _ _)))
 refine wpAny_bind (nextT (J.extBut r1.extBut D.i1z) (T.extBut r1.extBut D.l1z) hx fun g2 J2 r2=>wpAny_pure ?_)
 have O2:IsPair g2 O c e:=r2.extBut _ _ D.TOi1 (r1.extBut _ _ D.TOz Ho)
 refine wpAny_bind (wpAny_seqItems O2 rfl (wpAny_bind (wpAny_updateSeq_pair O2 fun g3 (O3:IsPair g3 O x e) r3=>wpAny_bind (wpAny_letGo (wpAny_pure ?_)))))
 refine wpAny_bind (wpAny_bind (wpAny_onRaise (?_:wpAny _ _ (Builtin.SmallTypes.nextOf (.ref b) >>= _) _ _ _)))
 refine wpAny_bind (nextT (((L.extBut r1.extBut D.i2z).extBut r2.extBut D.i12.symm).extBut r3.extBut D.TOi2.symm) (((U.extBut r1.extBut D.l2z).extBut r2.extBut D.l2i1).extBut r3.extBut D.l2TO) hy fun g4 L4 r4=>wpAny_pure ?_)
 have O4:IsPair g4 O x e:=r4.extBut _ _ D.TOi2 O3
 refine wpAny_bind (wpAny_seqItems O4 rfl (wpAny_bind (wpAny_updateSeq_pair O4 fun g5 (O5:IsPair g5 O x y) r5=>wpAny_bind (wpAny_letGo (wpAny_pure (wpAny_pure ?_))))))
 refine wpAny_bind (wpAny_seqItems O5 rfl (wpAny_bind (wpAny_newTuple ?_)))
 have sz:g5.objs.size=s.heap.objs.size:=by rw[r5.1,r4.1,r3.1,r2.1,r1.1]
 have Z5:IsZip g5 Z P O .ellipsis:=r5.extBut _ _ D.TOz.symm (r4.extBut _ _ D.i2z.symm (r3.extBut _ _ D.TOz.symm (r2.extBut _ _ D.i1z.symm Z1)))
 have k5:∀n o,n≠Z→n≠O→n≠a→n≠b→s.heap.get? n=some o→g5.get? n=some o:=fun n o m1 m2 m3 m4 m5=>r5.extBut _ _ m2 (r4.extBut _ _ m4 (r3.extBut _ _ m2 (r2.extBut _ _ m3 (r1.extBut _ _ m1 m5))))
 have J5:IsTupIter g5 a t (j+1):=((J2.extBut r3.extBut D.TOi1.symm).extBut r4.extBut D.i12).extBut r5.extBut D.TOi1.symm
 have L5:IsTupIter g5 b u (k+1):=L4.extBut r5.extBut D.TOi2.symm
 have zl:Z<g5.objs.size:=Heap.lt_size Z5
 show wpAny _ _ (Builtin.SmallTypes.ownedTupleHandOut (.ref Z) (.ref g5.objs.size) >>= _) _ _ _
 refine wpAny_bind ?_
 unfold Builtin.SmallTypes.ownedTupleHandOut
 have Z6:IsZip (g5.push {cls:=.type "tuple",data:=.seq #[x,y]}) Z P O .ellipsis:=Heap.get?_push_of_some _ Z5
 refine wpAny_bind (wpAny_setField_rec Z6 (by simp) fun g7 (Z7:IsZip g7 Z P O (rawInt g5.objs.size)) r7=>?_)
 refine wpAny_setField_rec Z7 (by simp) fun g8 (Z8:IsZip g8 Z P O (rawInt g5.objs.size)) r8=>?_
 have up:∀n o,n≠Z→g5.get? n=some o→g8.get? n=some o:=fun n o m1 m2=>r8.extBut _ _ m1 (r7.extBut _ _ m1 (Heap.get?_push_of_some _ m2))
 have T8:IsPair g8 g5.objs.size x y:=r8.extBut _ _ (Je zl) (r7.extBut _ _ (Je zl) (Heap.get?_push_size _ rfl))
 rw[sz] at Z8 T8
 refine wpAny_pure ⟨_,rfl,(?_:Q (.ref g5.objs.size) _)⟩
 rw[sz]
 obtain⟨q1,w1,v1⟩:=J5
 obtain⟨q2,w2,v2⟩:=L5
 exact K g8 Z8 (up _ _ D.TOz O5) ⟨q1,up _ _ D.i1z w1,v1⟩ ⟨q2,up _ _ D.i2z w2,v2⟩ T8 fun n o m1 m2 m3 m4 m5=>up n o m1 (k5 n o m1 m2 m3 m4 m5)
theorem ki9{Z P O a b t u:Addr}{j k:Nat}{vs ws:Array Value}{c e:Value}{Q:Fin→Shared→Prop}(n0:A.handled=none)(D:ZipApart Z P O a b t u)(Hz:IsZip s.heap Z P O .none)(Hi:IsPair s.heap P (.ref a) (.ref b))(Ho:IsPair s.heap O c e)
  (J:IsTupIter s.heap a t j) (L:IsTupIter s.heap b u k) (T:IsTup s.heap t vs) (U:IsTup s.heap u ws) (hxy:vs[j]?=none∨ws[k]?=none)
  (K:∀g x,(∀n o,n≠Z→n≠O→n≠a→n≠b→s.heap.get? n=some o→g.get? n=some o)→(∃o,g.get? x=some o∧o.cls=.type "StopIteration")→E (.ref x) {s with heap:=g}):
  wpAny (model prog w) A (Builtin.«zip.__next__» ⟨[.ref Z],[]⟩) Q E s:=by
 show wpAny _ _ (field (.ref Z) 2 >>= _) _ _ _
 refine wpAny_bind (wpAny_field Hz rfl (x:=.bool false) rfl (?_:wpAny _ _ (field (.ref Z) 3 >>= _) _ _ _))
 refine wpAny_bind (wpAny_field Hz rfl (x:=.ref P) rfl (wpAny_bind (wpAny_seqItems Hi rfl ?_)))
 show wpAny _ _ (Builtin.SmallTypes.ownedTupleIsFree (.ref Z) >>= _) _ _ _
 refine wpAny_bind ?_
 unfold Builtin.SmallTypes.ownedTupleIsFree
 refine wpAny_bind (wpAny_field Hz rfl (x:=.none) rfl (wpAny_pure ?_))
 simp only[if_true]
 refine wpAny_bind (wpAny_rule (wpAny_bind (wpAny_field Hz rfl (x:=.ref O) rfl (wpAny_bind (wpAny_setField_rec Hz (by simp) fun g1 (Z1:IsZip g1 Z P O .ellipsis) r1=>?_)))))
 refine wpAny_bind ?_
 simp only[J7,List.zipIdx_nil,NY,NW]
 refine wpAny_bind (wpAny_bind (wpAny_onRaise (?_:wpAny _ _ (Builtin.SmallTypes.nextOf (.ref a) >>= _) _ _ _)))
 have noZ:∀{g:Heap} {x:Addr} {o:Obj},IsZip g Z P O .ellipsis→g.get? x=some o→o.cls=.type "StopIteration"→x≠Z:=fun hz ho hc z=>by
  subst z
  rw[hz] at ho
  cases ho
  simp at hc
 cases hx:vs[j]? with
 |none=>
  refine wpAny_bind (kfx n0 (J.extBut r1.extBut D.i1z) (T.extBut r1.extBut D.l1z) hx fun g2 x r2 ⟨o,ho,hc⟩=>?_)
  have Z2:IsZip g2 Z P O .ellipsis:=r2 _ _ D.i1z.symm Z1
  exact wpAny_setField_rec Z2 (by simp) fun g3 _ r3=>K g3 x (fun n o m1 _ m3 _ m5=>r3.extBut _ _ m1 (r2 _ _ m3 (r1.extBut _ _ m1 m5))) ⟨o,r3.extBut _ _ (noZ Z2 ho hc) ho,hc⟩
 |some x=>
  have hy:ws[k]?=none:=hxy.resolve_left (by rw[hx];simp)
  refine wpAny_bind (nextT (J.extBut r1.extBut D.i1z) (T.extBut r1.extBut D.l1z) hx fun g2 J2 r2=>wpAny_pure ?_)
  have O2:IsPair g2 O c e:=r2.extBut _ _ D.TOi1 (r1.extBut _ _ D.TOz Ho)
  refine wpAny_bind (wpAny_seqItems O2 rfl (wpAny_bind (wpAny_updateSeq_pair O2 fun g3 O3 r3=>wpAny_bind (wpAny_letGo (wpAny_pure ?_)))))
  refine wpAny_bind (wpAny_bind (wpAny_onRaise (?_:wpAny _ _ (Builtin.SmallTypes.nextOf (.ref b) >>= _) _ _ _)))
  refine wpAny_bind (kfx n0 (((L.extBut r1.extBut D.i2z).extBut r2.extBut D.i12.symm).extBut r3.extBut D.TOi2.symm) (((U.extBut r1.extBut D.l2z).extBut r2.extBut D.l2i1).extBut r3.extBut D.l2TO) hy fun g4 x' r4 ⟨o,ho,hc⟩=>?_)
  have Z4:IsZip g4 Z P O .ellipsis:=r4 _ _ D.i2z.symm (r3.extBut _ _ D.TOz.symm (r2.extBut _ _ D.i1z.symm Z1))
  exact wpAny_setField_rec Z4 (by simp) fun g5 _ r5=>K g5 x' (fun n o m1 m2 m3 m4 m5=>r5.extBut _ _ m1 (r4 _ _ m4 (r3.extBut _ _ m2 (r2.extBut _ _ m3 (r1.extBut _ _ m1 m5))))) ⟨o,r5.extBut _ _ (noZ Z4 ho hc) ho,hc⟩
theorem kf8{Z P O a b t u:Addr}{j k:Nat}{vs ws:Array Value}{x y c e:Value}{Q:Option Value→Shared→Prop}(D:ZipApart Z P O a b t u)(Hz:IsZip s.heap Z P O .none)(Hi:IsPair s.heap P (.ref a) (.ref b))(Ho:IsPair s.heap O c e)
  (J:IsTupIter s.heap a t j) (L:IsTupIter s.heap b u k) (T:IsTup s.heap t vs) (U:IsTup s.heap u ws) (hx:vs[j]?=some x) (hy:ws[k]?=some y)
  (K:∀g,IsZip g Z P O (rawInt s.heap.objs.size)→IsPair g O x y→IsTupIter g a t (j+1)→IsTupIter g b u (k+1)→IsPair g s.heap.objs.size x y→
   (∀n o,n≠Z→n≠O→n≠a→n≠b→s.heap.get? n=some o→g.get? n=some o)→Q (some (.ref s.heap.objs.size)) {s with heap:=g}):wpAny (model prog w) A (pyNext (.ref Z)) Q E s:=by
 have ty:s.TypeIs (.ref Z) "zip":=⟨_,Hz,rfl⟩
 unfold pyNext
 exact wpAny_bind (wpAny_attempt (wpAny_callSpecial?_slot (name:=Str.ofString "__next__") ty F.slot_zip_next (wpAny_call_entry F.slot_zip_next ty F.entry_zip_next (zipT D Hz Hi Ho J L T U hx hy fun g q1 q2 q3 q4 q5 q6=>wpAny_pure (K g q1 q2 q3 q4 q5 q6)) (F.args_zip_next_1 _))))
theorem kdO{Z P O a b t u:Addr}{j k:Nat}{vs ws:Array Value}{c e:Value}{Q:Option Value→Shared→Prop}(n0:A.handled=none)(D:ZipApart Z P O a b t u)(Hz:IsZip s.heap Z P O .none)(Hi:IsPair s.heap P (.ref a) (.ref b))(Ho:IsPair s.heap O c e)
  (J:IsTupIter s.heap a t j) (L:IsTupIter s.heap b u k) (T:IsTup s.heap t vs) (U:IsTup s.heap u ws) (hxy:vs[j]?=none∨ws[k]?=none)
  (K:∀g,(∀n o,n≠Z→n≠O→n≠a→n≠b→s.heap.get? n=some o→g.get? n=some o)→Q none {s with heap:=g}):wpAny (model prog w) A (pyNext (.ref Z)) Q E s:=by
 have ty:s.TypeIs (.ref Z) "zip":=⟨_,Hz,rfl⟩
 unfold pyNext
 refine wpAny_bind (wpAny_attempt (wpAny_callSpecial?_slot (name:=Str.ofString "__next__") ty F.slot_zip_next (wpAny_call_entry F.slot_zip_next ty F.entry_zip_next (ki9 n0 D Hz Hi Ho J L T U hxy fun g x hk ⟨o,ho,hc⟩=>?_) (F.args_zip_next_1 _))))
 exact wpAny_bind (wpAny_isInstance (T:="StopIteration") (b:=true) ⟨o,ho,hc⟩ isSubtype_stop (wpAny_pure (K _ hk)))
end
end L2
namespace L2
open PySem PySem.Spec PyProof.Rows
noncomputable abbrev zT1(h:Heap)(t:Addr):Heap:=h.push {cls:=.type "tuple_iterator",data:=.fields #[.ref t, .int 0 0]}
noncomputable abbrev zT3(h:Heap)(t u:Addr):Heap:=(zT1 (zT1 h t) u).push {cls:=.type "tuple",data:=.seq #[.ref h.objs.size, .ref (zT1 h t).objs.size]}
noncomputable abbrev zT4(h:Heap)(t u:Addr):Heap:=(zT3 h t u).push {cls:=.type "tuple",data:=.seq #[.none, .none]}
noncomputable abbrev zT5(h:Heap)(t u:Addr):Heap:=(zT4 h t u).push {cls:=.type "zip",data:=.fields #[.none, .bool false, .bool false, .ref (zT1 (zT1 h t) u).objs.size, .ref (zT3 h t u).objs.size]}
theorem ki8(t u:Addr)(vs ws:Array Value):Meets (Builtin.«zip.__new__» ⟨[.type "zip", .ref t, .ref u],[]⟩) (fun _ R s=>IsTup s.heap t vs∧IsTup s.heap u ws∧R (.ok (.ret (.ref (zT4 s.heap t u).objs.size))) {s with heap:=zT5 s.heap t u}):=
 .of_wp fun prog w A R s h=>by
  obtain⟨hp,g,d,tk,os⟩:=s
  obtain⟨T,U,h⟩:=h
  have hsub:=PySem.sub_zip
  have T':IsTup (Shared.heap ⟨hp,g,d,tk,os⟩) t vs:=T
  have U':IsTup (Shared.heap ⟨hp.push {cls:=.type "tuple_iterator",data:=.fields #[.ref t, .int 0 0]},g,d,tk,os⟩) u ws:=IsTup.push U _
  wp_walk using iter_tuple T',iter_tuple U'
  exact⟨_,rfl,h⟩
section
variable {prog:Program} {w:World} {A:Around} {E:Value→Shared→Prop} {s:Shared}
theorem kiX{t u:Addr}{vs ws:Array Value}{Q:Value→Shared→Prop}(T:IsTup s.heap t vs)(U:IsTup s.heap u ws)
  (K:∀g,IsZip g (s.heap.objs.size+4) (s.heap.objs.size+2) (s.heap.objs.size+3) .none→IsPair g (s.heap.objs.size+2) (.ref s.heap.objs.size) (.ref (s.heap.objs.size+1))→IsPair g (s.heap.objs.size+3) .none .none→IsTupIter g s.heap.objs.size t 0→IsTupIter g (s.heap.objs.size+1) u 0→
   (∀n o,s.heap.get? n=some o→g.get? n=some o)→Q (.ref (s.heap.objs.size+4)) {s with heap:=g}):wpAny (model prog w) A (call (.type "zip") [.ref t, .ref u]) Q E s:=by
 refine callType_new F.called_zip (by decide) (F.typeCall_zip_2 _ _) (F.newCall_zip_2 _ _) (fun o=>F.args_object_init_3 o _ _) F.entry_zip_new (ki8 t u vs ws) ⟨T,U,?_⟩
 have y1:(zT1 s.heap t).objs.size=s.heap.objs.size+1:=Heap.size_push ..
 have y2:(zT1 (zT1 s.heap t) u).objs.size=s.heap.objs.size+2:=by rw[Heap.size_push,y1]
 have y3:(zT3 s.heap t u).objs.size=s.heap.objs.size+3:=by rw[Heap.size_push,y2]
 have y4:(zT4 s.heap t u).objs.size=s.heap.objs.size+4:=by rw[Heap.size_push,y3]
 have w5:(zT5 s.heap t u).get? (zT4 s.heap t u).objs.size=some _:=Heap.get?_push_size _ rfl
 have w4:(zT5 s.heap t u).get? (zT3 s.heap t u).objs.size=some _:=Heap.get?_push_of_some _ (Heap.get?_push_size _ rfl)
 have up:∀{n:Addr} {o:Obj},(zT1 (zT1 s.heap t) u).get? n=some o→(zT5 s.heap t u).get? n=some o:=fun q=>Heap.get?_push_of_some _ (Heap.get?_push_of_some _ (Heap.get?_push_of_some _ q))
 have w3:(zT5 s.heap t u).get? (zT1 (zT1 s.heap t) u).objs.size=some _:=Heap.get?_push_of_some _ (Heap.get?_push_of_some _ (Heap.get?_push_size _ rfl))
 have w2:(zT5 s.heap t u).get? (zT1 s.heap t).objs.size=some _:=up (Heap.get?_push_size _ rfl)
 have w1:(zT5 s.heap t u).get? s.heap.objs.size=some _:=up (Heap.get?_push_of_some _ (Heap.get?_push_size _ rfl))
 show _∧_
 rw[y2,y3,y4] at w5
 rw[y1,y2] at w3
 rw[y3] at w4
 rw[y1] at w2
 rw[y4]
 exact⟨⟨_,w5,rfl⟩,K _ w5 w3 w4 ⟨_,w1,rfl,rfl⟩ ⟨_,w2,rfl,rfl⟩ fun n o q=>up (Heap.get?_push_of_some _ (Heap.get?_push_of_some _ q))⟩
end
section
variable {X:Cx}
noncomputable def Itzt(a b:Addr):It:=⟨fun i H=>∃xs ys x y,H a=some (.tup xs)∧H b=some (.tup ys)∧xs[i]?=some x∧ys[i]?=some y,
 fun i H v H'=>∃t x y,H t=none∧v=.ref t∧H'=upd H t (.tup [x,y])∧(∀xs,H a=some (.tup xs)→xs[i]?=some x)∧∀ys,H b=some (.tup ys)→ys[i]?=some y,
 fun i H=>∃xs ys,H a=some (.tup xs)∧H b=some (.tup ys)∧(xs.length≤i∨ys.length≤i)⟩
theorem khz{P:Program}{w:World}{K:Uv}{es:List Expr}{k:Nat}{pos:Pos}(a b z TI TO i1 i2:Addr)(nd:[z,TI,TO,i1,i2].Nodup):
  Turn P w K (.Tuple es k pos) (Itzt a b) [z,TI,TO,i1,i2] z (fun i h=>IsZip h z TI TO .none∧IsPair h TI (.ref i1) (.ref i2)∧(∃u v,IsPair h TO u v)∧IsTupIter h i1 a i∧IsTupIter h i2 b i) where
 mem:=by simp
 obj:=fun i h st b hb=>by
  obtain⟨hz,hI,⟨_,_,hO⟩,⟨o1,e1,_,d1⟩,⟨o2,e2,_,d2⟩⟩:=st
  simp only[UO,Jb,or_false] at hb
  rcases hb with rfl|rfl|rfl|rfl|rfl
  ·exact⟨_,hz,fun v q=>by cases(show Data.fields _=Data.cell v from q)⟩
  ·exact⟨_,hI,fun v q=>by cases(show Data.seq _ _=Data.cell v from q)⟩
  ·exact⟨_,hO,fun v q=>by cases(show Data.seq _ _=Data.cell v from q)⟩
  ·exact⟨o1,e1,fun v q=>by rw[d1] at q;cases q⟩
  ·exact⟨o2,e2,fun v q=>by rw[d2] at q;cases q⟩
 keep:=fun i h h' st kk=>by
  obtain⟨hz,hI,⟨u,v,hO⟩,h1,h2⟩:=st
  exact⟨kk z (by simp) _ hz,kk TI (by simp) _ hI,⟨u,v,kk TO (by simp) _ hO⟩,(let⟨o,e,q⟩:=h1;⟨o,kk i1 (by simp) o e,q⟩),(let⟨o,e,q⟩:=h2;⟨o,kk i2 (by simp) o e,q⟩)⟩
 item:=by
  intro X hP hw hK hc i pins s σ H E I hf st hg
  subst hP hw hK
  obtain⟨hz,hI,⟨u,v,hO⟩,h1,h2⟩:=st
  obtain⟨xs,ys,x,y,ha,hb,hx,hy⟩:=hg
  obtain⟨its1,r1,L1,_⟩:=I.tuple (SqT.of ha)
  obtain⟨its2,r2,L2',_⟩:=I.tuple (SqT.of hb)
  obtain⟨u1,g1,ru1⟩:=r1.get hx
  obtain⟨u2,g2,ru2⟩:=r2.get hy
  have off:∀{l:Addr} {zs:List V},H l=some (.tup zs)→l∉[z,TI,TO,i1,i2]:=fun {l zs} e m=>by
   have:=(hf l m).1
   rw[this] at e
   cases e
  have oa:=off ha
  have ob:=off hb
  have nd':=nd
  simp only[Jh,UO,Jb,or_false,not_or,JZ,and_true,not_false_eq_true] at nd' oa ob
  obtain⟨⟨nzI,nzO,nz1,nz2⟩,⟨nIO,nI1,nI2⟩,⟨nO1,nO2⟩,n12⟩:=nd'
  have D:ZipApart z TI TO i1 i2 a b:=⟨Ne.symm nzI,Ne.symm nzO,Ne.symm nz1,Ne.symm nz2,nIO,nI1,nI2,nO1,nO2,n12,oa.1,oa.2.2.1,oa.2.2.2.1,oa.2.2.2.2,ob.1,ob.2.2.1,ob.2.2.2.1,ob.2.2.2.2⟩
  refine kf8 D hz hI hO h1 h2 L1 L2' (x:=u1) (y:=u2) (by simpa using g1) (by simpa using g2) fun h' a1 a2 a3 a4 a5 a7=>?_
  refine⟨.ref s.heap.objs.size,rfl,wpAny_letOwnedTupleGo_zip a1 fun h2' z2 s2=>?_⟩
  have s2':Heap.SameBut z h' h2':=s2
  have zl:z<s.heap.objs.size:=Heap.lt_size hz
  have kk:∀b o,b∉[z,TI,TO,i1,i2]→s.heap.get? b=some o→h2'.get? b=some o:=fun b o hb eo=>by
   simp only[UO,Jb,or_false,not_or] at hb
   exact(s2'.2 b hb.1).trans (a7 b o hb.1 hb.2.2.1 hb.2.2.2.1 hb.2.2.2.2 eo)
  have I1:Inv X pins σ H {s with heap:=h2',toks:=s.toks}:=I.turnedL (ch:=[z,TI,TO,i1,i2]) kk hf
  have fr:H s.heap.objs.size=none:=I.hok.fresh (Uw _)
  have ft:FpOk X pins H s.heap.objs.size:=I.fpOk (Uw _) fr
  have t2:h2'.get? s.heap.objs.size=some {cls:=.type "tuple",data:=.seq #[u1,u2]}:=(s2'.2 _ (Je zl)).trans a5
  have I2:Inv X pins σ (upd H s.heap.objs.size (.tup [x,y])) {s with heap:=h2',toks:=s.toks}:=
   I1.adopt ft I.sz ⟨by show 2≤sizeLine;decide,[u1,u2], .cons ru1 (.cons ru2 .nil),_,t2,rfl,_,rfl⟩
  have hI2:IsPair h2' TI (.ref i1) (.ref i2):=(s2'.2 _ (Ne.symm nzI)).trans (a7 TI _ (Ne.symm nzI) nIO nI1 nI2 hI)
  refine⟨.ref s.heap.objs.size,_,I2,rfl,⟨s.heap.objs.size,x,y,fr,rfl,rfl,fun ws e=>by rw[ha] at e;cases e;exact hx,fun ws e=>by rw[hb] at e;cases e;exact hy⟩,
   ⟨z2,hI2,⟨_,_,(s2'.2 _ (Ne.symm nzO)).trans a2⟩,a3.extBut s2'.extBut (Ne.symm nz1),a4.extBut s2'.extBut (Ne.symm nz2)⟩,fun b hb=>?_⟩
  have hbl:b<s.heap.objs.size:=by
   simp only[UO,Jb,or_false] at hb
   rcases hb with rfl|rfl|rfl|rfl|rfl
   ·exact zl
   ·exact Heap.lt_size hI
   ·exact Heap.lt_size hO
   ·obtain⟨o,e,_⟩:=h1;exact Heap.lt_size e
   ·obtain⟨o,e,_⟩:=h2;exact Heap.lt_size e
  rw[kak (UV hbl)]
  exact(hf b hb).1
 done:=by
  intro X hP hw hK hc i pins s σ H E I hf st hg
  subst hP hw hK
  obtain⟨hz,hI,⟨u,v,hO⟩,h1,h2⟩:=st
  obtain⟨xs,ys,ha,hb,hx⟩:=hg
  obtain⟨its1,r1,L1,_⟩:=I.tuple (SqT.of ha)
  obtain⟨its2,r2,L2',_⟩:=I.tuple (SqT.of hb)
  have hlen1:=r1.length
  have hlen2:=r2.length
  have off:∀{l:Addr} {zs:List V},H l=some (.tup zs)→l∉[z,TI,TO,i1,i2]:=fun {l zs} e m=>by
   have:=(hf l m).1
   rw[this] at e
   cases e
  have oa:=off ha
  have ob:=off hb
  have nd':=nd
  simp only[Jh,UO,Jb,or_false,not_or,JZ,and_true,not_false_eq_true] at nd' oa ob
  obtain⟨⟨nzI,nzO,nz1,nz2⟩,⟨nIO,nI1,nI2⟩,⟨nO1,nO2⟩,n12⟩:=nd'
  have D:ZipApart z TI TO i1 i2 a b:=⟨Ne.symm nzI,Ne.symm nzO,Ne.symm nz1,Ne.symm nz2,nIO,nI1,nI2,nO1,nO2,n12,oa.1,oa.2.2.1,oa.2.2.2.1,oa.2.2.2.2,ob.1,ob.2.2.1,ob.2.2.2.1,ob.2.2.2.2⟩
  refine kdO (I.ok.hd hc) D hz hI hO h1 h2 L1 L2' ?_ fun h' hk=>⟨rfl,?_⟩
  ·rcases hx with hx|hx
   ·exact .inl (by simp;omega)
   ·exact .inr (by simp;omega)
  ·refine I.turnedL (t':=s.toks) (ch:=[z,TI,TO,i1,i2]) (fun b o hb e=>?_) hf
   simp only[UO,Jb,or_false,not_or] at hb
   exact hk b o hb.1 hb.2.2.1 hb.2.2.2.1 hb.2.2.2.2 e
 self:=fun _ _ _ _ _ st h=>wpAny_pyIter_zip st.1 h
end
theorem kiS{a b:Addr}{xs ys:List V}{g:TG}{te:TE}{σ:St}{H:Hp}{R:List V→Hp→Addr→Prop}(Pv:Nat→St→List V→Hp→Prop)(h0:Pv 0 σ [] H)(hz:min xs.length ys.length≤sizeLine)(hl:∀i σ zs H,i≤min xs.length ys.length→Pv i σ zs H→H a=some (.tup xs)∧H b=some (.tup ys)∧zs.length=i)
  (hs:∀i x y t σ zs H,xs[i]?=some x→ys[i]?=some y→Pv i σ zs H→H t=none→g (.ref t) σ (upd H t (.tup [x,y])) fun σ2 H2=>te σ2 H2 fun z H3=>Pv (i+1) σ2 (zs++[z]) H3) (hd:∀σ zs H,Pv (min xs.length ys.length) σ zs H→∀D,H D=none→R zs H D):
  ∃ W:Nat→Nat→St→List V→Hp→Prop,(∃m,W 0 m σ [] H)∧∀i m σ' zs H',W i m σ' zs H'→
   ((Itzt a b).stop i H'∧∀D,H' D=none→R zs H' D)∨((Itzt a b).go i H'∧zs.length<sizeLine∧∃N:St→V→Hp→Prop,(∀σ2 y H4,N σ2 y H4→∃m',m'<m∧W (i+1) m' σ2 (zs++[y]) H4)∧
    ∀x H2,(Itzt a b).yld i H' x H2→g x σ' H2 fun σ2 H3=>te σ2 H3 (N σ2)):=by
 refine⟨fun i m σ zs H=>m=min xs.length ys.length-i∧i≤min xs.length ys.length∧Pv i σ zs H,⟨min xs.length ys.length,by simp,U1 _,h0⟩,?_⟩
 rintro i m σ zs H ⟨rfl,hi,p⟩
 obtain⟨q1,q2,el⟩:=hl i σ zs H hi p
 by_cases hlt:i<min xs.length ys.length
 ·refine .inr ⟨⟨xs,ys,xs[i]'(by omega),ys[i]'(by omega),q1,q2,by simp[show i<xs.length by omega],by simp[show i<ys.length by omega]⟩,by omega,fun σ2 y H3=>Pv (i+1) σ2 (zs++[y]) H3,fun σ' y H' p'=>⟨min xs.length ys.length-(i+1),by omega,rfl,hlt,p'⟩,fun x H' yl=>?_⟩
  obtain⟨t,x,y,hn,rfl,rfl,h1,h2⟩:=yl
  exact hs i x y t σ zs _ (h1 _ q1) (h2 _ q2) p hn
 ·have e:i=min xs.length ys.length:=by omega
  refine .inl ⟨⟨xs,ys,q1,q2,by omega⟩,?_⟩
  rw[e] at p
  exact hd σ zs H p
end L2
namespace L2
open PySem PySem.Spec PyProof.Rows
section
variable {X:Cx}
noncomputable def iZipG(ta:TA):TI:=fun σ H R=>ta σ H fun vs H1=>(∃a b xs ys,vs=[.ref a, .ref b]∧H1 a=some (.lst xs)∧H1 b=some (.lst ys)∧R (Itz a b) H1)∨(∃a b xs ys,vs=[.ref a, .ref b]∧H1 a=some (.tup xs)∧H1 b=some (.tup ys)∧R (Itzt a b) H1)
theorem kjj{es:List Expr}{k:Nat}{tpos:Pos}{e1 e2:Expr}{ta:TA}{p pos:Pos}(hg:Gl X "zip")(hm:X.mg "zip"=none)(ha:PA X [e1,e2] ta)(he:starEach [e1,e2] X.env=(false,eval e1 X.env)::starEach [e2] X.env:=by rfl)
  (hpl:(backTo pos (starEach [e2] X.env)).any (·.1)=false:=by rfl):PI X (.Tuple es k tpos) (.Call (.Name "zip" p) [e1,e2] [] pos) (iZipG ta):=by
 intro pins s σ H R I h
 refine Call_ (kcs I hg hm kku (PyProof.Rows.callWith_type1 (thn (ha pos pins s σ H _ I h) fun us s1 ⟨vs,H1,I1,r1,q1⟩=>?_) he hpl))
 rcases q1 with⟨a,b,xs,ys,rfl,qa,qb,q⟩|⟨a,b,xs,ys,rfl,qa,qb,q⟩
 ·cases r1 with
  | cons ra rr=>
   cases rr with
   |cons rb rr=>
    cases rr
    cases ra
    cases rb
    obtain⟨its1,n1,_,ho1,_⟩:=I1.lst qa
    obtain⟨its2,n2,_,ho2,_⟩:=I1.lst qb
    refine call_zip_2 (xs:=its1.toArray) (ys:=its2.toArray) ⟨_,ho1,rfl,n1,rfl⟩ ⟨_,ho2,rfl,n2,rfl⟩ fun h' b1 b2 b3 b4 b5 _ hk=>wpAny_pyIter_zip b1 ?_
    have I2:Inv X pins σ H1 {s1 with heap:=h'}:=I1.kept (t':=s1.toks) hk
    refine⟨s1.heap.objs.size+4,[s1.heap.objs.size+4,s1.heap.objs.size+2,s1.heap.objs.size+3,s1.heap.objs.size,s1.heap.objs.size+1],_,_,H1,rfl,I2,kgv a b _ _ _ _ _ (kgo _),⟨b1,b2,⟨_,_,b3⟩,b4,b5⟩,fun x hx=>?_,q⟩
    have hle:s1.heap.objs.size≤x:=kgp hx
    exact I1.fpOk hle (I1.hok.fresh hle)
 ·cases r1 with
  | cons ra rr=>
   cases rr with
   |cons rb rr=>
    cases rr
    cases ra
    cases rb
    obtain⟨its1,_,L1,_⟩:=I1.tuple (SqT.of qa)
    obtain⟨its2,_,L2',_⟩:=I1.tuple (SqT.of qb)
    refine kiX L1 L2' fun h' b1 b2 b3 b4 b5 hk=>wpAny_pyIter_zip b1 ?_
    have I2:Inv X pins σ H1 {s1 with heap:=h'}:=I1.kept (t':=s1.toks) hk
    refine⟨s1.heap.objs.size+4,[s1.heap.objs.size+4,s1.heap.objs.size+2,s1.heap.objs.size+3,s1.heap.objs.size,s1.heap.objs.size+1],_,_,H1,rfl,I2,khz a b _ _ _ _ _ (kgo _),⟨b1,b2,⟨_,_,b3⟩,b4,b5⟩,fun x hx=>?_,q⟩
    have hle:s1.heap.objs.size≤x:=kgp hx
    exact I1.fpOk hle (I1.hok.fresh hle)
end
end L2
namespace L2
open PySem PySem.Spec PyProof.Rows
noncomputable def nxo:HO→Bool
 | .ext _=>false
 |_=>true
noncomputable def NX(H:Hp)(p:Addr):Prop:=∀φ,H p≠some (.ext φ)
theorem nx{H:Hp}{p:Addr}{o:HO}(h:H p=some o)(n:nxo o=true:=by rfl):NX H p:=fun φ z=>by
 rw[h] at z
 cases z
 cases n
theorem nx0{H:Hp}{p:Addr}(h:H p=none):NX H p:=fun φ z=>by
 rw[h] at z
 cases z
theorem kcD{H:Hp}{p q:Addr}{o:HO}(h:NX H p)(n:nxo o=true:=by rfl):NX (upd H q o) p:=fun φ z=>by
 by_cases e:p=q
 ·subst e
  rw[kac] at z
  cases z
  cases n
 ·rw[kak e] at z
  exact h φ z
noncomputable abbrev Ev(H H':Hp)(b:Addr)(o:HO):Prop:=match o with
 | .tbl _=>(∃ps,H' b=some (.tbl ps))∧(TbAt b H→TbAt b H')
 |o=>H' b=some o
theorem ev_eq{H H':Hp}{b:Addr}{o:HO}(e:H' b=some o)(t:TbAt b H→TbAt b H'):Ev H H' b o:=by
 cases o <;> first|exact e|exact⟨⟨_,e⟩,t⟩
theorem ke1{H H':Hp}{b:Addr}{o:HO}(e:Ev H H' b o):∃o',H' b=some o':=by
 cases o <;> first|exact⟨_,e⟩|exact⟨_,e.1.choose_spec⟩
theorem kbJ{H H1 H2:Hp}{b:Addr}{o:HO}(e:Ev H H1 b o)(k:∀o,H1 b=some o→Ev H1 H2 b o):Ev H H2 b o:=by
 cases o with
 |tbl ps=>
  obtain⟨⟨ps1,e1⟩,t1⟩:=e
  obtain⟨e2,t2⟩:=(show Ev H1 H2 b (.tbl ps1) from k _ e1)
  exact⟨e2,fun h=>t2 (t1 h)⟩
 |_=>exact k _ e
theorem kdh{b p:Addr}{H:Hp}{o:HO}(h:TbAt b H)(n:b≠p)(hx:NX H p):TbAt b (upd H p o):=by
 obtain⟨ps,e,t,hor⟩:=h
 refine⟨ps,by rw[kak n];exact e,t,fun pos d ed=>?_⟩
 obtain⟨c,rfl,z2⟩:=hor pos d ed
 have hc:c≠p:=fun e=>by
  subst e
  exact hx _ z2
 exact⟨c,rfl,by rw[kak hc];exact z2⟩
noncomputable def Same(H H':Hp):Prop:=∀b o,H b=some o→Ev H H' b o
theorem Same.refl(H:Hp):Same H H:=fun _ _ h=>ev_eq h fun t=>t
theorem Same.trans{H H1 H2:Hp}(a:Same H H1)(b:Same H1 H2):Same H H2:=fun c o h=>kbJ (a c o h) fun o' e=>b c o' e
theorem Same.free{H H':Hp}(e:Same H H'){l:Addr}(h:H' l=Option.none):H l=Option.none:=by
 cases q:H l with
 |none=>rfl
 |some o=>
  obtain⟨o',e'⟩:=ke1 (e l o q)
  rw[e'] at h
  cases h
theorem Same.seq{K:Uv}{H H':Hp}{a:Addr}{xs:List V}(e:Same H H')(h:SqL K H a xs):SqL K H' a xs:=by
 rcases h with(h|⟨o,h⟩)|h
 ·exact .inl (.inl (e _ _ h))
 ·exact .inl (.inr ⟨o,e _ _ h⟩)
 ·exact .inr h
theorem Same.tb{H H':Hp}(s:Same H H'){b:Addr}(h:TbAt b H):TbAt b H':=by
 obtain⟨ps,e,r⟩:=id h
 exact(show Ev H H' b (.tbl ps) from s b _ e).2 h
theorem Grew.same{P:Addr}{H H':Hp}(g:Grew P H H')(TB:TbAt P H):Same H H':=fun b o e=>by
 obtain⟨ps,eP,ht,hor⟩:=TB
 by_cases h:b=P
 ·subst h
  rw[eP] at e
  cases e
  obtain⟨qs,e1,_⟩:=id g.tb
  exact⟨⟨qs,e1⟩,fun _=>g.tb⟩
 ·refine ev_eq (g.kp b o h e) fun t=>?_
  obtain⟨qs,e1,t1,h1⟩:=t
  refine⟨qs,g.kp b _ h e1,t1,fun pos d ed=>?_⟩
  obtain⟨c,rfl,z⟩:=h1 pos d ed
  exact⟨c,rfl,g.kp c _ (ne_of z eP (by intro z;cases z)) z⟩
end L2
namespace L2
open PySem PySem.Spec PyProof.Rows
noncomputable def kfc(K:Uv)(tP:Addr):Sp:=fun vs H Q _=>∃(a:Addr) (ns:List Int),vs=[.ref a]∧SqL K H a (ns.map V.int)∧ns.length≤63∧TbAt tP H∧∀H',Q (.bl true) H'
theorem kir{P:Program}{w:World}{K:Uv}{mg mb:Str→Option Value}{k:Nat}{fa a tP c0:Addr}{fd:FuncData}{x:Str}{s₁:Shared}{vs:List Value}{ns:List Int}
  (KX:K.In s₁.heap) (hns:s₁.heap.Ns mainGlobals mg) (hb:s₁.heap.Ns builtinsNs mb) (hbb:∀x:Str,x≠"__name__"→mb x=bootBuiltins x) (hlim:s₁.heap.NoLimit) (hg:s₁.gens= #[])
  (ha:s₁.heap.get? a=some {cls:=.type "list",data:=.seq vs.toArray}) (hi:IntsAre vs ns) (hl:ns.length≤63) (hr:Room k callerA) (hT:s₁.heap.get? tP=some (Nv #[])) (CK:CodeK K c0 tP) (kT:K.lookup tP=none) (hBM:BltM mg s₁.heap)
  (F:∀base:Heap,K.In base→base.Ns mainGlobals mg→BltM mg base→FnOk P w K mg base CX0 k fa fd [x] (kfc K tP)) (hbind:∀(s:Shared) (u:Value),BindsTo s fd ⟨[u],[]⟩ [(x,u)]):
  codeAny (model P w) callerA (.call (.ref fa) ⟨[.ref a],[]⟩) (fun r s'=>r=.ok (.ret (.bool true))∧OldK s₁.heap s'.heap∧s'.os=s₁.os∧AllBare s'.gens) s₁:=by
 have rv:=ke8 hi
 have lenV:=hi.length
 have hlz:ns.length≤sizeLine:=Uy hl (by decide)
 have nTa:tP≠a:=fun e=>by
  rw[e,ha] at hT
  have:=Option.some.inj hT
  injection this with z
  cases z
 have core:∀H:Hp,SqL K H a (ns.map V.int)→HOk P w H s₁.heap→H tP=some (.tbl #[])→(∀b,b≠tP→H b=none∨(b=a∧∃o xs,H b=some (.frz o (.lst xs))))→(H a≠none→K.lookup a=none)→
   codeAny (model P w) callerA (.call (.ref fa) ⟨[.ref a],[]⟩) (fun r s'=>r=.ok (.ret (.bool true))∧OldK s₁.heap s'.heap∧s'.os=s₁.os∧AllBare s'.gens) s₁:=by
  intro H hS hok eT hO hK
  have base_of:∀{b:Addr} {o:Obj},s₁.heap.get? b=some o→H b=none→(hidT s₁.heap H).get? b=some o:=fun e n=>kjD e n
  have noT:∀{b:Addr} {o:Obj},s₁.heap.get? b=some o→o.cls≠.none→(∀us n,o.data≠.seq us n)→H b=none:=fun {b o} e hc hd=>by
   by_cases hbT:b=tP
   ·rw[hbT,hT] at e
    cases e
    exact absurd rfl hc
   ·rcases hO b hbT with z|⟨z,_⟩
    ·exact z
    ·rw[z,ha] at e
     cases e
     exact absurd rfl (hd _ _)
  have noA:∀{b:Addr} {o:Obj} {es:Array DictEntry} {ep:Nat},s₁.heap.get? b=some o→o.data=.dict es ep→H b=none:=fun {b o es ep} e d=>by
   by_cases hbT:b=tP
   ·rw[hbT,hT] at e
    cases e
    cases d
   ·rcases hO b hbT with z|⟨z,_⟩
    ·exact z
    ·rw[z,ha] at e
     cases e
     cases d
  have nsK:∀{b:Addr} {m:Str→Option Value},s₁.heap.Ns b m→(hidT s₁.heap H).Ns b m:=fun {b m} ⟨o,es,ep,e,d,r⟩=>⟨o,es,ep,base_of e (noA e d),d,r⟩
  have hKb:K.In (hidT s₁.heap H):=fun b o e=>base_of (KX b o e) (by
   by_cases hbT:b=tP
   ·rw[hbT,kT] at e
    cases e
   ·rcases hO b hbT with z|⟨z,o',xs,z2⟩
    ·exact z
    ·subst z
     rw[hK (by rw[z2];simp)] at e
     cases e)
  have hM:Mod K mg (hidT s₁.heap H):=⟨hKb,nsK hns,⟨mb,nsK hb,hbb⟩,let⟨mc,h1,h2⟩:=hlim;⟨mc,nsK h1,h2⟩⟩
  have hBb:BltM mg (hidT s₁.heap H):=by
   obtain⟨bm,ob,b1,b2,b3,b4,b5,b6⟩:=hBM
   exact⟨bm,ob,b1,b2,base_of b3 (noT b3 (by rw[b4];intro z;cases z) (fun us n z=>by rw[b6] at z;cases z)),b4,b5,b6⟩
  have e0:Env0 P w K mg (hidT s₁.heap H) callerA [] s₁ H:=⟨rfl,hM,fun b o e=>kkQ e,Nf (kiB _ _),trivial,fun b hb=>absurd (show b∈([]:List Addr) from hb) (by simp),hok, .of_eq hg⟩
  have hsp:kfc K tP [.ref a] H (fun v _=>v=.bl true) fun _ _ _=>False:=⟨a,ns,rfl,hS,hl,⟨#[],eT,by trivial,fun pos c e=>by cases e⟩,fun _=>rfl⟩
  refine codeAny_mono ((F _ hKb (nsK hns) hBb).run callerA [] s₁ H ⟨[.ref a],[]⟩ [.ref a] [.ref a] _ _ hr e0 (hbind s₁ (.ref a)) (.cons rfl .nil) hsp) fun r s' h=>?_
  cases r with
  |error e=>exact(show False from h).elim
  | ok fl=>
   cases fl with
   |next=>exact False.elim h
   |brk=>exact False.elim h
   |cont=>exact False.elim h
   | ret u=>
    obtain⟨v,H',os,bare,un,hok',r',q⟩:=h
    have q':v=.bl true:=q
    subst q'
    obtain rfl:u=Value.bool true:=r'
    have kp:∀b o,b≠tP→s₁.heap.get? b=some o→s'.heap.get? b=some o:=fun b o hbT e=>by
     rcases hO b hbT with z|⟨z,o',xs,z2⟩
     ·exact un.keep b o e z (fun z=>absurd (show b∈([]:List Addr) from z) (by simp)) (by simp)
     ·have z3:=un.frzs b o' _ z2
      obtain⟨e1,_⟩:=hok b _ z2
      obtain⟨e2,_⟩:=hok' b _ z3
      rw[e] at e1
      cases e1
      exact e2
    obtain⟨more,eM⟩:=un.tbls tP #[] eT
    have tM:s'.heap.get? tP=some (Nv (#[]++more)):=(show ObjOk P w H' s'.heap tP (.tbl (#[]++more)) from hok' tP _ eM)
    refine⟨rfl,⟨fun b o e=>?_,fun b o e=>?_⟩,os,bare⟩
    ·by_cases hbT:b=tP
     ·subst hbT
      rw[hT] at e
      cases e
      obtain⟨oc,us,_,_,_,_,_,_,_,c1,c2,c3,c4,_⟩:=CK
      exact .inr (.inl ⟨⟨c0,oc,us,KX _ _ c1,c2,c3,c4⟩,rfl,#[],more,rfl,tM⟩)
     ·exact .inl (kp b o hbT e)
    ·by_cases hbT:b=tP
     ·subst hbT
      exact⟨_,tM⟩
     ·exact⟨o,kp b o hbT e⟩
 cases hk:K.lookup a with
 | some o=>
  have e:=KX a o hk
  rw[ha] at e
  cases e
  refine core (fun b=>if b=tP then some (.tbl #[]) else none) (.inr ⟨_,vs.toArray,_,hk,rfl,rfl,rfl,by rw[UN,lenV];exact hlz,by simpa using rv⟩) (fun b u z=>?_) (if_pos rfl) (fun b hbT=>.inl (if_neg hbT)) fun z=>absurd (if_neg nTa.symm) z
  by_cases hbT:b=tP
  ·have z':=(if_pos hbT).symm.trans z
   cases z'
   subst hbT
   exact(show s₁.heap.get? b=some _ from hT)
  ·have z':=(if_neg hbT).symm.trans z
   cases z'
 | none=>
  refine core (fun b=>if b=tP then some (.tbl #[]) else if b=a then some (.frz {cls:=.type "list",data:=.seq vs.toArray} (.lst (ns.map V.int))) else none) (.inl (.inr ⟨{cls:=.type "list",data:=.seq vs.toArray},by show(if a=tP then _ else _)=_;rw[if_neg nTa.symm,if_pos rfl]⟩)) (fun b u z=>?_) (if_pos rfl) (fun b hbT=>?_) fun _=>hk
  ·by_cases hbT:b=tP
   ·have z':=(if_pos hbT).symm.trans z
    cases z'
    subst hbT
    exact(show s₁.heap.get? b=some _ from hT)
   ·have z1:=(if_neg hbT).symm.trans z
    by_cases hb2:b=a
    ·have z':=(if_pos hb2).symm.trans z1
     cases z'
     subst hb2
     exact⟨ha,by rw[Uu];exact hlz,vs,_,rv,ha⟩
    ·have z':=(if_neg hb2).symm.trans z1
     cases z'
  ·by_cases hb2:b=a
   ·exact .inr ⟨hb2,_,_,by show(if b=tP then _ else _)=_;rw[if_neg hbT,if_pos hb2]⟩
   ·exact .inl (by show(if b=tP then _ else _)=_;rw[if_neg hbT,if_neg hb2])
theorem walkT_of{l:PySem.W.OpenLaw}{k:Nat}{q:Program}{loose:List Str}{XP:(Str→Option Value)→Heap→Prop}{YP:World→Heap→Prop}{d:DefRec}{K:Params→Uv}{ts:List Addr}{x:Str}
  (hn:l.most=some 63) (hdf:d.params.defaults=[]) (hr:Room k callerA) (hY:∀(w:World) (h:Heap),YP w h→(K w.params).In h) (hTs:∀(w:World) (h:Heap),YP w h→∀P∈ts,h.get? P=some (Nv #[]))
  (F:∀(w:World) (mg:Str→Option Value) (fa:Addr) (h:Heap),(K w.params).In h→h.Ns mainGlobals mg→mg d.name=some (.ref fa)→
   ∃(fd:FuncData) (tP c0:Addr),tP∈ts∧CodeK (K w.params) c0 tP∧(K w.params).lookup tP=none∧(∀(s:Shared) (u:Value),BindsTo s fd ⟨[u],[]⟩ [(x,u)])∧
    ∀base:Heap,(K w.params).In base→base.Ns mainGlobals mg→BltM mg base→FnOk l.prog w (K w.params) mg base CX0 k fa fd [x] (kfc (K w.params) tP)):
  PySem.W.WalkO q loose XP YP l.row.toRowW d [] (fun f vs=>PySem.call f vs):=by
 refine Att.attach_call hn hdf fun w s₀ s₁ mg mb fa o pm cd doc a vs ns G Y ho hd hcd hmg hobj hints hlen hg=>?_
 have KX:=hY w _ Y
 obtain⟨fd,tP,c0,hm,CK,kT,hb,hF⟩:=F w mg fa _ KX G.T.g hmg
 obtain⟨bm,ob,b1,b2,b3,b4,b5,b6⟩:=G.T.bmain
 exact kir KX G.T.g G.T.b G.T.builtins G.T.nolimit hg hobj hints hlen hr (hTs w _ Y tP hm) CK kT ⟨bm,ob,b1,b2,b3,b4,b5,b6⟩ hF hb
end L2
namespace L2
open PySem PySem.Spec PyProof.Rows
theorem nd1(x:Str):([x]:List Str).Nodup:=by simp
noncomputable def But(x:Addr)(H H':Hp):Prop:=∀b o,b≠x→H b=some o→Ev H H' b o
theorem But.trans{x:Addr}{H H1 H2:Hp}(a:But x H H1)(b:But x H1 H2):But x H H2:=fun c o n h=>kbJ (a c o n h) fun o' e=>b c o' n e
theorem But.same{x:Addr}{H H1 H2:Hp}(a:But x H H1)(b:Same H1 H2):But x H H2:=fun c o n h=>kbJ (a c o n h) fun o' e=>b c o' e
theorem But.of_same{x:Addr}{H H1:Hp}(b:Same H H1):But x H H1:=fun c o _ h=>b c o h
theorem But.refl{x:Addr}{H:Hp}:But x H H:=fun b o _ h=>Same.refl H b o h
theorem kaz{x:Addr}{H:Hp}{o:HO}(hx:NX H x:=by first|exact nx kac|exact nx (by assumption)|exact nx0 (by assumption)|exact kcD (nx kac) rfl|exact kcD (nx (by assumption)) rfl):But x H (upd H x o):=fun b u n e=>ev_eq (by rw[kak n];exact e) fun t=>kdh t n hx
theorem kah{H:Hp}{p:Addr}{o:HO}(hp:H p=none):Same H (upd H p o):=fun b u e=>ev_eq (by rw[kak (kaj e hp)];exact e) fun t=>kdh t (kaj e hp) (nx0 hp)
theorem kaw{H H':Hp}{p:Addr}{o:HO}(hp:H p=none)(s:Same H H')(hx:NX H' p:=by first|exact nx (by assumption)|exact nx kac|exact kcD (nx (by assumption)) rfl|exact kcD (nx kac) rfl|exact kcD (nx0 (by assumption)) rfl|exact kcD (kcD (nx (by assumption)) rfl) rfl):Same H (upd H' p o):=fun b u e=>
 kbJ (s b u e) fun u' e'=>ev_eq (by rw[kak (kaj e hp)];exact e') fun t=>kdh t (kaj e hp) hx
theorem kbh{H:Hp}{x dx C:Addr}(hx:H x=none)(nd:H dx=none):Same H (upd (upd H dx (.own x)) x (.ins C dx [])):=fun b u e=>by
 have n1:=kaj e hx
 have n2:=kaj e nd
 exact ev_eq (by rw[kak n1,kak n2];exact e) fun t=>kdh (kdh t n2 (nx0 nd)) n1 (kcD (nx0 hx) rfl)
theorem kbx{H H':Hp}{x dx C:Addr}(hx:H x=none)(nd:H dx=none)(k:But x (upd (upd H dx (.own x)) x (.ins C dx [])) H'):Same H H':=fun b o e=>kbJ (kbh (C:=C) hx nd b o e) fun o' e'=>k b o' (kaj e hx) e'
theorem kcW{H:Hp}{x dx C y:Addr}(h:(upd (upd H dx (.own x)) x (.ins C dx [])) y=none):H y=none:=by
 by_cases e1:y=x
 ·subst e1
  rw[kac] at h
  cases h
 ·rw[kak e1] at h
  by_cases e2:y=dx
  ·subst e2
   rw[kac] at h
   cases h
  ·rw[kak e2] at h
   exact h
theorem kfA{H:Hp}{x dx C y:Addr}{o:HO}(nx:H x=none)(nd:H dx=none)(h:H y=some o):(upd (upd H dx (.own x)) x (.ins C dx [])) y=some o:=by
 rw[kak (kaj h nx),kak (kaj h nd)]
 exact h
theorem kal{f:Str}{v:V}:∀{fs:List (Str×V)} {n:Nat},fs.length≤n→(putF f v fs).length≤n+1
 |[],n,_=>by
  show 1≤n+1
  omega
 | (g,x)::r,n,h=>by
  show(if g=f then(g,v)::r else(g,x)::putF f v r).length≤n+1
  have h':r.length+1≤n:=h
  split
  ·show r.length+1≤n+1
   omega
  ·show(putF f v r).length+1≤n+1
   have:=kal (f:=f) (v:=v) (fs:=r) (n:=n-1) (by omega)
   omega
theorem few{fs:List (Str×V)}(h:fs.length≤20):fs.length<1000:=by omega
theorem kbG{ns:List Addr}{i:Nat}{x:V}(h:(ns.map V.ref)[i]?=some x):∃z,ns[i]?=some z∧x=V.ref z:=by
 rw[UF] at h
 cases e:ns[i]? with
 |none=>rw[e] at h;cases h
 |some z=>rw[e] at h;exact⟨z,rfl,(Option.some.inj h).symm⟩
theorem kbH{α:Type}{g: α→V}{ns:List α}{i:Nat}{x:V}(h:(ns.map g)[i]?=some x):∃z,ns[i]?=some z∧x=g z:=by
 rw[UF] at h
 cases e:ns[i]? with
 |none=>rw[e] at h;cases h
 |some z=>rw[e] at h;exact⟨z,rfl,(Option.some.inj h).symm⟩
theorem at_lt{α:Type}{xs:List α}{i:Nat}{x: α}(h:xs[i]?=some x):i<xs.length:=(UG.mp h).1
theorem at_of{α:Type}{xs:List α}{i:Nat}(h:i<xs.length):∃x,xs[i]?=some x:=⟨xs[i],by simp[h]⟩
theorem kbY{α:Type}{rs:List α}{i:Nat}{r: α}(h:rs[i]?=some r):rs.take (i+1)=rs.take i++[r]:=by
 rw[Jx,h]
 rfl
inductive P2 {α β:Type} (R: α→β→Prop):List α→List β→Prop
 |nil:P2 R [] []
 |cons {a: α} {b: β} {as:List α} {bs:List β} (h:R a b) (t:P2 R as bs):P2 R (a::as) (b::bs)
section
variable {α β:Type} {R R': α→β→Prop} {as as':List α} {bs bs':List β}
theorem P2.of(hl:as.length=bs.length)(h:∀(i:Nat) (a: α) (b: β),as[i]?=some a→bs[i]?=some b→R a b):P2 R as bs:=by
 induction as generalizing bs with
 |nil=>
  cases bs with
  |nil=>exact .nil
  |cons b bs=>cases hl
 |cons a as ih=>
  cases bs with
  |nil=>cases hl
  |cons b bs=>exact .cons (h 0 a b rfl rfl) (ih (by simpa using hl) fun i x y e1 e2=>h (i+1) x y (by simpa using e1) (by simpa using e2))
theorem P2.len(h:P2 R as bs):as.length=bs.length:=by
 induction h with
 |nil=>rfl
 |cons r t ih=>simp[ih]
theorem P2.get(h:P2 R as bs){i:Nat}{a: α}{b: β}(e1:as[i]?=some a)(e2:bs[i]?=some b):R a b:=by
 induction h generalizing i with
 |nil=>simp at e1
 | cons r t ih=>
  cases i with
  |zero=>
   simp at e1 e2
   subst e1 e2
   exact r
  |succ i=>exact ih (by simpa using e1) (by simpa using e2)
theorem P2.at(h:P2 R as bs){i:Nat}{a: α}(e1:as[i]?=some a):∃b,bs[i]?=some b∧R a b:=by
 obtain⟨b,e2⟩:=at_of (xs:=bs) (i:=i) (by rw[←h.len];exact at_lt e1)
 exact⟨b,e2,h.get e1 e2⟩
theorem P2.mono(h:P2 R as bs)(k:∀a b,R a b→R' a b):P2 R' as bs:=by
 induction h with
 |nil=>exact .nil
 |cons r t ih=>exact .cons (k _ _ r) ih
theorem P2.append(h:P2 R as bs)(h':P2 R as' bs'):P2 R (as++as') (bs++bs'):=by
 induction h with
 |nil=>exact h'
 |cons r t ih=>exact .cons r ih
theorem P2.snoc(h:P2 R as bs){a: α}{b: β}(r:R a b):P2 R (as++[a]) (bs++[b]):=h.append (.cons r .nil)
theorem P2.take(h:P2 R as bs)(k:Nat):P2 R (as.take k) (bs.take k):=by
 induction h generalizing k with
 |nil=>simpa using P2.nil
 |cons r t ih=>
  cases k with
  |zero=>exact .nil
  |succ k=>exact .cons r (ih k)
theorem P2.drop(h:P2 R as bs)(k:Nat):P2 R (as.drop k) (bs.drop k):=by
 induction h generalizing k with
 |nil=>simpa using P2.nil
 |cons r t ih=>
  cases k with
  |zero=>exact .cons r t
  |succ k=>exact ih k
theorem P2.reverse(h:P2 R as bs):P2 R as.reverse bs.reverse:=by
 induction h with
 |nil=>exact .nil
 |cons r t ih=>
  rw[Nl,Nl]
  exact ih.append (.cons r .nil)
end
theorem rep1(n:Nat)(v:V):(Uz n [v]).flatten=Uz n v:=by
 induction n with
 |zero=>rfl
 |succ n ih=>rw[JE,U0,ih,JE];rfl
theorem kh5(n:Nat)(z:Int):Uz n (V.int z)=(Uz n z).map V.int:=by simp
theorem kki(k:Int):(!decide (V.int k=V.non))=true:=by simp
theorem kkh:(!decide (V.non=V.non))=false:=by simp
noncomputable def oV:Option Int→V
 |none=>.non
 |some z=>.int z
structure TxtB (mg:Str→Option Value):Prop where
 range:mg "range"=none
 len:mg "len"=none
 min:mg "min"=none
 max:mg "max"=none
 isi:mg "isinstance"=none
 bool:mg "bool"=none
 int:mg "int"=none
 list:mg "list"=none
 sum:mg "sum"=none
 enum:mg "enumerate"=none
 any:mg "any"=none
 all:mg "all"=none
 rev:mg "reversed"=none
 zip:mg "zip"=none
 abs:mg "abs"=none
 sorted:mg "sorted"=none
 tuple:mg "tuple"=none
 str:mg "str"=none
structure FunD (K:Uv) (x qual:Str) (st:Stmt) (f:Addr) (fd:FuncData):Prop where
 ex:∃(oc:Value) (od:Option Addr) (dV kV doc pm:Value) (an:Option Addr) (cdv ct:Value) (osl:Array (Option Value)),
  fd=UI x qual (kaE st) (kaD st) (kag st) dV kV doc pm an cdv ct∧K.lookup f=some ⟨oc,od, .func fd,osl⟩∧U2 K cdv qual=true
 kp:UJ K (.ref f)=true
theorem FunD.ok{P:Program}{w:World}{K:Uv}{mg:Str→Option Value}{base:Heap}{x qual:Str}{st:Stmt}{f:Addr}{fd:FuncData}{N ps:List Str}{k:Nat}{sp:Sp}(F:FunD K x qual st f fd)(S:kaq N ps (kag st))(len:∀vs H Q E,sp vs H Q E→vs.length=ps.length)
  (hbody:∀(cdv:Value) (A:Around) (outer:List Env) (s:Shared) (H:Hp) (vs:List V) (Q:VK) (E:XK),Room k (A.deeper (PyProof.Rows.envOfC qual (kag st) s.heap.objs.size f cdv))→sp vs H Q E→
   ∃t,PSs (cxOf CX0 P w K mg base N qual (kag st) f cdv A outer s H E).nox (kaD st) t∧t {nx:=fun _ H'=>Q .non H',rt:=Q} (start N vs) H):FnOk P w K mg base CX0 (k+1) f fd ps sp:=by
 obtain⟨oc,od,dV,kV,doc,pm,an,cdv,ct,osl,rfl,lk,hcd⟩:=F.ex
 refine fn_of lk hcd S len fun A outer s H vs Q E hr hsp=>?_
 obtain⟨t,h,q⟩:=hbody cdv A outer s H vs Q E hr hsp
 exact⟨t,h.nox,q⟩
theorem FunD.okC{P:Program}{w:World}{K:Uv}{mg:Str→Option Value}{base:Heap}{x qual:Str}{st:Stmt}{f:Addr}{fd:FuncData}{N ps:List Str}{k:Nat}{sp:Sp}(F:FunD K x qual st f fd)(S:kaq N ps (kag st))(len:∀vs H Q E,sp vs H Q E→vs.length=ps.length)
  (hbody:∀(A:Around) (outer:List Env) (s:Shared) (H:Hp) (vs:List V) (Q:VK) (E:XK),Room k (A.deeper (PyProof.Rows.envOfC qual (kag st) s.heap.objs.size f fd.code))→sp vs H Q E→
   ∃t,PSs (cxOf CX0 P w K mg base N qual (kag st) f fd.code A outer s H E).nox (kaD st) t∧t {nx:=fun _ H'=>Q .non H',rt:=Q} (start N vs) H):FnOk P w K mg base CX0 (k+1) f fd ps sp:=by
 obtain⟨oc,od,dV,kV,doc,pm,an,cdv,ct,osl,rfl,lk,hcd⟩:=F.ex
 refine fn_of lk hcd S len fun A outer s H vs Q E hr hsp=>?_
 obtain⟨t,h,q⟩:=hbody A outer s H vs Q E hr hsp
 exact⟨t,h.nox,q⟩
theorem kbp{K:Uv}{x qual:Str}{st:Stmt}{f:Addr}{oc:Value}{od an:Option Addr}{osl:Array (Option Value)}{dV kV doc pm cdv ct:Value}(l:K.lookup f=some ⟨oc,od, .func (UI x qual (kaE st) (kaD st) (kag st) dV kV doc pm an cdv ct),osl⟩)
  (c:U2 K cdv qual=true) (k:UJ K (.ref f)=true):FunD K x qual st f (UI x qual (kaE st) (kaD st) (kag st) dV kV doc pm an cdv ct):=⟨⟨oc,od,dV,kV,doc,pm,an,cdv,ct,osl,rfl,l,c⟩,k⟩
structure Dn (K:Uv) (mg:Str→Option Value) (x:Str) (st:Stmt) (ps:List Str) (f:Addr) (fd:FuncData):Prop where
 F:FunD K x x st f fd
 b:Binds K fd ps []
 m:mg x=some (.ref f)
structure Isi (K:Uv) (C:Addr):Prop where
 ha:Ux K (.ref C) "__class__"=some (some (.builtin "object.__class__"))
 hn:JW K (.builtin "object.__class__") "__get__"=some (some (.builtin "getset_descriptor.__get__"))
 ht:NQ K (.builtin "object.__class__")=some true
 hm:UC K C (.type "object")=some true
theorem kaQ{K:Uv}{A B:Addr}{b:Bool}(mA:UC K A (.ref B)=some b)(ob:UC K B (.type "object")=some true)(ty:U6 K (.ref B)=some (.type "type"))(ne:A≠B):UK K (.ref A) (.ref B)=some b:=by
 have e:(Value.ref A==Value.ref B)=false:=beq_eq_false_iff_ne.mpr fun z=>ne (by injection z)
 obtain⟨cd,a,_⟩:=Option.bind_eq_some_iff.mp ob
 unfold UK PySem.W.kitCls PySem.W.subIn
 rw[e,if_neg UA]
 show(if((PySem.W.clsIn K B).isSome&&U6 K (.ref B)==some (.type "type"))=true then UC K A (.ref B) else none)=some b
 rw[a,ty,mA,if_pos (by simp)]
theorem kbi{K:Uv}{A B:Addr}(h:UC K A (.ref B)=some false)(hA:UC K A (.ref A)=some true):A≠B:=fun e=>by
 rw[←e,hA] at h
 cases h
structure ClsT (K:Uv) (mg:Str→Option Value) (nm:Str) (C:Addr):Prop where
 cl:Cls K C
 m:mg nm=some (.ref C)
 isi:Isi K C
 self:UC K C (.ref C)=some true
 ty:U6 K (.ref C)=some (.type "type")
 makes:Ja K C=true
 kp:UJ K (.ref C)=true
structure MthT (K:Uv) (C:Addr) (m qual:Str) (st:Stmt) (ps:List Str) (f:Addr) (fd:FuncData):Prop where
 at_:Ux K (.ref C) m=some (some (.ref f))
 fn:U9 K (.ref f)=true
 F:FunD K m qual st f fd
 b:Binds K fd ps []
theorem MthT.me{K:Uv}{C:Addr}{m qual:Str}{st:Stmt}{ps:List Str}{f:Addr}{fd:FuncData}(h:MthT K C m qual st ps f fd):Meth K C m f:=⟨h.at_,h.fn,h.F.kp⟩
theorem MthT.mk'{K:Uv}{mg:Str→Option Value}{C:Addr}{nm qual:Str}{st:Stmt}{ps:List Str}{f:Addr}{fd:FuncData}(h:MthT K C "__init__" qual st ps f fd)(c:ClsT K mg nm C):Mk K C f:=⟨c.makes,h.at_,h.fn,c.kp⟩
end L2
namespace War
structure Row where
 kd:Int
 pr:Int
 mn:Int
 ex:Option Int
structure Row.Ok (r:Row):Prop where
 pr0:0≤r.pr
 pr1:r.pr≤1000000000000
 mn0:0≤r.mn
 mn1:r.mn≤60
 ex0:∀z,r.ex=some z→0≤z∧z≤1000000000000
noncomputable def prc(m:Bool)(r:Row):Int:=if m=true then r.ex.getD r.pr else r.pr
noncomputable def own(rs:List Row):List Int:=(rs.zipIdx.map fun p=>Uz p.1.mn.toNat (p.2:Int)).flatten
noncomputable def prs(m:Bool)(rs:List Row):List Int:=(rs.map fun r=>Uz r.mn.toNat (prc m r)).flatten
theorem kjn(rs:List Row)(r:Row):own (rs++[r])=own rs++Uz r.mn.toNat (rs.length:Int):=by
 unfold own
 rw[List.zipIdx_append,UD,Nx]
 simp
theorem kjg(m:Bool)(rs:List Row)(r:Row):prs m (rs++[r])=prs m rs++Uz r.mn.toNat (prc m r):=by
 unfold prs
 rw[UD,Nx]
 simp
theorem kgO:∀(rs:List Row) (k:Nat),(∀r∈rs,r.Ok)→((rs.zipIdx k).map fun p=>Uz p.1.mn.toNat (p.2:Int)).flatten.length≤60*rs.length
 |[],_,_=>by simp
 |r::rs,k,h=>by
  have h1:=kgO rs (k+1) fun x hx=>h x (US _ hx)
  have h2:=(h r UX).mn1
  rw[J7,UQ,U0,UW,JD,Jg]
  show r.mn.toNat+_≤_
  omega
theorem kij(rs:List Row)(h:∀r∈rs,r.Ok):(own rs).length≤60*rs.length:=kgO rs 0 h
theorem kib(m:Bool):∀(rs:List Row),(∀r∈rs,r.Ok)→(prs m rs).length≤60*rs.length
 |[],_=>by simp[prs]
 |r::rs,h=>by
  have h1:=kib m rs fun x hx=>h x (US _ hx)
  have h2:=(h r UX).mn1
  unfold prs at h1⊢
  rw[UQ,U0,UW,JD,Jg]
  omega
theorem kkb{m:Bool}{r:Row}(h:r.Ok):0≤prc m r∧prc m r≤1000000000000:=by
 unfold prc
 split
 ·cases e:r.ex with
  |none=>exact⟨h.pr0,h.pr1⟩
  |some z=>exact h.ex0 z e
 ·exact⟨h.pr0,h.pr1⟩
theorem take_snoc{α:Type}{rs:List α}{i:Nat}{r: α}(h:rs[i]?=some r):rs.take (i+1)=rs.take i++[r]:=by
 rw[Jx,h]
 rfl
end War
namespace Kin
noncomputable def Good(ps:List (Option Nat)):Prop:=∀(i k:Nat),ps[i]?=some (some k)→k<i
noncomputable def anc(ps:List (Option Nat)):Nat→Nat→List Nat
 |0,_=>[]
 |f+1,i=>i::(match ps[i]? with|some (some k)=>anc ps f k|_=>[])
noncomputable def up(ps:List (Option Nat))(i:Nat):List Nat:=anc ps (i+1) i
theorem kjU{ps:List (Option Nat)}(g:Good ps):∀(f f' i:Nat),i<f→i<f'→anc ps f i=anc ps f' i:=by
 intro f
 induction f with
 |zero=>intro f' i h;omega
 | succ f ih=>
  intro f' i h h'
  cases f' with
  |zero=>omega
  | succ f'=>
   show i::_=i::_
   congr 1
   cases e:ps[i]? with
   |none=>rfl
   | some o=>
    cases o with
    |none=>rfl
    |some k=>
     have hk:=g i k e
     exact ih f' k (by omega) (by omega)
theorem kky{ps:List (Option Nat)}(g:Good ps){i k:Nat}(e:ps[i]?=some (some k)):up ps i=i::up ps k:=by
 have hk:=g i k e
 show i::_=_
 rw[e]
 show i::anc ps i k=i::up ps k
 rw[kjU g i (k+1) k hk (by omega)]
 rfl
theorem kkz{ps:List (Option Nat)}{i:Nat}(e:ps[i]?=some none):up ps i=[i]:=by
 show i::_=_
 rw[e]
noncomputable def rest(ps:List (Option Nat)):Option Nat→List Nat
 |none=>[]
 |some k=>up ps k
noncomputable def left:Option Nat→Nat
 |none=>0
 |some k=>k+1
theorem up_eq{ps:List (Option Nat)}(g:Good ps){i:Nat}{o:Option Nat}(e:ps[i]?=some o):up ps i=i::rest ps o:=by
 cases o with
 |none=>exact kkz e
 |some k=>exact kky g e
theorem kjF:Good []:=fun i k e=>by simp at e
theorem kfD{ps:List (Option Nat)}(g:Good ps){o:Option Nat}(h:∀k,o=some k→k<ps.length):Good (ps++[o]):=by
 intro i k e
 rcases Nat.lt_trichotomy i ps.length with hi|hi|hi
 ·rw[JX hi] at e
  exact g i k e
 ·subst hi
  rw[JQ (Uw _)] at e
  simp at e
  exact h k e
 ·rw[JQ (by omega)] at e
  have:(i-ps.length)≠0:=by omega
  cases q:i-ps.length with
  |zero=>omega
  |succ n=>rw[q] at e;simp at e
end Kin
namespace Kin
end Kin
namespace Deal
noncomputable def pre(ws:List Int)(k:Nat):Int:=(ws.take k).sum
noncomputable def part(c:Int)(ws:List Int)(j:Nat):Int:=c*pre ws (j+1)/ws.sum-c*pre ws j/ws.sum
noncomputable def dl(c:Int)(ws:List Int):List Int:=if ws.sum=0 then ws.map (fun _=>0) else(UB ws.length).map (part c ws)
theorem kjh(ws:List Int):pre ws 0=0:=by simp[pre]
theorem kic(ws:List Int):pre ws ws.length=ws.sum:=by simp[pre]
theorem kdD{ws:List Int}{i:Nat}{w:Int}(h:ws[i]?=some w):pre ws (i+1)=pre ws i+w:=by
 unfold pre
 rw[Jx,h]
 simp
theorem kes(c:Int)(ws:List Int):(dl c ws).length=ws.length:=by
 unfold dl
 split <;> simp
theorem dl_at{c:Int}{ws:List Int}(h:¬ws.sum=0){j:Nat}(hj:j<ws.length):(dl c ws)[j]?=some (part c ws j):=by
 unfold dl
 rw[if_neg h]
 simp[hj]
theorem kiN{c:Int}{ws:List Int}(h:ws.sum=0){j:Nat}(hj:j<ws.length):(dl c ws)[j]?=some 0:=by
 unfold dl
 rw[if_pos h]
 simp[hj]
noncomputable def Nn(ws:List Int):Prop:=∀w∈ws,0≤w
theorem kb6:∀{ws:List Int},Nn ws→0≤ws.sum
 |[],_=>by simp
 |w::ws,h=>by
  have:=kb6 (ws:=ws) fun x hx=>h x (US _ hx)
  have h1:=h w UX
  simp
  omega
theorem kii{c s A w:Int}(hs:0<s)(hc:0≤c)(hcs:c≤s)(hw:0≤w):0≤c*(A+w)/s-c*A/s∧c*(A+w)/s-c*A/s≤w∧
  (c*(A+w)/s-c*A/s)*s-c*w<s∧-s<(c*(A+w)/s-c*A/s)*s-c*w:=by
 have e:c*(A+w)=c*A+c*w:=Int.mul_add ..
 rw[e]
 generalize hx:c*A=x
 have h1:0≤c*w:=Int.mul_nonneg hc hw
 have h2:c*w≤w*s:=by
  rw[Int.mul_comm w s]
  exact Int.mul_le_mul_of_nonneg_right hcs hw
 generalize hy:c*w=y at h1 h2
 have m1:x/s≤(x+y)/s:=Int.ediv_le_ediv hs (by omega)
 have m2:(x+y)/s≤(x+w*s)/s:=Int.ediv_le_ediv hs (by omega)
 rw[Int.add_mul_ediv_right _ _ (by omega)] at m2
 have d1:=Int.emod_add_mul_ediv x s
 have d2:=Int.emod_add_mul_ediv (x+y) s
 have r1:=Int.emod_nonneg x (show s≠0 by omega)
 have r2:=Int.emod_lt_of_pos x hs
 have r3:=Int.emod_nonneg (x+y) (show s≠0 by omega)
 have r4:=Int.emod_lt_of_pos (x+y) hs
 have e3:((x+y)/s-x/s)*s=s*((x+y)/s)-s*(x/s):=by
  rw[Int.sub_mul,Int.mul_comm,Int.mul_comm (x/s)]
 rw[e3]
 refine⟨by omega,by omega,by omega,by omega⟩
end Deal
namespace Vs
open Kin Deal
structure Mks where
 kind:Option Nat
 needs:Int
 most:Option Int
 member:Bool
 once:Bool
 lone:Bool
inductive Srt
 |off (a:Int)
 |share (s:Int) (b:Bool)
 |cheap (n:Int)
 |bund (n p:Int)
 |carr
structure Vch where
 so:Srt
 ms:Mks
structure Stnd where
 ow:List Nat
 pr:List Int
 cg:Int
 mkd:List Bool
noncomputable def kHit(ps:List (Option Nat))(kind:Option Nat)(kd:Nat):Bool:=match kind with
 |none=>true
 |some k=>decide (k∈up ps kd)
noncomputable def hits(ps:List (Option Nat))(kds:List Nat)(kind:Option Nat)(lone:Bool)(mkd:List Bool)(l:Nat):Bool:=
 kHit ps kind (kds.getD l 0)&&(!lone|| !(mkd.getD l false))
noncomputable def abt(ps:List (Option Nat))(kds:List Nat)(kind:Option Nat)(lone:Bool)(S:Stnd):List Nat:=
 (UB S.ow.length).filter fun i=>hits ps kds kind lone S.mkd (S.ow.getD i 0)
theorem kg8{ps:List (Option Nat)}{kds:List Nat}{kind:Option Nat}{lone:Bool}{S:Stnd}{i:Nat}(h:i∈abt ps kds kind lone S):i<S.ow.length:=by
 have:=(Jm.mp h).1
 simpa using this
theorem kfU(ps:List (Option Nat))(kds:List Nat)(kind:Option Nat)(lone:Bool)(S:Stnd):(abt ps kds kind lone S).Nodup:=JS.filter _ Ny
theorem keb(ps:List (Option Nat))(kds:List Nat)(kind:Option Nat)(lone:Bool)(S:Stnd):(abt ps kds kind lone S).length≤S.ow.length:=by
 have:=JU (fun i=>hits ps kds kind lone S.mkd (S.ow.getD i 0)) (UB S.ow.length)
 simpa[abt] using this
noncomputable def qs(pr:List Int)(is:List Nat):List Int:=is.map fun i=>pr.getD i 0
theorem kbX(pr:List Int)(is:List Nat):(qs pr is).length=is.length:=by simp[qs]
noncomputable def spr(n:Nat)(is:List Nat)(vs:List Int):List Int:=(UB n).map fun i=>((is.zip vs).lookup i).getD 0
theorem kcF(n:Nat)(is:List Nat)(vs:List Int):(spr n is vs).length=n:=by simp[spr]
theorem kkE(n:Nat)(vs:List Int):spr n [] vs=Uz n 0:=by
 unfold spr
 apply JH
 ·simp
 ·intro i h1 h2
  simp
theorem kgg{l:List (Nat×Int)}{i j:Nat}{v:Int}(h:∀p∈l,p.1≠i):(l++[(i,v)]).lookup j=if j=i then some v else l.lookup j:=by
 induction l with
 | nil=>
  simp only[Nm,U4,List.lookup_nil]
  by_cases e:j=i
  ·subst e;simp
  ·have:(j==i)=false:=beq_eq_false_iff_ne.mpr e
   simp[this,e]
 | cons p l ih=>
  obtain⟨k,w⟩:=p
  have ih':=ih fun q hq=>h q (US _ hq)
  have hk:k≠i:=h (k,w) UX
  simp only[N1,U4]
  by_cases e:j=k
  ·subst e
   simp[hk]
  ·have:(j==k)=false:=beq_eq_false_iff_ne.mpr e
   simp only[this]
   exact ih'
theorem kkD{n:Nat}{is:List Nat}{vs:List Int}(hn:is.Nodup){k i:Nat}{v:Int}(h1:is[k]?=some i)(h2:vs[k]?=some v)(hi:i<n):
  (spr n (is.take k) (vs.take k)).set i v=spr n (is.take (k+1)) (vs.take (k+1)):=by
 have e1:is.take (k+1)=is.take k++[i]:=by rw[Jx,h1];rfl
 have e2:vs.take (k+1)=vs.take k++[v]:=by rw[Jx,h2];rfl
 have hk1:k<is.length:=(UG.mp h1).1
 have hk2:k<vs.length:=(UG.mp h2).1
 have ez:(is.take (k+1)).zip (vs.take (k+1))=(is.take k).zip (vs.take k)++[(i,v)]:=by
  rw[e1,e2,List.zip_append (by simp;omega)]
  rfl
 have hne:∀p∈(is.take k).zip (vs.take k),p.1≠i:=fun p hp e=>by
  have hm:p.1∈is.take k:=(JC hp).1
  rw[e] at hm
  obtain⟨j,hj,ej⟩:=List.getElem_of_mem hm
  rw[UL] at hj
  rw[List.getElem_take] at ej
  have e3:is[k]=i:=by
   obtain⟨_,q⟩:=UG.mp h1
   exact q
  exact JM.mp hn j k (by omega) hk1 (by omega) (by rw[ej,e3])
 apply JH
 ·simp[spr]
 ·intro j h3 h4
  have hj:j<n:=by simpa[spr] using h4
  rw[List.getElem_set]
  simp only[spr,J4,Nz]
  rw[ez,kgg hne]
  by_cases e:i=j
  ·subst e;simp
  ·have:¬j=i:=fun z=>e z.symm
   simp[e,this]
noncomputable def bef(q:List Int)(a b:Nat):Prop:=q.getD b 0<q.getD a 0∨(q.getD a 0=q.getD b 0∧a<b)
noncomputable def Fall(q:List Int)(r:List Nat):Prop:=r.Perm (UB q.length)∧r.Pairwise (bef q)
theorem kjS{q:List Int}{a b:Nat}(h:bef q a b)(h':bef q b a):False:=by
 unfold bef at h h'
 omega
theorem kdP{R:Nat→Nat→Prop}(asym:∀a b,R a b→R b a→False):∀{l l':List Nat},l.Perm l'→l.Pairwise R→l'.Pairwise R→l=l'
 |[],l',p,_,_=>(List.nil_perm.mp p).symm
 | a ::l,l',p,h,h'=>by
  cases l' with
  |nil=>exact absurd p.length_eq (by simp)
  | cons b l'=>
   have hab:a=b:=by
    rcases Classical.em (a=b) with e|e
    ·exact e
    ·have ha:a∈b::l':=p.mem_iff.mp UX
     have hb:b∈a::l:=p.mem_iff.mpr UX
     rcases UO.mp ha with e1|ha
     ·exact absurd e1 e
     ·rcases UO.mp hb with e2|hb
      ·exact absurd e2.symm e
      ·exact(asym a b ((NA.mp h).1 b hb) ((NA.mp h').1 a ha)).elim
   subst hab
   congr 1
   exact kdP asym (JN.cons_inv p) (NA.mp h).2 (NA.mp h').2
theorem kgq{q:List Int}{r r':List Nat}(h:Fall q r)(h':Fall q r'):r=r':=
 kdP (fun _ _ a b=>kjS a b) (h.1.trans h'.1.symm) h.2 h'.2
noncomputable def grp(n:Nat)(r:List Nat):List (List Nat):=(UB (r.length/n)).map fun g=>(r.drop (g*n)).take n
end Vs
namespace Vs
open Kin Deal
noncomputable def Le2(xs ys:List Int):Prop:=xs.length=ys.length∧∀(j:Nat) (v w:Int),xs[j]?=some v→ys[j]?=some w→0≤v∧v≤w
theorem Le2.nil:Le2 [] []:=⟨rfl,fun j v w e=>by simp at e⟩
theorem Le2.self{xs:List Int}(h:Nn xs):Le2 xs xs:=⟨rfl,fun j v w e1 e2=>by
 rw[e1] at e2
 cases e2
 exact⟨h v (UE e1),Int.le_refl _⟩⟩
theorem Le2.nn{xs ys:List Int}(h:Le2 xs ys):Nn xs:=fun v hv=>by
 obtain⟨j,hj,e⟩:=List.getElem_of_mem hv
 exact(h.2 j v (ys[j]'(by rw[←h.1];exact hj)) (by simp[hj,e]) (by simp[show j<ys.length by rw[←h.1];exact hj])).1
theorem Le2.trans{xs ys zs:List Int}(h:Le2 xs ys)(h':Le2 ys zs):Le2 xs zs:=⟨h.1.trans h'.1,fun j v w e1 e2=>by
 have hj:j<xs.length:=(UG.mp e1).1
 have e3:ys[j]?=some (ys[j]'(by rw[←h.1];exact hj)):=by simp[show j<ys.length by rw[←h.1];exact hj]
 have a:=h.2 j v _ e1 e3
 have b:=h'.2 j _ w e3 e2
 omega⟩
theorem Le2.append{xs ys xs' ys':List Int}(h:Le2 xs ys)(h':Le2 xs' ys'):Le2 (xs++xs') (ys++ys'):=by
 refine⟨by simp[h.1,h'.1],fun j v w e1 e2=>?_⟩
 have hl:=h.1
 rcases Nat.lt_or_ge j xs.length with hj|hj
 ·rw[JX hj] at e1
  rw[JX (by omega)] at e2
  exact h.2 j v w e1 e2
 ·rw[JQ hj] at e1
  rw[JQ (by omega),←hl] at e2
  exact h'.2 _ v w e1 e2
theorem Le2.sum:∀{xs ys:List Int},Le2 xs ys→0≤xs.sum∧xs.sum≤ys.sum
 |[],[],_=>by simp
 |[],_::_,h=>by have:=h.1;simp at this
 |_::_,[],h=>by have:=h.1;simp at this
 |x::xs,y::ys,h=>by
  have h0:=h.2 0 x y rfl rfl
  have h1:Le2 xs ys:=⟨by simpa using h.1,fun j v w e1 e2=>h.2 (j+1) v w (by simpa using e1) (by simpa using e2)⟩
  have h2:=Le2.sum h1
  simp
  omega
theorem dl_le{c:Int}{ws:List Int}(hn:Nn ws)(h0:0≤c)(h1:c≤ws.sum):Le2 (dl c ws) ws:=by
 refine⟨kes c ws,fun j v w e1 e2=>?_⟩
 have hj:j<ws.length:=(UG.mp e2).1
 have hw:=hn w (UE e2)
 by_cases hs:ws.sum=0
 ·rw[kiN hs hj] at e1
  cases e1
  exact⟨Int.le_refl _,hw⟩
 ·rw[dl_at hs hj] at e1
  cases e1
  have hp:0<ws.sum:=by
   have:=kb6 hn
   omega
  have q:=kii (A:=pre ws j) hp h0 h1 hw
  unfold part
  rw[kdD e2]
  exact⟨q.1,q.2.1⟩
theorem kde{is:List Nat}{vs:List Int}{i:Nat}{v:Int}(h:(is.zip vs).lookup i=some v):∃k:Nat,is[k]?=some i∧vs[k]?=some v:=by
 induction is generalizing vs with
 |nil=>simp at h
 | cons a is ih=>
  cases vs with
  |nil=>simp at h
  | cons b vs=>
   simp only[List.zip_cons_cons,U4] at h
   by_cases e:i=a
   ·subst e
    simp at h
    exact⟨0,rfl,by simp[h]⟩
   ·have:(i==a)=false:=beq_eq_false_iff_ne.mpr e
    rw[this] at h
    obtain⟨k,h1,h2⟩:=ih h
    exact⟨k+1,by simpa using h1,by simpa using h2⟩
theorem kfa{pr:List Int}{is:List Nat}{vs:List Int}(hn:Nn pr)(hv:Le2 vs (qs pr is)):Le2 (spr pr.length is vs) pr:=by
 refine⟨kcF _ _ _,fun j v w e1 e2=>?_⟩
 have hj:j<pr.length:=(UG.mp e2).1
 have hw:=hn w (UE e2)
 have e3:v=((is.zip vs).lookup j).getD 0:=by
  simp[spr,hj] at e1
  exact e1.symm
 cases e4:(is.zip vs).lookup j with
 |none=>
  rw[e4] at e3
  subst e3
  exact⟨Int.le_refl _,hw⟩
 |some u=>
  rw[e4] at e3
  have e3':v=u:=e3
  subst e3'
  obtain⟨k,h1,h2⟩:=kde e4
  refine hv.2 k v w h2 ?_
  simp only[qs,UF,h1,Nr]
  rw[UP,e2]
  rfl
theorem qs_nn{pr:List Int}(hn:Nn pr)(is:List Nat):Nn (qs pr is):=fun v hv=>by
 obtain⟨i,_,rfl⟩:=UR.mp hv
 rw[UP]
 cases e:pr[i]? with
 |none=>exact Int.le_refl _
 |some w=>exact hn w (UE e)
noncomputable def leQ(q:List Int)(a b:Nat):Bool:=decide (q.getD b 0<q.getD a 0∨(q.getD a 0=q.getD b 0∧a≤b))
noncomputable def ordQ(q:List Int):List Nat:=(UB q.length).mergeSort (leQ q)
theorem kcP(q:List Int):(ordQ q).Perm (UB q.length):=List.mergeSort_perm _ _
theorem kdT(q:List Int):Fall q (ordQ q):=by
 refine⟨kcP q,?_⟩
 have h1:(ordQ q).Pairwise (fun a b=>leQ q a b=true):=List.pairwise_mergeSort (le:=leQ q) (fun a b c h h'=>by simp only[leQ,decide_eq_true_eq] at *;omega) (fun a b=>by simp only[leQ,Np,decide_eq_true_eq];omega) _
 have h2:(ordQ q).Nodup:=(kcP q).nodup_iff.mpr Ny
 refine(h1.and h2).imp fun {a b} h=>?_
 have h3:=h.1
 have h4:a≠b:=h.2
 simp only[leQ,decide_eq_true_eq] at h3
 unfold bef
 omega
noncomputable def gdl(cut:Int→Int)(gs:List (List Nat))(q:List Int):List Int:=spr q.length gs.flatten ((gs.map fun g=>dl (cut (qs q g).sum) (qs q g)).flatten)
theorem kh8(q:List Int)(a b:List Nat):qs q (a++b)=qs q a++qs q b:=by simp[qs]
theorem kkn{cut:Int→Int}{gs:List (List Nat)}{q:List Int}(hn:Nn q)(hc:∀s,0≤s→0≤cut s∧cut s≤s):Le2 (gdl cut gs q) q:=by
 refine kfa hn ?_
 induction gs with
 |nil=>exact Le2.nil
 |cons g gs ih=>
  rw[UQ,U0,U0,kh8]
  have h:=hc _ (kb6 (qs_nn hn g))
  exact(dl_le (qs_nn hn g) h.1 h.2).append ih
noncomputable def kd9(n:Nat)(lines:List Nat):List (List Nat):=(UB n).map fun l=>(UB lines.length).filter fun k=>lines.getD k 0==l
noncomputable def lasts(gs:List (List Nat)):List Nat:=gs.map fun g=>g.getLastD 0
noncomputable def want(so:Srt)(n:Nat)(lines:List Nat)(q:List Int):List Int:=match so with
 | .off a=>dl (min a q.sum) q
 | .share s false=>dl (q.sum*s/1000) q
 | .share s true=>gdl (fun z=>z*s/1000) (kd9 n lines) q
 | .cheap m=>spr q.length (lasts (grp m.toNat (ordQ q))) (qs q (lasts (grp m.toNat (ordQ q))))
 | .bund m p=>gdl (fun z=>max 0 (z-p)) (grp m.toNat (ordQ q)) q
 | .carr=>Uz q.length 0
noncomputable def fee(so:Srt)(cg:Int):Int:=match so with
 | .carr=>cg
 |_=>0
noncomputable def SrtOk:Srt→Prop
 | .off a=>0≤a∧a≤1000000000000
 | .share s _=>1≤s∧s≤1000
 | .cheap n=>2≤n∧n≤20
 | .bund n p=>2≤n∧n≤20∧0≤p∧p≤1000000000000
 | .carr=>True
theorem keE{z s:Int}(hz:0≤z)(h1:1≤s)(h2:s≤1000):0≤z*s/1000∧z*s/1000≤z:=by
 have a:0≤z*s:=Int.mul_nonneg hz (by omega)
 have b:z*s≤z*1000:=Int.mul_le_mul_of_nonneg_left h2 hz
 omega
theorem klf{q:List Int}(hn:Nn q):Le2 (Uz q.length 0) q:=by
 refine⟨by simp,fun j v w e1 e2=>?_⟩
 have:v=0:=by
  rw[NS] at e1
  split at e1
  ·exact(Option.some.inj e1).symm
  ·cases e1
 subst this
 exact⟨Int.le_refl _,hn w (UE e2)⟩
theorem kfV{a:Int}{n:Nat}{lines:List Nat}{q:List Int}(hn:Nn q)(h0:0≤a):Le2 (want (.off a) n lines q) q:=by
 have hs:=kb6 hn
 show Le2 (dl (min a q.sum) q) q
 exact dl_le hn (by omega) (by omega)
theorem kew{s:Int}{e:Bool}{n:Nat}{lines:List Nat}{q:List Int}(hn:Nn q)(h1:1≤s)(h2:s≤1000):Le2 (want (.share s e) n lines q) q:=by
 have hs:=kb6 hn
 cases e with
 |false=>
  show Le2 (dl (q.sum*s/1000) q) q
  have h:=keE hs h1 h2
  exact dl_le hn h.1 h.2
 |true=>
  show Le2 (gdl (fun z=>z*s/1000) (kd9 n lines) q) q
  exact kkn hn fun z hz=>keE hz h1 h2
theorem ke6{m p:Int}{n:Nat}{lines:List Nat}{q:List Int}(hn:Nn q)(h0:0≤p):Le2 (want (.bund m p) n lines q) q:=by
 show Le2 (gdl (fun z=>max 0 (z-p)) (grp m.toNat (ordQ q)) q) q
 exact kkn hn fun z hz=>⟨by show 0≤max 0 (z-p);omega,by show max 0 (z-p)≤z;omega⟩
theorem kex{m:Int}{n:Nat}{lines:List Nat}{q:List Int}(hn:Nn q):Le2 (want (.cheap m) n lines q) q:=by
 show Le2 (spr q.length _ (qs q _)) q
 exact kfa hn (Le2.self (qs_nn hn _))
theorem ke5{n:Nat}{lines:List Nat}{q:List Int}(hn:Nn q):Le2 (want .carr n lines q) q:=klf hn
theorem khx{so:Srt}{n:Nat}{lines:List Nat}{q:List Int}(hn:Nn q)(ho:SrtOk so):Le2 (want so n lines q) q:=by
 cases so with
 |off a=>exact kfV hn ho.1
 |share s e=>exact kew hn ho.1 ho.2
 |cheap m=>exact kex hn
 |bund m p=>exact ke6 hn ho.2.2.1
 |carr=>exact ke5 hn
noncomputable def cap(most:Option Int)(w:List Int)(f:Int):List Int×Int:=match most with
 |none=>(w,f)
 |some m=>if m<w.sum+f then(dl (min m w.sum) w,min f m) else(w,f)
theorem klA{most:Option Int}{w q:List Int}{f cg:Int}(h:Le2 w q)(hf:0≤f∧f≤cg)(hm:∀m,most=some m→0≤m):Le2 (cap most w f).1 q∧0≤(cap most w f).2∧(cap most w f).2≤cg:=by
 unfold cap
 cases most with
 |none=>exact⟨h,hf⟩
 |some m=>
  have h0:=hm m rfl
  have hs:=kb6 h.nn
  simp only
  split
  ·exact⟨(dl_le h.nn (by omega) (by omega)).trans h,by simp only;omega,by simp only;omega⟩
  ·exact⟨h,hf⟩
noncomputable def cutM(V:Vch)(ps:List (Option Nat))(kk:List Nat)(S:Stnd):List Int×Int:=
 let is:=abt ps kk V.ms.kind V.ms.lone S
 let c:=cap V.ms.most (want V.so S.mkd.length (is.map fun i=>S.ow.getD i 0) (qs S.pr is)) (fee V.so S.cg)
 (spr S.pr.length is c.1,c.2)
theorem kkr{V:Vch}{ps:List (Option Nat)}{kk:List Nat}{S:Stnd}(hn:Nn S.pr)(hc:0≤S.cg)(ho:SrtOk V.so)(hm:∀m,V.ms.most=some m→0≤m):Le2 (cutM V ps kk S).1 S.pr∧0≤(cutM V ps kk S).2∧(cutM V ps kk S).2≤S.cg:=by
 have hf:0≤fee V.so S.cg∧fee V.so S.cg≤S.cg:=by
  unfold fee
  split <;> omega
 have h:=klA (most:=V.ms.most) (khx (n:=S.mkd.length) (lines:=(abt ps kk V.ms.kind V.ms.lone S).map fun i=>S.ow.getD i 0) (qs_nn hn (abt ps kk V.ms.kind V.ms.lone S)) ho) hf hm
 exact⟨kfa hn h.1,h.2⟩
noncomputable def kcZ(ow:List Nat)(c:List Int)(l:Nat):Bool:=(UB ow.length).any fun i=>ow.getD i 0==l&&decide (0<c.getD i 0)
noncomputable def aftM(V:Vch)(ps:List (Option Nat))(kk:List Nat)(S:Stnd):Stnd:=
 ⟨S.ow,Jc (· - ·) S.pr (cutM V ps kk S).1,S.cg-(cutM V ps kk S).2,(UB S.mkd.length).map fun l=>S.mkd.getD l false||(V.ms.lone&&kcZ S.ow (cutM V ps kk S).1 l)⟩
theorem klC{V:Vch}{ps:List (Option Nat)}{kk:List Nat}{S:Stnd}(hn:Nn S.pr)(hc:0≤S.cg)(ho:SrtOk V.so)(hm:∀m,V.ms.most=some m→0≤m):Le2 (aftM V ps kk S).pr S.pr∧0≤(aftM V ps kk S).cg∧(aftM V ps kk S).cg≤S.cg:=by
 have h:=kkr (ps:=ps) (kk:=kk) hn hc ho hm
 refine⟨⟨?_,fun j v w e1 e2=>?_⟩,?_,?_⟩
 ·show(Jc _ _ _).length=_
  rw[NB,h.1.1]
  omega
 ·have hj:j<S.pr.length:=(UG.mp e2).1
  have hj2:j<(cutM V ps kk S).1.length:=by rw[h.1.1];exact hj
  have e3:(cutM V ps kk S).1[j]?=some ((cutM V ps kk S).1[j]):=by simp[hj2]
  have b:=h.1.2 j _ w e3 e2
  have e4:(Jc (· - ·) S.pr (cutM V ps kk S).1)[j]?=some (w-(cutM V ps kk S).1[j]):=by
   rw[NC,e2,e3]
  have e1':(Jc (· - ·) S.pr (cutM V ps kk S).1)[j]?=some v:=e1
  rw[e4] at e1'
  cases e1'
  omega
 ·show 0≤S.cg-_
  have:=h.2
  omega
 ·show S.cg-_≤S.cg
  have:=h.2
  omega
end Vs
namespace Vs
open Kin Deal
structure Sel (q:List Int) (row left:List Nat):Prop where
 pm:(row++left).Perm (UB q.length)
 inc:left.Pairwise (· < ·)
 pw:row.Pairwise (bef q)
 cr:∀r∈row,∀l∈left,bef q r l
theorem Sel.start(q:List Int):Sel q [] (UB q.length):=⟨JN.refl _,N2, .nil,fun r hr=>by simp at hr⟩
theorem Sel.lt{q:List Int}{row left:List Nat}(h:Sel q row left){i:Nat}(hi:i∈left):i<q.length:=by
 have:=h.pm.mem_iff.mp (U7 row hi)
 simpa using this
theorem Sel.len{q:List Int}{row left:List Nat}(h:Sel q row left):row.length+left.length=q.length:=by
 have:=h.pm.length_eq
 simpa using this
theorem Sel.fin{q:List Int}{row:List Nat}(h:Sel q row []):row=ordQ q:=by
 refine kgq ⟨?_,h.pw⟩ (kdT q)
 have:=h.pm
 rwa [Ng] at this
noncomputable def TopI(q:List Int)(left:List Nat)(i top:Nat):Prop:=(∃k,left[k]?=some top∧(k<i∨k=0))∧∀y∈left.take i,y=top∨bef q top y
theorem TopI.start{q:List Int}{left:List Nat}{t:Nat}(h:left[0]?=some t):TopI q left 0 t:=⟨⟨0,h, .inr rfl⟩,fun y hy=>by simp at hy⟩
theorem TopI.more{q:List Int}{left:List Nat}{i top x:Nat}(inc:left.Pairwise (· < ·))(h:TopI q left i top)(hx:left[i]?=some x):TopI q left (i+1) (if q.getD top 0<q.getD x 0 then x else top):=by
 obtain⟨⟨k,ek,hk⟩,hy⟩:=h
 have et:left.take (i+1)=left.take i++[x]:=by rw[Jx,hx];rfl
 split
 ·rename_i hlt
  refine⟨⟨i,hx, .inl (by omega)⟩,fun y hm=>?_⟩
  rw[et] at hm
  rcases Jd.mp hm with h1|h1
  ·refine .inr (.inl ?_)
   rcases hy y h1 with rfl|h2
   ·exact hlt
   ·unfold bef at h2
    omega
  ·exact .inl (by simpa using h1)
 ·rename_i hge
  refine⟨⟨k,ek,by omega⟩,fun y hm=>?_⟩
  rw[et] at hm
  rcases Jd.mp hm with h1|h1
  ·exact hy y h1
  ·have e:y=x:=by simpa using h1
   subst e
   by_cases hki:k=i
   ·subst hki
    rw[ek] at hx
    exact .inl (Option.some.inj hx).symm
   ·have hlt:top<y:=by
     obtain⟨l1,q1⟩:=UG.mp ek
     obtain⟨l2,q2⟩:=UG.mp hx
     have:=JM.mp inc k i l1 l2 (by omega)
     rwa [q1,q2] at this
    refine .inr ?_
    unfold bef
    omega
theorem Sel.step{q:List Int}{row left:List Nat}{top:Nat}(h:Sel q row left)(ht:TopI q left left.length top):Sel q (row++[top]) (left.erase top)∧top∈left:=by
 obtain⟨⟨k,ek,_⟩,hy⟩:=ht
 have hm:=UE ek
 rw[UY] at hy
 have nd:left.Nodup:=h.inc.imp fun hlt=>UV hlt
 refine⟨⟨?_,h.inc.sublist (List.erase_sublist),?_,?_⟩,hm⟩
 ·refine JN.trans ?_ h.pm
  rw[JR]
  exact JN.append_left row (List.perm_cons_erase hm).symm
 ·exact List.pairwise_append.mpr ⟨h.pw,List.pairwise_singleton _ _,fun r hr t ht=>by
   have e:t=top:=by simpa using ht
   subst e
   exact h.cr r hr t hm⟩
 ·intro r hr l hl
  have hl':=(nd.mem_erase_iff).mp hl
  rcases Jd.mp hr with h1|h1
  ·exact h.cr r h1 l hl'.2
  ·have e:r=top:=by simpa using h1
   subst e
   rcases hy l hl'.2 with h2|h2
   ·exact absurd h2 hl'.1
   ·exact h2
end Vs
namespace Vs
open Kin Deal
theorem kg0{m:Nat}{r:List Nat}{i:Nat}{g:List Nat}(h:(grp m r)[i]?=some g):i*m+m≤r.length∧g.length=m∧∀j,j<m→g[j]?=r[i*m+j]?:=by
 unfold grp at h
 rw[UF] at h
 have hi:i<r.length/m:=by
  rcases Nat.lt_or_ge i (r.length/m) with q|q
  ·exact q
  ·rw[N3 (by simpa using q)] at h
   cases h
 rw[ND hi] at h
 cases h
 have hle:i*m+m≤r.length:=by
  have h1:(i+1)*m≤r.length/m*m:=Nat.mul_le_mul_right m hi
  have h2:=Nat.div_mul_le_self r.length m
  rw[Nat.add_mul,Nat.one_mul] at h1
  omega
 refine⟨hle,by rw[UL,JY];omega,fun j hj=>?_⟩
 rw[Mc hj,List.getElem?_drop]
theorem kgj{m:Nat}{r:List Nat}{i:Nat}{g:List Nat}(hm:0<m)(h:(grp m r)[i]?=some g):r[i*m+(m-1)]?=some (g.getLastD 0):=by
 obtain⟨hle,hl,hg⟩:=kg0 h
 rw[←hg (m-1) (by omega)]
 cases g with
 |nil=>simp at hl;omega
 |cons x xs=>
  have e:(x::xs).getLastD 0=(x::xs).getLast (by simp):=by simp[List.getLastD]
  rw[e,List.getLast_eq_getElem,UG]
  refine⟨by omega,?_⟩
  congr 1
  omega
theorem kgY{gs:List (List Nat)}{i:Nat}{g:List Nat}(h:gs[i]?=some g):(lasts gs)[i]?=some (g.getLastD 0):=by
 unfold lasts
 rw[UF,h]
 rfl
theorem kcX(gs:List (List Nat)):(lasts gs).length=gs.length:=by simp[lasts]
theorem kgi{m:Nat}{r:List Nat}(hm:0<m)(hr:r.Nodup):(lasts (grp m r)).Nodup:=by
 refine JM.mpr fun i j hi hj hij e=>?_
 rw[kcX] at hi hj
 have e1:(grp m r)[i]?=some (grp m r)[i]:=by simp[hi]
 have e2:(grp m r)[j]?=some (grp m r)[j]:=by simp[hj]
 have a1:=kgj hm e1
 have a2:=kgj hm e2
 have b1:=kgY e1
 have b2:=kgY e2
 obtain⟨_,c1⟩:=UG.mp b1
 obtain⟨_,c2⟩:=UG.mp b2
 rw[c1,c2] at e
 rw[e] at a1
 obtain⟨l1,d1⟩:=UG.mp a1
 obtain⟨l2,d2⟩:=UG.mp a2
 have hlt:i*m+(m-1)<j*m+(m-1):=by
  have:=Nat.mul_lt_mul_of_pos_right hij hm
  omega
 exact JM.mp hr _ _ l1 l2 hlt (by rw[d1,d2])
theorem kkN{q:List Int}{i:Nat}(h:i∈ordQ q):i<q.length:=by
 have:=(kcP q).mem_iff.mp h
 simpa using this
end Vs
namespace Vs
open Kin Deal
theorem kjd{n:Nat}{is:List Nat}{vs:List Int}{i:Nat}{v:Int}(hl:is.length=vs.length)(hn:(is++[i]).Nodup)(hi:i<n):(spr n is vs).set i v=spr n (is++[i]) (vs++[v]):=by
 have h:=kkD (n:=n) (is:=is++[i]) (vs:=vs++[v]) hn (k:=is.length) (i:=i) (v:=v) (by simp) (by rw[hl];simp) hi
 rw[List.take_left' rfl,List.take_left' hl.symm,JF (by simp),JF (by simp[hl])] at h
 exact h
theorem kdJ{gs:List (List Nat)}(h:gs.flatten.Nodup){i k a:Nat}{g:List Nat}(hg:gs[i]?=some g)(hk:g[k]?=some a):((gs.take i).flatten++g.take k++[a]).Nodup:=by
 have e:gs=gs.take i++g::gs.drop (i+1):=by
  obtain⟨hi,eg⟩:=UG.mp hg
  rw[←eg,Ml hi,Mm]
 have e2:g=(g.take k++[a])++g.drop (k+1):=by
  obtain⟨hk',ek⟩:=UG.mp hk
  rw[JR,List.singleton_append,←ek,Ml hk',Mm]
 rw[e,Nx,U0] at h
 rw[JR]
 refine h.sublist (List.Sublist.append_left ?_ _)
 refine List.Sublist.trans ?_ (Mn g _)
 conv=>rhs;rw[e2]
 exact Mn _ _
theorem kjE{m:Nat}(r:List Nat):(grp m r).flatten=r.take (r.length/m*m):=by
 unfold grp
 have hle:r.length/m*m≤r.length:=Nat.div_mul_le_self _ _
 generalize r.length/m=c at *
 induction c with
 |zero=>simp
 |succ c ih=>
  have h1:c*m+m≤r.length:=by rw[←Nat.succ_mul];exact hle
  rw[Jz,UD,Nx,ih (by omega)]
  simp only[UQ,Nj,U0,List.flatten_nil,Ng]
  rw[show(c+1)*m=c*m+m by rw[Nat.add_mul,Nat.one_mul],List.take_add]
theorem kiD{m:Nat}{r:List Nat}(h:r.Nodup):(grp m r).flatten.Nodup:=by
 rw[kjE]
 exact h.sublist (List.take_sublist _ _)
end Vs
namespace Vs
open Kin Deal
theorem kcE{is:List Nat}(hn:is.Nodup){k i:Nat}(hk:is[k]?=some i):∀(l:List (Nat×Int)),(∀p∈l,p.1<is.length)→(l.map fun p=>(is.getD p.1 0,p.2)).lookup i=l.lookup k
 |[],_=>rfl
 | (j,v)::l,h=>by
  have ih:=kcE hn hk l fun p hp=>h p (US _ hp)
  have hj:j<is.length:=h (j,v) UX
  obtain⟨hk',ek⟩:=UG.mp hk
  have e:is.getD j 0=is[j]:=by rw[UP];simp[hj]
  simp only[UQ,U4,e]
  by_cases q:k=j
  ·subst q
   simp[ek]
  ·have h1:(k==j)=false:=by simp[q]
   have h2:(i==is[j])=false:=by
    refine beq_eq_false_iff_ne.mpr fun z=>q ?_
    exact(List.getElem_inj hn).mp (by rw[ek,z])
   rw[h1,h2]
   exact ih
theorem lookup_none{is:List Nat}{i:Nat}(hi:∀k:Nat,is[k]?≠some i):∀(l:List (Nat×Int)),(∀p∈l,p.1<is.length)→(l.map fun p=>(is.getD p.1 0,p.2)).lookup i=none
 |[],_=>rfl
 |(j,v)::l,h=>by
  have ih:=lookup_none hi l fun p hp=>h p (US _ hp)
  have hj:j<is.length:=h (j,v) UX
  have e:is.getD j 0=is[j]:=by rw[UP];simp[hj]
  have h2:(i==is[j])=false:=beq_eq_false_iff_ne.mpr fun z=>hi j (by rw[z];simp[hj])
  simp only[UQ,U4,e,h2]
  exact ih
theorem kd0{is:List Nat}(hn:is.Nodup){k i:Nat}(hk:is[k]?=some i):∀{vs:List Int},is.length=vs.length→(is.zip vs).lookup i=vs[k]?:=by
 induction is generalizing k with
 |nil=>simp at hk
 | cons a is ih=>
  intro vs hl
  cases vs with
  |nil=>simp at hl
  | cons v vs=>
   rw[List.zip_cons_cons,U4]
   cases k with
   |zero=>
    have:a=i:=by simpa using hk
    subst this
    simp
   |succ k=>
    have hk':is[k]?=some i:=by simpa using hk
    have hh:=Jh.mp hn
    have hne:(i==a)=false:=beq_eq_false_iff_ne.mpr fun z=>hh.1 (z▸UE hk')
    rw[hne]
    simpa using ih hh.2 hk' (by simpa using hl)
theorem kfW{n:Nat}{is js:List Nat}{vs:List Int}(hn:is.Nodup)(hj:∀j∈js,j<is.length):spr n is (spr is.length js vs)=spr n (js.map fun j=>is.getD j 0) vs:=by
 apply JH
 ·simp[spr]
 intro i h1 h2
 have ez:(js.map fun j=>is.getD j 0).zip vs=(js.zip vs).map fun p=>(is.getD p.1 0,p.2):=by rw[List.zip_map_left];rfl
 have hp:∀p∈js.zip vs,p.1<is.length:=fun p hp=>hj _ (JC hp).1
 simp only[spr,J4,Nz]
 rw[ez]
 by_cases hk:∃k:Nat,is[k]?=some i
 ·obtain⟨k,hk⟩:=hk
  have hkl:=(UG.mp hk).1
  rw[kcE hn hk _ hp,kd0 hn hk (by simp)]
  simp[hkl]
 ·rw[lookup_none (fun k e=>hk ⟨k,e⟩) _ hp]
  have:((is.zip ((UB is.length).map fun i=>((js.zip vs).lookup i).getD 0)).lookup i)=none:=by
   rw[List.lookup_eq_none_iff]
   intro p hp'
   have:=(JC hp').1
   obtain⟨k,ek⟩:=JO.mp this
   have hne:i≠p.1:=fun z=>hk ⟨k,by rw[ek,←z]⟩
   simpa using hne
  rw[this]
noncomputable def owns(n:Nat)(ow:List Nat)(is:List Nat):List (List Nat):=(UB n).map fun l=>is.filter fun i=>ow.getD i 0==l
theorem kd8(n:Nat)(ow is:List Nat):(kd9 n (is.map fun i=>ow.getD i 0)).map (fun g=>g.map fun j=>is.getD j 0)=owns n ow is:=by
 unfold kd9 owns
 rw[UU]
 refine Jj fun l _=>?_
 show(((UB _).filter _).map fun j=>is.getD j 0)=_
 have e:is=(UB is.length).map fun j=>is.getD j 0:=by
  apply JH
  ·simp
  ·intro j h1 h2
   simp[UP,h1]
 conv=>rhs;rw[e]
 rw[List.filter_map,Uu]
 congr 1
 refine List.filter_congr fun k hk=>?_
 have hk':k<is.length:=by simpa using hk
 simp[UP,hk']
theorem qs_qs{pr:List Int}{ab g:List Nat}(h:∀j∈g,j<ab.length):qs (qs pr ab) g=qs pr (g.map fun j=>ab.getD j 0):=by
 unfold qs
 rw[UU]
 refine Jj fun j hj=>?_
 have:=h j hj
 simp[UP,this]
theorem kfN{n:Nat}{lines:List Nat}{g:List Nat}(hg:g∈kd9 n lines){j:Nat}(hj:j∈g):j<lines.length:=by
 obtain⟨l,_,rfl⟩:=UR.mp hg
 have:=(Jm.mp hj).1
 simpa using this
theorem kgs{n N:Nat}{ow ab:List Nat}{pr:List Int}(cut:Int→Int)(hn:ab.Nodup):spr n ab (gdl cut (kd9 N (ab.map fun i=>ow.getD i 0)) (qs pr ab))=spr n (owns N ow ab).flatten ((owns N ow ab).map fun o=>dl (cut (qs pr o).sum) (qs pr o)).flatten:=by
 unfold gdl
 rw[kbX,kfW hn fun j hj=>?_,List.map_flatten,kd8]
 ·congr 2
  rw[←kd8,UU]
  refine Jj fun g hg=>?_
  have e:=qs_qs (pr:=pr) (ab:=ab) (g:=g) fun j hj=>by simpa using kfN hg hj
  show dl (cut (qs (qs pr ab) g).sum) (qs (qs pr ab) g)=dl (cut (qs pr (g.map fun j=>ab.getD j 0)).sum) (qs pr (g.map fun j=>ab.getD j 0))
  rw[e]
 ·obtain⟨g,hg,hj'⟩:=JA.mp hj
  simpa using kfN hg hj'
end Vs
namespace Vs
open Kin Deal
section
variable {p:Nat→Bool} {n:Nat} {w:List Int}
noncomputable def cnt(p:Nat→Bool)(j:Nat):Nat:=((UB j).filter p).length
theorem kiU{j:Nat}(h:p j=true):cnt p (j+1)=cnt p j+1:=by
 unfold cnt
 rw[Jz,JI,UW]
 simp[h]
theorem kkt{j:Nat}(h:p j=false):cnt p (j+1)=cnt p j:=by
 unfold cnt
 rw[Jz,JI,UW]
 simp[h]
theorem kcw:∀{n j:Nat},j<n→p j=true→((UB n).filter p)[cnt p j]?=some j
 |0,j,h,_=>by omega
 | n+1,j,h,hp=>by
  rw[Jz,JI]
  by_cases hj:j<n
  ·have ih:=kcw hj hp
   rw[JX (UG.mp ih).1]
   exact ih
  ·have e:j=n:=by omega
   subst e
   unfold cnt
   rw[JQ (Uw _)]
   simp[hp]
theorem kj0(hl:w.length=cnt p n){j:Nat}(hj:j<n):(spr n ((UB n).filter p) w)[j]?=some (if p j=true then w.getD (cnt p j) 0 else 0):=by
 unfold spr
 rw[UF,ND hj]
 show some _=some _
 congr 1
 show(Jn j (((UB n).filter p).zip w)).getD 0=_
 cases hp:p j with
 |true=>
  rw[kd0 (JS.filter _ Ny) (kcw hj hp) hl.symm,if_pos rfl,UP]
 | false=>
  rw[if_neg UA]
  cases e:(((UB n).filter p).zip w).lookup j with
  |none=>rw[NU]
  |some v=>
   obtain⟨k,hk,_⟩:=kde e
   have:=(Jm.mp (UE hk)).2
   rw[hp] at this
   cases this
theorem keM(hl:w.length=cnt p n):∀j,j≤n→pre (spr n ((UB n).filter p) w) j=pre w (cnt p j)
 |0,_=>by simp[pre,cnt]
 | j+1,h=>by
  have ih:=keM hl j (by omega)
  rw[kdD (kj0 hl (show j<n by omega)),ih]
  cases hp:p j with
  |true=>
   have hk:=(UG.mp (kcw (show j<n by omega) hp)).1
   have hk':cnt p j<w.length:=by rw[hl];exact hk
   rw[if_pos rfl,kiU hp,kdD (w:=w.getD (cnt p j) 0) (by rw[UP,Jw hk'];rfl)]
  |false=>rw[if_neg UA,kkt hp,Int.add_zero]
theorem khF(hl:w.length=cnt p n):(spr n ((UB n).filter p) w).sum=w.sum:=by
 have h:=keM hl n (Uw _)
 rw[←hl,kic] at h
 have e:pre (spr n ((UB n).filter p) w) n=(spr n ((UB n).filter p) w).sum:=by
  have:=kic (spr n ((UB n).filter p) w)
  rw[kcF] at this
  exact this
 rw[←e,h]
theorem kly(m:Int)(hl:w.length=cnt p n):dl m (spr n ((UB n).filter p) w)=spr n ((UB n).filter p) (dl m w):=by
 have hl2:(dl m w).length=cnt p n:=by rw[kes,hl]
 have hs:=khF hl
 apply List.ext_getElem?
 intro j
 by_cases hj:j<n
 ·rw[kj0 hl2 hj]
  have hjF:j<(spr n ((UB n).filter p) w).length:=by rw[kcF];exact hj
  by_cases h0:w.sum=0
  ·rw[kiN (hs.trans h0) hjF]
   cases hp:p j with
   |false=>rw[if_neg UA]
   |true=>
    have hk:=(UG.mp (kcw hj hp)).1
    rw[if_pos rfl,UP,kiN h0 (by rw[hl];exact hk)]
    rfl
  ·rw[dl_at (by rw[hs];exact h0) hjF]
   unfold part
   rw[hs,keM hl j (by omega),keM hl (j+1) (by omega)]
   cases hp:p j with
   |false=>rw[if_neg UA,kkt hp,Int.sub_self]
   |true=>
    have hk:=(UG.mp (kcw hj hp)).1
    rw[if_pos rfl,UP,dl_at h0 (by rw[hl];exact hk),kiU hp]
    rfl
 ·rw[N3 (by rw[kes,kcF];omega),N3 (by rw[kcF];omega)]
end
theorem kk2{c:Int}{n:Nat}:dl c (Uz n 0)=Uz n 0:=by
 have e:(Uz n (0:Int)).sum=0:=by simp
 unfold dl
 rw[if_pos e]
 simp
theorem kjN{V:Vch}{ps:List (Option Nat)}{kk:List Nat}{S:Stnd}(e:V.ms.most=none):
  (cutM V ps kk S).1=spr S.pr.length (abt ps kk V.ms.kind V.ms.lone S) (want V.so S.mkd.length ((abt ps kk V.ms.kind V.ms.lone S).map fun i=>S.ow.getD i 0) (qs S.pr (abt ps kk V.ms.kind V.ms.lone S))):=by
 unfold cutM cap
 rw[e]
theorem kjL{V:Vch}{ps:List (Option Nat)}{kk:List Nat}{S:Stnd}(hl:S.pr.length=S.ow.length)
  (hw:Le2 (want V.so S.mkd.length ((abt ps kk V.ms.kind V.ms.lone S).map fun i=>S.ow.getD i 0) (qs S.pr (abt ps kk V.ms.kind V.ms.lone S))) (qs S.pr (abt ps kk V.ms.kind V.ms.lone S))) {m:Int} (e:V.ms.most=some m) (h0:0≤m):
  (cutM V ps kk S).1=if(spr S.pr.length (abt ps kk V.ms.kind V.ms.lone S) (want V.so S.mkd.length ((abt ps kk V.ms.kind V.ms.lone S).map fun i=>S.ow.getD i 0) (qs S.pr (abt ps kk V.ms.kind V.ms.lone S)))).sum > m
   then dl m (spr S.pr.length (abt ps kk V.ms.kind V.ms.lone S) (want V.so S.mkd.length ((abt ps kk V.ms.kind V.ms.lone S).map fun i=>S.ow.getD i 0) (qs S.pr (abt ps kk V.ms.kind V.ms.lone S))))
   else spr S.pr.length (abt ps kk V.ms.kind V.ms.lone S) (want V.so S.mkd.length ((abt ps kk V.ms.kind V.ms.lone S).map fun i=>S.ow.getD i 0) (qs S.pr (abt ps kk V.ms.kind V.ms.lone S))):=by
 have hwl:=hw.1
 rw[kbX] at hwl
 have ea:abt ps kk V.ms.kind V.ms.lone S=(UB S.pr.length).filter fun i=>hits ps kk V.ms.kind V.ms.lone S.mkd (S.ow.getD i 0):=by rw[hl];rfl
 have ez:V.so=.carr→(want V.so S.mkd.length ((abt ps kk V.ms.kind V.ms.lone S).map fun i=>S.ow.getD i 0) (qs S.pr (abt ps kk V.ms.kind V.ms.lone S)))=Uz (qs S.pr (abt ps kk V.ms.kind V.ms.lone S)).length 0:=fun z=>by rw[z];rfl
 unfold cutM cap
 rw[e]
 simp only
 generalize want V.so S.mkd.length ((abt ps kk V.ms.kind V.ms.lone S).map fun i=>S.ow.getD i 0) (qs S.pr (abt ps kk V.ms.kind V.ms.lone S))=w at *
 rw[ea] at hwl⊢
 rw[khF hwl,kly m hwl]
 by_cases hc:V.so=.carr
 ·have hz:=ez hc
  have hs:w.sum=0:=by rw[hz];simp
  rw[if_neg (by omega:¬w.sum > m)]
  split
  ·simp only
   rw[hz,kk2]
  ·rfl
 ·have hf:fee V.so S.cg=0:=by
   unfold fee
   split
   ·rename_i z
    exact absurd z hc
   ·rfl
  rw[hf,Int.add_zero]
  by_cases hm:m<w.sum
  ·rw[if_pos hm,if_pos hm]
   simp only
   rw[Int.min_eq_left (by omega)]
  ·rw[if_neg hm,if_neg hm]
end Vs
namespace Vs
open Kin Deal
noncomputable def ins:List (Nat×List Nat)→Nat→Nat→List (Nat×List Nat)
 |[],o,a=>[(o,[a])]
 |(l,g)::G,o,a=>if l=o then(l,g++[a])::G else(l,g)::ins G o a
noncomputable def parted(f:Nat→Nat)(is:List Nat):List (Nat×List Nat):=is.foldl (fun G a=>ins G (f a) a) []
theorem kdS(f:Nat→Nat)(is:List Nat)(a:Nat):parted f (is++[a])=ins (parted f is) (f a) a:=by
 unfold parted
 rw[List.foldl_append]
 rfl
theorem kdF:∀(G:List (Nat×List Nat)) (o a:Nat),(ins G o a).map Prod.fst=if o∈G.map Prod.fst then G.map Prod.fst else G.map Prod.fst++[o]
 |[],o,a=>by simp[ins]
 | (l,g)::G,o,a=>by
  unfold ins
  by_cases h:l=o
  ·subst h
   simp
  ·rw[if_neg h,UQ,kdF G o a]
   show _=if o∈l::G.map Prod.fst then l::G.map Prod.fst else(l::G.map Prod.fst)++[o]
   have h':¬o=l:=fun z=>h z.symm
   by_cases hm:o∈G.map Prod.fst
   ·rw[if_pos hm,if_pos (US _ hm)]
   ·rw[if_neg hm,if_neg (by rw[UO,not_or];exact⟨h',hm⟩)]
    rfl
theorem kiz:∀{G:List (Nat×List Nat)} {o a l:Nat} {g:List Nat},(G.map Prod.fst).Nodup→(l,g)∈ins G o a→(l≠o∧(l,g)∈G)∨(l=o∧((∃g',(o,g')∈G∧g=g'++[a])∨(o∉G.map Prod.fst∧g=[a])))
 |[],o,a,l,g,_,h=>by
  unfold ins at h
  rw[Jy] at h
  cases h
  exact .inr ⟨rfl, .inr ⟨by simp,rfl⟩⟩
 | (k,g0)::G,o,a,l,g,hn,h=>by
  unfold ins at h
  rw[UQ,Jh] at hn
  by_cases e:k=o
  ·rw[if_pos e] at h
   subst e
   rcases UO.mp h with z|z
   ·cases z
    exact .inr ⟨rfl, .inl ⟨g0,UX,rfl⟩⟩
   ·refine .inl ⟨fun w=>?_,US _ z⟩
    subst w
    exact hn.1 (UR.mpr ⟨(l,g),z,rfl⟩)
  ·rw[if_neg e] at h
   rcases UO.mp h with z|z
   ·cases z
    exact .inl ⟨e,UX⟩
   ·rcases kiz hn.2 z with⟨w1,w2⟩|⟨w1,⟨g',w2,w3⟩|⟨w2,w3⟩⟩
    ·exact .inl ⟨w1,US _ w2⟩
    ·exact .inr ⟨w1, .inl ⟨g',US _ w2,w3⟩⟩
    ·refine .inr ⟨w1, .inr ⟨?_,w3⟩⟩
     rw[UQ,UO,not_or]
     exact⟨fun z=>e z.symm,w2⟩
structure PtOk (f:Nat→Nat) (is:List Nat) (G:List (Nat×List Nat)):Prop where
 nd:(G.map Prod.fst).Nodup
 gs:∀l g,(l,g)∈G→g=is.filter fun i=>f i==l
 all:∀i∈is,f i∈G.map Prod.fst
theorem kem(f:Nat→Nat):∀(n:Nat) (is:List Nat),is.length=n→PtOk f is (parted f is)
 |0,is,h=>by
  have e:is=[]:=List.eq_nil_of_length_eq_zero h
  subst e
  exact⟨by simp[parted],fun l g hg=>by simp[parted] at hg,fun i hi=>by simp at hi⟩
 | n +1,is,h=>by
  have hne:is≠[]:=by
   intro z
   subst z
   cases h
  obtain⟨is',a,rfl⟩:∃is' a,is=is'++[a]:=⟨is.dropLast,is.getLast hne,(List.dropLast_concat_getLast hne).symm⟩
  have ih:=kem f n is' (by simpa using h)
  rw[kdS]
  refine⟨?_,fun l g hg=>?_,fun i hi=>?_⟩
  ·rw[kdF]
   split
   ·exact ih.nd
   ·rename_i hm
    exact N4.mpr ⟨ih.nd,by simp,fun x hx y hy=>by
     rw[Jy] at hy
     subst hy
     exact fun z=>hm (by rw[←z];exact hx)⟩
  ·rw[JI]
   rcases kiz ih.nd hg with⟨w1,w2⟩|⟨w1,⟨g',w2,w3⟩|⟨w2,w3⟩⟩
   ·rw[ih.gs l g w2]
    have:(f a==l)=false:=by simpa using fun z=>w1 z.symm
    simp[this]
   ·subst w1 w3
    rw[ih.gs _ g' w2]
    simp
   ·subst w1 w3
    have e:is'.filter (fun i=>f i==f a)=[]:=by
     rw[List.filter_eq_nil_iff]
     intro i hi z
     have z':f i=f a:=by simpa using z
     exact w2 (by rw[←z'];exact ih.all i hi)
    rw[e]
    simp
  ·rw[kdF]
   rcases Jd.mp hi with hi|hi
   ·have:=ih.all i hi
    split
    ·exact this
    ·exact NM _ this
   ·rw[Jy] at hi
    subst hi
    split
    ·assumption
    ·exact U7 _ (by simp)
theorem kcq(f:Nat→Nat)(is:List Nat):PtOk f is (parted f is):=kem f is.length is rfl
theorem PtOk.snds{f:Nat→Nat}{is:List Nat}{G:List (Nat×List Nat)}(h:PtOk f is G):G.map Prod.snd=(G.map Prod.fst).map fun l=>is.filter fun i=>f i==l:=by
 rw[UU]
 refine Jj fun p hp=>?_
 exact h.gs p.1 p.2 hp
theorem khn{l l':List (Nat×Int)}{i:Nat}:(l++l').lookup i=(l.lookup i).or (l'.lookup i):=by
 induction l with
 |nil=>simp
 |cons p l ih=>
  obtain⟨a,b⟩:=p
  rw[N1,U4,U4,ih]
  split <;> rfl
theorem kep{l:List (Nat×Int)}{i:Nat}(h:∀p∈l,p.1≠i):l.lookup i=none:=by
 induction l with
 |nil=>rfl
 | cons p l ih=>
  obtain⟨a,b⟩:=p
  have h1:(i==a)=false:=by
   have:=h (a,b) UX
   simpa using fun z=>this z.symm
  rw[U4,h1]
  exact ih fun q hq=>h q (US _ hq)
section
variable {f:Nat→Nat} {is:List Nat} {D:List Nat→List Int}
theorem kkw{l i:Nat}{vs:List Int}(h:f i≠l):((is.filter fun i=>f i==l).zip vs).lookup i=none:=
 kep fun p hp=>by
  have h1:=(JC (show(p.1,p.2)∈_ from hp)).1
  have h2:f p.1=l:=by simpa using(Jm.mp h1).2
  intro z
  rw[z] at h2
  exact h h2
theorem kdm(hD:∀g,(D g).length=g.length)(i:Nat):∀(ks:List Nat),ks.Nodup→
  (((ks.map fun l=>is.filter fun i=>f i==l).flatten).zip ((ks.map fun l=>D (is.filter fun i=>f i==l)).flatten)).lookup i=if f i∈ks then((is.filter fun j=>f j==f i).zip (D (is.filter fun j=>f j==f i))).lookup i else none
 |[],_=>by simp
 | l::ks,hn=>by
  rw[Jh] at hn
  have ih:=kdm hD i ks hn.2
  rw[UQ,UQ,U0,U0,List.zip_append (hD _).symm,khn,ih]
  by_cases h:f i=l
  ·subst h
   rw[if_neg hn.1,if_pos UX,Option.or_none]
  ·rw[kkw h,Option.none_or]
   by_cases hm:f i∈ks
   ·rw[if_pos hm,if_pos (US _ hm)]
   ·rw[if_neg hm,if_neg (by rw[UO,not_or];exact⟨h,hm⟩)]
theorem khg(hD:∀g,(D g).length=g.length){n:Nat}{ks ks':List Nat}(hn:ks.Nodup)(hn':ks'.Nodup)(h:∀i∈is,f i∈ks)(h':∀i∈is,f i∈ks'):
  spr n (ks.map fun l=>is.filter fun i=>f i==l).flatten (ks.map fun l=>D (is.filter fun i=>f i==l)).flatten=spr n (ks'.map fun l=>is.filter fun i=>f i==l).flatten (ks'.map fun l=>D (is.filter fun i=>f i==l)).flatten:=by
 unfold spr
 refine Jj fun i _=>?_
 have key:∀ks:List Nat,ks.Nodup→(∀i∈is,f i∈ks)→(((ks.map fun l=>is.filter fun i=>f i==l).flatten).zip ((ks.map fun l=>D (is.filter fun i=>f i==l)).flatten)).lookup i=((is.filter fun j=>f j==f i).zip (D (is.filter fun j=>f j==f i))).lookup i:=fun ks hn hk=>by
  rw[kdm hD i ks hn]
  by_cases hm:f i∈ks
  ·rw[if_pos hm]
  ·rw[if_neg hm,kep fun p hp=>?_]
   have h1:=(JC (show(p.1,p.2)∈_ from hp)).1
   obtain⟨h2,h3⟩:=Jm.mp h1
   exact fun _=>hm (by rw[←(show f p.1=f i by simpa using h3)];exact hk _ h2)
 rw[key ks hn h,key ks' hn' h']
theorem kdR(hi:is.Nodup):∀{ks:List Nat},ks.Nodup→(ks.map fun l=>is.filter fun i=>f i==l).flatten.Nodup
 |[],_=>by simp
 |l::ks,hn=>by
  rw[Jh] at hn
  rw[UQ,U0]
  refine N4.mpr ⟨hi.filter _,kdR hi hn.2,fun x hx y hy z=>?_⟩
  subst z
  have h1:f x=l:=by simpa using(Jm.mp hx).2
  obtain⟨g,hg,hy⟩:=JA.mp hy
  obtain⟨l',hl',rfl⟩:=UR.mp hg
  have h2:f x=l':=by simpa using(Jm.mp hy).2
  exact hn.1 (by rw[←h1,h2];exact hl')
end
theorem khh{n N:Nat}{ow ab:List Nat}{pr:List Int}(cut:Int→Int)(hn:ab.Nodup)(hN:∀i∈ab,ow.getD i 0<N):
  spr n ((parted (fun i=>ow.getD i 0) ab).map Prod.snd).flatten (((parted (fun i=>ow.getD i 0) ab).map Prod.snd).map fun g=>dl (cut (qs pr g).sum) (qs pr g)).flatten=spr n ab (gdl cut (kd9 N (ab.map fun i=>ow.getD i 0)) (qs pr ab)):=by
 have ok:=kcq (fun i=>ow.getD i 0) ab
 rw[kgs cut hn,ok.snds]
 generalize hks:(parted (fun i=>ow.getD i 0) ab).map Prod.fst=ks at *
 have nd:ks.Nodup:=by rw[←hks];exact ok.nd
 have al:∀i∈ab,ow.getD i 0∈ks:=by rw[←hks];exact ok.all
 unfold owns
 rw[UU,UU]
 exact khg (f:=fun i=>ow.getD i 0) (is:=ab) (D:=fun g=>dl (cut (qs pr g).sum) (qs pr g)) (fun g=>by rw[kes,kbX]) nd Ny al fun i hi=>by simpa using hN i hi
theorem ken(f:Nat→Nat):∀(is:List Nat),(parted f is).length≤is.length:=by
 intro is
 have key:∀(is:List Nat) (G:List (Nat×List Nat)),(is.foldl (fun G a=>ins G (f a) a) G).length≤G.length+is.length:=by
  intro is
  induction is with
  |nil=>intro G;simp
  | cons a is ih=>
   intro G
   have h1:=ih (ins G (f a) a)
   have h2:(ins G (f a) a).length≤G.length+1:=by
    have:=congrArg Ni (kdF G (f a) a)
    rw[Uu] at this
    rw[this]
    split <;> simp
   rw[List.foldl_cons,Jg]
   omega
 simpa[parted] using key is []
end Vs
namespace Vs
open Kin Deal
noncomputable def fallP(pr:List Int)(is:List Nat):List Nat:=(ordQ (qs pr is)).map fun j=>is.getD j 0
theorem range_getD(is:List Nat):(UB is.length).map (fun j=>is.getD j 0)=is:=by
 apply JH
 ·simp
 ·intro j h1 h2
  simp[UP,h2]
theorem kbw(pr:List Int)(is:List Nat):(fallP pr is).Perm is:=by
 have h:=(kcP (qs pr is)).map fun j=>is.getD j 0
 rw[kbX,range_getD] at h
 exact h
noncomputable def befP(pr:List Int)(a b:Nat):Prop:=pr.getD b 0<pr.getD a 0∨(pr.getD a 0=pr.getD b 0∧a<b)
theorem kjJ{pr:List Int}{is:List Nat}(hs:is.Pairwise (· < ·)):(fallP pr is).Pairwise (befP pr):=by
 have h:=(kdT (qs pr is)).2
 have hm:=(kdT (qs pr is)).1
 unfold fallP
 rw[N5]
 refine h.imp_of_mem fun {a b} ha hb hab=>?_
 have la:a<is.length:=by simpa[kbX] using hm.mem_iff.mp ha
 have lb:b<is.length:=by simpa[kbX] using hm.mem_iff.mp hb
 have ea:(qs pr is).getD a 0=pr.getD (is.getD a 0) 0:=by simp[qs,UP,la]
 have eb:(qs pr is).getD b 0=pr.getD (is.getD b 0) 0:=by simp[qs,UP,lb]
 unfold bef at hab
 unfold befP
 rw[ea,eb] at hab
 rcases hab with z|⟨z1,z2⟩
 ·exact .inl z
 ·refine .inr ⟨z1,?_⟩
  have:=JM.mp hs a b la lb z2
  simpa[UP,la,lb] using this
theorem khq{pr:List Int}{is ks:List Nat}(hs:is.Pairwise (· < ·))(hp:ks.Perm is)(hk:ks.Pairwise (befP pr)):ks=fallP pr is:=
 kdP (R:=befP pr) (fun a b h h'=>by unfold befP at h h';omega) (hp.trans (kbw pr is).symm) hk (kjJ hs)
theorem kiF(m:Nat)(f:Nat→Nat)(r:List Nat):grp m (r.map f)=(grp m r).map fun g=>g.map f:=by
 unfold grp
 rw[Uu,UU]
 refine Jj fun g _=>?_
 show((r.map f).drop _).take _=((r.drop _).take _).map f
 rw[JT,NV]
theorem kiE{m:Nat}{r g:List Nat}(h:g∈grp m r):∀j∈g,j∈r:=fun j hj=>by
 obtain⟨i,_,rfl⟩:=UR.mp h
 exact List.mem_of_mem_drop (NF hj)
theorem kiG{n:Nat}{ab:List Nat}{pr:List Int}(cut:Int→Int)(hn:ab.Nodup)(gs:List (List Nat))(hg:∀g∈gs,∀j∈g,j<ab.length):
  spr n ab (gdl cut gs (qs pr ab))=spr n (gs.map fun g=>g.map fun j=>ab.getD j 0).flatten ((gs.map fun g=>g.map fun j=>ab.getD j 0).map fun o=>dl (cut (qs pr o).sum) (qs pr o)).flatten:=by
 unfold gdl
 rw[kbX,kfW hn fun j hj=>?_,List.map_flatten,UU]
 ·congr 2
  refine Jj fun g hg'=>?_
  have e:=qs_qs (pr:=pr) (ab:=ab) (g:=g) (hg g hg')
  show dl (cut (qs (qs pr ab) g).sum) (qs (qs pr ab) g)=dl (cut (qs pr (g.map fun j=>ab.getD j 0)).sum) (qs pr (g.map fun j=>ab.getD j 0))
  rw[e]
 ·obtain⟨g,hg',hj'⟩:=JA.mp hj
  exact hg g hg' j hj'
theorem kkc{pr:List Int}{is:List Nat}{m:Nat}{g:List Nat}(h:g∈grp m (ordQ (qs pr is))):∀j∈g,j<is.length:=fun j hj=>by
 have:=kkN (kiE h j hj)
 rwa [kbX] at this
theorem kjR{n m:Nat}{is:List Nat}{pr:List Int}(cut:Int→Int)(hn:is.Nodup):
  spr n is (gdl cut (grp m (ordQ (qs pr is))) (qs pr is))=spr n (grp m (fallP pr is)).flatten ((grp m (fallP pr is)).map fun o=>dl (cut (qs pr o).sum) (qs pr o)).flatten:=by
 rw[kiG cut hn _ fun g hg=>kkc hg]
 unfold fallP
 rw[kiF]
theorem kis{f:Nat→Nat}{gs:List (List Nat)}(h:∀g∈gs,g≠[]):lasts (gs.map fun g=>g.map f)=(lasts gs).map f:=by
 unfold lasts
 rw[UU,UU]
 refine Jj fun g hg=>?_
 show(g.map f).getLastD 0=f (g.getLastD 0)
 have hne:=h g hg
 rw[N6,N6,List.getLast?_map,Mo hne]
 rfl
theorem klz(c:Int):dl c [c]=[c]:=by
 unfold dl
 by_cases h:[c].sum=0
 ·rw[if_pos h]
  have:c=0:=by simpa using h
  simp[this]
 ·rw[if_neg h]
  have hc:c≠0:=by simpa using h
  have e:part c [c] 0=c:=by
   unfold part pre
   simp[Int.mul_ediv_cancel _ hc]
  simp[Jz,e]
theorem kh2(f:Nat→Int):∀(l:List Nat),(l.map fun i=>[i]).flatten=l∧(l.map fun i=>[f i]).flatten=l.map f
 |[]=>⟨rfl,rfl⟩
 |a::l=>by
  obtain⟨h1,h2⟩:=kh2 f l
  simp[h1,h2]
theorem kiW{n m:Nat}{is:List Nat}{pr:List Int}(hm:0<m)(hn:is.Nodup):
  spr n is (spr (qs pr is).length (lasts (grp m (ordQ (qs pr is)))) (qs (qs pr is) (lasts (grp m (ordQ (qs pr is))))))=spr n (lasts (grp m (fallP pr is))) ((lasts (grp m (fallP pr is))).map fun i=>pr.getD i 0):=by
 have ne:∀g∈grp m (ordQ (qs pr is)),g≠[]:=fun g hg z=>by
  obtain⟨i,hi⟩:=JO.mp hg
  have:=(kg0 hi).2.1
  rw[z] at this
  simp at this
  omega
 have hl:∀j∈lasts (grp m (ordQ (qs pr is))),j<is.length:=fun j hj=>by
  obtain⟨g,hg,rfl⟩:=UR.mp hj
  refine kkc hg _ ?_
  rw[N6,Mo (ne g hg)]
  exact List.getLast_mem _
 rw[kbX,kfW hn hl,qs_qs hl]
 have e:lasts (grp m (fallP pr is))=(lasts (grp m (ordQ (qs pr is)))).map fun j=>is.getD j 0:=by
  unfold fallP
  rw[kiF,kis ne]
 rw[e]
 rfl
theorem spr_zero{n k:Nat}{is:List Nat}:spr n is (Uz k 0)=Uz n 0:=by
 unfold spr
 apply JH
 ·simp
 ·intro j h1 h2
  simp only[J4,Nz,List.getElem_replicate]
  cases e:(is.zip (Uz k (0:Int))).lookup j with
  |none=>rfl
  |some v=>
   obtain⟨i,_,hv⟩:=kde e
   have:=List.eq_of_mem_replicate (UE hv)
   rw[this]
   rfl
theorem kd5{pr:List Int}{is:List Nat}(hn:is.Nodup):(fallP pr is).Nodup:=(kbw pr is).nodup_iff.mpr hn
theorem kgm(m:Nat)(r:List Nat):(grp m r).length≤r.length:=by
 unfold grp
 rw[Uu,List.length_range]
 exact Nat.div_le_self _ _
end Vs
namespace Vs
open Kin Deal
structure Later (S S':Stnd):Prop where
 ow:S'.ow=S.ow
 pr:Le2 S'.pr S.pr
 cg:0≤S'.cg∧S'.cg≤S.cg
 mg:∀l,S.mkd.getD l false=true→S'.mkd.getD l false=true
theorem Later.refl{S:Stnd}(hn:Nn S.pr)(hc:0≤S.cg):Later S S:=⟨rfl,Le2.self hn,⟨hc,Int.le_refl _⟩,fun _ h=>h⟩
theorem Later.trans{S S' S'':Stnd}(h:Later S S')(h':Later S' S''):Later S S'':=⟨h'.ow.trans h.ow,h'.pr.trans h.pr,⟨h'.cg.1,Int.le_trans h'.cg.2 h.cg.2⟩,fun l e=>h'.mg l (h.mg l e)⟩
end Vs
namespace Vs
open PySem L2
noncomputable def top(i:Nat):Stmt:=PySem.Challenge.pw_voucherstack_k20_never_and_ahead.main.body.getD i (.Pass ⟨0,0,0,0⟩)
noncomputable abbrev kf6:Stmt:=top 2
noncomputable abbrev kf4:Stmt:=top 4
noncomputable abbrev kbz:Stmt:=top 16
noncomputable abbrev kdN:Stmt:=top 19
noncomputable abbrev kh4:Stmt:=top 20
noncomputable abbrev kcG:Stmt:=top 21
noncomputable abbrev kf7:Stmt:=top 22
noncomputable abbrev kbB:Stmt:=top 23
noncomputable abbrev kbt:Stmt:=top 24
noncomputable abbrev kbb:Stmt:=top 25
noncomputable abbrev kbA:Stmt:=top 26
noncomputable abbrev kaF:Stmt:=top 27
noncomputable abbrev kbM:Stmt:=top 28
noncomputable abbrev kb7:Stmt:=top 29
noncomputable abbrev kbL:Stmt:=top 30
noncomputable abbrev kdM:Stmt:=top 31
noncomputable abbrev kf5:Stmt:=top 34
noncomputable abbrev keK:Stmt:=top 35
noncomputable abbrev kbK:Stmt:=top 36
noncomputable abbrev kbZ:Stmt:=top 37
noncomputable abbrev kb0:Stmt:=top 38
noncomputable abbrev kbs:Stmt:=top 39
noncomputable abbrev kch:Stmt:=top 43
noncomputable abbrev kcI:Stmt:=top 44
noncomputable abbrev kcm:Stmt:=top 45
noncomputable abbrev kck:Stmt:=top 46
noncomputable abbrev kb4:Stmt:=top 47
noncomputable abbrev kci:Stmt:=top 48
noncomputable abbrev kb3:Stmt:=top 49
noncomputable abbrev kcH:Stmt:=top 50
noncomputable abbrev kb9:Stmt:=top 51
noncomputable abbrev kbj:Stmt:=top 52
noncomputable abbrev kbW:Stmt:=top 53
noncomputable abbrev kbu:Stmt:=top 54
noncomputable abbrev kc5:Stmt:=top 55
noncomputable abbrev kcl:Stmt:=top 56
noncomputable abbrev kb8:Stmt:=top 57
noncomputable abbrev s_law:Stmt:=top 58
noncomputable abbrev ka0:Stmt:=inClass (top 6) 0
noncomputable abbrev kaR:Stmt:=inClass (top 7) 0
noncomputable abbrev kbg:Stmt:=inClass (top 8) 0
noncomputable abbrev kaZ:Stmt:=inClass (top 9) 0
noncomputable abbrev kaN:Stmt:=inClass (top 10) 0
noncomputable abbrev kaT:Stmt:=inClass (top 11) 0
noncomputable abbrev kaO:Stmt:=inClass (top 12) 0
noncomputable abbrev ka7:Stmt:=inClass (top 14) 0
noncomputable abbrev kaU:Stmt:=inClass (top 15) 0
noncomputable abbrev kbO:Stmt:=inClass (top 17) 0
noncomputable abbrev kc6:Stmt:=inClass (top 33) 0
noncomputable abbrev kb5:Stmt:=inClass (top 33) 1
noncomputable abbrev kcn:Stmt:=inClass (top 33) 2
noncomputable abbrev kbN:Stmt:=inClass (top 33) 4
noncomputable abbrev ka6:Stmt:=inClass (top 41) 0
set_option genInjectivity false
set_option genSizeOf false
structure D where
 XE:Addr
 XF:FuncData
 XG:Addr
 XH:FuncData
 XI:Addr
 XJ:FuncData
 XM:Addr
 XO:FuncData
 XQ:Addr
 XR:FuncData
 XS:Addr
 XT:FuncData
 XU:Addr
 XW:FuncData
 XX:Addr
 XY:FuncData
 XZ:Addr
 X0:FuncData
 X1:Addr
 X2:FuncData
 X3:Addr
 X4:FuncData
 X5:Addr
 QV:FuncData
 X6:Addr
 X7:FuncData
 X8:Addr
 X9:FuncData
 Ya:Addr
 Yb:FuncData
 Yc:Addr
 Yd:FuncData
 Ye:Addr
 Yf:FuncData
 Yg:Addr
 Yh:FuncData
 Yi:Addr
 Yj:FuncData
 Yk:Addr
 Yl:FuncData
 Ym:Addr
 Yn:FuncData
 Yo:Addr
 Yp:FuncData
 Yq:Addr
 Yr:FuncData
 Ys:Addr
 Yt:FuncData
 qU:Addr
 qV:FuncData
 Yu:Addr
 Yv:FuncData
 Yw:Addr
 Yx:FuncData
 Yy:Addr
 Yz:FuncData
 YA:Addr
 YB:FuncData
 YC:Addr
 YD:FuncData
 YE:Addr
 YF:FuncData
 YG:Addr
 YH:FuncData
 YI:Addr
 YJ:FuncData
 YK:Addr
 YL:FuncData
 YM:Addr
 YN:FuncData
 YO:Addr
 YQ:FuncData
 YR:Addr
 YS:FuncData
 f_law:Addr
 YT:FuncData
 qe:Addr
 YU:Addr
 qC:FuncData
 tok1_Marks_init:Nat
 qy:Addr
 QW:Addr
 QX:FuncData
 c_Off:Addr
 YV:Addr
 QY:FuncData
 qi:Addr
 YW:Addr
 Qe:FuncData
 qk:Addr
 YX:Addr
 QZ:FuncData
 qj:Addr
 YY:Addr
 Q0:FuncData
 ql:Addr
 YZ:Addr
 Q1:FuncData
 qf:Addr
 Y0:Addr
 Q2:FuncData
 qg:Addr
 Y1:Addr
 Qf:FuncData
 tok0_Basket_init:Nat
 qc:Addr
 Y2:Addr
 Y3:FuncData
 c_Way:Addr
 Y5:Addr
 Y7:FuncData
 Y9:Addr
 Za:FuncData
 Zb:Addr
 Zc:FuncData
 Zd:Addr
 Ze:FuncData
 qd:Addr
 Zf:Addr
 Q3:FuncData
 tok0_Till_init:Nat
 cc_falling_groups:Addr
 tP_falling_groups:Addr
structure Wld (K:Uv) (mg:Str→Option Value) (d:D):Prop where
 B:TxtB mg
 qJ:Dn K mg "dealt" kf6 ["cut","weights"] d.XE d.XF
 Qg:Dn K mg "under" kf4 ["parents","one","other"] d.XG d.XH
 Qh:Dn K mg "price_of_piece" kbz ["line","member"] d.XI d.XJ
 qK:Dn K mg "about" kdN ["voucher","parents","basket","standing"] d.XM d.XO
 Qi:Dn K mg "fits" kh4 ["marks","parents","kind","marked"] d.XQ d.XR
 qL:Dn K mg "hindrance" kcG ["voucher","parents","basket","standing"] d.XS d.XT
 qM:Dn K mg "after" kf7 ["voucher","parents","basket","standing"] d.XU d.XW
 Qj:Dn K mg "cuts_of_pieces" kbB ["voucher","parents","basket","standing"] d.XX d.XY
 Qk:Dn K mg "cut_of_carriage" kbt ["voucher","standing"] d.XZ d.X0
 Ql:Dn K mg "wanted_cuts" kbb ["voucher","standing","pieces"] d.X1 d.X2
 Qm:Dn K mg "parted_by_line" kbA ["standing","pieces"] d.X3 d.X4
 qN:Dn K mg "falling_groups" kaF ["standing","pieces","many"] d.X5 d.QV
 Qn:Dn K mg "marked_behind" kbM ["voucher","standing","piece_cuts"] d.X6 d.X7
 qO:Dn K mg "prices_of" kb7 ["standing","pieces"] d.X8 d.X9
 qq:Dn K mg "sum_of_prices" kbL ["standing","pieces"] d.Ya d.Yb
 Qo:Dn K mg "at_most" kdM ["most","number"] d.Yc d.Yd
 qu:Dn K mg "fault" kf5 ["till","basket","hand","order"] d.Ye d.Yf
 Qp:Dn K mg "way_by" keK ["till","basket","hand","order"] d.Yg d.Yh
 Qq:Dn K mg "word_of_order" kbK ["till","hand","used","number"] d.Yi d.Yj
 Qr:Dn K mg "breaks_never" kbZ ["rules","used","number"] d.Yk d.Yl
 Qs:Dn K mg "breaks_ahead" kb0 ["rules","used","number"] d.Ym d.Yn
 Qt:Dn K mg "without_company" kbs ["rules","order"] d.Yo d.Yp
 qh:Dn K mg "_law_mixed" kch ["_law_cell_here","_law_k"] d.Yq d.Yr
 qw:Dn K mg "_law_cell" kcI ["_law_script","_law_k"] d.Ys d.Yt
 qx:Dn K mg "_law_alike" kcm ["_law_found","_law_due_here"] d.qU d.qV
 qm:Dn K mg "_law_coins" kck ["_law_drawn","_law_great"] d.Yu d.Yv
 Qu:Dn K mg "_law_parents" kb4 ["_law_cell_here"] d.Yw d.Yx
 Qv:Dn K mg "_law_marks" kci ["_law_cell_here","_law_kinds","_law_great"] d.Yy d.Yz
 Qw:Dn K mg "_law_voucher" kb3 ["_law_cell_here","_law_kinds","_law_great"] d.YA d.YB
 Qx:Dn K mg "_law_made" kcH ["_law_told"] d.YC d.YD
 Qy:Dn K mg "_law_basket" kb9 ["_law_cell_here","_law_kinds","_law_great"] d.YE d.YF
 Qz:Dn K mg "_law_basket_made" kbj ["_law_told"] d.YG d.YH
 QA:Dn K mg "_law_order" kbW ["_law_cell_here","_law_many"] d.YI d.YJ
 QB:Dn K mg "_law_word" kbu ["_law_till","_law_basket_here","_law_hand","_law_ahead","_law_voucher_here","_law_standing"] d.YK d.YL
 QC:Dn K mg "_law_due" kc5 ["_law_till","_law_basket_here","_law_hand","_law_order_here"] d.YM d.YN
 QD:Dn K mg "_law_asked" kcl ["_law_till","_law_basket_here","_law_hand","_law_order_here"] d.YO d.YQ
 QE:Dn K mg "_law_turned" kb8 ["_law_rules"] d.YR d.YS
 d_law:Dn K mg "law" s_law ["_law_script"] d.f_law d.YT
 qe:ClsT K mg "Marks" d.qe
 QF:NoAttr K d.qe "kind"
 Zg:NoAttr K d.qe "needs"
 Q4:NoAttr K d.qe "most"
 Zh:NoAttr K d.qe "member"
 Q5:NoAttr K d.qe "once"
 Q6:NoAttr K d.qe "lone"
 QG:MthT K d.qe "__init__" "Marks.__init__" ka0 ["self","kind","needs","most","member","once","lone"] d.YU d.qC
 b1_Marks_init:Binds K d.qC ["self","kind","needs","most","member","once","lone"] [.bool false]
 b2_Marks_init:Binds K d.qC ["self","kind","needs","most","member","once","lone"] [.bool false, .bool false]
 b3_Marks_init:Binds K d.qC ["self","kind","needs","most","member","once","lone"] [.bool false, .bool false, .bool false]
 b4_Marks_init:Binds K d.qC ["self","kind","needs","most","member","once","lone"] [.none, .bool false, .bool false, .bool false]
 b5_Marks_init:Binds K d.qC ["self","kind","needs","most","member","once","lone"] [.int 0 d.tok1_Marks_init, .none, .bool false, .bool false, .bool false]
 b6_Marks_init:Binds K d.qC ["self","kind","needs","most","member","once","lone"] [.none, .int 0 d.tok1_Marks_init, .none, .bool false, .bool false, .bool false]
 qy:ClsT K mg "Voucher" d.qy
 qr:MthT K d.qy "__init__" "Voucher.__init__" kaR ["self","marks"] d.QW d.QX
 b1_Voucher_init:Binds K d.QX ["self","marks"] [.none]
 g_Off:mg "Off"=some (.ref d.c_Off)
 c_Off:ClsT K mg "Off" d.c_Off
 Zi:NoAttr K d.c_Off "amount"
 Zj:NoAttr K d.c_Off "marks"
 Q7:MthT K d.c_Off "__init__" "Off.__init__" kbg ["self","amount","marks"] d.YV d.QY
 b1_Off_init:Binds K d.QY ["self","amount","marks"] [.none]
 ZD:mg "Share"=some (.ref d.qi)
 qi:ClsT K mg "Share" d.qi
 Zk:NoAttr K d.qi "share"
 Zl:NoAttr K d.qi "by_line"
 Zm:NoAttr K d.qi "marks"
 Q8:MthT K d.qi "__init__" "Share.__init__" kaZ ["self","share","by_line","marks"] d.YW d.Qe
 b1_Share_init:Binds K d.Qe ["self","share","by_line","marks"] [.none]
 b2_Share_init:Binds K d.Qe ["self","share","by_line","marks"] [.bool false, .none]
 ZE:mg "Cheapest"=some (.ref d.qk)
 qk:ClsT K mg "Cheapest" d.qk
 Zn:NoAttr K d.qk "many"
 Zo:NoAttr K d.qk "marks"
 Q9:MthT K d.qk "__init__" "Cheapest.__init__" kaN ["self","many","marks"] d.YX d.QZ
 b1_Cheapest_init:Binds K d.QZ ["self","many","marks"] [.none]
 ZF:mg "Bundle"=some (.ref d.qj)
 qj:ClsT K mg "Bundle" d.qj
 Zp:NoAttr K d.qj "many"
 Zq:NoAttr K d.qj "price"
 Zr:NoAttr K d.qj "marks"
 Xa:MthT K d.qj "__init__" "Bundle.__init__" kaT ["self","many","price","marks"] d.YY d.Q0
 b1_Bundle_init:Binds K d.Q0 ["self","many","price","marks"] [.none]
 ZG:mg "Carriage"=some (.ref d.ql)
 ql:ClsT K mg "Carriage" d.ql
 Xb:NoAttr K d.ql "marks"
 Xc:MthT K d.ql "__init__" "Carriage.__init__" kaO ["self","marks"] d.YZ d.Q1
 b1_Carriage_init:Binds K d.Q1 ["self","marks"] [.none]
 qf:ClsT K mg "Line" d.qf
 Zs:NoAttr K d.qf "kind"
 Xd:NoAttr K d.qf "price"
 Xe:NoAttr K d.qf "many"
 Xf:NoAttr K d.qf "special"
 Xg:MthT K d.qf "__init__" "Line.__init__" ka7 ["self","kind","price","many","special"] d.Y0 d.Q2
 b1_Line_init:Binds K d.Q2 ["self","kind","price","many","special"] [.none]
 qg:ClsT K mg "Basket" d.qg
 Xh:NoAttr K d.qg "lines"
 Zt:NoAttr K d.qg "carriage"
 Xi:NoAttr K d.qg "member"
 Xj:MthT K d.qg "__init__" "Basket.__init__" kaU ["self","lines","carriage","member"] d.Y1 d.Qf
 b1_Basket_init:Binds K d.Qf ["self","lines","carriage","member"] [.bool false]
 b2_Basket_init:Binds K d.Qf ["self","lines","carriage","member"] [.int 0 d.tok0_Basket_init, .bool false]
 qc:ClsT K mg "Standing" d.qc
 qP:NoAttr K d.qc "owners"
 qD:NoAttr K d.qc "prices"
 QH:NoAttr K d.qc "carriage"
 qW:NoAttr K d.qc "marked"
 qQ:MthT K d.qc "__init__" "Standing.__init__" kbO ["self","basket"] d.Y2 d.Y3
 c_Way:ClsT K mg "Way" d.c_Way
 qE:NoAttr K d.c_Way "till"
 QI:NoAttr K d.c_Way "basket"
 Xk:NoAttr K d.c_Way "hand"
 qS:NoAttr K d.c_Way "used"
 QJ:NoAttr K d.c_Way "standing"
 qX:MthT K d.c_Way "__init__" "Way.__init__" kc6 ["self","till","basket","hand"] d.Y5 d.Y7
 qY:MthT K d.c_Way "word_for" "Way.word_for" kb5 ["self","number"] d.Y9 d.Za
 Xl:MthT K d.c_Way "behind" "Way.behind" kcn ["self","number"] d.Zb d.Zc
 Xm:MthT K d.c_Way "is_let_by" "Way.is_let_by" kbN ["self"] d.Zd d.Ze
 qd:ClsT K mg "Till" d.qd
 qR:NoAttr K d.qd "parents"
 qF:NoAttr K d.qd "vouchers"
 qt:NoAttr K d.qd "rules"
 ZH:NoAttr K d.qd "back"
 qZ:MthT K d.qd "__init__" "Till.__init__" ka6 ["self","parents","vouchers","rules","back"] d.Zf d.Q3
 b1_Till_init:Binds K d.Q3 ["self","parents","vouchers","rules","back"] [.str "again" d.tok0_Till_init]
 Qa:BaseT K d.qy "__init__" d.QW
 ZI:UK K (.ref d.c_Off) (.ref d.ql)=some false
 ZJ:UK K (.ref d.qi) (.ref d.ql)=some false
 ZK:UK K (.ref d.qk) (.ref d.ql)=some false
 ZL:UK K (.ref d.qj) (.ref d.ql)=some false
 ZM:UK K (.ref d.qi) (.ref d.c_Off)=some false
 ZN:UK K (.ref d.qk) (.ref d.c_Off)=some false
 ZO:UK K (.ref d.qj) (.ref d.c_Off)=some false
 ZP:UK K (.ref d.ql) (.ref d.c_Off)=some false
 ZQ:UK K (.ref d.c_Off) (.ref d.qi)=some false
 ZR:UK K (.ref d.qk) (.ref d.qi)=some false
 ZS:UK K (.ref d.qj) (.ref d.qi)=some false
 ZT:UK K (.ref d.ql) (.ref d.qi)=some false
 ZU:UK K (.ref d.c_Off) (.ref d.qk)=some false
 ZV:UK K (.ref d.qi) (.ref d.qk)=some false
 ZW:UK K (.ref d.qj) (.ref d.qk)=some false
 ZX:UK K (.ref d.ql) (.ref d.qk)=some false
 ZY:UK K (.ref d.c_Off) (.ref d.qj)=some false
 ZZ:UK K (.ref d.qi) (.ref d.qj)=some false
 Z9:UK K (.ref d.qk) (.ref d.qj)=some false
 Va:UK K (.ref d.ql) (.ref d.qj)=some false
 code_falling_groups:d.QV.code=.ref d.cc_falling_groups
 ck_falling_groups:CodeK K d.cc_falling_groups d.tP_falling_groups
structure WB (K:Uv) (mg:Str→Option Value) (d:D) (base:Heap):Prop extends Wld K mg d where
 blt:BltM mg base
end Vs
namespace Vs
open PySem L2 War Kin Deal
noncomputable def LineAt(C:Addr)(H:Hp)(x:Addr)(r:Row):Prop:=∃(dx:Addr) (fs:List (Str×V)),H x=some (.ins C dx fs)∧fs.lookup ("kind" :Str)=some (.int r.kd)∧fs.lookup ("price" :Str)=some (.int r.pr)∧fs.lookup ("many" :Str)=some (.int r.mn)∧fs.lookup ("special" :Str)=some (oV r.ex)
noncomputable abbrev Lines(C:Addr)(H:Hp)(ls:List Addr)(rs:List Row):Prop:=P2 (LineAt C H) ls rs
noncomputable def BaskAt(C:Addr)(H:Hp)(b l:Addr)(cg:Int)(m:Bool):Prop:=∃(dx:Addr) (fs:List (Str×V)),H b=some (.ins C dx fs)∧fs.lookup ("lines" :Str)=some (.ref l)∧fs.lookup ("carriage" :Str)=some (.int cg)∧fs.lookup ("member" :Str)=some (.bl m)
noncomputable def StandAt(C:Addr)(H:Hp)(x o p mk:Addr)(cg:Int):Prop:=∃(dx:Addr) (fs:List (Str×V)),H x=some (.ins C dx fs)∧fs.lookup ("owners" :Str)=some (.ref o)∧fs.lookup ("prices" :Str)=some (.ref p)∧fs.lookup ("carriage" :Str)=some (.int cg)∧fs.lookup ("marked" :Str)=some (.ref mk)∧fs.lookup ("whole" :Str)=none
section
variable {C:Addr} {H H':Hp}
theorem LineAt.same{x:Addr}{r:Row}(s:Same H H'):LineAt C H x r→LineAt C H' x r:=fun⟨dx,fs,h,q⟩=>⟨dx,fs,s _ _ h,q⟩
theorem Lines.same{ls:List Addr}{rs:List Row}(s:Same H H')(h:Lines C H ls rs):Lines C H' ls rs:=h.mono fun _ _ q=>q.same s
theorem BaskAt.same{b l:Addr}{cg:Int}{m:Bool}(s:Same H H'):BaskAt C H b l cg m→BaskAt C H' b l cg m:=fun⟨dx,fs,h,q⟩=>⟨dx,fs,s _ _ h,q⟩
theorem StandAt.same{x o p mk:Addr}{cg:Int}(s:Same H H'):StandAt C H x o p mk cg→StandAt C H' x o p mk cg:=fun⟨dx,fs,h,q⟩=>⟨dx,fs,s _ _ h,q⟩
end
section
variable {H:Hp} {hd:Addr} {xs:List V} {o:HO}
theorem BaskAt.set{C b l:Addr}{cg:Int}{m:Bool}(h:H hd=some (.lst xs)):BaskAt C H b l cg m→BaskAt C (upd H hd o) b l cg m:=fun⟨dx,fs,e,q⟩=>⟨dx,fs,by rw[kak (ne_of e h (by intro z;cases z))];exact e,q⟩
theorem StandAt.set{C x a b c:Addr}{cg:Int}(h:H hd=some (.lst xs)):StandAt C H x a b c cg→StandAt C (upd H hd o) x a b c cg:=fun⟨dx,fs,e,q⟩=>⟨dx,fs,by rw[kak (ne_of e h (by intro z;cases z))];exact e,q⟩
theorem LineAt.set{C x:Addr}{r:Row}(h:H hd=some (.lst xs)):LineAt C H x r→LineAt C (upd H hd o) x r:=fun⟨dx,fs,e,q⟩=>⟨dx,fs,by rw[kak (ne_of e h (by intro z;cases z))];exact e,q⟩
theorem Lines.set{C:Addr}{ls:List Addr}{rs:List Row}(h:H hd=some (.lst xs))(L:Lines C H ls rs):Lines C (upd H hd o) ls rs:=L.mono fun _ _ q=>q.set h
end
structure Bask where
 rs:List Row
 cg:Int
 m:Bool
inductive BaskIs (CL CB:Addr) (H:Hp) (b:Addr) (B:Bask):Prop
 |ct (l:Addr) (ls:List Addr) (_:BaskAt CB H b l B.cg B.m) (_:H l=some (.lst (ls.map V.ref))) (_:Lines CL H ls B.rs):BaskIs CL CB H b B
theorem BaskIs.same{CL CB:Addr}{H H':Hp}{b:Addr}{B:Bask}(s:Same H H'):BaskIs CL CB H b B→BaskIs CL CB H' b B:=fun⟨l,ls,h1,h2,h3⟩=>⟨l,ls,h1.same s,s _ _ h2,h3.same s⟩
noncomputable def iV(k:Nat):V:=.int (k:Int)
inductive StndIs (CS:Addr) (H:Hp) (x:Addr) (S:Stnd):Prop
 |ct (o p mk:Addr) (_:StandAt CS H x o p mk S.cg) (_:H o=some (.lst (S.ow.map iV))) (_:H p=some (.lst (S.pr.map V.int))) (_:H mk=some (.lst (S.mkd.map V.bl))):StndIs CS H x S
theorem StndIs.same{CS:Addr}{H H':Hp}{x:Addr}{S:Stnd}(s:Same H H'):StndIs CS H x S→StndIs CS H' x S:=fun⟨o,p,mk,h1,h2,h3,h4⟩=>⟨o,p,mk,h1.same s,s _ _ h2,s _ _ h3,s _ _ h4⟩
theorem kbS(ns:List Nat):(ns.map iV).all flatV=true:=by
 rw[JG]
 intro x hx
 obtain⟨n,_,rfl⟩:=UR.mp hx
 rfl
noncomputable def ownN(rs:List Row):List Nat:=(rs.zipIdx.map fun p=>Uz p.1.mn.toNat p.2).flatten
theorem keQ(rs:List Row):(own rs).map V.int=(ownN rs).map iV:=by
 unfold own ownN
 generalize rs.zipIdx=l
 induction l with
 |nil=>rfl
 |cons p l ih=>
  rw[UQ,U0,UD,ih,UQ,U0,UD]
  congr 1
  simp[iV]
theorem kkM(rs:List Row){l:Nat}(h:l∈ownN rs):l<rs.length:=by
 unfold ownN at h
 obtain⟨xs,h1,h2⟩:=JA.mp h
 obtain⟨p,h3,rfl⟩:=UR.mp h1
 have e:l=p.2:=(List.mem_replicate.mp h2).2
 have q:=List.mem_zipIdx h3
 omega
theorem kjp(rs:List Row)(h:∀r∈rs,r.Ok):(ownN rs).length≤60*rs.length:=by
 have e:(ownN rs).length=(own rs).length:=by
  have:=congrArg Ni (keQ rs)
  simpa using this.symm
 rw[e]
 exact kij rs h
noncomputable def pV:Option Nat→V
 |none=>.non
 |some k=>.int (k:Int)
theorem eq_int(a b:Nat):decide (V.int (a:Int)=V.int (b:Int))=decide (a=b):=by
 by_cases h:a=b
 ·subst h;simp
 ·have:¬(V.int (a:Int)=V.int (b:Int)):=by
   intro e
   injection e with e
   omega
  simp[h,this]
theorem kjx{c:Int}{ws:List Int}(h:ws.sum=0):(dl c ws).map V.int=Uz ws.length (V.int 0):=by
 unfold dl
 rw[if_pos h]
 clear h
 induction ws with
 |nil=>rfl
 |cons w ws ih=>simpa[JE] using ih
theorem kip{c:Int}{ws:List Int}(h:¬ws.sum=0):dl c ws=(UB ws.length).map (part c ws):=by
 unfold dl
 rw[if_neg h]
inductive khW (K:Uv) (vs:List V) (H:Hp) (Q:VK) (E_:XK):Prop
 |ct (c:Int) (a:Addr) (ws:List Int) (_:vs=[.int c, .ref a]) (_:SqL K H a (ws.map V.int)) (_:Nn ws) (_:ws.sum<2 ^ 100) (_:0≤c) (_:c<2 ^ 64) (_:ws.length≤1000) (_:∀p,H p=none→Q (.ref p) (upd H p (.lst ((dl c ws).map V.int)))):khW K vs H Q E_
inductive khM (K:Uv) (vs:List V) (H:Hp) (Q:VK) (E_:XK):Prop
 |ct (a:Addr) (ps:List (Option Nat)) (one other:Nat) (_:vs=[.ref a, .int one, .int other]) (_:SqL K H a (ps.map pV)) (_:Good ps) (_:one<ps.length) (_:Q (.bl (decide (other∈up ps one))) H):khM K vs H Q E_
inductive kfZ (C:Addr) (vs:List V) (H:Hp) (Q:VK) (E_:XK):Prop
 |ct (x dx:Addr) (r:Row) (_:vs=[.ref x, .int r.kd, .int r.pr, .int r.mn,oV r.ex]) (_:H x=some (.ins C dx [])) (_:∀H',But x H H'→LineAt C H' x r→Q .non H'):kfZ C vs H Q E_
inductive kf0 (K:Uv) (C:Addr) (vs:List V) (H:Hp) (Q:VK) (E_:XK):Prop
 |ct (x dx l:Addr) (cg:Int) (m:Bool) (xs:List V) (_:vs=[.ref x, .ref l, .int cg, .bl m]) (_:H x=some (.ins C dx [])) (_:SqL K H l xs) (_:∀(H':Hp) (l':Addr),But x H H'→H l'=none→H' l'=some (.lst xs)→BaskAt C H' x l' cg m→Q .non H'):kf0 K C vs H Q E_
inductive khP (CL:Addr) (vs:List V) (H:Hp) (Q:VK) (E_:XK):Prop
 |ct (x:Addr) (m:Bool) (r:Row) (_:vs=[.ref x, .bl m]) (_:LineAt CL H x r) (_:Q (.int (prc m r)) H):khP CL vs H Q E_
inductive kcM (CL CB CS:Addr) (vs:List V) (H:Hp) (Q:VK) (E_:XK):Prop
 |ct (x dx b l:Addr) (cg:Int) (m:Bool) (ls:List Addr) (rs:List Row) (_:vs=[.ref x, .ref b]) (_:H x=some (.ins CS dx [])) (_:BaskAt CB H b l cg m) (_:H l=some (.lst (ls.map V.ref))) (_:Lines CL H ls rs) (_:rs.length≤12) (_:(∀r∈rs,r.Ok)) (_:∀(H':Hp) (o p mk:Addr),But x H H'→H o=none→H p=none→H mk=none→StandAt CS H' x o p mk cg→H' o=some (.lst ((own rs).map V.int))→H' p=some (.lst ((prs m rs).map V.int))→H' mk=some (.lst (Uz rs.length (.bl false)))→(∃dx fs,H' x=some (.ins CS dx fs)∧fs.length≤10)→Q .non H'):kcM CL CB CS vs H Q E_
structure S3 (H0:Hp) (x C dx:Addr) (fs:List (Str×V)) (o p mk:Addr) (a b c:List V) (H:Hp):Prop where
 bt:But x H0 H
 ob:H x=some (.ins C dx fs)
 ho:H o=some (.lst a)
 hp:H p=some (.lst b)
 hm:H mk=some (.lst c)
structure Ds (H0:Hp) (x o p mk:Addr):Prop where
 fo:H0 o=none
 fp:H0 p=none
 fm:H0 mk=none
 ox:o≠x
 px:p≠x
 mx:mk≠x
 op:o≠p
 om:o≠mk
 pm:p≠mk
section
variable {H0 H H':Hp} {x C dx o p mk:Addr} {fs:List (Str×V)} {a b c d:List V}
theorem S3.same(h:S3 H0 x C dx fs o p mk a b c H)(s:Same H H'):S3 H0 x C dx fs o p mk a b c H':=⟨h.bt.same s,s _ _ h.ob,s _ _ h.ho,s _ _ h.hp,s _ _ h.hm⟩
theorem S3.setO(h:S3 H0 x C dx fs o p mk a b c H)(D:Ds H0 x o p mk):S3 H0 x C dx fs o p mk d b c (upd H o (.lst d)):=
 ⟨fun y u n e=>kbJ (h.bt y u n e) fun u' e'=>ev_eq (by rw[kak (kaj e D.fo)];exact e') fun t=>kdh t (kaj e D.fo) (nx h.ho),by rw[kak D.ox.symm];exact h.ob,kac,by rw[kak D.op.symm];exact h.hp,by rw[kak D.om.symm];exact h.hm⟩
theorem S3.setP(h:S3 H0 x C dx fs o p mk a b c H)(D:Ds H0 x o p mk):S3 H0 x C dx fs o p mk a d c (upd H p (.lst d)):=
 ⟨fun y u n e=>kbJ (h.bt y u n e) fun u' e'=>ev_eq (by rw[kak (kaj e D.fp)];exact e') fun t=>kdh t (kaj e D.fp) (nx h.hp),by rw[kak D.px.symm];exact h.ob,by rw[kak D.op];exact h.ho,kac,by rw[kak D.pm.symm];exact h.hm⟩
theorem S3.setM(h:S3 H0 x C dx fs o p mk a b c H)(D:Ds H0 x o p mk):S3 H0 x C dx fs o p mk a b d (upd H mk (.lst d)):=
 ⟨fun y u n e=>kbJ (h.bt y u n e) fun u' e'=>ev_eq (by rw[kak (kaj e D.fm)];exact e') fun t=>kdh t (kaj e D.fm) (nx h.hm),by rw[kak D.mx.symm];exact h.ob,by rw[kak D.om];exact h.ho,by rw[kak D.pm];exact h.hp,kac⟩
end
end Vs
namespace Vs
open PySem L2 War Kin Deal
noncomputable def MksIs(C:Addr)(H:Hp)(x:Addr)(M:Mks):Prop:=∃(dx:Addr) (fs:List (Str×V)),H x=some (.ins C dx fs)∧fs.lookup ("kind" :Str)=some (pV M.kind)∧fs.lookup ("needs" :Str)=some (.int M.needs)∧fs.lookup ("most" :Str)=some (oV M.most)∧fs.lookup ("member" :Str)=some (.bl M.member)∧fs.lookup ("once" :Str)=some (.bl M.once)∧fs.lookup ("lone" :Str)=some (.bl M.lone)
theorem MksIs.same{C:Addr}{H H':Hp}{x:Addr}{M:Mks}(s:Same H H'):MksIs C H x M→MksIs C H' x M:=fun⟨dx,fs,h,q⟩=>⟨dx,fs,s _ _ h,q⟩
noncomputable def SrtIs(fs:List (Str×V)):Srt→Prop
 | .off a=>fs.lookup ("amount" :Str)=some (.int a)
 | .share s b=>fs.lookup ("share" :Str)=some (.int s)∧fs.lookup ("by_line" :Str)=some (.bl b)
 | .cheap n=>fs.lookup ("many" :Str)=some (.int n)
 | .bund n p=>fs.lookup ("many" :Str)=some (.int n)∧fs.lookup ("price" :Str)=some (.int p)
 | .carr=>True
noncomputable def clsOf(d:D):Srt→Addr
 | .off _=>d.c_Off
 | .share _ _=>d.qi
 | .cheap _=>d.qk
 | .bund _ _=>d.qj
 | .carr=>d.ql
noncomputable def here:Srt→Bool
 | .off _=>true
 | .share _ _=>true
 | .cheap _=>true
 | .bund _ _=>true
 | .carr=>true
noncomputable def kk8:Srt→Bool
 | .off _=>true
 | .share _ _=>false
 | .cheap _=>false
 | .bund _ _=>false
 | .carr=>false
noncomputable def ki5:Srt→Bool
 | .off _=>false
 | .share _ _=>true
 | .cheap _=>false
 | .bund _ _=>false
 | .carr=>false
noncomputable def kfS:Srt→Bool
 | .off _=>false
 | .share _ _=>false
 | .cheap _=>true
 | .bund _ _=>false
 | .carr=>false
noncomputable def khu:Srt→Bool
 | .off _=>false
 | .share _ _=>false
 | .cheap _=>false
 | .bund _ _=>true
 | .carr=>false
noncomputable def kby:Srt→Bool
 | .off _=>false
 | .share _ _=>false
 | .cheap _=>false
 | .bund _ _=>false
 | .carr=>true
noncomputable def Tbs(d:D)(H:Hp):Prop:=TbAt d.tP_falling_groups H
theorem Tbs.same{d:D}{H H':Hp}(s:Same H H')(h:Tbs d H):Tbs d H':=s.tb h
inductive VchIs (d:D) (H:Hp) (v:Addr) (V:Vch):Prop
 |ct (mA dx:Addr) (fs:List (Str×L2.V)) (_:H v=some (.ins (clsOf d V.so) dx fs)) (_:fs.lookup ("marks" :Str)=some (.ref mA)) (_:SrtIs fs V.so) (_:MksIs d.qe H mA V.ms) (_:here V.so=true) (_:Tbs d H):VchIs d H v V
theorem VchIs.same{d:D}{H H':Hp}{v:Addr}{V:Vch}(s:Same H H'):VchIs d H v V→VchIs d H' v V:=fun⟨mA,dx,fs,h1,h2,h3,h4,h5,h6⟩=>⟨mA,dx,fs,s _ _ h1,h2,h3,h4.same s,h5,h6.same s⟩
noncomputable def kds(B:Bask):List Nat:=B.rs.map fun r=>r.kd.toNat
structure Wf (ps:List (Option Nat)) (B:Bask) (S:Stnd):Prop where
 good:Good ps
 pl:ps.length≤20
 kd:∀r∈B.rs,0≤r.kd∧r.kd<(ps.length:Int)
 ok:∀r∈B.rs,r.Ok
 nl:B.rs.length≤12
 bc:0≤B.cg∧B.cg≤1000000000000
 ow:S.ow=ownN B.rs
 lp:S.pr.length=S.ow.length
 lm:S.mkd.length=B.rs.length
 pr:∀z∈S.pr,0≤z∧z≤1000000000000
 cg:0≤S.cg∧S.cg≤1000000000000
 n64:S.ow.length<64
theorem Wf.np{ps:List (Option Nat)}{B:Bask}{S:Stnd}(W:Wf ps B S):S.ow.length≤720:=by
 have:=kjp B.rs W.ok
 have:=W.nl
 rw[W.ow]
 omega
theorem Wf.line{ps:List (Option Nat)}{B:Bask}{S:Stnd}(W:Wf ps B S){i l:Nat}(h:S.ow[i]?=some l):l<B.rs.length:=by
 have hm:=UE h
 rw[W.ow] at hm
 exact kkM _ hm
structure MksOk (ps:List (Option Nat)) (M:Mks):Prop where
 kind:∀k,M.kind=some k→k<ps.length
 needs:0≤M.needs∧M.needs≤1000000000000
 most:∀m,M.most=some m→0≤m∧m≤1000000000000
noncomputable def mks0:Mks:=⟨none,0,none,false,false,false⟩
noncomputable def khI:Srt→List V
 | .off a=>[.int a]
 | .share s b=>[.int s, .bl b]
 | .cheap n=>[.int n]
 | .bund n p=>[.int n, .int p]
 | .carr=>[]
noncomputable def Mrk(CM:Addr)(H:Hp)(mv:V)(H':Hp)(mA:Addr):Prop:=mv=.ref mA∨(mv=.non∧H mA=none∧MksIs CM H' mA mks0)
theorem MksIs.but{C x mA:Addr}{H H':Hp}{M:Mks}(n:mA≠x)(b:But x H H'):MksIs C H mA M→MksIs C H' mA M:=fun⟨dx,fs,h,q⟩=>⟨dx,fs,b _ _ n h,q⟩
theorem Mrk.but{CM x mA:Addr}{H H1 H2:Hp}{mv:V}{o:HO}(hx:H x=some o)(b:But x H1 H2):Mrk CM H mv H1 mA→Mrk CM H mv H2 mA
 | .inl e=>.inl e
 | .inr ⟨e,f,h⟩=>.inr ⟨e,f,h.but (kaj hx f).symm b⟩
inductive keB (C:Addr) (vs:List V) (H:Hp) (Q:VK) (E_:XK):Prop
 |ct (x dx:Addr) (M:Mks) (_:vs=[.ref x,pV M.kind, .int M.needs,oV M.most, .bl M.member, .bl M.once, .bl M.lone]) (_:H x=some (.ins C dx [])) (_:∀H',But x H H'→MksIs C H' x M→Q .non H'):keB C vs H Q E_
inductive kej (K:Uv) (CM:Addr) (vs:List V) (H:Hp) (Q:VK) (E_:XK):Prop
 |ct (x C dx:Addr) (fs:List (Str×V)) (mv:V) (_:vs=[.ref x,mv]) (_:H x=some (.ins C dx fs)) (_:Cls K C) (_:NoAttr K C "marks") (_:fs.length≤5) (_:(mv=.non∨∃mA,mv=.ref mA)) (_:∀(H':Hp) (mA:Addr),But x H H'→Mrk CM H mv H' mA→H' x=some (.ins C dx (putF "marks" (.ref mA) fs))→Q .non H'):kej K CM vs H Q E_
inductive kdi (C CM:Addr) (is:Srt→Prop) (vs:List V) (H:Hp) (Q:VK) (E_:XK):Prop
 |ct (x dx:Addr) (so:Srt) (mv:V) (_:is so) (_:vs=.ref x::(khI so++[mv])) (_:H x=some (.ins C dx [])) (_:(mv=.non∨∃mA,mv=.ref mA)) (_:∀(H':Hp) (mA:Addr) (fs:List (Str×V)),But x H H'→Mrk CM H mv H' mA→H' x=some (.ins C dx fs)→fs.lookup ("marks" :Str)=some (.ref mA)→SrtIs fs so→Q .non H'):kdi C CM is vs H Q E_
theorem kgV{C:Addr}{H:Hp}{M:Mks}{R:Addr→Hp→Prop}{E:XK}(k:∀(H':Hp) (x:Addr),Same H H'→H x=none→MksIs C H' x M→R x H'):
  ∀x dx,H x=none→H dx=none→dx≠x→keB C [.ref x,pV M.kind, .int M.needs,oV M.most, .bl M.member, .bl M.once, .bl M.lone] (upd (upd H dx (.own x)) x (.ins C dx [])) (fun v H2=>v=.non∧R x H2) E:=
 fun x dx nx nd _=>⟨x,dx,M,rfl,kac,fun H' b l=>⟨rfl,k H' x (kbx nx nd b) nx l⟩⟩
theorem kfz{d:D}{H:Hp}{so:Srt}{mA:Addr}{M:Mks}{is:Srt→Prop}{R:Addr→Hp→Prop}{E:XK}(hi:is so)(hh:here so=true)(hM:MksIs d.qe H mA M)(k:∀(H':Hp) (x:Addr),Same H H'→H x=none→VchIs d H' x ⟨so,M⟩→R x H')(htb:Tbs d H:=by assumption):
  ∀x dx,H x=none→H dx=none→dx≠x→kdi (clsOf d so) d.qe is (.ref x::(khI so++[.ref mA])) (upd (upd H dx (.own x)) x (.ins (clsOf d so) dx [])) (fun v H2=>v=.non∧R x H2) E:=
 fun x dx nx nd _=>⟨x,dx,so, .ref mA,hi,rfl,kac, .inr ⟨mA,rfl⟩,fun H' mA' fs b hm h1 h2 h3=>by
  have e:mA'=mA:=by
   rcases hm with e|⟨e,_⟩
   ·injection e with e
    exact e.symm
   ·cases e
  subst e
  exact⟨rfl,k H' x (kbx nx nd b) nx ⟨mA',dx,fs,h1,h2,h3,hM.same (kbx nx nd b),hh,htb.same (kbx nx nd b)⟩⟩⟩
theorem kkT{K:Uv}{d:D}{H:Hp}{mA:Addr}{M:Mks}{R:Addr→Hp→Prop}{E:XK}(_:Cls K d.ql)(_:NoAttr K d.ql "marks")(hM:MksIs d.qe H mA M)(k:∀(H':Hp) (x:Addr),Same H H'→H x=none→VchIs d H' x ⟨.carr,M⟩→R x H')(htb:Tbs d H:=by assumption):
  ∀x dx,H x=none→H dx=none→dx≠x→kdi d.ql d.qe (fun so=>so=.carr) [.ref x, .ref mA] (upd (upd H dx (.own x)) x (.ins d.ql dx [])) (fun v H2=>v=.non∧R x H2) E:=kfz (so:=.carr) (is:=fun so=>so=.carr) rfl rfl hM k htb
end Vs
namespace Vs
open PySem L2 War Kin Deal
theorem sN{t u:TS}{D:Ends}{σ:St}{H:Hp}(h:∀N:St→Hp→Prop,(∀σ' H',u D σ' H'→N σ' H')→t {D with nx:=N} σ H):tSeq t u D σ H:=h (u D) fun _ _ q=>q
theorem kkS{CL:Addr}{H:Hp}{r:Row}{R:Addr→Hp→Prop}{E:XK}(k:∀(H':Hp) (x:Addr),Same H H'→H x=none→LineAt CL H' x r→R x H'):
  ∀x dx,H x=none→H dx=none→dx≠x→kfZ CL [.ref x, .int r.kd, .int r.pr, .int r.mn,oV r.ex] (upd (upd H dx (.own x)) x (.ins CL dx [])) (fun v H2=>v=.non∧R x H2) E:=
 fun x dx nx nd _=>⟨x,dx,r,rfl,kac,fun H' b l=>⟨rfl,k H' x (kbx nx nd b) nx l⟩⟩
theorem kkU{K:Uv}{CB:Addr}{H:Hp}{l:Addr}{cg:Int}{m:Bool}{xs:List V}{R:Addr→Hp→Prop}{E:XK}(hl:SqL K H l xs)(k:∀(H':Hp) (x l':Addr),Same H H'→H x=none→H l'=none→H' l'=some (.lst xs)→BaskAt CB H' x l' cg m→R x H'):
  ∀x dx,H x=none→H dx=none→dx≠x→kf0 K CB [.ref x, .ref l, .int cg, .bl m] (upd (upd H dx (.own x)) x (.ins CB dx [])) (fun v H2=>v=.non∧R x H2) E:=
 fun x dx nx nd _=>⟨x,dx,l,cg,m,xs,rfl,kac,(kbh nx nd).seq hl,fun H' l' b n h1 h2=>⟨rfl,k H' x l' (kbx nx nd b) nx (kcW n) h1 h2⟩⟩
theorem kjw{CL CB CS:Addr}{H:Hp}{b l:Addr}{cg:Int}{m:Bool}{ls:List Addr}{rs:List Row}{R:Addr→Hp→Prop}{E:XK}(hb:BaskAt CB H b l cg m)(hl:H l=some (.lst (ls.map V.ref)))(hL:Lines CL H ls rs)(hn:rs.length≤12)(hok:∀r∈rs,r.Ok)
  (k:∀(H':Hp) (x o p mk:Addr),Same H H'→H x=none→H o=none→H p=none→H mk=none→StandAt CS H' x o p mk cg→H' o=some (.lst ((own rs).map V.int))→H' p=some (.lst ((prs m rs).map V.int))→H' mk=some (.lst (Uz rs.length (.bl false)))→R x H'):
  ∀x dx,H x=none→H dx=none→dx≠x→kcM CL CB CS [.ref x, .ref b] (upd (upd H dx (.own x)) x (.ins CS dx [])) (fun v H2=>v=.non∧R x H2) E:=
 fun x dx nx nd _=>⟨x,dx,b,l,cg,m,ls,rs,rfl,kac,hb.same (kbh nx nd),kfA nx nd hl,hL.same (kbh nx nd),hn,hok,fun H' o p mk bt n1 n2 n3 S h1 h2 h3 _=>⟨rfl,k H' x o p mk (kbx nx nd bt) nx (kcW n1) (kcW n2) (kcW n3) S h1 h2 h3⟩⟩
structure VchOk (ps:List (Option Nat)) (V:Vch):Prop where
 so:SrtOk V.so
 ms:MksOk ps V.ms
noncomputable def stnd0(B:Bask):Stnd:=⟨ownN B.rs,prs B.m B.rs,B.cg,Uz B.rs.length false⟩
theorem kim{CL CB CS:Addr}{H:Hp}{b:Addr}{B:Bask}{R:Addr→Hp→Prop}{E:XK}(hb:BaskIs CL CB H b B)(hn:B.rs.length≤12)(hok:∀r∈B.rs,r.Ok)(k:∀(H':Hp) (x:Addr),Same H H'→H x=none→StndIs CS H' x (stnd0 B)→R x H'):
  ∀x dx,H x=none→H dx=none→dx≠x→kcM CL CB CS [.ref x, .ref b] (upd (upd H dx (.own x)) x (.ins CS dx [])) (fun v H2=>v=.non∧R x H2) E:=by
 obtain⟨l,ls,h1,h2,h3⟩:=hb
 refine kjw h1 h2 h3 hn hok fun H' x o p mk s f1 _ _ _ hS ho hp hm=>k H' x s f1 ⟨o,p,mk,hS,?_,hp,?_⟩
 ·rw[ho,keQ]
  rfl
 ·rw[hm]
  show _=some (HO.lst ((Uz B.rs.length false).map V.bl))
  rw[List.map_replicate]
theorem kkb{m:Bool}{r:Row}(h:r.Ok):0≤prc m r∧prc m r≤1000000000000:=by
 unfold prc
 split
 ·cases e:r.ex with
  |none=>exact⟨h.pr0,h.pr1⟩
  |some z=>exact h.ex0 z e
 ·exact⟨h.pr0,h.pr1⟩
theorem kgL(m:Bool):∀(rs:List Row) (k:Nat),(rs.map fun r=>Uz r.mn.toNat (prc m r)).flatten.length=((rs.zipIdx k).map fun p=>Uz p.1.mn.toNat (p.2:Int)).flatten.length
 |[],_=>by simp
 |r::rs,k=>by
  rw[J7,UQ,U0,UW,JD,UQ,U0,UW,JD,kgL m rs (k+1)]
theorem kkK(m:Bool)(rs:List Row):(prs m rs).length=(ownN rs).length:=by
 have e:(ownN rs).length=(own rs).length:=by
  have:=congrArg Ni (keQ rs)
  simpa using this.symm
 rw[e]
 exact kgL m rs 0
theorem Wf.start{ps:List (Option Nat)}{B:Bask}(g:Good ps)(pl:ps.length≤20)(kd:∀r∈B.rs,0≤r.kd∧r.kd<(ps.length:Int))(ok:∀r∈B.rs,r.Ok)(nl:B.rs.length≤12)(bc:0≤B.cg∧B.cg≤1000000000000)(n64:(ownN B.rs).length<64):Wf ps B (stnd0 B):=by
 refine⟨g,pl,kd,ok,nl,bc,rfl,kkK _ _,by simp[stnd0],fun z hz=>?_,bc,n64⟩
 obtain⟨xs,h1,h2⟩:=JA.mp hz
 obtain⟨r,hr,rfl⟩:=UR.mp h1
 rw[(List.mem_replicate.mp h2).2]
 exact kkb (ok r hr)
theorem Wf.nn{ps:List (Option Nat)}{B:Bask}{S:Stnd}(W:Wf ps B S):Nn S.pr:=fun z hz=>(W.pr z hz).1
theorem Wf.after{ps:List (Option Nat)}{B:Bask}{S:Stnd}{V:Vch}(W:Wf ps B S)(O:VchOk ps V):Wf ps B (aftM V ps (kds B) S):=by
 have h:=klC (V:=V) (ps:=ps) (kk:=kds B) W.nn W.cg.1 O.so fun m e=>(O.ms.most m e).1
 refine⟨W.good,W.pl,W.kd,W.ok,W.nl,W.bc,W.ow,h.1.1.trans W.lp,by rw[←W.lm];simp[aftM],fun z hz=>?_,⟨h.2.1,Int.le_trans h.2.2 W.cg.2⟩,W.n64⟩
 obtain⟨j,e1⟩:=JO.mp hz
 have hj:j<S.pr.length:=by
  rw[←h.1.1]
  exact(UG.mp e1).1
 have e2:S.pr[j]?=some S.pr[j]:=by simp[hj]
 have b:=h.1.2 j z _ e1 e2
 have c:=W.pr _ (UE e2)
 exact⟨b.1,Int.le_trans b.2 c.2⟩
inductive kh1 (K:Uv) (d:D) (vs:List V) (H:Hp) (Q:VK) (E_:XK):Prop
 |ct (v a b x:Addr) (V:Vch) (ps:List (Option Nat)) (B:Bask) (S:Stnd) (_:vs=[.ref v, .ref a, .ref b, .ref x]) (_:VchIs d H v V) (_:SqL K H a (ps.map pV)) (_:BaskIs d.qf d.qg H b B) (_:StndIs d.qc H x S) (_:Wf ps B S) (_:VchOk ps V) (_:∀(H':Hp) (p:Addr),Same H H'→H p=none→H' p=some (.lst ((abt ps (kds B) V.ms.kind V.ms.lone S).map iV))→Q (.ref p) H'):kh1 K d vs H Q E_
inductive kh0 (K:Uv) (d:D) (vs:List V) (H:Hp) (Q:VK) (E_:XK):Prop
 |ct (v a b x:Addr) (V:Vch) (ps:List (Option Nat)) (B:Bask) (S:Stnd) (_:vs=[.ref v, .ref a, .ref b, .ref x]) (_:VchIs d H v V) (_:SqL K H a (ps.map pV)) (_:BaskIs d.qf d.qg H b B) (_:StndIs d.qc H x S) (_:Wf ps B S) (_:VchOk ps V) (_:∀(H':Hp) (x':Addr),Same H H'→H x'=none→StndIs d.qc H' x' (aftM V ps (kds B) S)→Q (.ref x') H'):kh0 K d vs H Q E_
theorem cl_of{K:Uv}{mg:Str→Option Value}{d:D}{base:Heap}(W:WB K mg d base):∀{so:Srt},here so=true→Cls K (clsOf d so)
 | .off _,h=>W.c_Off.cl
 | .share _ _,h=>W.qi.cl
 | .cheap _,h=>W.qk.cl
 | .bund _ _,h=>W.qj.cl
 | .carr,h=>W.ql.cl
theorem na_of{K:Uv}{mg:Str→Option Value}{d:D}{base:Heap}(W:WB K mg d base):∀{so:Srt},here so=true→NoAttr K (clsOf d so) "marks"
 | .off _,h=>W.Zj
 | .share _ _,h=>W.Zm
 | .cheap _,h=>W.Zo
 | .bund _ _,h=>W.Zr
 | .carr,h=>W.Xb
theorem kkm{K:Uv}{mg:Str→Option Value}{d:D}{base:Heap}(W:WB K mg d base):∀{so:Srt},here so=true→Isi K (clsOf d so)
 | .off _,h=>W.c_Off.isi
 | .share _ _,h=>W.qi.isi
 | .cheap _,h=>W.qk.isi
 | .bund _ _,h=>W.qj.isi
 | .carr,h=>W.ql.isi
theorem kfB{K:Uv}{mg:Str→Option Value}{d:D}{base:Heap}(W:WB K mg d base):∀{so:Srt},here so=true→UK K (.ref (clsOf d so)) (.ref d.ql)=some (kby so)
 | .off _,h=>W.ZI
 | .share _ _,h=>W.ZJ
 | .cheap _,h=>W.ZK
 | .bund _ _,h=>W.ZL
 | .carr,h=>kaW _ _
theorem kkV{K:Uv}{mg:Str→Option Value}{d:D}{base:Heap}(W:WB K mg d base):∀{so:Srt},here so=true→UK K (.ref (clsOf d so)) (.ref d.c_Off)=some (kk8 so)
 | .off _,h=>kaW _ _
 | .share _ _,h=>W.ZM
 | .cheap _,h=>W.ZN
 | .bund _ _,h=>W.ZO
 | .carr,h=>W.ZP
theorem kcY{K:Uv}{mg:Str→Option Value}{d:D}{base:Heap}(W:WB K mg d base):∀{so:Srt},here so=true→UK K (.ref (clsOf d so)) (.ref d.qi)=some (ki5 so)
 | .off _,h=>W.ZQ
 | .share _ _,h=>kaW _ _
 | .cheap _,h=>W.ZR
 | .bund _ _,h=>W.ZS
 | .carr,h=>W.ZT
theorem kcu{K:Uv}{mg:Str→Option Value}{d:D}{base:Heap}(W:WB K mg d base):∀{so:Srt},here so=true→UK K (.ref (clsOf d so)) (.ref d.qk)=some (kfS so)
 | .off _,h=>W.ZU
 | .share _ _,h=>W.ZV
 | .cheap _,h=>kaW _ _
 | .bund _ _,h=>W.ZW
 | .carr,h=>W.ZX
theorem keq{K:Uv}{mg:Str→Option Value}{d:D}{base:Heap}(W:WB K mg d base):∀{so:Srt},here so=true→UK K (.ref (clsOf d so)) (.ref d.qj)=some (khu so)
 | .off _,h=>W.ZY
 | .share _ _,h=>W.ZZ
 | .cheap _,h=>W.Z9
 | .bund _ _,h=>kaW _ _
 | .carr,h=>W.Va
theorem kk0(ps:List (Option Nat)):(ps.map pV).all flatV=true:=by
 rw[JG]
 intro x hx
 obtain⟨n,_,rfl⟩:=UR.mp hx
 cases n <;> rfl
theorem kg1(bs:List Bool):(bs.map V.bl).all flatV=true:=by
 rw[JG]
 intro x hx
 obtain⟨n,_,rfl⟩:=UR.mp hx
 rfl
theorem kgn(bs:List Int):(bs.map V.int).all flatV=true:=by
 rw[JG]
 intro x hx
 obtain⟨n,_,rfl⟩:=UR.mp hx
 rfl
theorem kc2{b:Int}:∀{q:List Int},(∀z∈q,z≤b)→q.sum≤b*q.length
 |[],_=>by simp
 |z::q,h=>by
  have h1:=h z UX
  have h2:=kc2 (q:=q) fun x hx=>h x (US _ hx)
  rw[NG,Jg]
  have e:b*((q.length+1:Nat):Int)=b*q.length+b:=by rw[Int.natCast_add,Int.mul_add];simp
  omega
theorem kh7{ps:List (Option Nat)}{B:Bask}{S:Stnd}(wf:Wf ps B S){ab:List Nat}(hl:ab.length≤720)(hb:∀i∈ab,i<S.pr.length):(qs S.pr ab).sum≤720000000000000:=by
 have h:=kc2 (b:=1000000000000) (q:=qs S.pr ab) fun z hz=>by
  obtain⟨i,hi,rfl⟩:=UR.mp hz
  obtain⟨w,ew⟩:=at_of (hb i hi)
  rw[UP,ew]
  exact(wf.pr w (UE ew)).2
 rw[kbX] at h
 omega
theorem kk3(xs:List V)(i k:Nat):cutV xs (some (i:Int)) (some ((i+k:Nat):Int))=(xs.drop i).take k:=by
 unfold cutV
 rw[HT.sIx_nat,HT.sIx_nat]
 by_cases h:i≤xs.length
 ·rw[NH h,Mg,JY]
  omega
 ·rw[Mp (by omega),Mp (by omega)]
  simp
theorem ki3{α:Type}{xs:List α}{v: α}(h:xs[xs.length-1]?=some v)(h0:0<xs.length):atI xs (-1)=some v:=by
 unfold atI ixN
 rw[if_neg (by omega),if_pos (by omega)]
 show xs[(-1+(xs.length:Int)).toNat]?=some v
 rw[show(-1+(xs.length:Int)).toNat=xs.length-1 by omega]
 exact h
theorem kgE{H0 H1 H2:Hp}{x:Addr}(f:H0 x=none)(s:Same H0 H1)(b:But x H1 H2):Same H0 H2:=fun y u e=>kbJ (s y u e) fun u' e'=>b y u' (kaj e f) e'
noncomputable def hindM(V:Vch)(ps:List (Option Nat))(B:Bask)(S:Stnd):L2.V:=
 if(V.ms.member&& !B.m)=true then .str "member" else if(abt ps (kds B) V.ms.kind V.ms.lone S).length=0 then .str "nothing" else if(qs S.pr (abt ps (kds B) V.ms.kind V.ms.lone S)).sum<V.ms.needs then .str "needs" else .non
inductive kj3 (K:Uv) (d:D) (vs:List V) (H:Hp) (Q:VK) (E_:XK):Prop
 |ct (v a b x:Addr) (V:Vch) (ps:List (Option Nat)) (B:Bask) (S:Stnd) (_:vs=[.ref v, .ref a, .ref b, .ref x]) (_:VchIs d H v V) (_:SqL K H a (ps.map pV)) (_:BaskIs d.qf d.qg H b B) (_:StndIs d.qc H x S) (_:Wf ps B S) (_:VchOk ps V) (_:∀(H':Hp),Same H H'→Q (hindM V ps B S) H'):kj3 K d vs H Q E_
noncomputable def atM(m:Option Int)(n:Int):Int:=match m with
 |none=>n
 |some m=>min m n
theorem none_of{H H':Hp}(s:Same H H'){p:Addr}(h:H' p=none):H p=none:=s.free h
theorem ki0{x:Addr}{H H':Hp}(b:But x H H')(n:H x=none):Same H H':=fun y u e=>b y u (kaj e n) e
theorem kio{CL CB CS:Addr}{H:Hp}{b l:Addr}{cg:Int}{m:Bool}{ls:List Addr}{rs:List Row}{R:Addr→Hp→Prop}{E:XK}(hb:BaskAt CB H b l cg m)(hl:H l=some (.lst (ls.map V.ref)))(hL:Lines CL H ls rs)(hn:rs.length≤12)(hok:∀r∈rs,r.Ok)
  (k:∀(H':Hp) (x:Addr),Same H H'→H x=none→∀(dx:Addr) (fs:List (Str×V)),H' x=some (.ins CS dx fs)→fs.length≤10→fs.lookup ("whole" :Str)=none→R x H'):
  ∀x dx,H x=none→H dx=none→dx≠x→kcM CL CB CS [.ref x, .ref b] (upd (upd H dx (.own x)) x (.ins CS dx [])) (fun v H2=>v=.non∧R x H2) E:=
 fun x dx nx nd _=>⟨x,dx,b,l,cg,m,ls,rs,rfl,kac,hb.same (kbh nx nd),kfA nx nd hl,hL.same (kbh nx nd),hn,hok,fun H' o p mk bt n1 n2 n3 S h1 h2 h3 fw=>by
  obtain⟨dx',fs,e,hf⟩:=fw
  obtain⟨dx2,fs2,e2,_,_,_,_,hw⟩:=S
  rw[e] at e2
  injection e2 with e2
  injection e2 with _ e3 e4
  subst e4
  exact⟨rfl,k H' x (kbx nx nd bt) nx dx' fs e hf hw⟩⟩
theorem kk1{V:Vch}{ps:List (Option Nat)}{kk:List Nat}{S:Stnd}(vo:VchOk ps V):(cutM V ps kk S).2=if kby V.so=true then atM V.ms.most S.cg else 0:=by
 have hm:=vo.ms.most
 unfold cutM
 simp only
 cases e:V.ms.most with
 |none=>
  unfold cap atM
  simp only
  unfold fee kby
  cases V.so <;> rfl
 | some m=>
  have h0:=(hm m e).1
  unfold cap atM
  simp only
  cases eso:V.so with
  | carr=>
   have hz:(want .carr S.mkd.length ((abt ps kk V.ms.kind V.ms.lone S).map fun i=>S.ow.getD i 0) (qs S.pr (abt ps kk V.ms.kind V.ms.lone S))).sum=0:=by
    unfold want
    simp
   show(if m<_+S.cg then _ else _:List Int×Int).2=min m S.cg
   rw[hz,Int.zero_add]
   split
   ·show min S.cg m=_
    omega
   ·show S.cg=_
    omega
  | _=>
   show(if m<_+0 then(_,min 0 m) else(_,0):List Int×Int).2=0
   split
   ·show min 0 m=0
    omega
   ·rfl
theorem klv{B:Bask}{l:Nat}{r:Row}(h:B.rs[l]?=some r):(kds B).getD l 0=r.kd.toNat:=by
 unfold kds
 rw[UP,UF,h]
 rfl
theorem kjW{ps:List (Option Nat)}{kk:List Nat}{kind:Option Nat}{lone:Bool}{S:Stnd}{i:Nat}:
  (UB (i+1)).filter (fun i=>hits ps kk kind lone S.mkd (S.ow.getD i 0))=(UB i).filter (fun i=>hits ps kk kind lone S.mkd (S.ow.getD i 0))++(if hits ps kk kind lone S.mkd (S.ow.getD i 0)=true then [i] else []):=by
 rw[Jz,JI]
 congr 1
 simp only[JV,List.filter_nil]
noncomputable def GrpAt(H H':Hp)(pa:Addr)(t:Addr)(q:Int×List Nat):Prop:=∃ga,H' t=some (.tup [.int q.1, .ref ga])∧H' ga=some (.lst (q.2.map iV))∧(ga=pa∨H ga=none)
inductive kgx (d:D) (vs:List V) (H:Hp) (Q:VK) (E_:XK):Prop
 |ct (v x pa:Addr) (V:Vch) (ps:List (Option Nat)) (B:Bask) (S:Stnd) (_:vs=[.ref v, .ref x, .ref pa]) (_:VchIs d H v V) (_:StndIs d.qc H x S) (_:H pa=some (.lst ((abt ps (kds B) V.ms.kind V.ms.lone S).map iV))) (_:Wf ps B S) (_:VchOk ps V) (_:∀(H':Hp) (p:Addr) (tl:List Addr) (gl:List (Int×List Nat)),Same H H'→H p=none→H' p=some (.lst (tl.map L2.V.ref))→P2 (GrpAt H H' pa) tl gl→(∀c g,(c,g)∈gl→0≤c∧c≤(qs S.pr g).sum∧g.length≤720)→(gl.map Prod.snd).flatten.Nodup→(∀i∈(gl.map Prod.snd).flatten,i<S.pr.length)→gl.length≤720→
  spr S.pr.length (gl.map Prod.snd).flatten (gl.map fun p=>dl p.1 (qs S.pr p.2)).flatten=spr S.pr.length (abt ps (kds B) V.ms.kind V.ms.lone S) (want V.so S.mkd.length ((abt ps (kds B) V.ms.kind V.ms.lone S).map fun i=>S.ow.getD i 0) (qs S.pr (abt ps (kds B) V.ms.kind V.ms.lone S)))→Q (.ref p) H'):kgx d vs H Q E_
theorem kaJ{H H':Hp}{p:Addr}{o:HO}(h:upd H p o=H')(f:H p=none):Same H H'∧H' p=some o:=by
 subst h
 exact⟨kah f,kac⟩
theorem But.free{x l:Addr}{H H':Hp}{o:HO}(b:But x H H')(hx:H' x=some o)(h:H' l=none):H l=none:=by
 cases q:H l with
 |none=>rfl
 |some u=>
  obtain⟨o',e'⟩:=ke1 (b l u (kaj hx h).symm q)
  rw[e'] at h
  cases h
structure Rul where
 w:Str
 a:Nat
 b:Nat
structure TillD where
 ps:List (Option Nat)
 vs:List Vch
 rs:List Rul
 bk:Str
noncomputable def RulIs(H:Hp)(a:Addr)(r:Rul):Prop:=H a=some (.tup [.str r.w,iV r.a,iV r.b])
inductive TillIs (d:D) (H:Hp) (t:Addr) (T:TillD):Prop
 |ct (dx:Addr) (fs:List (Str×V)) (p vl rl:Addr) (va ra:List Addr) (_:H t=some (.ins d.qd dx fs)) (_:fs.lookup ("parents" :Str)=some (.ref p)) (_:fs.lookup ("vouchers" :Str)=some (.ref vl)) (_:fs.lookup ("rules" :Str)=some (.ref rl)) (_:fs.lookup ("back" :Str)=some (.str T.bk)) (_:H p=some (.lst (T.ps.map pV))) (_:H vl=some (.lst (va.map V.ref))) (_:P2 (fun a V=>VchIs d H a V) va T.vs) (_:H rl=some (.lst (ra.map V.ref))) (_:P2 (fun a r=>RulIs H a r) ra T.rs):TillIs d H t T
theorem TillIs.same{d:D}{H H':Hp}{t:Addr}{T:TillD}(s:Same H H'):TillIs d H t T→TillIs d H' t T:=fun⟨dx,fs,p,vl,rl,va,ra,h1,h2,h3,h4,h5,h6,h7,h8,h9,h10⟩=>
 ⟨dx,fs,p,vl,rl,va,ra,s _ _ h1,h2,h3,h4,h5,s _ _ h6,s _ _ h7,h8.mono fun a V h=>h.same s,s _ _ h9,h10.mono fun a r h=>s _ _ h⟩
structure kev (T:TillD):Prop where
 vs:∀V∈T.vs,VchOk T.ps V
 nv:T.vs.length≤8
inductive WayAt (d:D) (m:Nat) (H:Hp) (w t b x:Addr) (hand:List Int) (used:List Nat):Prop
 |ct (dx:Addr) (fs:List (Str×V)) (h u:Addr) (_:H w=some (.ins d.c_Way dx fs)) (_:fs.lookup ("till" :Str)=some (.ref t)) (_:fs.lookup ("basket" :Str)=some (.ref b)) (_:fs.lookup ("hand" :Str)=some (.ref h)) (_:fs.lookup ("used" :Str)=some (.ref u)) (_:fs.lookup ("standing" :Str)=some (.ref x)) (_:fs.lookup ("word_for" :Str)=none) (_:fs.lookup ("behind" :Str)=none) (_:fs.lookup ("is_let_by" :Str)=none) (_:fs.lookup ("followers" :Str)=none) (_:fs.length≤m) (_:H h=some (.lst (hand.map V.int))) (_:H u=some (.lst (used.map iV))):WayAt d m H w t b x hand used
noncomputable abbrev WayIs(d:D)(H:Hp)(w t b x:Addr)(hand:List Int)(used:List Nat):Prop:=WayAt d 7 H w t b x hand used
theorem WayAt.most{d:D}{m m':Nat}{H:Hp}{w t b x:Addr}{hand:List Int}{used:List Nat}(hm:m≤m'):WayAt d m H w t b x hand used→WayAt d m' H w t b x hand used:=fun⟨dx,fs,h,u,h1,h2,h3,h4,h5,h6,h7,h8,h9,h10,h11,h12,h13⟩=>
 ⟨dx,fs,h,u,h1,h2,h3,h4,h5,h6,h7,h8,h9,h10,Uy h11 hm,h12,h13⟩
theorem WayAt.same{d:D}{m:Nat}{H H':Hp}{w t b x:Addr}{hand:List Int}{used:List Nat}(s:Same H H'):WayAt d m H w t b x hand used→WayAt d m H' w t b x hand used:=fun⟨dx,fs,h,u,h1,h2,h3,h4,h5,h6,h7,h8,h9,h10,h11,h12,h13⟩=>
 ⟨dx,fs,h,u,s _ _ h1,h2,h3,h4,h5,h6,h7,h8,h9,h10,h11,s _ _ h12,s _ _ h13⟩
noncomputable def nevR(used:List Nat)(n:Nat)(r:Rul):Bool:=decide (r.w=("never" :Str))&&((decide (r.a=n)&&used.contains r.b)||(decide (r.b=n)&&used.contains r.a))
noncomputable def kce(rs:List Rul)(used:List Nat)(n:Nat):Bool:=rs.any (nevR used n)
noncomputable def ahdR(used:List Nat)(n:Nat)(r:Rul):Bool:=decide (r.w=("ahead" :Str))&&(decide (r.a=n)&&used.contains r.b)
noncomputable def kcg(rs:List Rul)(used:List Nat)(n:Nat):Bool:=rs.any (ahdR used n)
noncomputable def loneM(order:List Nat)(r:Rul):Bool:=decide (r.w=("only" :Str))&&(order.contains r.a&& !order.contains r.b)
noncomputable def onlyM(rs:List Rul)(order:List Nat):Option Nat:=(rs.find? (loneM order)).map Rul.a
noncomputable def sV:Option Str→V
 |none=>.non
 |some z=>.str z
noncomputable def wordM(V:Vch)(rs:List Rul)(hand:List Int)(used:List Nat)(n:Nat):Option Str:=
 if hand.getD n 0<(used.count n:Int)+1 then some "held" else if(V.ms.once&&used.contains n)=true then some "once" else if kce rs used n=true then some "never" else if kcg rs used n=true then some "ahead" else none
noncomputable def dueM(V:Vch)(T:TillD)(B:Bask)(hand:List Int)(used:List Nat)(S:Stnd)(n:Nat):L2.V:=match wordM V T.rs hand used n with
 |some z=>.str z
 |none=>hindM V T.ps B S
theorem kbR{n:Nat}:∀(l:List Nat),inV (iV n) (l.map iV)=l.contains n
 |[]=>rfl
 | m::l=>by
  have ih:=kbR (n:=n) l
  unfold inV at ih⊢
  rw[UQ,Ji,ih,List.contains_cons]
  congr 1
  show eqV (V.int (m:Int)) (V.int (n:Int))=(n==m)
  by_cases h:n=m
  ·subst h
   simp[eqV]
  ·have h1:¬((m:Int)=(n:Int)):=by omega
   have e2:(n==m)=false:=beq_eq_false_iff_ne.mpr h
   rw[e2]
   simp[eqV,h1]
theorem kk5(l:List Nat)(n:Nat):(l.map fun(i:Nat)=>(i:Int)).count (n:Int)=l.count n:=by
 induction l with
 |nil=>rfl
 | cons m l ih=>
  rw[UQ,Nw,Nw,ih]
  congr 1
  by_cases h:m=n
  ·subst h;simp
  ·have h1:¬((m:Int)=(n:Int)):=by omega
   have e1:((m:Int)==(n:Int))=false:=beq_eq_false_iff_ne.mpr h1
   have e2:(m==n)=false:=beq_eq_false_iff_ne.mpr h
   rw[e1,e2]
theorem kfF(a b:Nat):decide (iV a=iV b)=decide (a=b):=by
 by_cases h:a=b
 ·subst h;simp
 ·have n:¬(iV a=iV b):=fun e=>h (by have:=V.int.inj e;omega)
  rw[decide_eq_false h,decide_eq_false n]
theorem eq_str(a b:Str):decide (V.str a=V.str b)=decide (a=b):=by
 by_cases h:a=b
 ·subst h;simp
 ·have n:¬(V.str a=V.str b):=fun e=>h (V.str.inj e)
  rw[decide_eq_false h,decide_eq_false n]
section
variable {P:Program} {w:World} {K:Uv} {mg:Str→Option Value} {base:Heap} {d:D}
theorem Xn:kaq ["parents","one","other","kind"] ["parents","one","other"] (kag kf4):=⟨rfl,rfl,rfl,by decide +kernel,rfl,by decide +kernel,by decide +kernel⟩
theorem kjr(W:WB K mg d base):FnOk P w K mg base CX0 1 d.XG d.XH ["parents","one","other"] (khM K):=by
 refine FunD.ok W.Qg.F Xn (fun vs H Q E h=>?_) (fun cdv A outer s H vs Q E hr h=>?_)
 ·obtain⟨a,ps,one,other,rfl,_⟩:=h
  rfl
 ·obtain⟨a,ps,one,other,rfl,hS,hg,ho,k⟩:=h
  refine⟨_,kad (kav (i:=3) Xn.nd rfl (Or.inl rfl) (pv 1))
   (kad (kjf PassesOwn.never (kat kc9 (pv 3) kaV (kax _))
   (kad (ps_if (kat op_eq (pv 3) (pv 2) (kax _)) (kai (kao pe_bl)) (kau))
   (kai (kav (i:=3) Xn.nd rfl (Or.inl rfl) (pe_ix (r:=rIxL K) kaC (pv 0) (pv 3) (fun _ _=>rfl))))))
   (kai (kao pe_bl))),?_⟩
  refine⟨_,rfl,?_⟩
  refine kja (fun σ H'=>∃o:Option Nat,σ=[some (.ref a),some (.int one),some (.int other),some (pV o)]∧H'=H∧(∀i,o=some i→i<ps.length)∧decide (other∈up ps one)=decide (other∈rest ps o))
   (fun σ _=>match σ with|[_,_,_,some (.int i)]=>i.toNat+1|_=>0) ⟨some one,rfl,rfl,fun i e=>by cases e;exact ho,rfl⟩ ?_ ?_
  ·rintro σ H' ⟨o,rfl,rfl,hb,he⟩
   refine⟨_,rfl,rfl,_,rfl,?_⟩
   cases o with
   |none=>
    show if(!decide (V.non=V.non))=true then _ else _
    rw[kkh]
    refine iteF ?_
    show Q (.bl false) _
    have e:decide (other∈up ps one)=false:=by rw[he];simp[Kin.rest]
    rw[e] at k
    exact k
   | some i=>
    show if(!decide (V.int i=V.non))=true then _ else _
    rw[kki]
    refine iteT ?_
    have hi:=hb i rfl
    refine⟨_,rfl,_,rfl,rfl,_,rfl,?_⟩
    show if decide (V.int i=V.int other)=true then _ else _
    rw[eq_int]
    obtain⟨o,eo⟩:∃o,ps[i]?=some o:=⟨ps[i],by simp[hi]⟩
    refine ite2 (fun h=>?_) (fun h=>?_)
    ·have h':i=other:=of_decide_eq_true h
     subst h'
     have e:decide (i∈up ps one)=true:=by
      rw[he]
      show decide (i∈up ps i)=true
      rw[up_eq hg eo]
      simp
     rw[e] at k
     exact k
    ·have h':¬i=other:=fun z=>h (decide_eq_true z)
     refine⟨_,rfl,_,rfl,a,_,_,pV o,rfl,rfl,hS,kaY (by simp[eo]),?_⟩
     refine⟨⟨o,rfl,rfl,fun j e=>?_,?_⟩,?_⟩
     ·subst e
      have:=hg i j eo
      omega
     ·rw[he]
      show decide (other∈up ps i)=_
      rw[up_eq hg eo]
      have:¬other=i:=fun z=>h' z.symm
      simp[this]
     ·cases o with
      |none=>exact Nat.succ_pos _
      |some j=>
       have:=hg i j eo
       show((j:Int)).toNat+1<((i:Int)).toNat+1
       omega
  ·rintro σ H' Q' Q'' hq ⟨v,h1,h2,h3⟩
   exact⟨v,h1,h2,by obtain⟨b,e,q⟩:=h3;exact⟨b,e,hq _ _ q⟩⟩
theorem qz:kaq ["cut","weights","total","parts","reached","given","weight","share"] ["cut","weights"] (kag kf6):=⟨rfl,rfl,rfl,by decide +kernel,rfl,by decide +kernel,by decide +kernel⟩
theorem kjs(W:WB K mg d base):FnOk P w K mg base CX0 1 d.XE d.XF ["cut","weights"] (khW K):=by
 refine FunD.ok W.qJ.F qz (fun vs H Q E h=>?_) (fun cdv A outer s H vs Q E hr h=>?_)
 ·obtain⟨c,a,ws,rfl,_⟩:=h
  rfl
 ·obtain⟨c,a,ws,rfl,hS,hn,hs,hc0,hc1,hl,k⟩:=h
  refine⟨_,kad (kav (i:=2) qz.nd rfl (Or.inl rfl) (kas (r:=rSum K) (kdI rfl) (by rfl) W.B.sum b_sum (kaa (pv 1) kae)))
   (kad (ps_if (kat op_eq (pv 2) kaf (kax _)) (kai (kao (kbv (N:=["weight"]) (CompScope.plain rfl (by decide +kernel) (by decide +kernel) (by decide +kernel) (nd1 _)) rfl (kaH (K:=K) (pv 1)) (fun _ _ _ _=>kap (i:=0) (nd1 _) rfl (Or.inl rfl)) (fun _ _ _ _=>kaf)))) (kau))
   (kad (kav (i:=3) qz.nd rfl (Or.inl rfl) (kaI kae))
   (kad (kav (i:=4) qz.nd rfl (Or.inl rfl) kaf)
   (kad (kav (i:=5) qz.nd rfl (Or.inl rfl) kaf)
   (kad (kbk PassesOwn.never rfl (kaH (K:=K) (pv 1)) (kap (i:=6) qz.nd rfl (Or.inl rfl))
   (kad (kli (i:=4) qz.nd rfl (Or.inl rfl) (pv 6) klw)
   (kad (kav (i:=7) qz.nd rfl (Or.inl rfl) (pe_op kjq (pe_op kdU (pv 0) (pv 4)) (pv 2)))
   (kad (ka8 (pe_bm Jk Js Jt kbf (pv 3) (kaa (pe_op kcQ (pv 7) (pv 5)) kae)))
   (kai (kav (i:=5) qz.nd rfl (Or.inl rfl) (pv 7)))))))
   (kai (kao (pv 3)))))))),?_⟩
  refine⟨_,rfl,a,ws,rfl,hS,_,rfl,rfl,_,rfl,?_⟩
  refine ite2 (fun h=>?_) (fun h=>?_)
  ·have h0:ws.sum=0:=by
    have e:V.int ws.sum=V.int 0:=of_decide_eq_true h
    injection e
   refine⟨_,rfl,a,rfl,⟨_,hS⟩,ka3 (xs:=ws.map V.int) (fun i σ ys H'=>H'=H∧ys=Uz i (V.int 0)∧∃v,σ=[v]) ⟨rfl,rfl,none,rfl⟩ ?_ ?_ ?_ ?_⟩
   ·rw[Uu]
    exact UH (kar hl)
   ·rintro i σ ys H' hi ⟨rfl,rfl,v,rfl⟩
    exact⟨hS,by simp⟩
   ·rintro i x σ ys H' hx ⟨rfl,rfl,v,rfl⟩
    exact⟨rfl,by rw[J8],_,rfl⟩
   ·rintro σ ys H' ⟨rfl,rfl,v,rfl⟩ D hD
    have:=k D hD
    rw[kjx h0] at this
    rw[Uu]
    exact this
  ·have h0:¬ws.sum=0:=fun e=>h (by rw[e];simp)
   have hpos:0<ws.sum:=by
    have:=kb6 hn
    omega
   refine⟨by decide,fun p hp=>?_⟩
   have s1:∀o,Same H (upd H p o):=fun o=>kah hp
   refine⟨_,rfl,a,rfl,⟨_,(s1 _).seq hS⟩,kbq (K:=K) (a:=a) (xs:=ws.map V.int) (fun i σ H'=>H'=upd H p (.lst (((UB i).map (part c ws)).map V.int))∧
    ∃(v6 v7:Option V),σ=[some (.int c),some (.ref a),some (.int ws.sum),some (.ref p),some (.int (pre ws i)),some (.int (c*pre ws i/ws.sum)),v6,v7])
    ⟨rfl,none,none,by simp[kjh];rfl⟩ (fun i σ H' _ ⟨e,_⟩=>by rw[e];exact(s1 _).seq hS) ?_ ?_⟩
   ·rintro i x σ H' hi ⟨rfl,v6,v7,rfl⟩
    have hil:i<(ws.map V.int).length:=(UG.mp hi).1
    rw[Uu] at hil
    obtain⟨z,ez,rfl⟩:∃z,ws[i]?=some z∧x=V.int z:=by
     rw[UF] at hi
     cases e:ws[i]? with
     |none=>rw[e] at hi;cases hi
     |some z=>rw[e] at hi;exact⟨z,rfl,(Option.some.inj hi).symm⟩
    have ep:=kdD ez
    refine⟨_,rfl,_,rfl,_,_,rfl,rfl,?_⟩
    refine⟨_,rfl,_,rfl,_,_,rfl,rfl, .inl ⟨by omega,by omega⟩,_,rfl,_,_,rfl,rfl,⟨hpos,by omega⟩,?_⟩
    refine⟨_,rfl, .inl ⟨rfl,_,SqL.of kac⟩,_,rfl,_,rfl,_,_,rfl,rfl,p,_,_,rfl,rfl,kac,kar (by simp;omega),?_⟩
    refine⟨_,rfl,?_,some (.int z),some (.int (c*(pre ws i+z)/ws.sum)),?_⟩
    ·rw[kkx,Jz,UD,UD]
     show upd H p (.lst (_++[V.int (c*(pre ws i+z)/ws.sum-c*pre ws i/ws.sum)]))=upd H p (.lst (_++[V.int (part c ws i)]))
     unfold part
     rw[ep]
    ·rw[ep]
     rfl
   ·rintro σ H' ⟨rfl,v6,v7,rfl⟩
    refine⟨_,rfl,?_⟩
    have:=k p hp
    rw[kip h0] at this
    rw[Uu]
    exact this
theorem keJ:kaq ["self","kind","needs","most","member","once","lone"] ["self","kind","needs","most","member","once","lone"] (kag ka0):=⟨rfl,rfl,rfl,by decide +kernel,rfl,by decide +kernel,by decide +kernel⟩
theorem kcU(W:WB K mg d base):FnOk P w K mg base CX0 1 d.YU d.qC ["self","kind","needs","most","member","once","lone"] (keB d.qe):=by
 refine FunD.ok W.QG.F keJ (fun vs H Q E h=>?_) (fun cdv A outer s H vs Q E hr h=>?_)
 ·obtain⟨x,dx,M,rfl,_⟩:=h
  rfl
 ·obtain⟨x,dx,M,rfl,hx,k⟩:=h
  refine⟨_,kad (kaL (pv 0) (pv 1) rfl)
   (kad (kaL (pv 0) (pv 2) rfl)
   (kad (kaL (pv 0) (pv 3) rfl)
   (kad (kaL (pv 0) (pv 4) rfl)
   (kad (kaL (pv 0) (pv 5) rfl)
   (kai (kaL (pv 0) (pv 6) rfl)))))),?_⟩
  refine⟨_,rfl,_,rfl,x,d.qe,dx,[],rfl,hx,W.qe.cl,W.QF,by decide,?_⟩
  refine⟨_,rfl,_,rfl,x,d.qe,dx,_,rfl,kac,W.qe.cl,W.Zg,few (Uy (kal (n:=0) (Uw _)) (by decide)),?_⟩
  refine⟨_,rfl,_,rfl,x,d.qe,dx,_,rfl,kac,W.qe.cl,W.Q4,few (Uy (kal (kal (n:=0) (Uw _))) (by decide)),?_⟩
  refine⟨_,rfl,_,rfl,x,d.qe,dx,_,rfl,kac,W.qe.cl,W.Zh,few (Uy (kal (kal (kal (n:=0) (Uw _)))) (by decide)),?_⟩
  refine⟨_,rfl,_,rfl,x,d.qe,dx,_,rfl,kac,W.qe.cl,W.Q5,few (Uy (kal (kal (kal (kal (n:=0) (Uw _))))) (by decide)),?_⟩
  refine⟨_,rfl,_,rfl,x,d.qe,dx,_,rfl,kac,W.qe.cl,W.Q6,few (Uy (kal (kal (kal (kal (kal (n:=0) (Uw _)))))) (by decide)),?_⟩
  refine k _ (But.trans (But.trans (But.trans (But.trans (But.trans kaz kaz) kaz) kaz) kaz) kaz) ⟨dx,_,kac,?_,?_,?_,?_,?_,?_⟩ <;> (repeat (first|rw[kab,if_pos rfl]|rw[kab,if_neg (by decide +kernel)]))
theorem kdL:kaq ["self","marks"] ["self","marks"] (kag kaR):=⟨rfl,rfl,rfl,by decide +kernel,rfl,by decide +kernel,by decide +kernel⟩
theorem kba(W:WB K mg d base):FnOk P w K mg base CX0 3 d.QW d.QX ["self","marks"] (kej K d.qe):=by
 refine FunD.ok W.qr.F kdL (fun vs H Q E h=>?_) (fun cdv A outer s H vs Q E hr h=>?_)
 ·obtain⟨x,C,dx,fs,mv,rfl,_⟩:=h
  rfl
 ·obtain⟨x,C,dx,fs,mv,rfl,hx,hC,hN,hl,hm,k⟩:=h
  have Xo:=kcU (P:=P) (w:=w) (base:=base) W
  refine⟨_,kai (kaL (pv 0) (kgN (kat keo (pv 1) kaV (kax _)) (kjl (W.QG.mk' W.qe) Xo hr rfl W.qe.m W.b6_Marks_init (show Vals [.non, .int 0, .non, .bl false, .bl false, .bl false] [.none, .int 0 d.tok1_Marks_init, .none, .bool false, .bool false, .bool false] from(.cons rfl (.cons ⟨_,rfl⟩ (.cons rfl (.cons rfl (.cons rfl (.cons rfl .nil))))))) pass0) (pv 1)) rfl),?_⟩
  rcases hm with rfl|⟨mA,rfl⟩
  ·refine⟨_,rfl,rfl,_,rfl,iteT ?_⟩
   refine kgV (M:=mks0) fun H1 mA s1 f1 hM=>?_
   refine⟨_,rfl,x,C,dx,fs,rfl,s1 _ _ hx,hC,hN,by omega,?_⟩
   have hne:mA≠x:=(kaj hx f1).symm
   refine k _ mA ((But.of_same s1).trans (kaz (nx (s1 _ _ hx)))) (.inr ⟨rfl,f1,?_⟩) kac
   exact hM.but hne (kaz (nx (s1 _ _ hx)))
  ·refine⟨_,rfl,rfl,_,rfl,iteF ?_⟩
   refine⟨_,rfl,_,rfl,x,C,dx,fs,rfl,hx,hC,hN,by omega,?_⟩
   exact k _ mA kaz (.inl rfl) kac
theorem kf3:kaq ["self","amount","marks"] ["self","amount","marks"] (kag kbg):=⟨rfl,rfl,rfl,by decide +kernel,rfl,by decide +kernel,by decide +kernel⟩
theorem kgd(W:WB K mg d base):FnOk P w K mg base CX0 4 d.YV d.QY ["self","amount","marks"] (kdi d.c_Off d.qe (fun so=>∃(a:Int),so=.off a)):=by
 refine FunD.ok W.Q7.F kf3 (fun vs H Q E h=>?_) (fun cdv A outer s H vs Q E hr h=>?_)
 ·obtain⟨x,dx,so,mv,⟨a,rfl⟩,rfl,_⟩:=h
  rfl
 ·obtain⟨x,dx,so,mv,⟨a,rfl⟩,rfl,hx,hm,k⟩:=h
  have qA:=kba (P:=P) (w:=w) (base:=base) W
  refine⟨_,kad (ka8 (kdQ W.Qa qA hr rfl W.qy.m W.qr.F.kp W.qr.b .nil pass0 (kaa (pv 0) (kaa (pv 2) kae))))
   (kai (kaL (pv 0) (pv 1) rfl)),?_⟩
  refine⟨_,rfl,_,rfl,x,d.c_Off,dx,[],mv,rfl,hx,W.c_Off.cl,W.Zj,by decide,hm,fun H1 mA b1 hM h1=>?_⟩
  refine⟨_,rfl,_,rfl,x,d.c_Off,dx,_,rfl,h1,W.c_Off.cl,W.Zi,few (Uy (kal (n:=0) (Uw _)) (by decide)),?_⟩
  refine k _ mA _ (b1.trans kaz) ?_ kac ?_ ?_
  ·exact hM.but hx kaz
  ·(repeat (first|rw[kab,if_pos rfl]|rw[kab,if_neg (by decide +kernel)]))
  ·show Jn _ _=_
   (repeat (first|rw[kab,if_pos rfl]|rw[kab,if_neg (by decide +kernel)]))
theorem keI:kaq ["self","share","by_line","marks"] ["self","share","by_line","marks"] (kag kaZ):=⟨rfl,rfl,rfl,by decide +kernel,rfl,by decide +kernel,by decide +kernel⟩
theorem keV(W:WB K mg d base):FnOk P w K mg base CX0 4 d.YW d.Qe ["self","share","by_line","marks"] (kdi d.qi d.qe (fun so=>∃(sh:Int) (bb:Bool),so=.share sh bb)):=by
 refine FunD.ok W.Q8.F keI (fun vs H Q E h=>?_) (fun cdv A outer s H vs Q E hr h=>?_)
 ·obtain⟨x,dx,so,mv,⟨sh,bb,rfl⟩,rfl,_⟩:=h
  rfl
 ·obtain⟨x,dx,so,mv,⟨sh,bb,rfl⟩,rfl,hx,hm,k⟩:=h
  have qA:=kba (P:=P) (w:=w) (base:=base) W
  refine⟨_,kad (ka8 (kdQ W.Qa qA hr rfl W.qy.m W.qr.F.kp W.qr.b .nil pass0 (kaa (pv 0) (kaa (pv 3) kae))))
   (kad (kaL (pv 0) (pv 1) rfl)
   (kai (kaL (pv 0) (pv 2) rfl))),?_⟩
  refine⟨_,rfl,_,rfl,x,d.qi,dx,[],mv,rfl,hx,W.qi.cl,W.Zm,by decide,hm,fun H1 mA b1 hM h1=>?_⟩
  refine⟨_,rfl,_,rfl,x,d.qi,dx,_,rfl,h1,W.qi.cl,W.Zk,few (Uy (kal (n:=0) (Uw _)) (by decide)),?_⟩
  refine⟨_,rfl,_,rfl,x,d.qi,dx,_,rfl,kac,W.qi.cl,W.Zl,few (Uy (kal (kal (n:=0) (Uw _))) (by decide)),?_⟩
  refine k _ mA _ ((b1.trans kaz).trans kaz) ?_ kac ?_ ?_
  ·exact hM.but hx (But.trans kaz kaz)
  ·(repeat (first|rw[kab,if_pos rfl]|rw[kab,if_neg (by decide +kernel)]))
  ·exact⟨by(repeat (first|rw[kab,if_pos rfl]|rw[kab,if_neg (by decide +kernel)])),by(repeat (first|rw[kab,if_pos rfl]|rw[kab,if_neg (by decide +kernel)]))⟩
theorem kdv:kaq ["self","many","marks"] ["self","many","marks"] (kag kaN):=⟨rfl,rfl,rfl,by decide +kernel,rfl,by decide +kernel,by decide +kernel⟩
theorem kdA(W:WB K mg d base):FnOk P w K mg base CX0 4 d.YX d.QZ ["self","many","marks"] (kdi d.qk d.qe (fun so=>∃(n:Int),so=.cheap n)):=by
 refine FunD.ok W.Q9.F kdv (fun vs H Q E h=>?_) (fun cdv A outer s H vs Q E hr h=>?_)
 ·obtain⟨x,dx,so,mv,⟨n,rfl⟩,rfl,_⟩:=h
  rfl
 ·obtain⟨x,dx,so,mv,⟨n,rfl⟩,rfl,hx,hm,k⟩:=h
  have qA:=kba (P:=P) (w:=w) (base:=base) W
  refine⟨_,kad (ka8 (kdQ W.Qa qA hr rfl W.qy.m W.qr.F.kp W.qr.b .nil pass0 (kaa (pv 0) (kaa (pv 2) kae))))
   (kai (kaL (pv 0) (pv 1) rfl)),?_⟩
  refine⟨_,rfl,_,rfl,x,d.qk,dx,[],mv,rfl,hx,W.qk.cl,W.Zo,by decide,hm,fun H1 mA b1 hM h1=>?_⟩
  refine⟨_,rfl,_,rfl,x,d.qk,dx,_,rfl,h1,W.qk.cl,W.Zn,few (Uy (kal (n:=0) (Uw _)) (by decide)),?_⟩
  refine k _ mA _ (b1.trans kaz) ?_ kac ?_ ?_
  ·exact hM.but hx kaz
  ·(repeat (first|rw[kab,if_pos rfl]|rw[kab,if_neg (by decide +kernel)]))
  ·show Jn _ _=_
   (repeat (first|rw[kab,if_pos rfl]|rw[kab,if_neg (by decide +kernel)]))
theorem kec:kaq ["self","many","price","marks"] ["self","many","price","marks"] (kag kaT):=⟨rfl,rfl,rfl,by decide +kernel,rfl,by decide +kernel,by decide +kernel⟩
theorem keh(W:WB K mg d base):FnOk P w K mg base CX0 4 d.YY d.Q0 ["self","many","price","marks"] (kdi d.qj d.qe (fun so=>∃(n:Int) (pp:Int),so=.bund n pp)):=by
 refine FunD.ok W.Xa.F kec (fun vs H Q E h=>?_) (fun cdv A outer s H vs Q E hr h=>?_)
 ·obtain⟨x,dx,so,mv,⟨n,pp,rfl⟩,rfl,_⟩:=h
  rfl
 ·obtain⟨x,dx,so,mv,⟨n,pp,rfl⟩,rfl,hx,hm,k⟩:=h
  have qA:=kba (P:=P) (w:=w) (base:=base) W
  refine⟨_,kad (ka8 (kdQ W.Qa qA hr rfl W.qy.m W.qr.F.kp W.qr.b .nil pass0 (kaa (pv 0) (kaa (pv 3) kae))))
   (kad (kaL (pv 0) (pv 1) rfl)
   (kai (kaL (pv 0) (pv 2) rfl))),?_⟩
  refine⟨_,rfl,_,rfl,x,d.qj,dx,[],mv,rfl,hx,W.qj.cl,W.Zr,by decide,hm,fun H1 mA b1 hM h1=>?_⟩
  refine⟨_,rfl,_,rfl,x,d.qj,dx,_,rfl,h1,W.qj.cl,W.Zp,few (Uy (kal (n:=0) (Uw _)) (by decide)),?_⟩
  refine⟨_,rfl,_,rfl,x,d.qj,dx,_,rfl,kac,W.qj.cl,W.Zq,few (Uy (kal (kal (n:=0) (Uw _))) (by decide)),?_⟩
  refine k _ mA _ ((b1.trans kaz).trans kaz) ?_ kac ?_ ?_
  ·exact hM.but hx (But.trans kaz kaz)
  ·(repeat (first|rw[kab,if_pos rfl]|rw[kab,if_neg (by decide +kernel)]))
  ·exact⟨by(repeat (first|rw[kab,if_pos rfl]|rw[kab,if_neg (by decide +kernel)])),by(repeat (first|rw[kab,if_pos rfl]|rw[kab,if_neg (by decide +kernel)]))⟩
theorem kdw:kaq ["self","marks"] ["self","marks"] (kag kaO):=⟨rfl,rfl,rfl,by decide +kernel,rfl,by decide +kernel,by decide +kernel⟩
theorem kdB(W:WB K mg d base):FnOk P w K mg base CX0 4 d.YZ d.Q1 ["self","marks"] (kdi d.ql d.qe (fun so=>so=.carr)):=by
 refine FunD.ok W.Xc.F kdw (fun vs H Q E h=>?_) (fun cdv A outer s H vs Q E hr h=>?_)
 ·obtain⟨x,dx,so,mv,rfl,rfl,_⟩:=h
  rfl
 ·obtain⟨x,dx,so,mv,rfl,rfl,hx,hm,k⟩:=h
  have qA:=kba (P:=P) (w:=w) (base:=base) W
  refine⟨_,kai (ka8 (kdQ W.Qa qA hr rfl W.qy.m W.qr.F.kp W.qr.b .nil pass0 (kaa (pv 0) (kaa (pv 1) kae)))),?_⟩
  refine⟨_,rfl,_,rfl,x,d.ql,dx,[],mv,rfl,hx,W.ql.cl,W.Xb,by decide,hm,fun H1 mA b1 hM h1=>?_⟩
  refine k _ mA _ b1 hM h1 ?_ trivial
  (repeat (first|rw[kab,if_pos rfl]|rw[kab,if_neg (by decide +kernel)]))
theorem kfm:kaq ["self","kind","price","many","special"] ["self","kind","price","many","special"] (kag ka7):=⟨rfl,rfl,rfl,by decide +kernel,rfl,by decide +kernel,by decide +kernel⟩
theorem kfw(W:WB K mg d base):FnOk P w K mg base CX0 1 d.Y0 d.Q2 ["self","kind","price","many","special"] (kfZ d.qf):=by
 refine FunD.ok W.Xg.F kfm (fun vs H Q E h=>?_) (fun cdv A outer s H vs Q E hr h=>?_)
 ·obtain⟨x,dx,r,rfl,_⟩:=h
  rfl
 ·obtain⟨x,dx,r,rfl,hx,k⟩:=h
  refine⟨_,kad (kaL (pv 0) (pv 1) rfl)
   (kad (kaL (pv 0) (pv 2) rfl)
   (kad (kaL (pv 0) (pv 3) rfl)
   (kai (kaL (pv 0) (pv 4) rfl)))),?_⟩
  refine⟨_,rfl,_,rfl,x,d.qf,dx,[],rfl,hx,W.qf.cl,W.Zs,by decide,?_⟩
  refine⟨_,rfl,_,rfl,x,d.qf,dx,_,rfl,kac,W.qf.cl,W.Xd,few (Uy (kal (n:=0) (Uw _)) (by decide)),?_⟩
  refine⟨_,rfl,_,rfl,x,d.qf,dx,_,rfl,kac,W.qf.cl,W.Xe,few (Uy (kal (kal (n:=0) (Uw _))) (by decide)),?_⟩
  refine⟨_,rfl,_,rfl,x,d.qf,dx,_,rfl,kac,W.qf.cl,W.Xf,few (Uy (kal (kal (kal (n:=0) (Uw _)))) (by decide)),?_⟩
  refine k _ (But.trans (But.trans (But.trans kaz kaz) kaz) kaz) ⟨dx,_,kac,?_,?_,?_,?_⟩
  ·rw[kab,if_neg (by decide +kernel),kab,if_neg (by decide +kernel),kab,if_neg (by decide +kernel),kab,if_pos rfl]
  ·rw[kab,if_neg (by decide +kernel),kab,if_neg (by decide +kernel),kab,if_pos rfl]
  ·rw[kab,if_neg (by decide +kernel),kab,if_pos rfl]
  ·rw[kab,if_pos rfl]
theorem ked:kaq ["self","lines","carriage","member"] ["self","lines","carriage","member"] (kag kaU):=⟨rfl,rfl,rfl,by decide +kernel,rfl,by decide +kernel,by decide +kernel⟩
theorem kei(W:WB K mg d base):FnOk P w K mg base CX0 1 d.Y1 d.Qf ["self","lines","carriage","member"] (kf0 K d.qg):=by
 refine FunD.ok W.Xj.F ked (fun vs H Q E h=>?_) (fun cdv A outer s H vs Q E hr h=>?_)
 ·obtain⟨x,dx,l,cg,m,xs,rfl,_⟩:=h
  rfl
 ·obtain⟨x,dx,l,cg,m,xs,rfl,hx,hl,k⟩:=h
  refine⟨_,kad (kaL (pv 0) (kaX (r:=kbC K) kaM (by rfl) W.B.list kbI (kaa (pv 1) kae)) rfl)
   (kad (kaL (pv 0) (pv 2) rfl)
   (kai (kaL (pv 0) (pv 3) rfl))),?_⟩
  refine⟨_,rfl,l,_,rfl, .inl hl,fun l' hl'=>?_⟩
  have s1:=kah (o:=.lst xs) hl'
  have nlx:l'≠x:=fun e=>by
   rw[e,hx] at hl'
   cases hl'
  refine⟨_,rfl,x,d.qg,dx,[],rfl,s1 _ _ hx,W.qg.cl,W.Xh,by decide,?_⟩
  refine⟨_,rfl,_,rfl,x,d.qg,dx,_,rfl,kac,W.qg.cl,W.Zt,few (Uy (kal (n:=0) (Uw _)) (by decide)),?_⟩
  refine⟨_,rfl,_,rfl,x,d.qg,dx,_,rfl,kac,W.qg.cl,W.Xi,few (Uy (kal (kal (n:=0) (Uw _))) (by decide)),?_⟩
  refine k _ l' ((((But.of_same s1).trans kaz).trans kaz).trans kaz) hl' ?_ ⟨dx,_,kac,?_,?_,?_⟩
  ·rw[kak nlx,kak nlx,kak nlx,kac]
  ·rw[kab,if_neg (by decide +kernel),kab,if_neg (by decide +kernel),kab,if_pos rfl]
  ·rw[kab,if_neg (by decide +kernel),kab,if_pos rfl]
  ·rw[kab,if_pos rfl]
theorem kc4:kaq ["line","member"] ["line","member"] (kag kbz):=⟨rfl,rfl,rfl,by decide +kernel,rfl,by decide +kernel,by decide +kernel⟩
theorem kda(W:WB K mg d base):FnOk P w K mg base CX0 1 d.XI d.XJ ["line","member"] (khP d.qf):=by
 refine FunD.ok W.Qh.F kc4 (fun vs H Q E h=>?_) (fun cdv A outer s H vs Q E hr h=>?_)
 ·obtain⟨x,m,r,rfl,_⟩:=h
  rfl
 ·obtain⟨x,m,r,rfl,⟨dx,fs,hx,lk,lp,lm,ls⟩,k⟩:=h
  refine⟨_,kad (ps_if (PW.pt (kbP (ka5 (pv 1)) (kbD (kat kc9 (kam (K:=K) (pv 0) rfl) kaV (kax _))))) (kai (kao (kam (K:=K) (pv 0) rfl))) (kau))
   (kai (kao (kam (K:=K) (pv 0) rfl))),?_⟩
  refine⟨_,rfl,m,rfl,?_⟩
  cases m with
  |false=>
   refine iteF (iteF ⟨_,rfl,x,d.qf,dx,fs,_,rfl,hx,W.qf.cl,W.Xd,lp,?_⟩)
   exact k
  | true=>
   refine iteT ⟨_,rfl,x,d.qf,dx,fs,_,rfl,hx,W.qf.cl,W.Xf,ls,rfl,_,rfl,?_⟩
   cases e:r.ex with
   | none=>
    rw[e] at ls
    show if(!decide (V.non=V.non))=true then _ else _
    rw[show(!decide (V.non=V.non))=false by simp]
    refine iteF ⟨_,rfl,x,d.qf,dx,fs,_,rfl,hx,W.qf.cl,W.Xd,lp,?_⟩
    have ep:prc true r=r.pr:=by
     unfold prc
     rw[if_pos rfl,e]
     rfl
    rw[ep] at k
    exact k
   | some z=>
    rw[e] at ls
    show if(!decide (V.int z=V.non))=true then _ else _
    rw[show(!decide (V.int z=V.non))=true by simp]
    refine iteT ⟨_,rfl,x,d.qf,dx,fs,_,rfl,hx,W.qf.cl,W.Xf,ls,?_⟩
    have ep:prc true r=z:=by
     unfold prc
     rw[if_pos rfl,e]
     rfl
    rw[ep] at k
    exact k
theorem QK:kaq ["self","basket","number","line","price"] ["self","basket"] (kag kbO):=⟨rfl,rfl,rfl,by decide +kernel,rfl,by decide +kernel,by decide +kernel⟩
theorem kbF(W:WB K mg d base):FnOk P w K mg base CX0 2 d.Y2 d.Y3 ["self","basket"] (kcM d.qf d.qg d.qc):=by
 refine FunD.ok W.qQ.F QK (fun vs H Q E h=>?_) (fun cdv A outer s H vs Q E hr h=>?_)
 ·obtain⟨x,dx,b,l,cg,m,ls,rs,rfl,_⟩:=h
  rfl
 ·obtain⟨x,dx,b,l,cg,m,ls,rs,rfl,hx,⟨dxb,fsb,hb,lbl,lbc,lbm⟩,hl,hL,hn,hok,k⟩:=h
  have Vb:=kda (P:=P) (w:=w) (base:=base) W
  refine⟨_,kad (kaL (pv 0) (kaI kae) rfl)
   (kad (kaL (pv 0) (kaI kae) rfl)
   (kad (kaL (pv 0) (kam (K:=K) (pv 1) rfl) rfl)
   (kad (kaL (pv 0) (kaI kae) rfl)
   (kai (kbk PassesOwn.never rfl (kig rfl W.B.enum (kaa (kam (K:=K) (pv 1) rfl) kae)) (kbm (K:=K) (n:=2) rfl (kay (kap (i:=2) QK.nd rfl (Or.inl rfl)) (kay (kap (i:=3) QK.nd rfl (Or.inl rfl)) kbl)))
   (kad (kav (i:=4) QK.nd rfl (Or.inl rfl) (kan Vb hr rfl W.Qh.m W.Qh.F.kp W.Qh.b .nil pass0 (kaa (pv 3) (kaa (kam (K:=K) (pv 1) rfl) kae))))
   (kad (ka8 (pe_bm Jk Mq Mr kfy (kam (K:=K) (pv 0) rfl) (kaa (pe_op kkd (kaI (kaa (pv 2) kae)) (kam (K:=K) (pv 3) rfl)) kae)))
   (kad (ka8 (pe_bm Jk Mq Mr kfy (kam (K:=K) (pv 0) rfl) (kaa (pe_op kkd (kaI (kaa (pv 4) kae)) (kam (K:=K) (pv 3) rfl)) kae)))
   (kai (ka8 (pe_bm Jk Js Jt kbf (kam (K:=K) (pv 0) rfl) (kaa pe_bl kae)))))))))))),?_⟩
  have nbx:b≠x:=ne_of hb hx (by
   intro z
   injection z with _ _ z
   rw[z] at lbl
   cases lbl)
  have nlx:l≠x:=ne_of hl hx (by intro z;cases z)
  try refine sN fun _ Y4=>?_
  refine⟨by decide,fun o ho=>?_⟩
  have nox:o≠x:=(kaj hx ho).symm
  try apply Y4
  try refine sN fun _ Y4=>?_
  refine⟨_,rfl,x,d.qc,dx,[],rfl,kah ho _ _ hx,W.qc.cl,W.qP,by decide,?_⟩
  have b1:But x H (upd (upd H o (.lst [])) x (.ins d.qc dx (putF "owners" (.ref o) []))):=(But.of_same (kah ho)).trans kaz
  try apply Y4
  try refine sN fun _ Y4=>?_
  refine⟨by decide,fun p hp=>?_⟩
  have npx:p≠x:=fun e=>by
   rw[e,kac] at hp
   cases hp
  have nop:o≠p:=fun e=>by
   rw[←e,kak nox,kac] at hp
   cases hp
  have hp0:H p=none:=by
   cases e:H p with
   |none=>rfl
   |some u=>
    obtain⟨u',e'⟩:=ke1 (b1 p u npx e)
    rw[e'] at hp
    cases hp
  try apply Y4
  try refine sN fun _ Y4=>?_
  refine⟨_,rfl,x,d.qc,dx,_,rfl,kah hp _ _ kac,W.qc.cl,W.qD,few (Uy (kal (n:=0) (Uw _)) (by decide)),?_⟩
  have b2:=(b1.same (kah (o:=.lst []) hp)).trans (kaz (o:=.ins d.qc dx (putF "prices" (.ref p) (putF "owners" (.ref o) []))))
  try apply Y4
  try refine sN fun _ Y4=>?_
  refine⟨_,rfl,b,d.qg,dxb,fsb,_,rfl,b2 b _ nbx hb,W.qg.cl,W.Zt,lbc,_,rfl,x,d.qc,dx,_,rfl,kac,W.qc.cl,W.QH,few (Uy (kal (kal (n:=0) (Uw _))) (by decide)),?_⟩
  have b3:=b2.trans (kaz (o:=.ins d.qc dx (putF "carriage" (.int cg) (putF "prices" (.ref p) (putF "owners" (.ref o) [])))))
  try apply Y4
  try refine sN fun _ Y4=>?_
  refine⟨by decide,fun mk hm=>?_⟩
  have nmx:mk≠x:=fun e=>by
   rw[e,kac] at hm
   cases hm
  have hm0:H mk=none:=by
   cases e:H mk with
   |none=>rfl
   |some u=>
    obtain⟨u',e'⟩:=ke1 (b3 mk u nmx e)
    rw[e'] at hm
    cases hm
  have nom:o≠mk:=fun e=>by
   rw[←e,kak nox,kak nox,kak nop,kak nox,kac] at hm
   cases hm
  have npm:p≠mk:=fun e=>by
   rw[←e,kak npx,kak npx,kac] at hm
   cases hm
  try apply Y4
  try refine sN fun _ Y4=>?_
  refine⟨_,rfl,x,d.qc,dx,_,rfl,kah hm _ _ kac,W.qc.cl,W.qW,few (Uy (kal (kal (kal (n:=0) (Uw _)))) (by decide)),?_⟩
  have b4:=(b3.same (kah (o:=.lst []) hm)).trans (kaz (o:=.ins d.qc dx (putF "marked" (.ref mk) (putF "carriage" (.int cg) (putF "prices" (.ref p) (putF "owners" (.ref o) []))))))
  have Di:Ds H x o p mk:=⟨ho,hp0,hm0,nox,npx,nmx,nop,nom,npm⟩
  have Z0:S3 H x d.qc dx (putF "marked" (.ref mk) (putF "carriage" (.int cg) (putF "prices" (.ref p) (putF "owners" (.ref o) [])))) o p mk [] [] [] (upd (upd (upd (upd (upd (upd (upd H o (.lst [])) x (.ins d.qc dx (putF "owners" (.ref o) []))) p (.lst [])) x (.ins d.qc dx (putF "prices" (.ref p) (putF "owners" (.ref o) []))))
    x (.ins d.qc dx (putF "carriage" (.int cg) (putF "prices" (.ref p) (putF "owners" (.ref o) []))))) mk (.lst [])) x (.ins d.qc dx (putF "marked" (.ref mk) (putF "carriage" (.int cg) (putF "prices" (.ref p) (putF "owners" (.ref o) [])))))):=by
   try apply Y4
   try refine sN fun _ Y6=>?_
   refine⟨b4,kac,?_,?_,?_⟩
   ·rw[kak nox,kak nom,kak nox,kak nox,kak nop,kak nox,kac]
   ·rw[kak npx,kak npm,kak npx,kak npx,kac]
   ·rw[kak nmx,kac]
  have l1:(putF "marked" (.ref mk) (putF "carriage" (.int cg) (putF "prices" (.ref p) (putF "owners" (.ref o) [])))).lookup ("owners" :Str)=some (.ref o):=by
   rw[kab,if_neg (by decide +kernel),kab,if_neg (by decide +kernel),kab,if_neg (by decide +kernel),kab,if_pos rfl]
  have l2:(putF "marked" (.ref mk) (putF "carriage" (.int cg) (putF "prices" (.ref p) (putF "owners" (.ref o) [])))).lookup ("prices" :Str)=some (.ref p):=by
   rw[kab,if_neg (by decide +kernel),kab,if_neg (by decide +kernel),kab,if_pos rfl]
  have l3:(putF "marked" (.ref mk) (putF "carriage" (.int cg) (putF "prices" (.ref p) (putF "owners" (.ref o) [])))).lookup ("carriage" :Str)=some (.int cg):=by
   rw[kab,if_neg (by decide +kernel),kab,if_pos rfl]
  have l4:(putF "marked" (.ref mk) (putF "carriage" (.int cg) (putF "prices" (.ref p) (putF "owners" (.ref o) [])))).lookup ("marked" :Str)=some (.ref mk):=by
   rw[kab,if_pos rfl]
  have l5:(putF "marked" (.ref mk) (putF "carriage" (.int cg) (putF "prices" (.ref p) (putF "owners" (.ref o) [])))).lookup ("whole" :Str)=none:=by
   rw[kab,if_neg (by decide +kernel),kab,if_neg (by decide +kernel),kab,if_neg (by decide +kernel),kab,if_neg (by decide +kernel)]
   rfl
  have lfs:(putF "marked" (.ref mk) (putF "carriage" (.int cg) (putF "prices" (.ref p) (putF "owners" (.ref o) [])))).length≤10:=Uy (kal (kal (kal (kal (n:=0) (Uw _))))) (by decide)
  generalize putF "marked" (.ref mk) (putF "carriage" (.int cg) (putF "prices" (.ref p) (putF "owners" (.ref o) [])))=fs at *
  generalize (upd (upd (upd (upd (upd (upd (upd H o (.lst [])) x (.ins d.qc dx (putF "owners" (.ref o) []))) p (.lst [])) x (.ins d.qc dx (putF "prices" (.ref p) (putF "owners" (.ref o) []))))
    x (.ins d.qc dx (putF "carriage" (.int cg) (putF "prices" (.ref p) (putF "owners" (.ref o) []))))) mk (.lst [])) x (.ins d.qc dx fs))=Hs at *
  try apply Y4
  try refine sN fun _ Y4=>?_
  refine⟨_,rfl,b,d.qg,dxb,fsb,_,rfl,Z0.bt b _ nbx hb,W.qg.cl,W.Xh,lbl,l,_,rfl,Z0.bt l _ nlx hl,kjH (xs:=ls.map V.ref) (fun i σ H'=>(∃v2 v3 v4:Option V,σ=[some (.ref x),some (.ref b),v2,v3,v4])∧
   S3 H x d.qc dx fs o p mk ((own (rs.take i)).map V.int) ((prs m (rs.take i)).map V.int) (Uz i (.bl false)) H') ⟨⟨none,none,none,rfl⟩,Z0⟩ (fun i σ H' _ ⟨_,Z⟩=>Z.bt l _ nlx hl) ?_ ?_⟩
  ·rintro i y t σ H1 hy ⟨⟨v2,v3,v4,rfl⟩,Z⟩ ht
   have hll:=hL.len
   have hil:i<(ls.map V.ref).length:=(UG.mp hy).1
   rw[Uu] at hil
   obtain⟨lx,el,rfl⟩:∃lx,ls[i]?=some lx∧y=V.ref lx:=by
    rw[UF] at hy
    cases e:ls[i]? with
    |none=>rw[e] at hy;cases hy
    |some z=>rw[e] at hy;exact⟨z,rfl,(Option.some.inj hy).symm⟩
   obtain⟨r,er⟩:∃r,rs[i]?=some r:=⟨rs[i]'(by omega),by simp[show i<rs.length by omega]⟩
   have hr':r.Ok:=hok r (UE er)
   obtain⟨dxl,fsl,hlx,lk1,lk2,lk3,lk4⟩:=hL.get el er
   have nlxx:lx≠x:=ne_of hlx hx (by
    intro z
    injection z with _ _ z
    rw[z] at lk1
    cases lk1)
   have hmn0:=hr'.mn0
   have hmn1:=hr'.mn1
   have Z1:=Z.same (kah (o:=.tup [.int (i:Nat),V.ref lx]) ht)
   have lo1:((own (rs.take i)).map V.int).length≤720:=by
    rw[Uu]
    have:=kij (rs.take i) fun r hr=>hok r (NF hr)
    rw[UL] at this
    omega
   have lp1:((prs m (rs.take i)).map V.int).length≤720:=by
    rw[Uu]
    have:=kib m (rs.take i) fun r hr=>hok r (NF hr)
    rw[UL] at this
    omega
   try apply Y4
   try refine sN fun _ Y6=>?_
   refine⟨t,_,rfl,SqT.of kac,rfl,_,_,rfl,_,_,rfl,rfl,?_⟩
   try first|apply Y6|apply Y4
   try refine sN fun _ Y6=>?_
   refine⟨_,rfl,_,rfl,b,d.qg,dxb,fsb,_,rfl,Z1.bt b _ nbx hb,W.qg.cl,W.Xi,lbm,lx,m,r,rfl,⟨dxl,fsl,Z1.bt lx _ nlxx hlx,lk1,lk2,lk3,lk4⟩,?_⟩
   try first|apply Y6|apply Y4
   try refine sN fun _ Y6=>?_
   refine⟨_,rfl,x,d.qc,dx,fs,_,rfl,Z1.ob,W.qc.cl,W.qP,l1, .inl ⟨rfl,_,SqL.of Z1.ho⟩,_,rfl,(by show 1≤sizeLine;decide),fun t1 ht1=>?_⟩
   have Z2:=Z1.same (kah (o:=.lst [V.int (i:Nat)]) ht1)
   try first|apply Y6|apply Y4
   try refine sN fun _ Y6=>?_
   refine⟨_,rfl,lx,d.qf,dxl,fsl,_,rfl,Z2.bt lx _ nlxx hlx,W.qf.cl,W.Xe,lk3,t1,_,_,rfl,rfl,kac,by omega,by omega,UH (kar (by simp;omega)),fun t2 ht2=>?_⟩
   have Z3:=Z2.same (kah (o:=.lst (Uz r.mn.toNat [V.int (i:Nat)]).flatten) ht2)
   try first|apply Y6|apply Y4
   try refine sN fun _ Y6=>?_
   refine⟨o,t2,_,_,rfl,rfl,Z3.ho,kac,UH (kar (by rw[rep1,JD];omega)),?_⟩
   have Z4:=Z3.setO (d:=(own (rs.take i)).map V.int++(Uz r.mn.toNat [V.int (i:Nat)]).flatten) Di
   try first|apply Y6|apply Y4
   try refine sN fun _ Y6=>?_
   refine⟨_,rfl,x,d.qc,dx,fs,_,rfl,Z4.ob,W.qc.cl,W.qD,l2, .inl ⟨rfl,_,SqL.of Z4.hp⟩,_,rfl,(by show 1≤sizeLine;decide),fun t3 ht3=>?_⟩
   have Z5:=Z4.same (kah (o:=.lst [V.int (prc m r)]) ht3)
   try first|apply Y6|apply Y4
   try refine sN fun _ Y6=>?_
   refine⟨_,rfl,lx,d.qf,dxl,fsl,_,rfl,Z5.bt lx _ nlxx hlx,W.qf.cl,W.Xe,lk3,t3,_,_,rfl,rfl,kac,by omega,by omega,UH (kar (by simp;omega)),fun t4 ht4=>?_⟩
   have Z6:=Z5.same (kah (o:=.lst (Uz r.mn.toNat [V.int (prc m r)]).flatten) ht4)
   try first|apply Y6|apply Y4
   try refine sN fun _ Y6=>?_
   refine⟨p,t4,_,_,rfl,rfl,Z6.hp,kac,UH (kar (by rw[rep1,JD];omega)),?_⟩
   have Z7:=Z6.setP (d:=(prs m (rs.take i)).map V.int++(Uz r.mn.toNat [V.int (prc m r)]).flatten) Di
   try first|apply Y6|apply Y4
   try refine sN fun _ Y6=>?_
   refine⟨_,rfl,x,d.qc,dx,fs,_,rfl,Z7.ob,W.qc.cl,W.qW,l4, .inl ⟨rfl,_,SqL.of Z7.hm⟩,mk,_,_,rfl,rfl,Z7.hm,kar (by simp;omega),?_⟩
   have Z8:=Z7.setM (d:=Uz i (V.bl false)++[V.bl false]) Di
   try first|apply Y6|apply Y4
   try refine sN fun _ Y6=>?_
   refine⟨⟨_,_,_,rfl⟩,?_⟩
   have e1:(own (rs.take i)).map V.int++(Uz r.mn.toNat [V.int (i:Nat)]).flatten=(own (rs.take (i+1))).map V.int:=by
    rw[take_snoc er,kjn,UD,rep1,kh5,UL,NH (by omega)]
   have e2:(prs m (rs.take i)).map V.int++(Uz r.mn.toNat [V.int (prc m r)]).flatten=(prs m (rs.take (i+1))).map V.int:=by
    rw[take_snoc er,kjg,UD,rep1,kh5]
   have e3:Uz i (V.bl false)++[V.bl false]=Uz (i+1) (V.bl false):=by rw[J8]
   rw[←e1,←e2,←e3]
   try first|apply Y6|apply Y4
   exact Z8
  ·rintro σ H' ⟨⟨v2,v3,v4,rfl⟩,Z⟩
   have hll:=hL.len
   have e:(ls.map V.ref).length=rs.length:=by rw[Uu,hll]
   rw[e,UY] at Z
   try first|apply Y6|apply Y4
   exact k H' o p mk Z.bt ho hp0 hm0 ⟨dx,fs,Z.ob,l1,l2,l3,l4,l5⟩ Z.ho Z.hp Z.hm ⟨dx,fs,Z.ob,lfs⟩
inductive kj4 (K:Uv) (CM:Addr) (vs:List V) (H:Hp) (Q:VK) (E_:XK):Prop
 |ct (mA a:Addr) (M:Mks) (ps:List (Option Nat)) (kn:Nat) (mk:Bool) (_:vs=[.ref mA, .ref a, .int kn, .bl mk]) (_:MksIs CM H mA M) (_:SqL K H a (ps.map pV)) (_:Good ps) (_:kn<ps.length) (_:Q (.bl (kHit ps M.kind kn&&(!M.lone|| !mk))) H):kj4 K CM vs H Q E_
theorem kkG:kaq ["marks","parents","kind","marked"] ["marks","parents","kind","marked"] (kag kh4):=⟨rfl,rfl,rfl,by decide +kernel,rfl,by decide +kernel,by decide +kernel⟩
theorem kkP(W:WB K mg d base):FnOk P w K mg base CX0 2 d.XQ d.XR ["marks","parents","kind","marked"] (kj4 K d.qe):=by
 refine FunD.ok W.Qi.F kkG (fun vs H Q E h=>?_) (fun cdv A outer s H vs Q E hr h=>?_)
 ·obtain⟨mA,a,M,ps,kn,mk,rfl,_⟩:=h
  rfl
 ·obtain⟨mA,a,M,ps,kn,mk,rfl,⟨dx,fs,hm,l1,l2,l3,l4,l5,l6⟩,hS,hg,hk,k⟩:=h
  have Vd:=kjr (P:=P) (w:=w) (base:=base) W
  refine⟨_,kad (kfn (ps_if (PW.pt (kbP (ka5 (kam (K:=K) (pv 0) rfl)) (kbD (ka5 (pv 3))))) (kai (kao pe_bl)) (kau)))
   (kai (kao (pe_or (ka1 keo (kam (K:=K) (pv 0) rfl) kaV (kax _)) (kfo (kan Vd hr rfl W.Qg.m W.Qg.F.kp W.Qg.b .nil pass0 (kaa (pv 1) (kaa (pv 2) (kaa (kam (K:=K) (pv 0) rfl) kae)))))))),?_⟩
  refine⟨fun σ' H'=>σ'=[some (.ref mA),some (.ref a),some (.int kn),some (.bl mk)]∧H'=H∧(!M.lone|| !mk)=true,⟨_,rfl,mA,d.qe,dx,fs,_,rfl,hm,W.qe.cl,W.Q6,l6,M.lone,rfl,?_⟩,?_⟩
  ·cases e:M.lone with
   |false=>exact iteF (iteF ⟨rfl,rfl,rfl⟩)
   | true=>
    refine iteT ⟨_,rfl,mk,rfl,?_⟩
    cases mk with
    |false=>exact iteF ⟨rfl,rfl,rfl⟩
    |true=>
     refine iteT ?_
     rw[e,show(kHit ps M.kind kn&&(!true|| !true))=false by simp] at k
     exact k
  ·rintro σ' H' ⟨rfl,rfl,hh⟩
   rw[hh,Nq] at k
   cases ek:M.kind with
   |none=>
    rw[ek] at l1 k
    refine⟨_,rfl,mA,d.qe,dx,fs,_,rfl,hm,W.qe.cl,W.QF,l1,rfl,_,rfl,?_⟩
    show if decide (V.non=V.non)=true then _ else _
    rw[show decide (V.non=V.non)=true by simp]
    exact iteT k
   |some kk=>
    rw[ek] at l1 k
    refine⟨_,rfl,mA,d.qe,dx,fs,_,rfl,hm,W.qe.cl,W.QF,l1,rfl,_,rfl,?_⟩
    show if decide (V.int (kk:Nat)=V.non)=true then _ else _
    rw[show decide (V.int (kk:Nat)=V.non)=false by simp]
    exact iteF ⟨_,rfl,_,rfl,_,rfl,mA,d.qe,dx,fs,_,rfl,hm,W.qe.cl,W.QF,l1,a,ps,kn,kk,rfl,hS,hg,hk,k⟩
theorem Zu:kaq ["voucher","parents","basket","standing","fitting"] ["voucher","parents","basket","standing"] (kag kdN):=⟨rfl,rfl,rfl,by decide +kernel,rfl,by decide +kernel,by decide +kernel⟩
theorem kgR(W:WB K mg d base):FnOk P w K mg base CX0 3 d.XM d.XO ["voucher","parents","basket","standing"] (kh1 K d):=by
 refine FunD.ok W.qK.F Zu (fun vs H Q E h=>?_) (fun cdv A outer s H vs Q E hr h=>?_)
 ·obtain⟨v,a,b,x,V,ps,B,S,rfl,_⟩:=h
  rfl
 ·obtain⟨v,a,b,x,Vc,ps,B,S,rfl,hV,hA,hB,hS,wf,vo,k⟩:=h
  obtain⟨mA,dxv,fsv,hv,lvm,_,hM,hh,htb⟩:=id hV
  obtain⟨l,ls,⟨dxb,fsb,hb,lb1,lb2,lb3⟩,hl,hL⟩:=id hB
  obtain⟨o,p,mk,⟨dxs,fss,hx,l1,l2,l3,l4,l5⟩,ho,hp,hmk⟩:=id hS
  have Ve:=kkP (P:=P) (w:=w) (base:=base) W
  refine⟨_,kad (kav (i:=4) Zu.nd rfl (Or.inr rfl) (kbv (N:=["line","marked","voucher","parents"]) (CompScope.of (N:=["line","marked","voucher","parents"]) (cap:=[none,none,some 0,some 1]) (kag kdN).names ["voucher","parents","basket","standing","fitting"] rfl rfl (by decide +kernel)) rfl (keO rfl W.B.zip (kaa (kam (K:=K) (pv 2) rfl) (kaa (kam (K:=K) (pv 3) rfl) kae))) (fun _ _ _ _=>kbm (K:=K) (n:=2) rfl (kay (kap (i:=0) (show(["line","marked","voucher","parents"]:List Str).Nodup by decide +kernel) rfl (Or.inl rfl)) (kay (kap (i:=1) (show(["line","marked","voucher","parents"]:List Str).Nodup by decide +kernel) rfl (Or.inl rfl)) kbl))) (fun _ _ _ _=>(kan Ve hr rfl W.Qi.m W.Qi.F.kp W.Qi.b .nil pass0 (kaa (kam (K:=K) (pv 2) rfl) (kaa (pv 3) (kaa (kam (K:=K) (pv 0) rfl) (kaa (pv 1) kae))))))))
   (kai (kao (keP (N:=["piece","owner","fitting"]) (CompScope.of (N:=["piece","owner","fitting"]) (cap:=[none,none,some 4]) (kag kdN).names ["voucher","parents","basket","standing","fitting"] rfl rfl (by decide +kernel)) rfl (kig rfl W.B.enum (kaa (kam (K:=K) (pv 3) rfl) kae)) (fun _ _ _ _=>kbm (K:=K) (n:=2) rfl (kay (kap (i:=0) (show(["piece","owner","fitting"]:List Str).Nodup by decide +kernel) rfl (Or.inl rfl)) (kay (kap (i:=1) (show(["piece","owner","fitting"]:List Str).Nodup by decide +kernel) rfl (Or.inl rfl)) kbl))) (fun _ _ _ _=>kf9 (ka5 (pe_ix (r:=rIxL K) kaC (pv 2) (pv 1) (fun _ _=>rfl)))) (fun _ _ _ _=>(pv 0))))),?_⟩
  have np:=wf.np
  have nl:=wf.nl
  have lenL:=hL.len
  have lenM:=wf.lm
  have emin:min (ls.map V.ref).length (S.mkd.map V.bl).length=B.rs.length:=by rw[Uu,Uu,lenL,lenM,JL]
  refine⟨_,rfl,b,d.qg,dxb,fsb,_,rfl,hb,W.qg.cl,W.Xh,lb1,_,rfl,x,d.qc,dxs,fss,_,rfl,hx,W.qc.cl,W.qW,l4,l,mk,_,_,rfl,hl,hmk,
   ke2 (xs:=ls.map V.ref) (ys:=S.mkd.map V.bl) (fun i σ zs H'=>Same H H'∧zs=((UB i).map fun l=>hits ps (kds B) Vc.ms.kind Vc.ms.lone S.mkd l).map V.bl∧∃v0 v1:Option V,σ=[v0,v1,some (.ref v),some (.ref a)])
    ⟨Same.refl _,rfl,none,none,rfl⟩ (by rw[emin];exact UH (kar (by omega))) (fun i σ zs H' _ h=>⟨h.1 _ _ hl,h.1 _ _ hmk,by rw[h.2.1];simp⟩) ?_ ?_⟩
  ·rintro i y m t σ zs H1 hy hm ⟨s1,rfl,v0,v1,rfl⟩ ht
   obtain⟨lx,elx,rfl⟩:=kbG hy
   obtain⟨mv,emv,rfl⟩:=kbH hm
   obtain⟨r,er,hr⟩:=hL.at elx
   have s2:=s1.trans (kah (o:=.tup [V.ref lx,V.bl mv]) ht)
   obtain⟨dxl,fsl,hlx,lk1,_⟩:=hr.same s2
   have hkd:=wf.kd r (UE er)
   obtain⟨kn,ekn⟩:=Int.eq_ofNat_of_zero_le hkd.1
   have hkn:kn<ps.length:=by omega
   refine⟨t,_,rfl,SqT.of kac,rfl,_,_,rfl,_,_,rfl,rfl,?_⟩
   refine⟨_,rfl,v,clsOf d Vc.so,dxv,fsv,_,rfl,s2 _ _ hv,cl_of W hh,na_of W hh,lvm,_,rfl,_,rfl,lx,d.qf,dxl,fsl,_,rfl,hlx,W.qf.cl,W.Zs,lk1,_,rfl,mA,a,Vc.ms,ps,kn,mv,by rw[ekn];rfl,hM.same s2,s2.seq hA,wf.good,hkn,s2,?_,_,_,rfl⟩
   have e1:hits ps (kds B) Vc.ms.kind Vc.ms.lone S.mkd i=(kHit ps Vc.ms.kind kn&&(!Vc.ms.lone|| !mv)):=by
    unfold hits
    have e2:S.mkd.getD i false=mv:=by rw[UP,emv];rfl
    rw[e2,klv er,ekn,Int.toNat_natCast]
   rw[Jz,UD,UD,←e1]
   rfl
  rintro σ zs H1 ⟨s1,rfl,v0,v1,rfl⟩ D hD
  rw[emin]
  have s2:=s1.trans (kah (o:=.lst (((UB B.rs.length).map fun l=>hits ps (kds B) Vc.ms.kind Vc.ms.lone S.mkd l).map V.bl)) hD)
  have eD:(upd H1 D (.lst (((UB B.rs.length).map fun l=>hits ps (kds B) Vc.ms.kind Vc.ms.lone S.mkd l).map V.bl))) D=some (.lst (((UB B.rs.length).map fun l=>hits ps (kds B) Vc.ms.kind Vc.ms.lone S.mkd l).map V.bl)):=kac
  generalize upd H1 D (.lst (((UB B.rs.length).map fun l=>hits ps (kds B) Vc.ms.kind Vc.ms.lone S.mkd l).map V.bl))=H2 at *
  refine⟨_,rfl,x,d.qc,dxs,fss,_,rfl,s2 _ _ hx,W.qc.cl,W.qP,l1,o,_,rfl,s2 _ _ ho,
   khs (xs:=S.ow.map iV) (fun i σ ys H'=>Same H2 H'∧ys=((UB i).filter fun i=>hits ps (kds B) Vc.ms.kind Vc.ms.lone S.mkd (S.ow.getD i 0)).map iV∧∃v0 v1:Option V,σ=[v0,v1,some (.ref D)])
    ⟨Same.refl _,rfl,none,none,rfl⟩ (by rw[Uu];exact UH (kar (by omega))) (fun i σ zs H' _ h=>⟨h.1 _ _ (s2 _ _ ho),by rw[h.2.1,Uu];have:=JU (fun i=>hits ps (kds B) Vc.ms.kind Vc.ms.lone S.mkd (S.ow.getD i 0)) (UB i);simpa using this⟩) ?_ ?_⟩
  ·rintro i y t σ zs H3 hy ⟨s3,rfl,v0,v1,rfl⟩ ht
   obtain⟨ln,eln,rfl⟩:=kbH hy
   have hln:=wf.line eln
   have s4:=s3.trans (kah (o:=.tup [V.int (i:Nat),iV ln]) ht)
   refine⟨t,_,rfl,SqT.of kac,rfl,_,_,rfl,_,_,rfl,rfl,?_⟩
   refine⟨_,rfl,_,rfl,D,_,_,_,rfl,rfl,SqL.of (s4 _ _ eD),kaY (v:=.bl (hits ps (kds B) Vc.ms.kind Vc.ms.lone S.mkd ln)) (by rw[UF,UF,ND hln];rfl),_,rfl,?_⟩
   have e1:S.ow.getD i 0=ln:=by rw[UP,eln];rfl
   have st:=kjW (ps:=ps) (kk:=kds B) (kind:=Vc.ms.kind) (lone:=Vc.ms.lone) (S:=S) (i:=i)
   rw[e1] at st
   cases hh2:hits ps (kds B) Vc.ms.kind Vc.ms.lone S.mkd ln with
   |false=>exact iteF ⟨s4,by rw[st,hh2];simp,_,_,rfl⟩
   |true=>exact iteT ⟨_,rfl,s4,by rw[st,hh2,if_pos rfl,UD];rfl,_,_,rfl⟩
  ·rintro σ zs H3 ⟨s3,rfl,v0,v1,rfl⟩ D2 hD2
   rw[Uu]
   have s4:=(s2.trans s3).trans (kah (o:=.lst ((abt ps (kds B) Vc.ms.kind Vc.ms.lone S).map iV)) hD2)
   exact k _ D2 s4 (none_of (s2.trans s3) hD2) kac
inductive kek (CS:Addr) (vs:List V) (H:Hp) (Q:VK) (E_:XK):Prop
 |ct (x g:Addr) (S:Stnd) (is:List Nat) (_:vs=[.ref x, .ref g]) (_:StndIs CS H x S) (_:H g=some (.lst (is.map iV))) (_:(∀i∈is,i<S.pr.length)) (_:is.length≤720) (_:∀p,H p=none→Q (.ref p) (upd H p (.lst ((qs S.pr is).map V.int)))):kek CS vs H Q E_
theorem kfj:kaq ["standing","pieces"] ["standing","pieces"] (kag kb7):=⟨rfl,rfl,rfl,by decide +kernel,rfl,by decide +kernel,by decide +kernel⟩
theorem kdk(W:WB K mg d base):FnOk P w K mg base CX0 1 d.X8 d.X9 ["standing","pieces"] (kek d.qc):=by
 refine FunD.ok W.qO.F kfj (fun vs H Q E h=>?_) (fun cdv A outer s H vs Q E hr h=>?_)
 ·obtain⟨x,g,S,is,rfl,_⟩:=h
  rfl
 ·obtain⟨x,g,S,is,rfl,⟨o,p,mk,⟨dxs,fss,hx,l1,l2,l3,l4,l5⟩,ho,hp,hmk⟩,hg,hi,hl,k⟩:=h
  refine⟨_,kai (kao (kbv (N:=["piece","standing"]) (CompScope.of (N:=["piece","standing"]) (cap:=[none,some 0]) (kag kb7).names ["standing","pieces"] rfl rfl (by decide +kernel)) rfl (kaH (K:=K) (pv 1)) (fun _ _ _ _=>kap (i:=0) (show(["piece","standing"]:List Str).Nodup by decide +kernel) rfl (Or.inl rfl)) (fun _ _ _ _=>(pe_ix (r:=rIxL K) kaC (kam (K:=K) (pv 1) rfl) (pv 0) (fun _ _=>rfl))))),?_⟩
  refine⟨_,rfl,g,rfl,⟨_,SqL.of hg⟩,ka3 (xs:=is.map iV) (fun j σ ys H'=>H'=H∧ys=(qs S.pr (is.take j)).map V.int∧∃v,σ=[v,some (.ref x)]) ⟨rfl,rfl,none,rfl⟩ ?_ ?_ ?_ ?_⟩
  ·rw[Uu]
   exact UH (kar (by omega))
  ·rintro j σ ys H' hj ⟨rfl,rfl,_⟩
   exact⟨SqL.of hg,by rw[Uu,kbX,UL];rw[Uu] at hj;omega⟩
  ·rintro j y σ ys H' hy ⟨rfl,rfl,v,rfl⟩
   obtain⟨n,en,rfl⟩:∃n,is[j]?=some n∧y=iV n:=kbH hy
   obtain⟨z,ez⟩:=at_of (hi n (UE en))
   refine⟨_,rfl,x,d.qc,dxs,fss,_,rfl,hx,W.qc.cl,W.qD,l2,_,rfl,p,_,_,_,rfl,rfl,SqL.of hp,kaY (by rw[UF,ez];rfl),rfl,?_,_,rfl⟩
   rw[Jx,en]
   simp[qs,ez]
  ·rintro σ ys H' ⟨rfl,rfl,v,rfl⟩ D hD
   rw[Uu,UY]
   exact k D hD
inductive khO (CS:Addr) (vs:List V) (H:Hp) (Q:VK) (E_:XK):Prop
 |ct (x g:Addr) (S:Stnd) (is:List Nat) (_:vs=[.ref x, .ref g]) (_:StndIs CS H x S) (_:H g=some (.lst (is.map iV))) (_:(∀i∈is,i<S.pr.length)) (_:is.length≤720) (_:∀H',Same H H'→Q (.int (qs S.pr is).sum) H'):khO CS vs H Q E_
theorem kdt:kaq ["standing","pieces"] ["standing","pieces"] (kag kbL):=⟨rfl,rfl,rfl,by decide +kernel,rfl,by decide +kernel,by decide +kernel⟩
theorem kcd(W:WB K mg d base):FnOk P w K mg base CX0 2 d.Ya d.Yb ["standing","pieces"] (khO d.qc):=by
 refine FunD.ok W.qq.F kdt (fun vs H Q E h=>?_) (fun cdv A outer s H vs Q E hr h=>?_)
 ·obtain⟨x,g,S,is,rfl,_⟩:=h
  rfl
 ·obtain⟨x,g,S,is,rfl,hS,hg,hi,hl,k⟩:=h
  have Xp:=kdk (P:=P) (w:=w) (base:=base) W
  refine⟨_,kai (kao (kas (r:=rSum K) (kdI rfl) (by rfl) W.B.sum b_sum (kaa (kan Xp hr rfl W.qO.m W.qO.F.kp W.qO.b .nil pass0 (kaa (pv 0) (kaa (pv 1) kae))) kae))),?_⟩
  exact⟨_,rfl,_,rfl,x,g,S,is,rfl,hS,hg,hi,hl,fun p hp=>⟨p,_,rfl,SqL.of kac,k _ (kah hp)⟩⟩
theorem Xq:kaq ["voucher","parents","basket","standing","marks","pieces"] ["voucher","parents","basket","standing"] (kag kcG):=⟨rfl,rfl,rfl,by decide +kernel,rfl,by decide +kernel,by decide +kernel⟩
theorem kdl(W:WB K mg d base):FnOk P w K mg base CX0 4 d.XS d.XT ["voucher","parents","basket","standing"] (kj3 K d):=by
 refine FunD.ok W.qL.F Xq (fun vs H Q E h=>?_) (fun cdv A outer s H vs Q E hr h=>?_)
 ·obtain⟨v,a,b,x,V,ps,B,S,rfl,_⟩:=h
  rfl
 ·obtain⟨v,a,b,x,Vc,ps,B,S,rfl,hV,hA,hB,hS,wf,vo,k⟩:=h
  obtain⟨mA,dxv,fsv,hv,lvm,_,hM,hh,htb⟩:=id hV
  obtain⟨dxm,fsm,hm,m1,m2,m3,m4,m5,m6⟩:=id hM
  obtain⟨l,ls,⟨dxb,fsb,hb,lb1,lb2,lb3⟩,hl,hL⟩:=id hB
  have Xr:=kgR (P:=P) (w:=w) (base:=base) W
  have Qb:=kcd (P:=P) (w:=w) (base:=base) W
  have hr2:Room 2 _:=hr.mono (by decide)
  refine⟨_,kad (kav (i:=4) Xq.nd rfl (Or.inl rfl) (kam (K:=K) (pv 0) rfl))
   (kad (kfn (ps_if (PW.pt (kbP (ka5 (kam (K:=K) (pv 4) rfl)) (kbD (kgK (ka5 (kam (K:=K) (pv 2) rfl)))))) (kai (kao kaP)) (kau)))
   (kad (kav (i:=5) Xq.nd rfl (Or.inl rfl) (kan Xr hr rfl W.qK.m W.qK.F.kp W.qK.b .nil pass0 (kaa (pv 0) (kaa (pv 1) (kaa (pv 2) (kaa (pv 3) kae))))))
   (kad (ps_if (kat op_eq (kas (r:=ka4 K) kaA (by rfl) W.B.len b_len (kaa (pv 5) kae)) kaf (kax _)) (kai (kao kaP)) (kau))
   (kad (ps_if (kat op_lt (kan Qb hr2 rfl W.qq.m W.qq.F.kp W.qq.b .nil pass0 (kaa (pv 3) (kaa (pv 5) kae))) (kam (K:=K) (pv 4) rfl) (kax _)) (kai (kao kaP)) (kau))
   (kai (kao kaV)))))),?_⟩
  have np:=wf.np
  have habl:∀i∈abt ps (kds B) Vc.ms.kind Vc.ms.lone S,i<S.pr.length:=fun i hi=>by rw[wf.lp];exact kg8 hi
  have lab:(abt ps (kds B) Vc.ms.kind Vc.ms.lone S).length≤720:=Uy (keb _ _ _ _ _) np
  refine⟨_,rfl,v,clsOf d Vc.so,dxv,fsv,_,rfl,hv,cl_of W hh,na_of W hh,lvm,?_⟩
  refine⟨fun σ' H'=>σ'=[some (.ref v),some (.ref a),some (.ref b),some (.ref x),some (.ref mA),none]∧H'=H∧(Vc.ms.member&& !B.m)=false,⟨_,rfl,mA,d.qe,dxm,fsm,_,rfl,hm,W.qe.cl,W.Zh,m4,Vc.ms.member,rfl,?_⟩,?_⟩
  ·cases e:Vc.ms.member with
   |false=>exact iteF (iteF ⟨rfl,rfl,rfl⟩)
   | true=>
    refine iteT ⟨_,rfl,b,d.qg,dxb,fsb,_,rfl,hb,W.qg.cl,W.Xi,lb3,B.m,rfl,?_⟩
    cases e2:B.m with
    |true=>exact iteF ⟨rfl,rfl,rfl⟩
    |false=>
     refine iteT ?_
     have z:=k H (Same.refl _)
     unfold hindM at z
     rw[e,e2,if_pos (by decide)] at z
     exact z
  ·rintro σ' H' ⟨rfl,rfl,hh2⟩
   refine⟨_,rfl,_,rfl,_,rfl,_,rfl,v,a,b,x,Vc,ps,B,S,rfl,hV,hA,hB,hS,wf,vo,fun H1 pa s1 f1 h1=>?_⟩
   refine⟨_,rfl,pa,_,rfl, .inl (SqL.of h1),rfl,_,rfl,?_⟩
   have ed:decide (V.int (((abt ps (kds B) Vc.ms.kind Vc.ms.lone S).map iV).length:Nat)=V.int 0)=decide ((abt ps (kds B) Vc.ms.kind Vc.ms.lone S).length=0):=by
    rw[Uu]
    by_cases h0:(abt ps (kds B) Vc.ms.kind Vc.ms.lone S).length=0
    ·rw[h0]
     rfl
    ·rw[decide_eq_false h0]
     refine decide_eq_false fun z=>h0 ?_
     injection z with z
     omega
   show if decide (V.int (((abt ps (kds B) Vc.ms.kind Vc.ms.lone S).map iV).length:Nat)=V.int 0)=true then _ else _
   rw[ed]
   by_cases h0:(abt ps (kds B) Vc.ms.kind Vc.ms.lone S).length=0
   ·rw[decide_eq_true h0]
    refine iteT ?_
    have z:=k H1 s1
    unfold hindM at z
    rw[hh2,if_neg (by decide),if_pos h0] at z
    exact z
   ·rw[decide_eq_false h0]
    refine iteF ⟨_,rfl,_,rfl,x,pa,S,_,rfl,hS.same s1,h1,habl,lab,fun H2 s2=>?_⟩
    have z:=k H2 (s1.trans s2)
    unfold hindM at z
    rw[hh2,if_neg (by decide),if_neg h0] at z
    refine⟨_,rfl,mA,d.qe,dxm,fsm,_,rfl,(s1.trans s2) _ _ hm,W.qe.cl,W.Zg,m2,_,_,rfl,rfl,_,rfl,?_⟩
    by_cases h2:(qs S.pr (abt ps (kds B) Vc.ms.kind Vc.ms.lone S)).sum<Vc.ms.needs
    ·rw[if_pos h2] at z
     rw[decide_eq_true h2]
     exact iteT z
    ·rw[if_neg h2] at z
     rw[decide_eq_false h2]
     exact iteF z
inductive kgC (vs:List V) (H:Hp) (Q:VK) (E_:XK):Prop
 |ct (m:Option Int) (n:Int) (_:vs=[oV m, .int n]) (_:Q (.int (atM m n)) H):kgC vs H Q E_
theorem khc:kaq ["most","number"] ["most","number"] (kag kdM):=⟨rfl,rfl,rfl,by decide +kernel,rfl,by decide +kernel,by decide +kernel⟩
theorem khi(W:WB K mg d base):FnOk P w K mg base CX0 1 d.Yc d.Yd ["most","number"] kgC:=by
 refine FunD.ok W.Qo.F khc (fun vs H Q E h=>?_) (fun cdv A outer s H vs Q E hr h=>?_)
 ·obtain⟨m,n,rfl,_⟩:=h
  rfl
 ·obtain⟨m,n,rfl,k⟩:=h
  refine⟨_,kad (ps_if (kat keo (pv 0) kaV (kax _)) (kai (kao (pv 1))) (kau))
   (kai (kao (kas (kfM rfl) (by rfl) W.B.min b_min (kaa (pv 0) (kaa (pv 1) kae))))),?_⟩
  cases m with
  |none=>
   refine⟨_,rfl,rfl,_,rfl,?_⟩
   show if decide (V.non=V.non)=true then _ else _
   rw[show decide (V.non=V.non)=true by simp]
   exact iteT ⟨_,rfl,k⟩
  | some z=>
   refine⟨_,rfl,rfl,_,rfl,?_⟩
   show if decide (V.int z=V.non)=true then _ else _
   rw[show decide (V.int z=V.non)=false by simp]
   refine iteF ⟨_,rfl,_,rfl,_,_,rfl,?_⟩
   have e:atM (some z) n=if n<z then n else z:=by
    show min z n=_
    split <;> omega
   rw[e] at k
   exact k
inductive kfe (d:D) (vs:List V) (H:Hp) (Q:VK) (E_:XK):Prop
 |ct (v x:Addr) (V:Vch) (S:Stnd) (_:vs=[.ref v, .ref x]) (_:VchIs d H v V) (_:StndIs d.qc H x S) (_:Q (.int (if kby V.so=true then atM V.ms.most S.cg else 0)) H):kfe d vs H Q E_
theorem kcN:kaq ["voucher","standing"] ["voucher","standing"] (kag kbt):=⟨rfl,rfl,rfl,by decide +kernel,rfl,by decide +kernel,by decide +kernel⟩
theorem kcS(W:WB K mg d base):FnOk P w K mg base CX0 2 d.XZ d.X0 ["voucher","standing"] (kfe d):=by
 refine FunD.ok W.Qk.F kcN (fun vs H Q E h=>?_) (fun cdv A outer s H vs Q E hr h=>?_)
 ·obtain⟨v,x,V,S,rfl,_⟩:=h
  rfl
 ·obtain⟨v,x,Vc,S,rfl,⟨mA,dxv,fsv,hv,lvm,_,⟨dxm,fsm,hm,m1,m2,m3,m4,m5,m6⟩,hh,htb⟩,⟨o,p,mk,⟨dxs,fss,hx,l1,l2,l3,l4,l5⟩,ho,hp,hmk⟩,k⟩:=h
  have Vf:=khi (P:=P) (w:=w) (base:=base) W
  refine⟨_,kad (ps_if (ka5 (kas (r:=rIsi K) kaK (by rfl) W.B.isi b_isi (kaa (pv 0) (kaa (kc8 (v:=.ref d.ql) (by rfl) W.ZG rfl) kae)))) (kai (kao (kan Vf hr rfl W.Qo.m W.Qo.F.kp W.Qo.b .nil pass0 (kaa (kam (K:=K) (kam (K:=K) (pv 0) rfl) rfl) (kaa (kam (K:=K) (pv 1) rfl) kae))))) (kau))
   (kai (kao kaf)),?_⟩
  have I:=kkm W hh
  refine⟨_,rfl,_,_,_,_,rfl, .inr ⟨_,rfl⟩,TyOf.ins hv (cl_of W hh) I.ha I.hn I.ht I.hm,kfB W hh,_,rfl,?_⟩
  cases e:kby Vc.so with
  |false=>
   rw[e,if_neg UA] at k
   exact iteF k
  |true=>
   rw[e,if_pos rfl] at k
   exact iteT ⟨_,rfl,v,clsOf d Vc.so,dxv,fsv,_,rfl,hv,cl_of W hh,na_of W hh,lvm,mA,d.qe,dxm,fsm,_,rfl,hm,W.qe.cl,W.Q4,m3,_,rfl,x,d.qc,dxs,fss,_,rfl,hx,W.qc.cl,W.QH,l3,_,_,rfl,k⟩
noncomputable def kvOf(G:List (Nat×List Nat))(gl:List Addr):List (Key×V):=Jc (fun p r=>(Sum.inl (p.1:Int),V.ref r)) G gl
theorem kgZ:∀{G:List (Nat×List Nat)} {gl:List Addr},gl.length=G.length→(kvOf G gl).map Prod.snd=gl.map V.ref
 |[],[],_=>rfl
 |[],r::gl,h=>by cases h
 |p::G,[],h=>by cases h
 |p::G,r::gl,h=>by
  have ih:=kgZ (G:=G) (gl:=gl) (by simpa using h)
  show V.ref r::(kvOf G gl).map Prod.snd=V.ref r::gl.map V.ref
  rw[ih]
theorem kgk:∀{G:List (Nat×List Nat)} {gl:List Addr} (o a:Nat),gl.length=G.length→
  (atK (kvOf G gl) (Sum.inl (o:Int))=none∧ins G o a=G++[(o,[a])])∨∃(j:Nat) (g:List Nat) (r:Addr),G[j]?=some (o,g)∧gl[j]?=some r∧atK (kvOf G gl) (Sum.inl (o:Int))=some (.ref r)∧ins G o a=G.set j (o,g++[a])
 |[],gl,o,a,h=>.inl ⟨rfl,rfl⟩
 |(l,g)::G,[],o,a,h=>by cases h
 | (l,g)::G,r::gl,o,a,h=>by
  have hl:gl.length=G.length:=by simpa using h
  unfold ins
  by_cases e:l=o
  ·subst e
   exact .inr ⟨0,g,r,rfl,rfl,by simp[kvOf,atK],by rw[if_pos rfl];rfl⟩
  ·rw[if_neg e]
   have e':¬((l:Int)=(o:Int)):=fun z=>e (by omega)
   have ea:atK (kvOf ((l,g)::G) (r::gl)) (Sum.inl (o:Int))=atK (kvOf G gl) (Sum.inl (o:Int)):=by
    simp[kvOf,atK,J0,e']
   rcases kgk o a hl with⟨h1,h2⟩|⟨j,g',r',h1,h2,h3,h4⟩
   ·exact .inl ⟨by rw[ea];exact h1,by rw[h2];rfl⟩
   ·exact .inr ⟨j+1,g',r',by simpa using h1,by simpa using h2,by rw[ea];exact h3,by rw[h4];rfl⟩
theorem kjB{G:List (Nat×List Nat)}{gl:List Addr}{j o:Nat}{g g':List Nat}(h:G[j]?=some (o,g)):kvOf (G.set j (o,g')) gl=kvOf G gl:=by
 unfold kvOf
 apply List.ext_getElem?
 intro i
 rw[NC,NC]
 by_cases e:j=i
 ·subst e
  have hj:=at_lt h
  rw[Na hj,h]
  cases gl[j]? <;> rfl
 ·rw[Nb e]
theorem kiu{G:List (Nat×List Nat)}{gl:List Addr}{o:Nat}{g:List Nat}{e:Addr}(h:gl.length=G.length):kvOf (G++[(o,g)]) (gl++[e])=kvOf G gl++[(Sum.inl (o:Int), .ref e)]:=by
 unfold kvOf
 rw[List.zipWith_append h.symm]
 rfl
structure Ptd (H H':Hp) (dd:Addr) (gl:List Addr) (G:List (Nat×List Nat)):Prop where
 sm:Same H H'
 nd:gl.Nodup
 fg:∀r∈gl,H r=none∧r≠dd
 dk:H' dd=some (.dK (kvOf G gl))
 ls:P2 (fun r p=>H' r=some (.lst (p.2.map iV))) gl G
theorem Ptd.more{H H':Hp}{dd e:Addr}{gl:List Addr}{G:List (Nat×List Nat)}(h:Ptd H H' dd gl G)(fd:H dd=none)(he:H' e=none){o a:Nat}:
  Ptd H (upd (upd (upd H' e (.lst [])) dd (.dK (kvOf G gl++[(Sum.inl (o:Int), .ref e)]))) e (.lst [iV a])) dd (gl++[e]) (G++[(o,[a])]):=by
 have e0:H e=none:=none_of h.sm he
 have ned:e≠dd:=fun z=>by rw[z,h.dk] at he;cases he
 refine⟨kaw e0 (kaw fd (h.sm.trans (kah he)) (kcD (nx h.dk)))  (kcD (nx kac)),?_,fun r hr=>?_,?_,?_⟩
 ·refine N4.mpr ⟨h.nd,by simp,fun x hx y hy z=>?_⟩
  rw[Jy] at hy
  subst hy z
  obtain⟨i,hi⟩:=JO.mp hx
  obtain⟨p,_,hp⟩:=h.ls.at hi
  rw[hp] at he
  cases he
 ·rcases Jd.mp hr with hr|hr
  ·exact h.fg r hr
  ·rw[Jy] at hr
   subst hr
   exact⟨e0,ned⟩
 ·rw[kak ned.symm,kac,kiu h.ls.len]
 ·refine P2.snoc (P2.of h.ls.len fun i r p e1 e2=>?_) kac
  have hp:=h.ls.get e1 e2
  rw[kak (kaj hp he),kak (h.fg r (UE e1)).2,kak (kaj hp he)]
  exact hp
theorem Ptd.put{H H':Hp}{dd e r:Addr}{gl:List Addr}{G:List (Nat×List Nat)}(h:Ptd H H' dd gl G)(he:H' e=none){j o a:Nat}{g:List Nat}(h1:G[j]?=some (o,g))(h2:gl[j]?=some r):
  Ptd H (upd (upd H' e (.lst [])) r (.lst (g.map iV++[iV a]))) dd gl (G.set j (o,g++[a])):=by
 have hr:=h.fg r (UE h2)
 have hrv:=h.ls.get h2 h1
 refine⟨kaw hr.1 (h.sm.trans (kah he)),h.nd,h.fg,?_,P2.of (by rw[NT];exact h.ls.len) fun i r' p e1 e2=>?_⟩
 ·rw[kak hr.2.symm,kak (kaj h.dk he),h.dk,kjB h1]
 ·by_cases eji:j=i
  ·subst eji
   rw[h2] at e1
   cases e1
   rw[Na (at_lt h1)] at e2
   cases e2
   rw[kac,UD]
   rfl
  ·rw[Nb eji] at e2
   have hp:=h.ls.get e1 e2
   have hne:r'≠r:=fun z=>by
    subst z
    exact eji ((List.getElem?_inj (at_lt h2) h.nd).mp (h2.trans e1.symm))
   rw[kak hne,kak (kaj hp he)]
   exact hp
inductive kgz (CS:Addr) (vs:List V) (H:Hp) (Q:VK) (E_:XK):Prop
 |ct (x pa:Addr) (S:Stnd) (is:List Nat) (_:vs=[.ref x, .ref pa]) (_:StndIs CS H x S) (_:H pa=some (.lst (is.map iV))) (_:(∀i∈is,i<S.ow.length)) (_:is.length≤720) (_:∀(H':Hp) (p:Addr) (gl:List Addr),Same H H'→H p=none→H' p=some (.lst (gl.map V.ref))→P2 (fun r g=>H' r=some (.lst (g.map iV))) gl ((parted (fun i=>S.ow.getD i 0) is).map Prod.snd)→(∀r∈gl,H r=none)→Q (.ref p) H'):kgz CS vs H Q E_
theorem P2.mapR{α β γ:Type}{R: α→γ→Prop}{f: β→γ}{as:List α}{bs:List β}(h:P2 (fun a b=>R a (f b)) as bs):P2 R as (bs.map f):=by
 induction h with
 |nil=>exact .nil
 |cons r t ih=>exact .cons r ih
theorem Xs:kaq ["standing","pieces","by_line","piece"] ["standing","pieces"] (kag kbA):=⟨rfl,rfl,rfl,by decide +kernel,rfl,by decide +kernel,by decide +kernel⟩
theorem kdb(W:WB K mg d base):FnOk P w K mg base CX0 1 d.X3 d.X4 ["standing","pieces"] (kgz d.qc):=by
 refine FunD.ok W.Qm.F Xs (fun vs H Q E h=>?_) (fun cdv A outer s H vs Q E hr h=>?_)
 ·obtain⟨x,pa,S,is,rfl,_⟩:=h
  rfl
 ·obtain⟨x,pa,S,is,rfl,⟨o,p,mk,⟨dxs,fss,hx,l1,l2,l3,l4,l5⟩,ho,hp,hmk⟩,hpa,hi,hl,k⟩:=h
  refine⟨_,kad (kav (i:=2) Xs.nd rfl (Or.inl rfl) kjm)
   (kad (kbk PassesOwn.never rfl (kaH (K:=K) (pv 1)) (kap (i:=3) Xs.nd rfl (Or.inl rfl))
   (kai (ka8 (pe_bm Jk Js Jt kbf (pe_bm Mi Mh PySem.F.type_dict_setdefault keX (pv 2) (kaa (pe_ix (r:=rIxL K) kaC (kam (K:=K) (pv 0) rfl) (pv 3) (fun _ _=>rfl)) (kaa (kaI kae) kae))) (kaa (pv 3) kae)))))
   (kai (kao (kgb rfl (by rfl) W.B.list (pv 2))))),?_⟩
  refine fun dd hd=>?_
  have s1:=kah (o:=.dK []) hd
  refine⟨_,rfl,pa,rfl,⟨_,SqL.of (s1 _ _ hpa)⟩,kbq (K:=K) (a:=pa) (xs:=is.map iV) (fun i σ H'=>(∃v3:Option V,σ=[some (.ref x),some (.ref pa),some (.ref dd),v3])∧∃gl,Ptd H H' dd gl (parted (fun i=>S.ow.getD i 0) (is.take i)))
   ⟨⟨none,rfl⟩,[],s1,by simp,fun r hr=>by simp at hr,kac, .nil⟩ (fun i σ H' _ h=>SqL.of (h.2.choose_spec.sm _ _ hpa)) ?_ ?_⟩
  ·rintro i y σ H1 hy ⟨⟨v3,rfl⟩,gl,Z⟩
   obtain⟨a,ea,rfl⟩:=kbH hy
   have hil:=at_lt ea
   obtain⟨ln,eln⟩:=at_of (hi a (UE ea))
   have eg:S.ow.getD a 0=ln:=by rw[UP,eln];rfl
   have enext:parted (fun i=>S.ow.getD i 0) (is.take (i+1))=ins (parted (fun i=>S.ow.getD i 0) (is.take i)) ln a:=by
    rw[kbY ea,kdS,eg]
   have lenG:=ken (fun i=>S.ow.getD i 0) (is.take i)
   rw[UL] at lenG
   have lenK:(kvOf (parted (fun i=>S.ow.getD i 0) (is.take i)) gl).length<sizeLine:=by
    refine kar ?_
    unfold kvOf
    rw[NB]
    omega
   refine⟨_,rfl, .inr (.inr (.inl ⟨rfl, .inl ⟨_,Z.dk⟩⟩)),_,rfl,x,d.qc,dxs,fss,_,rfl,Z.sm _ _ hx,W.qc.cl,W.qP,l1,_,rfl,o,_,_,_,rfl,rfl,SqL.of (Z.sm _ _ ho),kaY (v:=.int (ln:Nat)) (by rw[UF,eln];rfl),by decide,fun e he=>?_⟩
   have ned:dd≠e:=kaj Z.dk he
   refine⟨dd,kvOf (parted (fun i=>S.ow.getD i 0) (is.take i)) gl,(ln:Nat), .ref e,rfl,rfl,by rw[kak ned];exact Z.dk,lenK,fun v hv=>?_,fun hn=>?_⟩
   ·rcases kgk (G:=parted (fun i=>S.ow.getD i 0) (is.take i)) ln a Z.ls.len with⟨h1,_⟩|⟨j,g,r,h1,h2,h3,h4⟩
    ·rw[h1] at hv
     cases hv
    ·rw[h3] at hv
     cases hv
     have hrv:=Z.ls.get h2 h1
     have gl20:g.length≤720:=by
      have eg':=(kcq (fun i=>S.ow.getD i 0) (is.take i)).gs ln g (UE h1)
      rw[eg']
      refine Uy (JU _ _) ?_
      rw[UL]
      omega
     have hr2:(upd H1 e (.lst [])) r=some (.lst (g.map iV)):=by rw[kak (kaj hrv he)];exact hrv
     refine⟨.inl ⟨rfl,_,SqL.of hr2⟩,_,rfl,r,_,_,rfl,rfl,hr2,kar (by rw[Uu];omega),⟨_,rfl⟩,gl,?_⟩
     rw[enext,h4]
     exact Z.put he h1 h2
   ·rcases kgk (G:=parted (fun i=>S.ow.getD i 0) (is.take i)) ln a Z.ls.len with⟨_,h4⟩|⟨j,g,r,h1,h2,h3,h4⟩
    ·have he2:(upd (upd H1 e (.lst [])) dd (.dK (kvOf (parted (fun i=>S.ow.getD i 0) (is.take i)) gl++[(Sum.inl ((ln:Nat):Int), .ref e)]))) e=some (.lst []):=by rw[kak ned.symm,kac]
     refine⟨.inl ⟨rfl,_,SqL.of he2⟩,_,rfl,e,[],_,rfl,rfl,he2,by decide,⟨_,rfl⟩,gl++[e],?_⟩
     rw[enext,h4]
     exact Z.more hd he
    ·rw[h3] at hn
     cases hn
  ·rintro σ H1 ⟨⟨v3,rfl⟩,gl,Z⟩
   rw[Uu,UY] at Z
   refine⟨_,rfl,dd,_,rfl,Z.dk,fun l hl2=>?_⟩
   rw[kgZ Z.ls.len]
   refine k _ l gl (Z.sm.trans (kah hl2)) (none_of Z.sm hl2) kac (P2.mapR (f:=Prod.snd) (R:=fun r g=>(upd H1 l (.lst (gl.map V.ref))) r=some (.lst (g.map iV))) (Z.ls.mono fun r p h=>kah hl2 _ _ h)) fun r hr=>(Z.fg r hr).1
inductive kfd (d:D) (vs:List V) (H:Hp) (Q:VK) (E_:XK):Prop
 |ct (x pa:Addr) (S:Stnd) (is:List Nat) (m:Nat) (_:vs=[.ref x, .ref pa, .int m]) (_:StndIs d.qc H x S) (_:H pa=some (.lst (is.map iV))) (_:is.Pairwise (· < ·)) (_:(∀i∈is,i<S.pr.length)) (_:is.length<64) (_:2≤m) (_:m≤20) (_:Tbs d H) (_:∀(H':Hp) (p:Addr) (gl:List Addr),Same H H'→H p=none→H' p=some (.lst (gl.map V.ref))→P2 (fun r g=>H' r=some (.lst (g.map iV))) gl (grp m (fallP S.pr is))→(∀r∈gl,H r=none)→Q (.ref p) H'):kfd d vs H Q E_
theorem kkX{pr:List Int}{is:List Nat}{ms:List Int}(hs:is.Pairwise (· < ·))(hp:ms.Perm (is.map fun(i:Nat)=>(i:Int)))(hk:ms.Pairwise fun a b=> -(pr.getD a.toNat 0)< -(pr.getD b.toNat 0)∨(-(pr.getD a.toNat 0)= -(pr.getD b.toNat 0)∧a<b)):ms.map V.int=(fallP pr is).map iV:=by
 have e:ms=(ms.map Int.toNat).map fun(i:Nat)=>(i:Int):=by
  rw[UU]
  conv=>lhs;rw[←List.map_id ms]
  refine Jj fun z hz=>?_
  obtain⟨i,_,rfl⟩:=UR.mp (hp.mem_iff.mp hz)
  simp
 have hp2:(ms.map Int.toNat).Perm is:=by
  have:=hp.map Int.toNat
  rw[UU] at this
  have e2:is.map (Int.toNat∘fun(i:Nat)=>(i:Int))=is:=by
   conv=>rhs;rw[←List.map_id is]
   exact Jj fun i _=>rfl
  rwa [e2] at this
 have hk2:(ms.map Int.toNat).Pairwise (befP pr):=by
  rw[N5]
  refine hk.imp_of_mem fun {a b} ha hb h=>?_
  obtain⟨i,_,rfl⟩:=UR.mp (hp.mem_iff.mp ha)
  obtain⟨j,_,rfl⟩:=UR.mp (hp.mem_iff.mp hb)
  unfold befP
  simp only[Int.toNat_natCast] at h⊢
  omega
 rw[e,khq hs hp2 hk2,UU]
 rfl
theorem Zv:kaq ["standing","pieces","many","falling"] ["standing","pieces","many"] (kag kaF):=⟨rfl,rfl,rfl,by decide +kernel,rfl,by decide +kernel,by decide +kernel⟩
theorem kdc(W:WB K mg d base):FnOk P w K mg base CX0 1 d.X5 d.QV ["standing","pieces","many"] (kfd d):=by
 refine FunD.okC W.qN.F Zv (fun vs H Q E h=>?_) (fun A outer s H vs Q E hr h=>?_)
 ·obtain⟨x,pa,S,is,m,rfl,_⟩:=h
  rfl
 ·obtain⟨x,pa,S,is,m,rfl,hS,hpa,hs,hi,h64,hm2,hm20,htb,k⟩:=h
  obtain⟨o,p,mk,⟨dxs,fss,hx,l1,l2,l3,l4,l5⟩,ho,hp,hmk⟩:=id hS
  refine⟨_,kad (kav (i:=3) Zv.nd rfl (Or.inr rfl) (khf (N:=["piece","standing"]) (cap:=[some 0]) (pv 1) ⟨CompScope.of (N:=["piece","standing"]) (cap:=[none,some 0]) (kag kaF).names ["standing","pieces","many","falling"] rfl rfl (by decide +kernel),rfl,rfl,rfl,rfl,by decide +kernel⟩ rfl hr.depth W.code_falling_groups W.ck_falling_groups W.blt (by rfl) W.B.sorted (fun _ _ _ _ _=>rfl) (fun _ _ _ _ _=>(pe_un kjX (pe_ix (r:=rIxL K) kaC (kam (K:=K) (pv 1) rfl) (pv 0) (fun _ _=>rfl)))) (by rfl)))
   (kai (kao (kbv (N:=["start","falling","many"]) (CompScope.of (N:=["start","falling","many"]) (cap:=[none,some 3,some 2]) (kag kaF).names ["standing","pieces","many","falling"] rfl rfl (by decide +kernel)) rfl (khe rfl W.B.range (kaa kaf (kaa (pe_op kbr (pe_op kcQ (kas (r:=ka4 K) kaA (by rfl) W.B.len b_len (kaa (pv 3) kae)) (pv 2)) kaf) (kaa (pv 2) kae)))) (fun _ _ _ _=>kap (i:=0) (show(["start","falling","many"]:List Str).Nodup by decide +kernel) rfl (Or.inl rfl)) (fun _ _ _ _=>(kcz (r:=rSlL K) keD (pv 1) (kco (pv 0)) (kco (pe_op kbr (pv 0) (pv 2)))))))),?_⟩
  have htb':TbAt d.tP_falling_groups H:=htb
  obtain⟨qs0,eT,_⟩:=id htb'
  have npT:∀{b:Addr} {u:HO},H b=some u→(∀ps,u≠.tbl ps)→b≠d.tP_falling_groups:=fun {b u} e hn z=>by
   rw[z,eT] at e
   cases e
   exact hn _ rfl
  have ei:is.map iV=(is.map fun(i:Nat)=>(i:Int)).map V.int:=by rw[UU];rfl
  refine⟨_,rfl,pa,is.map fun(i:Nat)=>(i:Int),fun a=> -(S.pr.getD a.toNat 0),rfl,SqL.of (by rw[←ei];exact hpa),by rw[Uu];exact h64,?_,htb',npT hpa (fun ps z=>by cases z),fun H2 G n hn=>?_,fun H2 l ms G f1 f2 hpm hpw=>?_⟩
  ·rw[N5]
   exact hs.imp fun {a b} h=>by omega
  ·obtain⟨i,hin,rfl⟩:=UR.mp hn
   obtain⟨z,ez⟩:=at_of (hi i hin)
   have hx2:=G.kp _ _ (npT hx (fun ps z=>by cases z)) hx
   have hp2:=G.kp _ _ (npT hp (fun ps z=>by cases z)) hp
   refine⟨_,rfl,x,d.qc,dxs,fss,_,rfl,hx2,W.qc.cl,W.qD,l2,_,rfl,p,_,_,_,rfl,rfl,SqL.of hp2,kaY (v:=.int z) (by rw[UF,ez];rfl),_,rfl,?_,rfl⟩
   show V.int (-z)=V.int (-(S.pr.getD ((i:Int)).toNat 0))
   rw[Int.toNat_natCast,UP,ez]
   rfl
  have s2:=G.same htb'
  rw[kkX hs hpm hpw]
  have lf:(fallP S.pr is).length=is.length:=(kbw S.pr is).length_eq
  have s3:=s2.trans (kah (o:=.lst ((fallP S.pr is).map iV)) f2)
  have el:(upd H2 l (.lst ((fallP S.pr is).map iV))) l=some (.lst ((fallP S.pr is).map iV)):=kac
  generalize upd H2 l (.lst ((fallP S.pr is).map iV))=H3 at *
  have ecnt:(Builtin.Range.rangeSize 0 ((((fallP S.pr is).map iV).length:Int)-(m:Int)+1) (m:Int)).toNat=(fallP S.pr is).length/m:=by
   rw[Uu]
   exact kf1 (by omega)
  have lg:=kgm m (fallP S.pr is)
  refine⟨_,rfl,l,_,rfl, .inl (SqL.of el),_,rfl,_,_,rfl,rfl,_,_,rfl,rfl,_,rfl,0,_,_,rfl,by omega,?_,by omega,by omega,?_⟩
  ·rw[Uu]
   omega
  rw[ecnt]
  refine kiT (n:=(fallP S.pr is).length/m) (fun i σ ys H'=>Same H3 H'∧(∃v0:Option V,σ=[v0,some (.ref l),some (.int m)])∧∃gl,ys=gl.map V.ref∧P2 (fun r g=>H' r=some (.lst (g.map iV))) gl ((grp m (fallP S.pr is)).take i)∧∀r∈gl,H r=none)
   ⟨Same.refl _,⟨none,rfl⟩,[],rfl, .nil,fun r hr=>by simp at hr⟩ ?_ ?_ ?_ ?_
  ·have:(grp m (fallP S.pr is)).length=(fallP S.pr is).length/m:=by simp[grp]
   exact UH (kar (by omega))
  ·rintro i σ ys H' hi' ⟨_,_,gl,rfl,hP,_⟩
   rw[Uu,hP.len,UL]
   have:(grp m (fallP S.pr is)).length=(fallP S.pr is).length/m:=by simp[grp]
   omega
  ·rintro i σ ys H' hi' ⟨s4,⟨v0,rfl⟩,gl,rfl,hP,hfr⟩
   have eg:(grp m (fallP S.pr is))[i]?=some (((fallP S.pr is).drop (i*m)).take m):=by
    unfold grp
    rw[UF,ND hi']
    rfl
   have ecut:cutV ((fallP S.pr is).map iV) (some (0+(i:Int)*(m:Int))) (some (0+(i:Int)*(m:Int)+(m:Int)))=(((fallP S.pr is).drop (i*m)).take m).map iV:=by
    have:=kk3 ((fallP S.pr is).map iV) (i*m) m
    rw[show(0:Int)+(i:Int)*(m:Int)=((i*m:Nat):Int) by rw[Int.zero_add,Int.natCast_mul],show((i*m:Nat):Int)+(m:Int)=((i*m+m:Nat):Int) by rw[Int.natCast_add],this,JT,NV]
   refine⟨_,rfl,_,rfl,_,rfl,_,rfl,_,rfl,_,_,rfl,rfl,_,rfl,l,_,rfl,SqL.of (s4 _ _ el),fun r hr=>?_⟩
   refine⟨s4.trans (kah hr),⟨_,rfl⟩,gl++[r],by rw[UD];rfl,?_,fun r' hr'=>?_⟩
   ·rw[kbY eg,ecut]
    exact P2.snoc (hP.mono fun r' g e=>kah hr _ _ e) kac
   ·rcases Jd.mp hr' with h|h
    ·exact hfr r' h
    ·rw[Jy] at h
     rw[h]
     exact(s3.trans s4).free hr
  ·rintro σ ys H' ⟨s4,⟨v0,rfl⟩,gl,rfl,hP,hfr⟩ D hD
   have el2:(grp m (fallP S.pr is)).length=(fallP S.pr is).length/m:=by simp[grp]
   rw[JF (by omega)] at hP
   exact k _ D gl ((s3.trans s4).trans (kah hD)) ((s3.trans s4).free hD) kac (hP.mono fun r g e=>kah hD _ _ e) hfr
theorem QL:kaq ["voucher","standing","pieces","groups","lasts"] ["voucher","standing","pieces"] (kag kbb):=⟨rfl,rfl,rfl,by decide +kernel,rfl,by decide +kernel,by decide +kernel⟩
theorem kee(W:WB K mg d base):FnOk P w K mg base CX0 3 d.X1 d.X2 ["voucher","standing","pieces"] (kgx d):=by
 refine FunD.ok W.Ql.F QL (fun vs H Q E h=>?_) (fun cdv A outer s H vs Q E hr h=>?_)
 ·obtain⟨v,x,pa,V,ps,B,S,rfl,_⟩:=h
  rfl
 ·obtain⟨v,x,pa,⟨so,ms⟩,ps,B,S,rfl,⟨mA,dxv,fsv,hv,lvm,hso,hM,hh,htb⟩,hS,hpa,wf,vo,k⟩:=h
  have Qb:=kcd (P:=P) (w:=w) (base:=base) W
  have Vg:=kdb (P:=P) (w:=w) (base:=base) W
  have Zw:=kdc (P:=P) (w:=w) (base:=base) W
  have hr1:Room 1 _:=hr.mono (by decide)
  refine⟨_,kad (ps_if (ka5 (kas (r:=rIsi K) kaK (by rfl) W.B.isi b_isi (kaa (pv 0) (kaa (kc8 (v:=.ref d.c_Off) (by rfl) W.g_Off rfl) kae)))) (kai (kao (kaI (kaa (ka9 (kaa (kas (kfM rfl) (by rfl) W.B.min b_min (kaa (kam (K:=K) (pv 0) rfl) (kaa (kan Qb hr rfl W.qq.m W.qq.F.kp W.qq.b .nil pass0 (kaa (pv 1) (kaa (pv 2) kae))) kae))) (kaa (pv 2) kae))) kae)))) (kau))
   (kad (ps_if (ka5 (kas (r:=rIsi K) kaK (by rfl) W.B.isi b_isi (kaa (pv 0) (kaa (kc8 (v:=.ref d.qi) (by rfl) W.ZD rfl) kae)))) (kad (kav (i:=3) QL.nd rfl (Or.inl rfl) (kln (kgN (ka5 (kam (K:=K) (pv 0) rfl)) (kan Vg hr1 rfl W.Qm.m W.Qm.F.kp W.Qm.b .nil pass0 (kaa (pv 1) (kaa (pv 2) kae))) (kaI (kaa (pv 2) kae)))))
   (kai (kao (kbv (N:=["group","standing","voucher"]) (CompScope.of (N:=["group","standing","voucher"]) (cap:=[none,some 1,some 0]) (kag kbb).names ["voucher","standing","pieces","groups","lasts"] rfl rfl (by decide +kernel)) rfl (kaH (K:=K) (pv 3)) (fun _ _ _ _=>kap (i:=0) (show(["group","standing","voucher"]:List Str).Nodup by decide +kernel) rfl (Or.inl rfl)) (fun _ _ _ _=>(ka9 (kaa (pe_op kaG (pe_op kdU (kan Qb hr rfl W.qq.m W.qq.F.kp W.qq.b .nil pass0 (kaa (pv 1) (kaa (pv 0) kae))) (kam (K:=K) (pv 2) rfl)) kaf) (kaa (pv 0) kae)))))))) (kau))
   (kad (ps_if (ka5 (kas (r:=rIsi K) kaK (by rfl) W.B.isi b_isi (kaa (pv 0) (kaa (kc8 (v:=.ref d.qk) (by rfl) W.ZE rfl) kae)))) (kad (keL (N:=["group"]) (CompScope.plain rfl (by decide +kernel) (by decide +kernel) (by decide +kernel) (nd1 _)) rfl (kaH (K:=K) (kan Zw hr1 rfl W.qN.m W.qN.F.kp W.qN.b .nil pass0 (kaa (pv 1) (kaa (pv 2) (kaa (kam (K:=K) (pv 0) rfl) kae))))) (fun _ _ _ _=>kap (i:=0) (nd1 _) rfl (Or.inl rfl)) (fun _ _ _ _=>(pe_ix (r:=rIxL K) kaC (pv 0) (pe_un kjX kaf) (fun _ _=>rfl))) (kap (i:=4) QL.nd rfl (Or.inl rfl)))
   (kai (kao (kbv (N:=["last","standing"]) (CompScope.of (N:=["last","standing"]) (cap:=[none,some 1]) (kag kbb).names ["voucher","standing","pieces","groups","lasts"] rfl rfl (by decide +kernel)) rfl (kaH (K:=K) (pv 4)) (fun _ _ _ _=>kap (i:=0) (show(["last","standing"]:List Str).Nodup by decide +kernel) rfl (Or.inl rfl)) (fun _ _ _ _=>(ka9 (kaa (pe_ix (r:=rIxL K) kaC (kam (K:=K) (pv 1) rfl) (pv 0) (fun _ _=>rfl)) (kaa (kaI (kaa (pv 0) kae)) kae)))))))) (kau))
   (kad (ps_if (ka5 (kas (r:=rIsi K) kaK (by rfl) W.B.isi b_isi (kaa (pv 0) (kaa (kc8 (v:=.ref d.qj) (by rfl) W.ZF rfl) kae)))) (kad (kav (i:=3) QL.nd rfl (Or.inl rfl) (kan Zw hr1 rfl W.qN.m W.qN.F.kp W.qN.b .nil pass0 (kaa (pv 1) (kaa (pv 2) (kaa (kam (K:=K) (pv 0) rfl) kae)))))
   (kai (kao (kbv (N:=["group","standing","voucher"]) (CompScope.of (N:=["group","standing","voucher"]) (cap:=[none,some 1,some 0]) (kag kbb).names ["voucher","standing","pieces","groups","lasts"] rfl rfl (by decide +kernel)) rfl (kaH (K:=K) (pv 3)) (fun _ _ _ _=>kap (i:=0) (show(["group","standing","voucher"]:List Str).Nodup by decide +kernel) rfl (Or.inl rfl)) (fun _ _ _ _=>(ka9 (kaa (kas (kiY rfl) (by rfl) W.B.max b_max (kaa (pe_op kcQ (kan Qb hr rfl W.qq.m W.qq.F.kp W.qq.b .nil pass0 (kaa (pv 1) (kaa (pv 0) kae))) (kam (K:=K) (pv 2) rfl)) (kaa kaf kae))) (kaa (pv 0) kae)))))))) (kau))
   (kai (kao (kaI kae)))))),?_⟩
  have I:=kkm W hh
  try refine sN fun _ Y4=>?_
  refine⟨_,rfl,_,_,_,_,rfl, .inr ⟨_,rfl⟩,TyOf.ins hv (cl_of W hh) I.ha I.hn I.ht I.hm,kkV W hh,_,rfl,?_⟩
  have lp:=wf.lp
  have np:=wf.np
  have habl:∀i∈abt ps (kds B) ms.kind ms.lone S,i<S.pr.length:=fun i hi=>by rw[lp];exact kg8 hi
  have habo:∀i∈abt ps (kds B) ms.kind ms.lone S,i<S.ow.length:=fun i hi=>kg8 hi
  have hand:=kfU ps (kds B) ms.kind ms.lone S
  have lab:(abt ps (kds B) ms.kind ms.lone S).length≤720:=Uy (keb _ _ _ _ _) np
  cases so with
  | off am=>
   have qn:=kb6 (qs_nn wf.nn (abt ps (kds B) ms.kind ms.lone S))
   have ha:0≤am∧am≤1000000000000:=vo.so
   refine iteT ?_
   try apply Y4
   try refine sN fun _ Y6=>?_
   refine⟨_,rfl,v,d.c_Off,dxv,fsv,_,rfl,hv,W.c_Off.cl,W.Zi,hso,_,rfl,_,rfl,x,pa,S,_,rfl,hS,hpa,habl,lab,fun H1 s1=>?_⟩
   try first|apply Y6|apply Y4
   try refine sN fun _ Y6=>?_
   refine⟨_,_,rfl,_,rfl,(by show 2≤sizeLine;decide),fun t ht=>⟨(by show 1≤sizeLine;decide),fun l hl=>?_⟩⟩
   have emin:(if(qs S.pr (abt ps (kds B) ms.kind ms.lone S)).sum<am then(qs S.pr (abt ps (kds B) ms.kind ms.lone S)).sum else am)=min am (qs S.pr (abt ps (kds B) ms.kind ms.lone S)).sum:=by
    split <;> omega
   rw[emin] at hl⊢
   have s2:=s1.trans (kah (o:=.tup [.int (min am (qs S.pr (abt ps (kds B) ms.kind ms.lone S)).sum), .ref pa]) ht)
   have s3:=s2.trans (kah (o:=.lst [.ref t]) hl)
   try first|apply Y6|apply Y4
   refine k _ l [t] [(min am (qs S.pr (abt ps (kds B) ms.kind ms.lone S)).sum,abt ps (kds B) ms.kind ms.lone S)] s3 (none_of s2 hl) kac (.cons ⟨pa,kah hl _ _ kac,s3 _ _ hpa, .inl rfl⟩ .nil) ?_ ?_ ?_ (by simp) ?_
   ·intro c g hc
    rw[Jy] at hc
    cases hc
    try first|apply Y6|apply Y4
    exact⟨by omega,by omega,lab⟩
   ·simpa using hand
   ·simpa using habl
   ·simp[want]
  | share sh bl=>
   have hsh:1≤sh∧sh≤1000:=vo.so
   refine iteF ?_
   try apply Y4
   try refine sN fun _ Y6=>?_
   refine⟨_,rfl,_,_,_,_,rfl, .inr ⟨_,rfl⟩,TyOf.ins hv (cl_of W hh) I.ha I.hn I.ht I.hm,kcY W hh,_,rfl,iteT ?_⟩
   try first|apply Y6|apply Y4
   try refine sN fun _ Y6=>?_
   refine⟨fun gv H1=>∃(gp:Addr) (gl:List Addr) (gs:List (List Nat)),gv=.ref gp∧Same H H1∧H gp=none∧H1 gp=some (.lst (gl.map V.ref))∧P2 (fun r g=>H1 r=some (.lst (g.map iV))) gl gs∧(∀r∈gl,r=pa∨H r=none)∧gs.length≤720∧(∀g∈gs,g.length≤720)∧gs.flatten.Nodup∧(∀i∈gs.flatten,i<S.pr.length)∧
    spr S.pr.length gs.flatten (gs.map fun g=>dl ((qs S.pr g).sum*sh/1000) (qs S.pr g)).flatten=spr S.pr.length (abt ps (kds B) ms.kind ms.lone S) (want (.share sh bl) S.mkd.length ((abt ps (kds B) ms.kind ms.lone S).map fun i=>S.ow.getD i 0) (qs S.pr (abt ps (kds B) ms.kind ms.lone S))),?_,?_⟩
   ·refine⟨_,rfl,v,d.qi,dxv,fsv,_,rfl,hv,W.qi.cl,W.Zl,hso.2,bl,rfl,?_⟩
    cases bl with
    | true=>
     refine iteT ?_
     try first|apply Y6|apply Y4
     try refine sN fun _ Y10=>?_
     refine⟨_,rfl,_,rfl,x,pa,S,_,rfl,hS,hpa,habo,lab,fun H1 p gl s1 f1 h1 hP hg=>⟨p,gl,_,rfl,s1,f1,h1,hP,fun r hr=>.inr (hg r hr),?_,?_,?_,?_,?_⟩⟩
     ·rw[Uu]
      try first|apply Y10|apply Y6|apply Y4
      exact Uy (ken _ _) lab
     ·intro g hg'
      rw[(kcq (fun i=>S.ow.getD i 0) (abt ps (kds B) ms.kind ms.lone S)).snds] at hg'
      obtain⟨l,_,rfl⟩:=UR.mp hg'
      try first|apply Y10|apply Y6|apply Y4
      exact Uy (JU _ _) lab
     ·have ok:=kcq (fun i=>S.ow.getD i 0) (abt ps (kds B) ms.kind ms.lone S)
      rw[ok.snds]
      try first|apply Y10|apply Y6|apply Y4
      exact kdR (f:=fun i=>S.ow.getD i 0) hand ok.nd
     ·intro i hi
      rw[(kcq (fun i=>S.ow.getD i 0) (abt ps (kds B) ms.kind ms.lone S)).snds] at hi
      obtain⟨g,hg',hi'⟩:=JA.mp hi
      obtain⟨l,_,rfl⟩:=UR.mp hg'
      try first|apply Y10|apply Y6|apply Y4
      exact habl i (Jm.mp hi').1
     ·refine khh (fun z=>z*sh/1000) hand fun i hi=>?_
      obtain⟨ln,eln⟩:=at_of (habo i hi)
      rw[UP,eln,wf.lm]
      try first|apply Y10|apply Y6|apply Y4
      exact wf.line eln
    |false=>
     refine iteF ?_
     try first|apply Y6|apply Y4
     try refine sN fun _ Y10=>?_
     refine⟨_,rfl,(by show 1≤sizeLine;decide),fun p hp=>⟨p,[pa],[abt ps (kds B) ms.kind ms.lone S],rfl,kah hp,hp,kac, .cons (kah hp _ _ hpa) .nil,fun r hr=>.inl (by simpa using hr),by simp,fun g hg=>?_,by simpa using hand,by simpa using habl,by simp[want]⟩⟩
     rw[Jy] at hg
     rw[hg]
     try first|apply Y10|apply Y6|apply Y4
     exact lab
   rintro gv H1 ⟨gp,gl,gs,rfl,s1,f1,h1,hP,hor,lgs,lg,gnd,glt,gsp⟩
   have lgl:=hP.len
   have gok:∀g∈gs,∀i∈g,i<S.pr.length:=fun g hg i hi=>glt i (JA.mpr ⟨g,hg,hi⟩)
   try first|apply Y6|apply Y4
   try refine sN fun _ Y6=>?_
   refine⟨_,rfl,gp,rfl,⟨_,SqL.of h1⟩,ka3 (xs:=gl.map V.ref) (fun i σ ys H'=>Same H1 H'∧(∃v0:Option V,σ=[v0,some (.ref x),some (.ref v)])∧∃tl,ys=tl.map V.ref∧P2 (GrpAt H H' pa) tl ((gs.take i).map fun g=>((qs S.pr g).sum*sh/1000,g)))
    ⟨Same.refl _,⟨none,rfl⟩,[],rfl, .nil⟩ (by rw[Uu];exact UH (kar (by omega))) ?_ ?_ ?_⟩
   ·rintro i σ ys H2 hi ⟨s2,_,tl,rfl,hT⟩
    try first|apply Y6|apply Y4
    try refine sN fun _ Y8=>?_
    refine⟨SqL.of (s2 _ _ h1),?_⟩
    rw[Uu,hT.len,Uu,UL]
    rw[Uu] at hi
    omega
   ·rintro i y σ ys H2 hy ⟨s2,⟨v0,rfl⟩,tl,rfl,hT⟩
    obtain⟨r,er,rfl⟩:=kbG hy
    obtain⟨g,eg,hr⟩:=hP.at er
    have s12:=s1.trans s2
    have hg:=UE eg
    have sn:=kb6 (qs_nn wf.nn g)
    have sl:=kh7 wf (lg g hg) (gok g hg)
    try first|apply Y8|apply Y6|apply Y4
    try refine sN fun _ Y8=>?_
    refine⟨_,rfl,_,rfl,x,r,S,g,rfl,hS.same s12,s2 _ _ hr,gok g hg,lg g hg,fun H3 s3=>?_⟩
    have s13:=s12.trans s3
    try first|apply Y8|apply Y6|apply Y4
    try refine sN fun _ Y8=>?_
    refine⟨_,rfl,v,d.qi,dxv,fsv,_,rfl,s13 _ _ hv,W.qi.cl,W.Zk,hso.1,_,_,rfl,rfl, .inl ⟨by omega,by omega⟩,_,_,rfl,rfl,⟨by decide,by decide⟩,_,rfl,(by show 2≤sizeLine;decide),fun t ht=>?_⟩
    have s4:=kah (o:=.tup [.int ((qs S.pr g).sum*sh/1000), .ref r]) ht
    try first|apply Y8|apply Y6|apply Y4
    try refine sN fun _ Y8=>?_
    refine⟨(s2.trans s3).trans s4,⟨_,rfl⟩,tl++[t],by rw[UD];rfl,?_⟩
    rw[kbY eg,UD]
    try first|apply Y8|apply Y6|apply Y4
    refine P2.snoc (hT.mono fun t' q ⟨ga,a1,a2,a3⟩=>⟨ga,(s3.trans s4) _ _ a1,(s3.trans s4) _ _ a2,a3⟩) ⟨r,kac,((s2.trans s3).trans s4) _ _ hr,hor r (UE er)⟩
   ·rintro σ ys H2 ⟨s2,⟨v0,rfl⟩,tl,rfl,hT⟩ D hD
    rw[Uu,lgl,UY] at hT
    have s3:=kah (o:=.lst (tl.map V.ref)) hD
    have e1:(gs.map fun g=>((qs S.pr g).sum*sh/1000,g)).map Prod.snd=gs:=by
     rw[UU]
     try first|apply Y8|apply Y6|apply Y4
     exact List.map_id' gs
    try first|apply Y8|apply Y6|apply Y4
    refine k _ D tl _ ((s1.trans s2).trans s3) (none_of (s1.trans s2) hD) kac (hT.mono fun t' q ⟨ga,a1,a2,a3⟩=>⟨ga,s3 _ _ a1,s3 _ _ a2,a3⟩) ?_ (by rw[e1];exact gnd) (by rw[e1];exact glt) (by rw[Uu];exact lgs) ?_
    ·intro c g hc
     obtain⟨g',hg',e⟩:=UR.mp hc
     cases e
     have sn:=kb6 (qs_nn wf.nn g)
     have:=keE sn hsh.1 hsh.2
     try first|apply Y8|apply Y6|apply Y4
     exact⟨this.1,this.2,lg g hg'⟩
    ·rw[e1,UU]
     try first|apply Y8|apply Y6|apply Y4
     exact gsp
  | cheap n=>
   have hn:2≤n∧n≤20:=vo.so
   obtain⟨m,rfl⟩:∃m:Nat,n=m:=⟨n.toNat,by omega⟩
   refine iteF ?_
   try apply Y4
   refine⟨_,rfl,_,_,_,_,rfl, .inr ⟨_,rfl⟩,TyOf.ins hv (cl_of W hh) I.ha I.hn I.ht I.hm,kcY W hh,_,rfl,iteF ⟨_,rfl,_,_,_,_,rfl, .inr ⟨_,rfl⟩,TyOf.ins hv (cl_of W hh) I.ha I.hn I.ht I.hm,kcu W hh,_,rfl,iteT ?_⟩⟩
   have hpw:(abt ps (kds B) ms.kind ms.lone S).Pairwise (· < ·):=JS.filter _ N2
   have l64:(abt ps (kds B) ms.kind ms.lone S).length<64:=Jr (keb _ _ _ _ _) wf.n64
   try apply Y4
   try refine sN fun _ Y6=>?_
   refine⟨_,rfl,_,rfl,_,rfl,v,d.qk,dxv,fsv,_,rfl,hv,W.qk.cl,W.Zn,hso,x,pa,S,_,m,rfl,hS,hpa,hpw,habl,l64,by omega,by omega,htb,fun H1 gp gl s1 f1 h1 hP0 hg=>?_⟩
   have hP:P2 (fun r g=>H1 r=some (.lst (g.map iV))) gl (grp m (fallP S.pr (abt ps (kds B) ms.kind ms.lone S))):=hP0
   clear hP0
   have lgl:=hP.len
   have lG:=kgm m (fallP S.pr (abt ps (kds B) ms.kind ms.lone S))
   have lf:(fallP S.pr (abt ps (kds B) ms.kind ms.lone S)).length=(abt ps (kds B) ms.kind ms.lone S).length:=(kbw _ _).length_eq
   have hgr:∀{i:Nat} {g:List Nat},(grp m (fallP S.pr (abt ps (kds B) ms.kind ms.lone S)))[i]?=some g→0<g.length∧g[g.length-1]?=some (g.getLastD 0)∧g.getLastD 0∈abt ps (kds B) ms.kind ms.lone S:=fun {i g} eg=>by
    obtain⟨h1,h2,h3⟩:=kg0 eg
    have h4:=kgj (by omega) eg
    try first|apply Y6|apply Y4
    try refine sN fun _ Y8=>?_
    refine⟨by omega,?_,(kbw _ _).mem_iff.mp (UE h4)⟩
    rw[h2,h3 _ (by omega)]
    try first|apply Y8|apply Y6|apply Y4
    exact h4
   have hla:∀a∈lasts (grp m (fallP S.pr (abt ps (kds B) ms.kind ms.lone S))),a∈abt ps (kds B) ms.kind ms.lone S:=fun a ha=>by
    obtain⟨g,hg',rfl⟩:=UR.mp ha
    obtain⟨j,hj⟩:=JO.mp hg'
    try first|apply Y6|apply Y4
    exact(hgr hj).2.2
   try first|apply Y6|apply Y4
   try refine sN fun _ Y6=>?_
   refine⟨gp,rfl,⟨_,SqL.of h1⟩,ka3 (xs:=gl.map V.ref) (fun i σ ys H'=>Same H1 H'∧(∃v0:Option V,σ=[v0])∧ys=((lasts (grp m (fallP S.pr (abt ps (kds B) ms.kind ms.lone S)))).take i).map iV)
    ⟨Same.refl _,⟨none,rfl⟩,rfl⟩ (by rw[Uu];exact UH (kar (by omega))) ?_ ?_ ?_⟩
   ·rintro i σ ys H2 hi ⟨s2,_,rfl⟩
    try first|apply Y6|apply Y4
    try refine sN fun _ Y8=>?_
    refine⟨SqL.of (s2 _ _ h1),?_⟩
    rw[Uu,UL,kcX]
    rw[Uu] at hi
    omega
   ·rintro i y σ ys H2 hy ⟨s2,⟨v0,rfl⟩,rfl⟩
    obtain⟨r,er,rfl⟩:=kbG hy
    obtain⟨g,eg,hr⟩:=hP.at er
    obtain⟨g0,g1,g2⟩:=hgr eg
    have al:atI (g.map iV) (-1)=some (iV (g.getLastD 0)):=ki3 (by rw[Uu,UF,g1];rfl) (by rw[Uu];exact g0)
    try first|apply Y8|apply Y6|apply Y4
    try refine sN fun _ Y8=>?_
    refine⟨_,rfl,1,rfl,r,_,_,_,rfl,rfl,SqL.of (s2 _ _ hr),al,s2,⟨_,rfl⟩,?_⟩
    rw[kbY (r:=g.getLastD 0) (by unfold lasts;rw[UF,eg];rfl),UD]
    rfl
   rintro σ ys H2 ⟨s2,⟨v0,rfl⟩,rfl⟩ D hD
   rw[Uu,lgl,JF (by rw[kcX];exact Uw _)]
   have s3:=s2.trans (kah (o:=.lst ((lasts (grp m (fallP S.pr (abt ps (kds B) ms.kind ms.lone S)))).map iV)) hD)
   have fD:H D=none:=none_of (s1.trans s2) hD
   have eD:(upd H2 D (.lst ((lasts (grp m (fallP S.pr (abt ps (kds B) ms.kind ms.lone S)))).map iV))) D=some (.lst ((lasts (grp m (fallP S.pr (abt ps (kds B) ms.kind ms.lone S)))).map iV)):=kac
   generalize upd H2 D (.lst ((lasts (grp m (fallP S.pr (abt ps (kds B) ms.kind ms.lone S)))).map iV))=H3 at *
   obtain⟨o,p,mk,⟨dxs,fss,hx,l1,l2,l3,l4,l5⟩,ho,hp,hmk⟩:=id hS
   have s13:=s1.trans s3
   have lL:=kcX (grp m (fallP S.pr (abt ps (kds B) ms.kind ms.lone S)))
   try first|apply Y6|apply Y4
   try refine sN fun _ Y6=>?_
   refine⟨_,rfl,D,rfl,⟨_,SqL.of eD⟩,ka3 (xs:=(lasts (grp m (fallP S.pr (abt ps (kds B) ms.kind ms.lone S)))).map iV) (fun i σ ys H'=>Same H3 H'∧(∃v0:Option V,σ=[v0,some (.ref x)])∧∃tl,ys=tl.map V.ref∧P2 (GrpAt H H' pa) tl (((lasts (grp m (fallP S.pr (abt ps (kds B) ms.kind ms.lone S)))).take i).map fun a=>(S.pr.getD a 0,[a])))
    ⟨Same.refl _,⟨none,rfl⟩,[],rfl, .nil⟩ (by rw[Uu];exact UH (kar (by omega))) ?_ ?_ ?_⟩
   ·rintro i σ ys H4 hi ⟨s4,_,tl,rfl,hT⟩
    try first|apply Y6|apply Y4
    try refine sN fun _ Y8=>?_
    refine⟨SqL.of (s4 _ _ eD),?_⟩
    rw[Uu,hT.len,Uu,UL]
    rw[Uu] at hi
    omega
   ·rintro i y σ ys H4 hy ⟨s4,⟨v0,rfl⟩,tl,rfl,hT⟩
    obtain⟨a,ea,rfl⟩:=kbH hy
    have ha:=hla a (UE ea)
    obtain⟨z,ez⟩:=at_of (habl a ha)
    have ez':S.pr.getD a 0=z:=by rw[UP,ez];rfl
    have s14:=s13.trans s4
    try first|apply Y8|apply Y6|apply Y4
    try refine sN fun _ Y8=>?_
    refine⟨_,rfl,x,d.qc,dxs,fss,_,rfl,s14 _ _ hx,W.qc.cl,W.qD,l2,_,rfl,p,_,_,_,rfl,rfl,SqL.of (s14 _ _ hp),kaY (v:=.int z) (by rw[UF,ez];rfl),_,rfl,(by show 1≤sizeLine;decide),fun q hq=>⟨(by show 2≤sizeLine;decide),fun t ht=>?_⟩⟩
    have s5:=(kah (o:=.lst [iV a]) hq).trans (kah (o:=.tup [.int z, .ref q]) ht)
    try first|apply Y8|apply Y6|apply Y4
    try refine sN fun _ Y8=>?_
    refine⟨s4.trans s5,⟨_,rfl⟩,tl++[t],by rw[UD];rfl,?_⟩
    rw[kbY ea,UD]
    try first|apply Y8|apply Y6|apply Y4
    exact P2.snoc (hT.mono fun t' q' ⟨ga,a1,a2,a3⟩=>⟨ga,s5 _ _ a1,s5 _ _ a2,a3⟩) ⟨q,by show upd _ _ _ _=some (.tup [.int (S.pr.getD a 0), .ref q]);rw[ez'];exact kac,kah ht _ _ kac, .inr (none_of s14 hq)⟩
   ·rintro σ ys H4 ⟨s4,⟨v0,rfl⟩,tl,rfl,hT⟩ D2 hD2
    rw[Uu,UY] at hT
    have s5:=kah (o:=.lst (tl.map V.ref)) hD2
    have e1:((lasts (grp m (fallP S.pr (abt ps (kds B) ms.kind ms.lone S)))).map fun a=>(S.pr.getD a 0,[a])).map Prod.snd=(lasts (grp m (fallP S.pr (abt ps (kds B) ms.kind ms.lone S)))).map fun a=>[a]:=by
     rw[UU]
     rfl
    have e2:=kh2 (fun i=>S.pr.getD i 0) (lasts (grp m (fallP S.pr (abt ps (kds B) ms.kind ms.lone S))))
    try first|apply Y8|apply Y6|apply Y4
    refine k _ D2 tl _ ((s13.trans s4).trans s5) (none_of (s13.trans s4) hD2) kac (hT.mono fun t' q ⟨ga,a1,a2,a3⟩=>⟨ga,s5 _ _ a1,s5 _ _ a2,a3⟩) ?_ (by rw[e1,e2.1];exact kgi (by omega) (kd5 hand)) (by rw[e1,e2.1];exact fun i hi=>habl i (hla i hi)) (by rw[Uu];omega) ?_
    ·intro c g hc
     obtain⟨a,ha,e⟩:=UR.mp hc
     cases e
     have q0:(qs S.pr [a]).sum=S.pr.getD a 0:=by simp[qs]
     have q1:=kb6 (qs_nn wf.nn [a])
     rw[q0] at q1⊢
     try first|apply Y8|apply Y6|apply Y4
     exact⟨q1,Int.le_refl _,by simp⟩
    ·rw[e1,e2.1,UU]
     have e3:(lasts (grp m (fallP S.pr (abt ps (kds B) ms.kind ms.lone S)))).map ((fun p=>dl p.1 (qs S.pr p.2))∘fun a=>(S.pr.getD a 0,[a]))=(lasts (grp m (fallP S.pr (abt ps (kds B) ms.kind ms.lone S)))).map fun a=>[S.pr.getD a 0]:=
      Jj fun a _=>klz _
     rw[e3,e2.2]
     try first|apply Y8|apply Y6|apply Y4
     exact(kiW (by omega) hand).symm
  | bund n pc=>
   have hn:2≤n∧n≤20∧0≤pc∧pc≤1000000000000:=vo.so
   obtain⟨m,rfl⟩:∃m:Nat,n=m:=⟨n.toNat,by omega⟩
   refine iteF ?_
   try apply Y4
   refine⟨_,rfl,_,_,_,_,rfl, .inr ⟨_,rfl⟩,TyOf.ins hv (cl_of W hh) I.ha I.hn I.ht I.hm,kcY W hh,_,rfl,iteF ⟨_,rfl,_,_,_,_,rfl, .inr ⟨_,rfl⟩,TyOf.ins hv (cl_of W hh) I.ha I.hn I.ht I.hm,kcu W hh,_,rfl,iteF ⟨_,rfl,_,_,_,_,rfl, .inr ⟨_,rfl⟩,TyOf.ins hv (cl_of W hh) I.ha I.hn I.ht I.hm,keq W hh,_,rfl,iteT ?_⟩⟩⟩
   have hpw:(abt ps (kds B) ms.kind ms.lone S).Pairwise (· < ·):=JS.filter _ N2
   have l64:(abt ps (kds B) ms.kind ms.lone S).length<64:=Jr (keb _ _ _ _ _) wf.n64
   try apply Y4
   try refine sN fun _ Y6=>?_
   refine⟨_,rfl,_,rfl,_,rfl,v,d.qj,dxv,fsv,_,rfl,hv,W.qj.cl,W.Zp,hso.1,x,pa,S,_,m,rfl,hS,hpa,hpw,habl,l64,by omega,by omega,htb,fun H1 gp gl s1 f1 h1 hP0 hg=>?_⟩
   have hP:P2 (fun r g=>H1 r=some (.lst (g.map iV))) gl (grp m (fallP S.pr (abt ps (kds B) ms.kind ms.lone S))):=hP0
   clear hP0
   have lgl:=hP.len
   have lG:=kgm m (fallP S.pr (abt ps (kds B) ms.kind ms.lone S))
   have lf:(fallP S.pr (abt ps (kds B) ms.kind ms.lone S)).length=(abt ps (kds B) ms.kind ms.lone S).length:=(kbw _ _).length_eq
   have gin:∀g∈grp m (fallP S.pr (abt ps (kds B) ms.kind ms.lone S)),∀i∈g,i∈abt ps (kds B) ms.kind ms.lone S:=fun g hg' i hi=>(kbw _ _).mem_iff.mp (kiE hg' i hi)
   have gok:∀g∈grp m (fallP S.pr (abt ps (kds B) ms.kind ms.lone S)),∀i∈g,i<S.pr.length:=fun g hg' i hi=>habl i (gin g hg' i hi)
   have lg:∀g∈grp m (fallP S.pr (abt ps (kds B) ms.kind ms.lone S)),g.length≤720:=fun g hg'=>by
    obtain⟨j,hj⟩:=JO.mp hg'
    have:=(kg0 hj).2.1
    omega
   generalize egs:grp m (fallP S.pr (abt ps (kds B) ms.kind ms.lone S))=gs at *
   try first|apply Y6|apply Y4
   try refine sN fun _ Y6=>?_
   refine⟨_,rfl,gp,rfl,⟨_,SqL.of h1⟩,ka3 (xs:=gl.map V.ref) (fun i σ ys H'=>Same H1 H'∧(∃v0:Option V,σ=[v0,some (.ref x),some (.ref v)])∧∃tl,ys=tl.map V.ref∧P2 (GrpAt H H' pa) tl ((gs.take i).map fun g=>(max 0 ((qs S.pr g).sum-pc),g)))
    ⟨Same.refl _,⟨none,rfl⟩,[],rfl, .nil⟩ (by rw[Uu];exact UH (kar (by omega))) ?_ ?_ ?_⟩
   ·rintro i σ ys H2 hi ⟨s2,_,tl,rfl,hT⟩
    try first|apply Y6|apply Y4
    try refine sN fun _ Y8=>?_
    refine⟨SqL.of (s2 _ _ h1),?_⟩
    rw[Uu,hT.len,Uu,UL]
    rw[Uu] at hi
    omega
   ·rintro i y σ ys H2 hy ⟨s2,⟨v0,rfl⟩,tl,rfl,hT⟩
    obtain⟨r,er,rfl⟩:=kbG hy
    obtain⟨g,eg,hr⟩:=hP.at er
    have s12:=s1.trans s2
    have hg':=UE eg
    have sn:=kb6 (qs_nn wf.nn g)
    try first|apply Y8|apply Y6|apply Y4
    try refine sN fun _ Y8=>?_
    refine⟨_,rfl,_,rfl,x,r,S,g,rfl,hS.same s12,s2 _ _ hr,gok g hg',lg g hg',fun H3 s3=>?_⟩
    have s13:=s12.trans s3
    try first|apply Y8|apply Y6|apply Y4
    try refine sN fun _ Y8=>?_
    refine⟨_,rfl,v,d.qj,dxv,fsv,_,rfl,s13 _ _ hv,W.qj.cl,W.Zq,hso.2,_,_,rfl,rfl,?_⟩
    try first|apply Y8|apply Y6|apply Y4
    try refine sN fun _ Y8=>?_
    refine⟨_,_,rfl,_,rfl,(by show 2≤sizeLine;decide),fun t ht=>?_⟩
    have emax:(if(0:Int) > (qs S.pr g).sum-pc then 0 else(qs S.pr g).sum-pc)=max 0 ((qs S.pr g).sum-pc):=by
     split <;> omega
    rw[emax]
    have s4:=kah (o:=.tup [.int (max 0 ((qs S.pr g).sum-pc)), .ref r]) ht
    try first|apply Y8|apply Y6|apply Y4
    try refine sN fun _ Y8=>?_
    refine⟨(s2.trans s3).trans s4,⟨_,rfl⟩,tl++[t],by rw[UD];rfl,?_⟩
    rw[kbY eg,UD]
    try first|apply Y8|apply Y6|apply Y4
    refine P2.snoc (hT.mono fun t' q ⟨ga,a1,a2,a3⟩=>⟨ga,(s3.trans s4) _ _ a1,(s3.trans s4) _ _ a2,a3⟩) ⟨r,kac,((s2.trans s3).trans s4) _ _ hr, .inr (hg r (UE er))⟩
   ·rintro σ ys H2 ⟨s2,⟨v0,rfl⟩,tl,rfl,hT⟩ D hD
    rw[Uu,lgl,UY] at hT
    have s3:=kah (o:=.lst (tl.map V.ref)) hD
    have e1:(gs.map fun g=>(max 0 ((qs S.pr g).sum-pc),g)).map Prod.snd=gs:=by
     rw[UU]
     try first|apply Y8|apply Y6|apply Y4
     exact List.map_id' gs
    try first|apply Y8|apply Y6|apply Y4
    refine k _ D tl _ ((s1.trans s2).trans s3) (none_of (s1.trans s2) hD) kac (hT.mono fun t' q ⟨ga,a1,a2,a3⟩=>⟨ga,s3 _ _ a1,s3 _ _ a2,a3⟩) ?_ (by rw[e1,←egs];exact kiD (kd5 hand)) (by rw[e1];intro i hi;obtain⟨g,hg',hi'⟩:=JA.mp hi;exact gok g hg' i hi') (by rw[Uu];omega) ?_
    ·intro c g hc
     obtain⟨g',hg',e⟩:=UR.mp hc
     cases e
     have sn:=kb6 (qs_nn wf.nn g)
     try first|apply Y8|apply Y6|apply Y4
     exact⟨by omega,by omega,lg g hg'⟩
    ·rw[e1,UU,←egs]
     try first|apply Y8|apply Y6|apply Y4
     exact(kjR (fun z=>max 0 (z-pc)) hand).symm
  |carr=>
   refine iteF ?_
   try apply Y4
   refine⟨_,rfl,_,_,_,_,rfl, .inr ⟨_,rfl⟩,TyOf.ins hv (cl_of W hh) I.ha I.hn I.ht I.hm,kcY W hh,_,rfl,iteF ⟨_,rfl,_,_,_,_,rfl, .inr ⟨_,rfl⟩,TyOf.ins hv (cl_of W hh) I.ha I.hn I.ht I.hm,kcu W hh,_,rfl,iteF ⟨_,rfl,_,_,_,_,rfl, .inr ⟨_,rfl⟩,TyOf.ins hv (cl_of W hh) I.ha I.hn I.ht I.hm,keq W hh,_,rfl,iteF ?_⟩⟩⟩
   try apply Y4
   refine⟨by decide,fun l hl=>?_⟩
   try apply Y4
   refine k _ l [] [] (kah hl) hl kac .nil (fun c g hc=>by simp at hc) (by simp) (by simp) (by simp) ?_
   try apply Y4
   exact(spr_zero (k:=0)).trans spr_zero.symm
inductive khX (K:Uv) (d:D) (vs:List V) (H:Hp) (Q:VK) (E_:XK):Prop
 |ct (v a b x:Addr) (V:Vch) (ps:List (Option Nat)) (B:Bask) (S:Stnd) (_:vs=[.ref v, .ref a, .ref b, .ref x]) (_:VchIs d H v V) (_:SqL K H a (ps.map pV)) (_:BaskIs d.qf d.qg H b B) (_:StndIs d.qc H x S) (_:Wf ps B S) (_:VchOk ps V) (_:∀(H':Hp) (p:Addr),Same H H'→H p=none→H' p=some (.lst ((cutM V ps (kds B) S).1.map L2.V.int))→Q (.ref p) H'):khX K d vs H Q E_
theorem qG:kaq ["voucher","parents","basket","standing","pieces","wanted","cut","group","piece","part","most"] ["voucher","parents","basket","standing"] (kag kbB):=⟨rfl,rfl,rfl,by decide +kernel,rfl,by decide +kernel,by decide +kernel⟩
theorem kdd(W:WB K mg d base):FnOk P w K mg base CX0 4 d.XX d.XY ["voucher","parents","basket","standing"] (khX K d):=by
 refine FunD.ok W.Qj.F qG (fun vs H Q E h=>?_) (fun cdv A outer s H vs Q E hr h=>?_)
 ·obtain⟨v,a,b,x,V,ps,B,S,rfl,_⟩:=h
  rfl
 ·obtain⟨v,a,b,x,Vc,ps,B,S,rfl,hV,hA,hB,hS,wf,vo,k⟩:=h
  have Xr:=kgR (P:=P) (w:=w) (base:=base) W
  have Vh:=kee (P:=P) (w:=w) (base:=base) W
  have Zx:=kjs (P:=P) (w:=w) (base:=base) W
  have Xp:=kdk (P:=P) (w:=w) (base:=base) W
  have hr1:Room 1 _:=hr.mono (by decide)
  refine⟨_,kad (kav (i:=4) qG.nd rfl (Or.inl rfl) (kan Xr hr rfl W.qK.m W.qK.F.kp W.qK.b .nil pass0 (kaa (pv 0) (kaa (pv 1) (kaa (pv 2) (kaa (pv 3) kae))))))
   (kad (keL (N:=["price"]) (CompScope.plain rfl (by decide +kernel) (by decide +kernel) (by decide +kernel) (nd1 _)) rfl (kaH (K:=K) (kam (K:=K) (pv 3) rfl)) (fun _ _ _ _=>kap (i:=0) (nd1 _) rfl (Or.inl rfl)) (fun _ _ _ _=>kaf) (kap (i:=5) qG.nd rfl (Or.inl rfl)))
   (kad (kbk PassesOwn.never rfl (kaH (K:=K) (kan Vh hr rfl W.Ql.m W.Ql.F.kp W.Ql.b .nil pass0 (kaa (pv 0) (kaa (pv 3) (kaa (pv 4) kae))))) (kbm (K:=K) (n:=2) rfl (kay (kap (i:=6) qG.nd rfl (Or.inl rfl)) (kay (kap (i:=7) qG.nd rfl (Or.inl rfl)) kbl)))
   (kai (kbk PassesOwn.never rfl (keO rfl W.B.zip (kaa (pv 7) (kaa (kan Zx hr1 rfl W.qJ.m W.qJ.F.kp W.qJ.b .nil pass0 (kaa (pv 6) (kaa (kan Xp hr1 rfl W.qO.m W.qO.F.kp W.qO.b .nil pass0 (kaa (pv 3) (kaa (pv 7) kae))) kae))) kae))) (kbm (K:=K) (n:=2) rfl (kay (kap (i:=8) qG.nd rfl (Or.inl rfl)) (kay (kap (i:=9) qG.nd rfl (Or.inl rfl)) kbl)))
   (kai (kia (pv 9) (kih (pv 5) (pv 8) set_list))))))
   (kad (kav (i:=10) qG.nd rfl (Or.inl rfl) (kam (K:=K) (kam (K:=K) (pv 0) rfl) rfl))
   (kad (ps_if (PW.pt (kbP (kat kc9 (pv 10) kaV (kax _)) (kbD (kat op_gt (kas (r:=rSum K) (kdI rfl) (by rfl) W.B.sum b_sum (kaa (pv 5) kae)) (pv 10) (kax _))))) (kai (kao (kan Zx hr1 rfl W.qJ.m W.qJ.F.kp W.qJ.b .nil pass0 (kaa (pv 10) (kaa (pv 5) kae))))) (kau))
   (kai (kao (pv 5))))))),?_⟩
  have np:=wf.np
  have lp:=wf.lp
  try refine sN fun _ Y4=>?_
  refine⟨_,rfl,_,rfl,_,rfl,_,rfl,v,a,b,x,Vc,ps,B,S,rfl,hV,hA,hB,hS,wf,vo,fun H1 pa s1 f1 h1=>?_⟩
  have habl:∀i∈abt ps (kds B) Vc.ms.kind Vc.ms.lone S,i<S.pr.length:=fun i hi=>by rw[lp];exact kg8 hi
  have hand:=kfU ps (kds B) Vc.ms.kind Vc.ms.lone S
  have lab:(abt ps (kds B) Vc.ms.kind Vc.ms.lone S).length≤720:=Uy (keb _ _ _ _ _) np
  obtain⟨o,p,mk,⟨dxs,fss,hx,l1,l2,l3,l4,l5⟩,ho,hp,hmk⟩:=id (hS.same s1)
  try apply Y4
  try refine sN fun _ Y4=>?_
  refine⟨_,rfl,x,d.qc,dxs,fss,_,rfl,hx,W.qc.cl,W.qD,l2,p,rfl,⟨_,SqL.of hp⟩,ka3 (xs:=S.pr.map V.int) (fun i σ ys H'=>H'=H1∧ys=(Uz i (0:Int)).map V.int∧∃v,σ=[v]) ⟨rfl,rfl,none,rfl⟩ ?_ ?_ ?_ ?_⟩
  ·rw[Uu]
   try apply Y4
   exact UH (kar (by omega))
  ·rintro i σ ys H' hi ⟨rfl,rfl,_⟩
   try apply Y4
   exact⟨SqL.of hp,by simp⟩
  ·rintro i y σ ys H' hy ⟨rfl,rfl,v,rfl⟩
   try apply Y4
   exact⟨rfl,by rw[J8,UD];rfl,_,rfl⟩
  rintro σ ys H' ⟨rfl,rfl,v0,rfl⟩ w hw
  rw[Uu]
  have s2:=s1.trans (kah (o:=.lst ((Uz S.pr.length (0:Int)).map V.int)) hw)
  have hw0:H w=none:=none_of s1 hw
  have ew:(upd H' w (.lst ((Uz S.pr.length (0:Int)).map V.int))) w=some (.lst ((Uz S.pr.length (0:Int)).map V.int)):=kac
  have h1o:=h1
  have h1:=kah (o:=.lst ((Uz S.pr.length (0:Int)).map V.int)) hw _ _ h1
  have nw:pa≠w:=kaj h1o hw
  generalize upd H' w (.lst ((Uz S.pr.length (0:Int)).map V.int))=H2 at *
  try apply Y4
  try refine sN fun _ Y4=>?_
  refine⟨_,rfl,_,rfl,_,rfl,v,x,pa,Vc,ps,B,S,rfl,hV.same s2,hS.same s2,h1,wf,vo,fun H3 gp tl gl s3 f3 h3 hP hc hnd hlt hgl hsp=>?_⟩
  have s03:=s2.trans s3
  have e3:=s3 _ _ ew
  have ngw:gp≠w:=fun e=>by rw[e,ew] at f3;cases f3
  try apply Y4
  try refine sN fun _ Y4=>?_
  refine⟨gp,rfl,⟨_,SqL.of h3⟩,kbq (K:=K) (a:=gp) (xs:=tl.map V.ref) (fun i σ H'=>(∃v8 v9 v10 v11 v12:Option V,σ=[some (.ref v),some (.ref a),some (.ref b),some (.ref x),some (.ref pa),some (.ref w),v8,v9,v10,v11,v12])∧But w H3 H'∧
    H' w=some (.lst ((spr S.pr.length ((gl.take i).map Prod.snd).flatten ((gl.take i).map fun p=>dl p.1 (qs S.pr p.2)).flatten).map V.int)))
   ⟨⟨none,none,none,none,none,rfl⟩,But.refl,by rw[e3];simp[kkE]⟩ (fun i σ H' _ h=>SqL.of (h.2.1 _ _ ngw h3)) ?_ ?_⟩
  ·rintro i y σ H4 hy ⟨⟨v8,v9,v10,v11,v12,rfl⟩,b4,h4⟩
   obtain⟨t,et,rfl⟩:=kbG hy
   obtain⟨⟨c,g⟩,eg,ga,ht,hga,hor⟩:=hP.at et
   have hcg:=hc c g (UE eg)
   have hgl':∀i∈g,i<S.pr.length:=fun j hj=>hlt j (JA.mpr ⟨g,UR.mpr ⟨(c,g),UE eg,rfl⟩,hj⟩)
   have ngaw:ga≠w:=by
    rcases hor with rfl|hor
    ·exact nw
    ·exact fun e=>by rw[e,ew] at hor;cases hor
   have ntw:t≠w:=ne_of ht e3 (by intro z;cases z)
   have htt:H4 t=some (.tup [.int c, .ref ga]):=b4 _ _ ntw ht
   have hgg:H4 ga=some (.lst (g.map iV)):=b4 _ _ ngaw hga
   try apply Y4
   try refine sN fun _ Y6=>?_
   refine⟨t,_,rfl,SqT.of htt,rfl,_,_,rfl,_,_,rfl,rfl,?_⟩
   have hS4:StndIs d.qc H4 x S:=by
    try first|apply Y6|apply Y4
    exact StndIs.same (H:=H) (kgE hw0 s03 b4) hS
   have gnn:=qs_nn wf.nn g
   have gsum:=kh7 wf hcg.2.2 hgl'
   have hg720:=hcg.2.2
   try first|apply Y6|apply Y4
   try refine sN fun _ Y6=>?_
   refine⟨_,rfl,_,rfl,_,rfl,_,rfl,x,ga,S,g,rfl,hS4,hgg,hgl',hg720,fun p5 hp5=>?_⟩
   have s5:=kah (o:=.lst ((qs S.pr g).map V.int)) hp5
   try first|apply Y6|apply Y4
   try refine sN fun _ Y6=>?_
   refine⟨c,p5,qs S.pr g,rfl,SqL.of kac,gnn,by omega,hcg.1,by omega,by rw[kbX];omega,fun p6 hp6=>?_⟩
   have s6:=s5.trans (kah (o:=.lst ((dl c (qs S.pr g)).map V.int)) hp6)
   have h6:(upd (upd H4 p5 (.lst ((qs S.pr g).map V.int))) p6 (.lst ((dl c (qs S.pr g)).map V.int))) p6=some (.lst ((dl c (qs S.pr g)).map V.int)):=kac
   have n6:H4 p6=none:=none_of s5 hp6
   generalize upd (upd H4 p5 (.lst ((qs S.pr g).map V.int))) p6 (.lst ((dl c (qs S.pr g)).map V.int))=H6 at *
   have b6:=b4.same s6
   have w6:=s6 _ _ h4
   have n6w:p6≠w:=fun e=>by rw[e,h4] at n6;cases n6
   have ldl:(dl c (qs S.pr g)).length=g.length:=by rw[kes,kbX]
   have emin:min (g.map iV).length ((dl c (qs S.pr g)).map V.int).length=g.length:=by rw[Uu,Uu,ldl,JL]
   have ndt:∀(j n:Nat),g[j]?=some n→(((gl.take i).map Prod.snd).flatten++g.take j++[n]).Nodup:=fun j n hj=>by
    rw[JT]
    try first|apply Y6|apply Y4
    exact kdJ hnd (i:=i) (by rw[UF,eg];rfl) hj
   have lfl:((gl.take i).map Prod.snd).flatten.length=((gl.take i).map fun p=>dl p.1 (qs S.pr p.2)).flatten.length:=by
    rw[List.length_flatten,List.length_flatten,UU,UU]
    congr 1
    try first|apply Y6|apply Y4
    refine Jj fun q _=>?_
    show q.2.length=(dl q.1 (qs S.pr q.2)).length
    rw[kes,kbX]
   try first|apply Y6|apply Y4
   try refine sN fun _ Y6=>?_
   refine⟨ga,p6,_,_,rfl,s6 _ _ hgg,h6,kiH (xs:=g.map iV) (ys:=(dl c (qs S.pr g)).map V.int) (fun j σ H'=>(∃v8 v9 v10 v11 v12:Option V,σ=[some (.ref v),some (.ref a),some (.ref b),some (.ref x),some (.ref pa),some (.ref w),v8,v9,v10,v11,v12])∧But w H3 H'∧H' ga=some (.lst (g.map iV))∧H' p6=some (.lst ((dl c (qs S.pr g)).map V.int))∧
     H' w=some (.lst ((spr S.pr.length (((gl.take i).map Prod.snd).flatten++g.take j) (((gl.take i).map fun p=>dl p.1 (qs S.pr p.2)).flatten++(dl c (qs S.pr g)).take j)).map V.int)))
    ⟨⟨_,_,_,_,_,rfl⟩,b6,s6 _ _ hgg,h6,by rw[w6];simp⟩ (fun j σ H' _ h=>⟨h.2.2.1,h.2.2.2.1⟩) ?_ ?_⟩
   ·rintro j y1 y2 t2 σ H7 hy1 hy2 ⟨⟨v8,v9,v10,v11,v12,rfl⟩,b7,g7,d7,w7⟩ ht2
    obtain⟨n,en,rfl⟩:=kbH hy1
    obtain⟨z,ez,rfl⟩:=kbH hy2
    have hn:=hgl' n (UE en)
    have s8:=kah (o:=.tup [iV n,V.int z]) ht2
    try first|apply Y6|apply Y4
    try refine sN fun _ Y8=>?_
    refine⟨t2,_,rfl,SqT.of kac,rfl,_,_,rfl,_,_,rfl,rfl,?_⟩
    try first|apply Y8|apply Y6|apply Y4
    try refine sN fun _ Y8=>?_
    refine⟨_,rfl,_,rfl,_,rfl,w,_,_,n,rfl,rfl,s8 _ _ w7,kgl (by rw[Uu,kcF];exact hn),⟨_,_,_,_,_,rfl⟩,(b7.same s8).trans kaz,?_,?_,?_⟩
    ·rw[kak ngaw]
     try first|apply Y8|apply Y6|apply Y4
     exact s8 _ _ g7
    ·rw[kak n6w]
     try first|apply Y8|apply Y6|apply Y4
     exact s8 _ _ d7
    ·rw[kac,←N7,kbY en,kbY ez,←JR,←JR]
     rw[kjd (by rw[UW,UW,lfl,UL,UL,ldl]) (ndt j n en) hn]
   ·rintro σ H7 ⟨⟨v8,v9,v10,v11,v12,rfl⟩,b7,g7,d7,w7⟩
    try first|apply Y8|apply Y6|apply Y4
    try refine sN fun _ Y8=>?_
    refine⟨⟨_,_,_,_,_,rfl⟩,b7,?_⟩
    rw[w7,emin,UY,JF (Nf ldl),kbY eg]
    simp
  rintro σ H4 ⟨⟨v8,v9,v10,v11,v12,rfl⟩,b4,h4⟩
  have ltl:(tl.map V.ref).length=gl.length:=by rw[Uu,hP.len]
  rw[ltl,UY,hsp] at h4
  have s04:Same H H4:=kgE hw0 s03 b4
  obtain⟨mA,dxv,fsv,hv,lvm,_,⟨dxm,fsm,hm,m1,m2,m3,m4,m5,m6⟩,hh,htb⟩:=id (hV.same s04)
  try apply Y4
  try refine sN fun _ Y4=>?_
  refine⟨_,rfl,v,clsOf d Vc.so,dxv,fsv,_,rfl,hv,cl_of W hh,na_of W hh,lvm,mA,d.qe,dxm,fsm,_,rfl,hm,W.qe.cl,W.Q4,m3,?_⟩
  have wle:=khx (so:=Vc.so) (n:=S.mkd.length) (lines:=(abt ps (kds B) Vc.ms.kind Vc.ms.lone S).map fun i=>S.ow.getD i 0) (qs_nn wf.nn (abt ps (kds B) Vc.ms.kind Vc.ms.lone S)) vo.so
  have cn:=kjN (V:=Vc) (ps:=ps) (kk:=kds B) (S:=S)
  have cs:=fun(m:Int) (e:Vc.ms.most=some m) (h0:0≤m)=>kjL (V:=Vc) (ps:=ps) (kk:=kds B) (S:=S) lp wle e h0
  have sabs:=kh7 wf lab habl
  generalize ewant:want Vc.so S.mkd.length ((abt ps (kds B) Vc.ms.kind Vc.ms.lone S).map fun i=>S.ow.getD i 0) (qs S.pr (abt ps (kds B) Vc.ms.kind Vc.ms.lone S))=wn at *
  have fnn:Nn (spr S.pr.length (abt ps (kds B) Vc.ms.kind Vc.ms.lone S) wn):=(kfa wf.nn wle).nn
  have fsum:(spr S.pr.length (abt ps (kds B) Vc.ms.kind Vc.ms.lone S) wn).sum≤720000000000000:=by
   have h:=(kfa wf.nn wle).sum
   have h2:=kc2 (b:=1000000000000) (q:=S.pr) fun z hz=>(wf.pr z hz).2
   omega
  cases em:Vc.ms.most with
  |none=>
   try apply Y4
   refine⟨_,rfl,rfl,_,rfl,?_⟩
   show if(!decide (V.non=V.non))=true then _ else _
   rw[kkh]
   refine iteF (iteF ⟨_,rfl,k _ w s04 hw0 ?_⟩)
   rw[h4,cn em]
  | some m=>
   have hm0:=vo.ms.most m em
   try apply Y4
   refine⟨_,rfl,rfl,_,rfl,?_⟩
   show if(!decide (V.int m=V.non))=true then _ else _
   rw[kki]
   refine iteT ?_
   try apply Y4
   try refine sN fun _ Y6=>?_
   refine⟨_,rfl,w,_,rfl,SqL.of h4,_,rfl,_,_,rfl,rfl,_,rfl,?_⟩
   by_cases hgt:(spr S.pr.length (abt ps (kds B) Vc.ms.kind Vc.ms.lone S) wn).sum > m
   ·rw[decide_eq_true hgt]
    refine iteT ?_
    try first|apply Y6|apply Y4
    try refine sN fun _ Y8=>?_
    refine⟨_,rfl,_,rfl,m,w,_,rfl,SqL.of h4,fnn,by omega,hm0.1,by omega,by rw[kcF];omega,fun p7 hp7=>?_⟩
    try first|apply Y8|apply Y6|apply Y4
    refine k _ p7 (s04.trans (kah hp7)) (none_of s04 hp7) ?_
    rw[kac,cs m em hm0.1,if_pos hgt]
   ·rw[decide_eq_false hgt]
    refine iteF ?_
    try first|apply Y8|apply Y6|apply Y4
    refine⟨_,rfl,k _ w s04 hw0 ?_⟩
    rw[h4,cs m em hm0.1,if_neg hgt]
theorem kjT{l:List Nat}{f g:Nat→Bool}(h:∀x∈l,f x=g x):l.any f=l.any g:=by
 induction l with
 |nil=>rfl
 |cons a l ih=>rw[Ji,Ji,h a UX,ih fun x hx=>h x (US _ hx)]
theorem kgr{ow:List Nat}{cs:List Int}{i o l:Nat}(h:ow[i]?=some o):kcZ (ow.take (i+1)) cs l=(kcZ (ow.take i) cs l||(o==l&&decide (0<cs.getD i 0))):=by
 have hi:=at_lt h
 unfold kcZ
 rw[UL,UL,NH (by omega),NH (by omega),Jz,List.any_append]
 congr 1
 ·refine kjT fun j hj=>?_
  have hj':j<i:=by simpa using hj
  simp only[UP,List.getElem?_take]
  rw[if_pos (by omega),if_pos hj']
 ·simp only[Ji,List.any_nil,Bool.or_false]
  rw[UP,List.getElem?_take,if_pos (by omega),h]
  rfl
inductive kcB (d:D) (vs:List V) (H:Hp) (Q:VK) (E_:XK):Prop
 |ct (v x c:Addr) (V:Vch) (S:Stnd) (cs:List Int) (_:vs=[.ref v, .ref x, .ref c]) (_:VchIs d H v V) (_:StndIs d.qc H x S) (_:H c=some (.lst (cs.map L2.V.int))) (_:cs.length=S.ow.length) (_:S.ow.length≤720) (_:S.mkd.length≤12) (_:(∀l∈S.ow,l<S.mkd.length)) (_:∀(H':Hp) (p:Addr),Same H H'→H p=none→H' p=some (.lst (((UB S.mkd.length).map fun l=>S.mkd.getD l false||(V.ms.lone&&kcZ S.ow cs l)).map L2.V.bl))→Q (.ref p) H'):kcB d vs H Q E_
theorem QM:kaq ["voucher","standing","piece_cuts","marked","owner","cut"] ["voucher","standing","piece_cuts"] (kag kbM):=⟨rfl,rfl,rfl,by decide +kernel,rfl,by decide +kernel,by decide +kernel⟩
theorem kdy(W:WB K mg d base):FnOk P w K mg base CX0 1 d.X6 d.X7 ["voucher","standing","piece_cuts"] (kcB d):=by
 refine FunD.ok W.Qn.F QM (fun vs H Q E h=>?_) (fun cdv A outer s H vs Q E hr h=>?_)
 ·obtain⟨v,x,c,V,S,cs,rfl,_⟩:=h
  rfl
 ·obtain⟨v,x,c,Vc,S,cs,rfl,⟨mA,dxv,fsv,hv,lvm,_,⟨dxm,fsm,hm,m1,m2,m3,m4,m5,m6⟩,hh,htb⟩,⟨o,p,mk,⟨dxs,fss,hx,l1,l2,l3,l4,l5⟩,ho,hp,hmk⟩,hc,lc,lo,lmk,hw,k⟩:=h
  refine⟨_,kad (kav (i:=3) QM.nd rfl (Or.inl rfl) (kaX (r:=kbC K) kaM (by rfl) W.B.list kbI (kaa (kam (K:=K) (pv 1) rfl) kae)))
   (kad (ps_if (ka5 (kam (K:=K) (kam (K:=K) (pv 0) rfl) rfl)) (kai (kbk PassesOwn.never rfl (keO rfl W.B.zip (kaa (kam (K:=K) (pv 1) rfl) (kaa (pv 2) kae))) (kbm (K:=K) (n:=2) rfl (kay (kap (i:=4) QM.nd rfl (Or.inl rfl)) (kay (kap (i:=5) QM.nd rfl (Or.inl rfl)) kbl)))
   (kai (ps_if (kat op_gt (pv 5) kaf (kax _)) (kai (kia pe_bl (kih (pv 3) (pv 4) set_list))) (kau))))) (kau))
   (kai (kao (pv 3)))),?_⟩
  have e0:S.mkd.map V.bl=((UB S.mkd.length).map fun l=>S.mkd.getD l false||kcZ (S.ow.take 0) cs l).map V.bl:=by
   congr 1
   apply JH
   ·simp
   ·intro j h1 h2
    simp[kcZ,h1]
  try refine sN fun _ Y4=>?_
  refine⟨_,rfl,x,d.qc,dxs,fss,_,rfl,hx,W.qc.cl,W.qW,l4,mk,_,rfl, .inl (SqL.of hmk),fun q hq=>?_⟩
  have s1:=kah (o:=.lst (S.mkd.map V.bl)) hq
  try apply Y4
  try refine sN fun _ Y4=>?_
  refine⟨_,rfl,v,clsOf d Vc.so,dxv,fsv,_,rfl,s1 _ _ hv,cl_of W hh,na_of W hh,lvm,mA,d.qe,dxm,fsm,_,rfl,s1 _ _ hm,W.qe.cl,W.Q6,m6,_,rfl,?_⟩
  cases e:Vc.ms.lone with
  |false=>
   refine iteF ?_
   try apply Y4
   try refine sN fun _ Y6=>?_
   refine⟨_,rfl,k _ q s1 hq ?_⟩
   rw[e0]
   simp only[e,Nc,Bool.or_false]
   rw[kac]
   congr 2
   simp[kcZ]
  | true=>
   refine iteT ?_
   have emin:min (S.ow.map iV).length (cs.map V.int).length=S.ow.length:=by rw[Uu,Uu,lc,JL]
   try apply Y4
   try refine sN fun _ Y6=>?_
   refine⟨_,rfl,x,d.qc,dxs,fss,_,rfl,s1 _ _ hx,W.qc.cl,W.qP,l1,_,rfl,o,c,_,_,rfl,s1 _ _ ho,s1 _ _ hc,
    kiH (xs:=S.ow.map iV) (ys:=cs.map V.int) (fun i σ H'=>(∃v4 v5:Option V,σ=[some (.ref v),some (.ref x),some (.ref c),some (.ref q),v4,v5])∧But q H H'∧H' q=some (.lst (((UB S.mkd.length).map fun l=>S.mkd.getD l false||kcZ (S.ow.take i) cs l).map V.bl)))
     ⟨⟨none,none,rfl⟩,But.of_same s1,by rw[kac,e0]⟩ (fun i σ H' _ h=>⟨h.2.1 _ _ (kaj ho hq) ho,h.2.1 _ _ (kaj hc hq) hc⟩) ?_ ?_⟩
   ·rintro i y z t σ H1 hy hz ⟨⟨v4,v5,rfl⟩,b1,h1⟩ ht
    obtain⟨ln,eln,rfl⟩:=kbH hy
    obtain⟨cz,ecz,rfl⟩:=kbH hz
    have hln:=hw ln (UE eln)
    have st:=fun l=>kgr (cs:=cs) (l:=l) eln
    have eg:cs.getD i 0=cz:=by rw[UP,ecz];rfl
    have tq:q≠t:=kaj h1 ht
    have b2:=b1.same (kah (o:=.tup [iV ln,V.int cz]) ht)
    have h2:=kah (o:=.tup [iV ln,V.int cz]) ht _ _ h1
    try first|apply Y6|apply Y4
    try refine sN fun _ Y8=>?_
    refine⟨t,_,rfl,SqT.of kac,rfl,_,_,rfl,_,_,rfl,rfl,?_⟩
    try first|apply Y8|apply Y6|apply Y4
    try refine sN fun _ Y8=>?_
    refine⟨_,rfl,_,_,rfl,rfl,_,rfl,?_⟩
    by_cases hc0:cz > 0
    ·rw[decide_eq_true hc0]
     refine iteT ?_
     try first|apply Y8|apply Y6|apply Y4
     try refine sN fun _ Y10=>?_
     refine⟨_,rfl,_,rfl,q,_,_,ln,rfl,rfl,h2,kgl (by simpa using hln),⟨_,_,rfl⟩,b2.trans kaz,?_⟩
     rw[kac,←N7]
     congr 3
     apply JH
     ·simp
     ·intro j g1 g2
      have hj:j<S.mkd.length:=by simpa using g1
      rw[List.getElem_set]
      simp only[J4,Nz]
      rw[st j,eg]
      by_cases hjl:ln=j
      ·subst hjl
       simp[hc0]
      ·rw[if_neg hjl,show(ln==j)=false by simpa using hjl]
       simp
    ·rw[decide_eq_false hc0]
     refine iteF ?_
     try first|apply Y10|apply Y8|apply Y6|apply Y4
     try refine sN fun _ Y10=>?_
     refine⟨⟨_,_,rfl⟩,b2,?_⟩
     rw[h2]
     congr 3
     try first|apply Y10|apply Y8|apply Y6|apply Y4
     refine Jj fun l _=>?_
     rw[st l,eg,show decide (0<cz)=false by simpa using hc0]
     simp
   ·rintro σ H1 ⟨⟨v4,v5,rfl⟩,b1,h1⟩
    rw[emin,UY] at h1
    try first|apply Y8|apply Y6|apply Y4
    try refine sN fun _ Y8=>?_
    refine⟨_,rfl,k _ q (ki0 b1 hq) hq ?_⟩
    rw[h1]
    simp only[e,N8]
theorem Xt:kaq ["voucher","parents","basket","standing","piece_cuts","left"] ["voucher","parents","basket","standing"] (kag kf7):=⟨rfl,rfl,rfl,by decide +kernel,rfl,by decide +kernel,by decide +kernel⟩
theorem kgQ(W:WB K mg d base):FnOk P w K mg base CX0 5 d.XU d.XW ["voucher","parents","basket","standing"] (kh0 K d):=by
 refine FunD.ok W.qM.F Xt (fun vs H Q E h=>?_) (fun cdv A outer s H vs Q E hr h=>?_)
 ·obtain⟨v,a,b,x,V,ps,B,S,rfl,_⟩:=h
  rfl
 ·obtain⟨v,a,b,x,Vc,ps,B,S,rfl,hV,hA,hB,hS,wf,vo,k⟩:=h
  have Vi:=kdd (P:=P) (w:=w) (base:=base) W
  have Qc:=kbF (P:=P) (w:=w) (base:=base) W
  have Vj:=kcS (P:=P) (w:=w) (base:=base) W
  have Vk:=kdy (P:=P) (w:=w) (base:=base) W
  have hr1:Room 1 _:=hr.mono (by decide)
  have hr2:Room 2 _:=hr.mono (by decide)
  have hr3:Room 3 _:=hr.mono (by decide)
  refine⟨_,kad (kav (i:=4) Xt.nd rfl (Or.inl rfl) (kan Vi hr rfl W.Qj.m W.Qj.F.kp W.Qj.b .nil pass0 (kaa (pv 0) (kaa (pv 1) (kaa (pv 2) (kaa (pv 3) kae))))))
   (kad (kav (i:=5) Xt.nd rfl (Or.inl rfl) (kbe (W.qQ.mk' W.qc) Qc hr3 rfl W.qc.m W.qQ.b .nil pass0 (kaa (pv 2) kae)))
   (kad (kaL (pv 5) (kaX (r:=kbC K) kaM (by rfl) W.B.list kbI (kaa (kam (K:=K) (pv 3) rfl) kae)) rfl)
   (kad (kaL (pv 5) (kbv (N:=["price","cut"]) (CompScope.plain rfl (by decide +kernel) (by decide +kernel) (by decide +kernel) (show(["price","cut"]:List Str).Nodup by decide +kernel)) rfl (keO rfl W.B.zip (kaa (kam (K:=K) (pv 3) rfl) (kaa (pv 4) kae))) (fun _ _ _ _=>kbm (K:=K) (n:=2) rfl (kay (kap (i:=0) (show(["price","cut"]:List Str).Nodup by decide +kernel) rfl (Or.inl rfl)) (kay (kap (i:=1) (show(["price","cut"]:List Str).Nodup by decide +kernel) rfl (Or.inl rfl)) kbl))) (fun _ _ _ _=>(pe_op kcQ (pv 0) (pv 1)))) rfl)
   (kad (kaL (pv 5) (pe_op kcQ (kam (K:=K) (pv 3) rfl) (kan Vj hr2 rfl W.Qk.m W.Qk.F.kp W.Qk.b .nil pass0 (kaa (pv 0) (kaa (pv 3) kae)))) rfl)
   (kad (kaL (pv 5) (kan Vk hr1 rfl W.Qn.m W.Qn.F.kp W.Qn.b .nil pass0 (kaa (pv 0) (kaa (pv 3) (kaa (pv 4) kae)))) rfl)
   (kai (kao (pv 5)))))))),?_⟩
  have np:=wf.np
  have lp:=wf.lp
  have lcut:(cutM Vc ps (kds B) S).1.length=S.pr.length:=(kkr wf.nn wf.cg.1 vo.so fun m e=>(vo.ms.most m e).1).1.1
  try refine sN fun _ Y4=>?_
  refine⟨_,rfl,_,rfl,_,rfl,_,rfl,v,a,b,x,Vc,ps,B,S,rfl,hV,hA,hB,hS,wf,vo,fun H1 pc s1 f1 h1=>?_⟩
  obtain⟨l,ls,hb1,hl1,hL1⟩:=id (hB.same s1)
  try apply Y4
  try refine sN fun _ Y4=>?_
  refine⟨_,rfl,kio hb1 hl1 hL1 wf.nl wf.ok fun H2 y s2 f2 dxy fsy hy ly lyw=>?_⟩
  have fy:H y=none:=none_of s1 f2
  have s02:=s1.trans s2
  obtain⟨o,p,mk,⟨dxs,fss,hx,l1,l2,l3,l4,l5⟩,ho,hp,hmk⟩:=id hS
  try apply Y4
  try refine sN fun _ Y4=>?_
  refine⟨_,rfl,x,d.qc,dxs,fss,_,rfl,s02 _ _ hx,W.qc.cl,W.qP,l1,o,_,rfl, .inl (SqL.of (s02 _ _ ho)),fun q1 hq1=>?_⟩
  have n1:q1≠y:=(kaj hy hq1).symm
  try apply Y4
  try refine sN fun _ Y4=>?_
  refine⟨_,rfl,y,d.qc,dxy,fsy,rfl,kah hq1 _ _ hy,W.qc.cl,W.qP,few (by omega),?_⟩
  have s3:Same H (upd (upd H2 q1 (.lst (S.ow.map iV))) y (.ins d.qc dxy (putF "owners" (.ref q1) fsy))):=kaw fy (s02.trans (kah hq1))
  have e3:(upd (upd H2 q1 (.lst (S.ow.map iV))) y (.ins d.qc dxy (putF "owners" (.ref q1) fsy))) q1=some (.lst (S.ow.map iV)):=by rw[kak n1,kac]
  have y3:(upd (upd H2 q1 (.lst (S.ow.map iV))) y (.ins d.qc dxy (putF "owners" (.ref q1) fsy))) y=some (.ins d.qc dxy (putF "owners" (.ref q1) fsy)):=kac
  have c3:(upd (upd H2 q1 (.lst (S.ow.map iV))) y (.ins d.qc dxy (putF "owners" (.ref q1) fsy))) pc=some (.lst ((cutM Vc ps (kds B) S).1.map V.int)):=by
   rw[kak (kaj h1 f2)]
   try apply Y4
   exact kah hq1 _ _ (s2 _ _ h1)
  have f3:=Uy (kal (f:="owners") (v:=.ref q1) ly) (by decide:11≤20)
  generalize upd (upd H2 q1 (.lst (S.ow.map iV))) y (.ins d.qc dxy (putF "owners" (.ref q1) fsy))=H3 at *
  have emin:min (S.pr.map V.int).length ((cutM Vc ps (kds B) S).1.map V.int).length=S.pr.length:=by rw[Uu,Uu,lcut,JL]
  try apply Y4
  try refine sN fun _ Y4=>?_
  refine⟨_,rfl,x,d.qc,dxs,fss,_,rfl,s3 _ _ hx,W.qc.cl,W.qD,l2,_,rfl,p,pc,_,_,rfl,s3 _ _ hp,c3,
   ke2 (xs:=S.pr.map V.int) (ys:=(cutM Vc ps (kds B) S).1.map V.int) (fun i σ zs H'=>Same H3 H'∧zs=((Jc (· - ·) S.pr (cutM Vc ps (kds B) S).1).take i).map V.int∧∃v0 v1:Option V,σ=[v0,v1])
    ⟨Same.refl _,rfl,none,none,rfl⟩ (by rw[emin];exact UH (kar (by omega))) (fun i σ zs H' hi h=>⟨h.1 _ _ (s3 _ _ hp),h.1 _ _ c3,by rw[h.2.1,Uu,UL,NB,lcut];rw[emin] at hi;omega⟩) ?_ ?_⟩
  ·rintro i y1 y2 t σ zs H4 hy1 hy2 ⟨s4,rfl,v0,v1,rfl⟩ ht
   obtain⟨z1,ez1,rfl⟩:=kbH hy1
   obtain⟨z2,ez2,rfl⟩:=kbH hy2
   try apply Y4
   try refine sN fun _ Y6=>?_
   refine⟨t,_,rfl,SqT.of kac,rfl,_,_,rfl,_,_,rfl,rfl,_,rfl,_,rfl,_,_,rfl,rfl,s4.trans (kah ht),?_,_,_,rfl⟩
   rw[kbY (r:=z1-z2) (by rw[NC,ez1,ez2]),UD]
   rfl
  rintro σ zs H4 ⟨s4,rfl,v0,v1,rfl⟩ q2 hq2
  rw[emin,JF (by rw[NB,lcut];omega)]
  have n2:q2≠y:=(kaj (s4 _ _ y3) hq2).symm
  have n12:q1≠q2:=kaj (s4 _ _ e3) hq2
  have s5:=kah (o:=.lst ((Jc (· - ·) S.pr (cutM Vc ps (kds B) S).1).map V.int)) hq2
  try apply Y4
  try refine sN fun _ Y4=>?_
  refine⟨_,rfl,y,d.qc,dxy,_,rfl,s5 _ _ (s4 _ _ y3),W.qc.cl,W.qD,few f3,?_⟩
  have s6:Same H (upd (upd H4 q2 (.lst ((Jc (· - ·) S.pr (cutM Vc ps (kds B) S).1).map V.int))) y (.ins d.qc dxy (putF "prices" (.ref q2) (putF "owners" (.ref q1) fsy)))):=kaw fy ((s3.trans s4).trans s5) (nx (s5 _ _ (s4 _ _ y3)))
  have e6:(upd (upd H4 q2 (.lst ((Jc (· - ·) S.pr (cutM Vc ps (kds B) S).1).map V.int))) y (.ins d.qc dxy (putF "prices" (.ref q2) (putF "owners" (.ref q1) fsy)))) q1=some (.lst (S.ow.map iV)):=by
   rw[kak n1]
   try apply Y4
   exact s5 _ _ (s4 _ _ e3)
  have p6:(upd (upd H4 q2 (.lst ((Jc (· - ·) S.pr (cutM Vc ps (kds B) S).1).map V.int))) y (.ins d.qc dxy (putF "prices" (.ref q2) (putF "owners" (.ref q1) fsy)))) q2=some (.lst ((Jc (· - ·) S.pr (cutM Vc ps (kds B) S).1).map V.int)):=by rw[kak n2,kac]
  have y6:(upd (upd H4 q2 (.lst ((Jc (· - ·) S.pr (cutM Vc ps (kds B) S).1).map V.int))) y (.ins d.qc dxy (putF "prices" (.ref q2) (putF "owners" (.ref q1) fsy)))) y=some (.ins d.qc dxy (putF "prices" (.ref q2) (putF "owners" (.ref q1) fsy))):=kac
  have c6:(upd (upd H4 q2 (.lst ((Jc (· - ·) S.pr (cutM Vc ps (kds B) S).1).map V.int))) y (.ins d.qc dxy (putF "prices" (.ref q2) (putF "owners" (.ref q1) fsy)))) pc=some (.lst ((cutM Vc ps (kds B) S).1.map V.int)):=by
   rw[kak (kaj h1 f2)]
   try apply Y4
   exact s5 _ _ (s4 _ _ c3)
  have f6:=Uy (kal (f:="prices") (v:=.ref q2) (kal (f:="owners") (v:=.ref q1) ly)) (by decide:12≤20)
  generalize upd (upd H4 q2 (.lst ((Jc (· - ·) S.pr (cutM Vc ps (kds B) S).1).map V.int))) y (.ins d.qc dxy (putF "prices" (.ref q2) (putF "owners" (.ref q1) fsy)))=H6 at *
  try apply Y4
  try refine sN fun _ Y4=>?_
  refine⟨_,rfl,x,d.qc,dxs,fss,_,rfl,s6 _ _ hx,W.qc.cl,W.QH,l3,_,rfl,_,rfl,v,x,Vc,S,rfl,hV.same s6,hS.same s6,_,_,rfl,rfl,?_⟩
  rw[←kk1 (ps:=ps) (kk:=kds B) (S:=S) vo]
  try apply Y4
  try refine sN fun _ Y4=>?_
  refine⟨_,rfl,y,d.qc,dxy,_,rfl,y6,W.qc.cl,W.QH,few f6,?_⟩
  have s7:Same H (upd H6 y (.ins d.qc dxy (putF "carriage" (.int (S.cg-(cutM Vc ps (kds B) S).2)) (putF "prices" (.ref q2) (putF "owners" (.ref q1) fsy))))):=kaw fy s6
  have e7:(upd H6 y (.ins d.qc dxy (putF "carriage" (.int (S.cg-(cutM Vc ps (kds B) S).2)) (putF "prices" (.ref q2) (putF "owners" (.ref q1) fsy))))) q1=some (.lst (S.ow.map iV)):=by rw[kak n1];exact e6
  have p7:(upd H6 y (.ins d.qc dxy (putF "carriage" (.int (S.cg-(cutM Vc ps (kds B) S).2)) (putF "prices" (.ref q2) (putF "owners" (.ref q1) fsy))))) q2=some (.lst ((Jc (· - ·) S.pr (cutM Vc ps (kds B) S).1).map V.int)):=by rw[kak n2];exact p6
  have y7:(upd H6 y (.ins d.qc dxy (putF "carriage" (.int (S.cg-(cutM Vc ps (kds B) S).2)) (putF "prices" (.ref q2) (putF "owners" (.ref q1) fsy))))) y=some (.ins d.qc dxy (putF "carriage" (.int (S.cg-(cutM Vc ps (kds B) S).2)) (putF "prices" (.ref q2) (putF "owners" (.ref q1) fsy)))):=kac
  have c7:(upd H6 y (.ins d.qc dxy (putF "carriage" (.int (S.cg-(cutM Vc ps (kds B) S).2)) (putF "prices" (.ref q2) (putF "owners" (.ref q1) fsy))))) pc=some (.lst ((cutM Vc ps (kds B) S).1.map V.int)):=by rw[kak (kaj h1 f2)];exact c6
  have f7:=Uy (kal (f:="carriage") (v:=.int (S.cg-(cutM Vc ps (kds B) S).2)) (kal (f:="prices") (v:=.ref q2) (kal (f:="owners") (v:=.ref q1) ly))) (by decide:13≤20)
  generalize upd H6 y (.ins d.qc dxy (putF "carriage" (.int (S.cg-(cutM Vc ps (kds B) S).2)) (putF "prices" (.ref q2) (putF "owners" (.ref q1) fsy))))=H7 at *
  try apply Y4
  try refine sN fun _ Y4=>?_
  refine⟨_,rfl,_,rfl,_,rfl,v,x,pc,Vc,S,_,rfl,hV.same s7,hS.same s7,c7,by rw[lcut,lp],np,by rw[wf.lm];exact wf.nl,fun l hl=>?_,fun H8 q3 s8 f8 h8=>?_⟩
  ·obtain⟨i,hi⟩:=JO.mp hl
   rw[wf.lm]
   try apply Y4
   exact wf.line hi
  have n3:q3≠y:=(kaj y7 f8).symm
  try apply Y4
  try refine sN fun _ Y4=>?_
  refine⟨_,rfl,y,d.qc,dxy,_,rfl,s8 _ _ y7,W.qc.cl,W.qW,few f7,?_⟩
  try apply Y4
  try refine sN fun _ Y4=>?_
  refine⟨_,rfl,k _ y (kaw fy (s7.trans s8) (nx (s8 _ _ y7))) fy ⟨q1,q2,q3,⟨dxy,_,kac,?_,?_,?_,?_,?_⟩,?_,?_,?_⟩⟩
  ·(repeat (first|rw[kab,if_pos rfl]|rw[kab,if_neg (by decide +kernel)]))
  ·(repeat (first|rw[kab,if_pos rfl]|rw[kab,if_neg (by decide +kernel)]))
  ·(repeat (first|rw[kab,if_pos rfl]|rw[kab,if_neg (by decide +kernel)]))
   rfl
  ·(repeat (first|rw[kab,if_pos rfl]|rw[kab,if_neg (by decide +kernel)]))
  ·rw[kab,if_neg (by decide +kernel),kab,if_neg (by decide +kernel),kab,if_neg (by decide +kernel),kab,if_neg (by decide +kernel)]
   try apply Y4
   exact lyw
  ·rw[kak n1]
   try apply Y4
   exact s8 _ _ e7
  ·rw[kak n2]
   try apply Y4
   exact s8 _ _ p7
  ·rw[kak n3]
   try apply Y4
   exact h8
inductive kfX (d:D) (vs:List V) (H:Hp) (Q:VK) (E_:XK):Prop
 |ct (H0:Hp) (x dx p vl rl:Addr) (ps vs' rs:List V) (bk:Str) (_:vs=[.ref x, .ref p, .ref vl, .ref rl, .str bk]) (_:H0 x=none) (_:Same H0 H) (_:H x=some (.ins d.qd dx [])) (_:H0 p=some (.lst ps)) (_:H0 vl=some (.lst vs')) (_:H0 rl=some (.lst rs)) (_:∀(H':Hp) (p' vl' rl':Addr) (fs:List (Str×V)),Same H0 H'→H0 p'=none→H0 vl'=none→H0 rl'=none→H' p'=some (.lst ps)→H' vl'=some (.lst vs')→H' rl'=some (.lst rs)→H' x=some (.ins d.qd dx fs)→fs.lookup ("parents" :Str)=some (.ref p')→fs.lookup ("vouchers" :Str)=some (.ref vl')→fs.lookup ("rules" :Str)=some (.ref rl')→fs.lookup ("back" :Str)=some (.str bk)→Q .non H'):kfX d vs H Q E_
theorem kfl:kaq ["self","parents","vouchers","rules","back"] ["self","parents","vouchers","rules","back"] (kag ka6):=⟨rfl,rfl,rfl,by decide +kernel,rfl,by decide +kernel,by decide +kernel⟩
theorem kfv(W:WB K mg d base):FnOk P w K mg base CX0 1 d.Zf d.Q3 ["self","parents","vouchers","rules","back"] (kfX d):=by
 refine FunD.ok W.qZ.F kfl (fun vs H Q E h=>?_) (fun cdv A outer s H vs Q E hr h=>?_)
 ·obtain⟨H0,x,dx,p,vl,rl,ps,vs',rs,bk,rfl,_⟩:=h
  rfl
 ·obtain⟨H0,x,dx,p,vl,rl,ps,vs',rs,bk,rfl,fx,s0,hx,hp,hvl,hrl,k⟩:=h
  refine⟨_,kad (kaL (pv 0) (kaX (r:=kbC K) kaM (by rfl) W.B.list kbI (kaa (pv 1) kae)) rfl)
   (kad (kaL (pv 0) (kaX (r:=kbC K) kaM (by rfl) W.B.list kbI (kaa (pv 2) kae)) rfl)
   (kad (kaL (pv 0) (kaX (r:=kbC K) kaM (by rfl) W.B.list kbI (kaa (pv 3) kae)) rfl)
   (kai (kaL (pv 0) (pv 4) rfl)))),?_⟩
  try refine sN fun _ Y4=>?_
  refine⟨_,rfl,p,_,rfl, .inl (SqL.of (s0 _ _ hp)),fun p' hp'=>?_⟩
  have n1:=kah (o:=.lst ps) hp'
  have fp:=s0.free hp'
  have np:p'≠x:=(kaj hx hp').symm
  have e1:(upd H p' (.lst ps)) p'=some (.lst ps):=kac
  have s1:=s0.trans n1
  have hx1:=n1 _ _ hx
  clear n1
  generalize upd H p' (.lst ps)=H1 at *
  try apply Y4
  try refine sN fun _ Y4=>?_
  refine⟨_,rfl,x,d.qd,dx,[],rfl,hx1,W.qd.cl,W.qR,by decide,?_⟩
  have s2:Same H0 (upd H1 x (.ins d.qd dx (putF "parents" (.ref p') []))):=kaw fx s1 (nx hx1)
  have e2:(upd H1 x (.ins d.qd dx (putF "parents" (.ref p') []))) p'=some (.lst ps):=by rw[kak np];exact e1
  have hx2:(upd H1 x (.ins d.qd dx (putF "parents" (.ref p') []))) x=some (.ins d.qd dx (putF "parents" (.ref p') [])):=kac
  generalize upd H1 x (.ins d.qd dx (putF "parents" (.ref p') []))=H2 at *
  try apply Y4
  try refine sN fun _ Y4=>?_
  refine⟨_,rfl,vl,_,rfl, .inl (SqL.of (s2 _ _ hvl)),fun v' hv'=>?_⟩
  have n3:=kah (o:=.lst vs') hv'
  have fv:=s2.free hv'
  have nv:v'≠x:=(kaj hx2 hv').symm
  have s3:=s2.trans n3
  have e3:=n3 _ _ e2
  have ev3:(upd H2 v' (.lst vs')) v'=some (.lst vs'):=kac
  have hx3:=n3 _ _ hx2
  clear n3
  generalize upd H2 v' (.lst vs')=H3 at *
  try apply Y4
  try refine sN fun _ Y4=>?_
  refine⟨_,rfl,x,d.qd,dx,_,rfl,hx3,W.qd.cl,W.qF,few (Uy (kal (n:=0) (Uw _)) (by decide)),?_⟩
  have s4:Same H0 (upd H3 x (.ins d.qd dx (putF "vouchers" (.ref v') (putF "parents" (.ref p') [])))):=kaw fx s3 (nx hx3)
  have e4:(upd H3 x (.ins d.qd dx (putF "vouchers" (.ref v') (putF "parents" (.ref p') [])))) p'=some (.lst ps):=by rw[kak np];exact e3
  have ev4:(upd H3 x (.ins d.qd dx (putF "vouchers" (.ref v') (putF "parents" (.ref p') [])))) v'=some (.lst vs'):=by rw[kak nv];exact ev3
  have hx4:(upd H3 x (.ins d.qd dx (putF "vouchers" (.ref v') (putF "parents" (.ref p') [])))) x=some (.ins d.qd dx (putF "vouchers" (.ref v') (putF "parents" (.ref p') []))):=kac
  generalize upd H3 x (.ins d.qd dx (putF "vouchers" (.ref v') (putF "parents" (.ref p') [])))=H4 at *
  try apply Y4
  try refine sN fun _ Y4=>?_
  refine⟨_,rfl,rl,_,rfl, .inl (SqL.of (s4 _ _ hrl)),fun r' hr'=>?_⟩
  have n5:=kah (o:=.lst rs) hr'
  have fr:=s4.free hr'
  have nr:r'≠x:=(kaj hx4 hr').symm
  have s5:=s4.trans n5
  have e5:=n5 _ _ e4
  have ev5:=n5 _ _ ev4
  have er5:(upd H4 r' (.lst rs)) r'=some (.lst rs):=kac
  have hx5:=n5 _ _ hx4
  clear n5
  generalize upd H4 r' (.lst rs)=H5 at *
  try apply Y4
  try refine sN fun _ Y4=>?_
  refine⟨_,rfl,x,d.qd,dx,_,rfl,hx5,W.qd.cl,W.qt,few (Uy (kal (kal (n:=0) (Uw _))) (by decide)),?_⟩
  have s6:Same H0 (upd H5 x (.ins d.qd dx (putF "rules" (.ref r') (putF "vouchers" (.ref v') (putF "parents" (.ref p') []))))):=kaw fx s5 (nx hx5)
  have hx6:(upd H5 x (.ins d.qd dx (putF "rules" (.ref r') (putF "vouchers" (.ref v') (putF "parents" (.ref p') []))))) x=some (.ins d.qd dx (putF "rules" (.ref r') (putF "vouchers" (.ref v') (putF "parents" (.ref p') [])))):=kac
  try apply Y4
  try refine sN fun _ Y4=>?_
  refine⟨_,rfl,_,rfl,x,d.qd,dx,_,rfl,hx6,W.qd.cl,W.ZH,few (Uy (kal (kal (kal (n:=0) (Uw _)))) (by decide)),?_⟩
  try apply Y4
  refine k _ p' v' r' _ (kaw fx s6 (nx hx6)) fp fv fr ?_ ?_ ?_ kac ?_ ?_ ?_ ?_
  ·rw[kak np,kak np];exact e5
  ·rw[kak nv,kak nv];exact ev5
  ·rw[kak nr,kak nr];exact er5
  ·(repeat (first|rw[kab,if_pos rfl]|rw[kab,if_neg (by decide +kernel)]))
  ·(repeat (first|rw[kab,if_pos rfl]|rw[kab,if_neg (by decide +kernel)]))
  ·(repeat (first|rw[kab,if_pos rfl]|rw[kab,if_neg (by decide +kernel)]))
  ·(repeat (first|rw[kab,if_pos rfl]|rw[kab,if_neg (by decide +kernel)]))
theorem kge{d:D}{H:Hp}{p vl rl:Addr}{T:TillD}{va ra:List Addr}{R:Addr→Hp→Prop}{E:XK}(hp:H p=some (.lst (T.ps.map pV)))(hvl:H vl=some (.lst (va.map V.ref)))(hv:P2 (fun a V=>VchIs d H a V) va T.vs)(hrl:H rl=some (.lst (ra.map V.ref)))(hr:P2 (fun a r=>RulIs H a r) ra T.rs)
  (k:∀(H':Hp) (x:Addr),Same H H'→H x=none→TillIs d H' x T→R x H'):
  ∀x dx,H x=none→H dx=none→dx≠x→kfX d [.ref x, .ref p, .ref vl, .ref rl, .str T.bk] (upd (upd H dx (.own x)) x (.ins d.qd dx [])) (fun v H2=>v=.non∧R x H2) E:=
 fun x dx nx nd _=>⟨H,x,dx,p,vl,rl,_,_,_,_,rfl,nx,kbh nx nd,kac,hp,hvl,hrl,fun H' p' vl' rl' fs s f1 f2 f3 h1 h2 h3 hx l1 l2 l3 l4=>⟨rfl,k H' x s nx ⟨dx,fs,p',vl',rl',va,ra,hx,l1,l2,l3,l4,h1,h2,hv.mono fun a V h=>h.same s,h3,hr.mono fun a r h=>s _ _ h⟩⟩⟩
inductive kfY (f:List Rul→List Nat→Nat→Bool) (vs:List V) (H:Hp) (Q:VK) (E_:XK):Prop
 |ct (rl u:Addr) (ra:List Addr) (rs:List Rul) (used:List Nat) (n:Nat) (_:vs=[.ref rl, .ref u,iV n]) (_:H rl=some (.lst (ra.map V.ref))) (_:P2 (fun a r=>RulIs H a r) ra rs) (_:H u=some (.lst (used.map iV))) (_:Q (.bl (f rs used n)) H):kfY f vs H Q E_
theorem ki6{f:Rul→Bool}{rs:List Rul}{i:Nat}{r:Rul}(e:rs[i]?=some r)(h:f r=true):rs.any f=true:=NI.mpr ⟨r,UE e,h⟩
theorem kkv{f:Rul→Bool}{rs:List Rul}{n:Nat}(hn:n=rs.length)(h:∀r∈rs.take n,f r=false):rs.any f=false:=by
 rw[hn,UY] at h
 cases e:rs.any f with
 |false=>rfl
 |true=>
  obtain⟨r,hr,e2⟩:=NI.mp e
  rw[h r hr] at e2
  cases e2
theorem kbo{f:Rul→Bool}{rs:List Rul}{i:Nat}{r:Rul}(e:rs[i]?=some r)(h:∀q∈rs.take i,f q=false)(hr:f r=false):∀q∈rs.take (i+1),f q=false:=fun q hq=>by
 rw[Jx,e] at hq
 rcases Jd.mp hq with z|z
 ·exact h q z
 ·have e2:q=r:=by simpa using z
  rw[e2]
  exact hr
theorem QN:kaq ["rules","used","number","word","one","other"] ["rules","used","number"] (kag kbZ):=⟨rfl,rfl,rfl,by decide +kernel,rfl,by decide +kernel,by decide +kernel⟩
theorem kdV(W:WB K mg d base):FnOk P w K mg base CX0 1 d.Yk d.Yl ["rules","used","number"] (kfY kce):=by
 refine FunD.ok W.Qr.F QN (fun vs H Q E h=>?_) (fun cdv A outer s H vs Q E hr h=>?_)
 ·obtain⟨rl,u,ra,rs,used,n,rfl,_⟩:=h
  rfl
 ·obtain⟨rl,u,ra,rs,used,n,rfl,hrl,hr,hu,k⟩:=h
  refine⟨_,kad (kbk PassesOwn.never rfl (kaH (K:=K) (pv 0)) (kbm (K:=K) (n:=3) rfl (kay (kap (i:=3) QN.nd rfl (Or.inl rfl)) (kay (kap (i:=4) QN.nd rfl (Or.inl rfl)) (kay (kap (i:=5) QN.nd rfl (Or.inl rfl)) kbl))))
   (kai (ps_if (PW.pt (kbP (kat op_eq (pv 3) kaP (kax _)) (kbD (PW.pt (pw_or (PW.pt (kbP (kat op_eq (pv 4) (pv 2) (kax _)) (kbD (kat kbn (pv 5) (pv 1) (by with_unfolding_all rfl))))) (kh9 (PW.pt (kbP (kat op_eq (pv 5) (pv 2) (kax _)) (kbD (kat kbn (pv 4) (pv 1) (by with_unfolding_all rfl))))))))))) (kai (kao pe_bl)) (kau))))
   (kai (kao pe_bl)),?_⟩
  refine⟨_,rfl,rl,rfl,⟨_,SqL.of hrl⟩,kbq (xs:=ra.map V.ref) (fun i σ H'=>H'=H∧(∀r∈rs.take i,nevR used n r=false)∧∃v3 v4 v5:Option V,σ=[some (.ref rl),some (.ref u),some (iV n),v3,v4,v5])
   ⟨rfl,(fun r hr=>by simp at hr),none,none,none,rfl⟩ (fun i σ H' _ h=>by rw[h.1];exact SqL.of hrl) ?_ ?_⟩
  ·rintro i y σ H' hy ⟨rfl,hno,v3,v4,v5,rfl⟩
   obtain⟨a,ea,rfl⟩:=kbG hy
   obtain⟨r,er,hra⟩:=hr.at ea
   have yes:nevR used n r=true→Q (.bl true) H':=fun e=>by
    have z:=ki6 (f:=nevR used n) er e
    unfold kce at k
    rw[z] at k
    exact k
   refine⟨a,_,rfl,SqT.of hra,rfl,_,_,rfl,_,_,rfl,_,_,rfl,rfl,?_⟩
   refine⟨_,rfl,rfl,_,rfl,?_⟩
   show if decide (V.str r.w=V.str "never")=true then _ else _
   rw[eq_str]
   by_cases hw:r.w=("never" :Str)
   ·rw [decide_eq_true hw]
    refine iteT ⟨_,rfl,_,rfl,rfl,_,rfl,?_⟩
    show if decide (iV r.a=iV n)=true then _ else _
    rw[kfF]
    by_cases ha:r.a=n
    ·rw[decide_eq_true ha]
     refine iteT ⟨_,rfl,_,rfl,u,_,rfl, .inl (SqL.of hu),rfl,kbS _,_,rfl,?_⟩
     rw[if_neg UA,kbR]
     cases hb:used.contains r.b with
     |true=>exact iteT (iteT (yes (by unfold nevR;rw[decide_eq_true hw,decide_eq_true ha,hb];rfl)))
     | false=>
      refine iteF ⟨_,rfl,_,rfl,rfl,_,rfl,?_⟩
      show if decide (iV r.b=iV n)=true then _ else _
      rw[kfF]
      by_cases hc:r.b=n
      ·rw[decide_eq_true hc]
       refine iteT ⟨_,rfl,_,rfl,u,_,rfl, .inl (SqL.of hu),rfl,kbS _,_,rfl,?_⟩
       rw[if_neg UA,kbR]
       cases hd:used.contains r.a with
       |true=>exact iteT (yes (by unfold nevR;rw[decide_eq_true hw,decide_eq_true ha,hb,decide_eq_true hc,hd];rfl))
       |false=>exact iteF ⟨rfl,kbo er hno (by unfold nevR;rw[decide_eq_true hw,decide_eq_true ha,hb,decide_eq_true hc,hd];rfl),_,_,_,rfl⟩
      ·rw[decide_eq_false hc]
       exact iteF (iteF ⟨rfl,kbo er hno (by unfold nevR;rw[decide_eq_true hw,decide_eq_true ha,hb,decide_eq_false hc];rfl),_,_,_,rfl⟩)
    ·rw[decide_eq_false ha]
     refine iteF (iteF ⟨_,rfl,_,rfl,rfl,_,rfl,?_⟩)
     show if decide (iV r.b=iV n)=true then _ else _
     rw[kfF]
     by_cases hc:r.b=n
     ·rw[decide_eq_true hc]
      refine iteT ⟨_,rfl,_,rfl,u,_,rfl, .inl (SqL.of hu),rfl,kbS _,_,rfl,?_⟩
      rw[if_neg UA,kbR]
      cases hd:used.contains r.a with
      |true=>exact iteT (yes (by unfold nevR;rw[decide_eq_true hw,decide_eq_false ha,decide_eq_true hc,hd];rfl))
      |false=>exact iteF ⟨rfl,kbo er hno (by unfold nevR;rw[decide_eq_true hw,decide_eq_false ha,decide_eq_true hc,hd];rfl),_,_,_,rfl⟩
     ·rw[decide_eq_false hc]
      exact iteF (iteF ⟨rfl,kbo er hno (by unfold nevR;rw[decide_eq_true hw,decide_eq_false ha,decide_eq_false hc];rfl),_,_,_,rfl⟩)
   ·rw[decide_eq_false hw]
    refine iteF (iteF ⟨rfl,kbo er hno ?_,_,_,_,rfl⟩)
    unfold nevR
    rw[decide_eq_false hw]
    rfl
  ·rintro σ H' ⟨rfl,hno,v3,v4,v5,rfl⟩
   have z:=kkv (by rw[Uu];exact hr.len) hno
   unfold kce at k
   rw[z] at k
   exact k
theorem QO:kaq ["rules","used","number","word","one","other"] ["rules","used","number"] (kag kb0):=⟨rfl,rfl,rfl,by decide +kernel,rfl,by decide +kernel,by decide +kernel⟩
theorem kdW(W:WB K mg d base):FnOk P w K mg base CX0 1 d.Ym d.Yn ["rules","used","number"] (kfY kcg):=by
 refine FunD.ok W.Qs.F QO (fun vs H Q E h=>?_) (fun cdv A outer s H vs Q E hr h=>?_)
 ·obtain⟨rl,u,ra,rs,used,n,rfl,_⟩:=h
  rfl
 ·obtain⟨rl,u,ra,rs,used,n,rfl,hrl,hr,hu,k⟩:=h
  refine⟨_,kad (kbk PassesOwn.never rfl (kaH (K:=K) (pv 0)) (kbm (K:=K) (n:=3) rfl (kay (kap (i:=3) QO.nd rfl (Or.inl rfl)) (kay (kap (i:=4) QO.nd rfl (Or.inl rfl)) (kay (kap (i:=5) QO.nd rfl (Or.inl rfl)) kbl))))
   (kai (ps_if (PW.pt (kbP (kat op_eq (pv 3) kaP (kax _)) (kbP (kat op_eq (pv 4) (pv 2) (kax _)) (kbD (kat kbn (pv 5) (pv 1) (by with_unfolding_all rfl)))))) (kai (kao pe_bl)) (kau))))
   (kai (kao pe_bl)),?_⟩
  refine⟨_,rfl,rl,rfl,⟨_,SqL.of hrl⟩,kbq (xs:=ra.map V.ref) (fun i σ H'=>H'=H∧(∀r∈rs.take i,ahdR used n r=false)∧∃v3 v4 v5:Option V,σ=[some (.ref rl),some (.ref u),some (iV n),v3,v4,v5])
   ⟨rfl,(fun r hr=>by simp at hr),none,none,none,rfl⟩ (fun i σ H' _ h=>by rw[h.1];exact SqL.of hrl) ?_ ?_⟩
  ·rintro i y σ H' hy ⟨rfl,hno,v3,v4,v5,rfl⟩
   obtain⟨a,ea,rfl⟩:=kbG hy
   obtain⟨r,er,hra⟩:=hr.at ea
   have yes:ahdR used n r=true→Q (.bl true) H':=fun e=>by
    have z:=ki6 (f:=ahdR used n) er e
    unfold kcg at k
    rw[z] at k
    exact k
   refine⟨a,_,rfl,SqT.of hra,rfl,_,_,rfl,_,_,rfl,_,_,rfl,rfl,?_⟩
   refine⟨_,rfl,rfl,_,rfl,?_⟩
   show if decide (V.str r.w=V.str "ahead")=true then _ else _
   rw[eq_str]
   by_cases hw:r.w=("ahead" :Str)
   ·rw[decide_eq_true hw]
    refine iteT ⟨_,rfl,_,rfl,rfl,_,rfl,?_⟩
    show if decide (iV r.a=iV n)=true then _ else _
    rw[kfF]
    by_cases ha:r.a=n
    ·rw[decide_eq_true ha]
     refine iteT ⟨_,rfl,_,rfl,u,_,rfl, .inl (SqL.of hu),rfl,kbS _,_,rfl,?_⟩
     rw[if_neg UA,kbR]
     cases hb:used.contains r.b with
     |true=>exact iteT (yes (by unfold ahdR;rw[decide_eq_true hw,decide_eq_true ha,hb];rfl))
     |false=>exact iteF ⟨rfl,kbo er hno (by unfold ahdR;rw[decide_eq_true hw,decide_eq_true ha,hb];rfl),_,_,_,rfl⟩
    ·rw[decide_eq_false ha]
     exact iteF (iteF ⟨rfl,kbo er hno (by unfold ahdR;rw[decide_eq_true hw,decide_eq_false ha];rfl),_,_,_,rfl⟩)
   ·rw[decide_eq_false hw]
    refine iteF (iteF ⟨rfl,kbo er hno ?_,_,_,_,rfl⟩)
    unfold ahdR
    rw[decide_eq_false hw]
    rfl
  ·rintro σ H' ⟨rfl,hno,v3,v4,v5,rfl⟩
   have z:=kkv (by rw[Uu];exact hr.len) hno
   unfold kcg at k
   rw[z] at k
   exact k
inductive kff (vs:List V) (H:Hp) (Q:VK) (E_:XK):Prop
 |ct (rl u:Addr) (ra:List Addr) (rs:List Rul) (order:List Nat) (_:vs=[.ref rl, .ref u]) (_:H rl=some (.lst (ra.map V.ref))) (_:P2 (fun a r=>RulIs H a r) ra rs) (_:H u=some (.lst (order.map iV))) (_:Q (pV (onlyM rs order)) H):kff vs H Q E_
theorem ke0{f:Rul→Bool}:∀{rs:List Rul} {i:Nat} {r:Rul},rs[i]?=some r→f r=true→(∀q∈rs.take i,f q=false)→rs.find? f=some r
 |[],i,r,e,_,_=>by simp at e
 |q::rs,0,r,e,h,_=>by
  have e2:q=r:=by simpa using e
  subst e2
  simp[h]
 |q::rs,i+1,r,e,h,hno=>by
  have h1:=hno q (by simp)
  rw[J9 (by rw[h1];simp)]
  exact ke0 (by simpa using e) h fun z hz=>hno z (by simp[hz])
theorem kiJ{f:Rul→Bool}{rs:List Rul}{n:Nat}(hn:n=rs.length)(h:∀r∈rs.take n,f r=false):rs.find? f=none:=by
 rw[hn,UY] at h
 exact List.find?_eq_none.mpr fun r hr=>by rw[h r hr];simp
theorem QP:kaq ["rules","order","word","one","other"] ["rules","order"] (kag kbs):=⟨rfl,rfl,rfl,by decide +kernel,rfl,by decide +kernel,by decide +kernel⟩
theorem kcR(W:WB K mg d base):FnOk P w K mg base CX0 1 d.Yo d.Yp ["rules","order"] kff:=by
 refine FunD.ok W.Qt.F QP (fun vs H Q E h=>?_) (fun cdv A outer s H vs Q E hr h=>?_)
 ·obtain⟨rl,u,ra,rs,order,rfl,_⟩:=h
  rfl
 ·obtain⟨rl,u,ra,rs,order,rfl,hrl,hr,hu,k⟩:=h
  refine⟨_,kad (kbk PassesOwn.never rfl (kaH (K:=K) (pv 0)) (kbm (K:=K) (n:=3) rfl (kay (kap (i:=2) QP.nd rfl (Or.inl rfl)) (kay (kap (i:=3) QP.nd rfl (Or.inl rfl)) (kay (kap (i:=4) QP.nd rfl (Or.inl rfl)) kbl))))
   (kai (ps_if (PW.pt (kbP (kat op_eq (pv 2) kaP (kax _)) (kbP (kat kbn (pv 3) (pv 1) (by with_unfolding_all rfl)) (kbD (kat kdj (pv 4) (pv 1) (by with_unfolding_all rfl)))))) (kai (kao (pv 3))) (kau))))
   (kai (kao kaV)),?_⟩
  refine⟨_,rfl,rl,rfl,⟨_,SqL.of hrl⟩,kbq (xs:=ra.map V.ref) (fun i σ H'=>H'=H∧(∀r∈rs.take i,loneM order r=false)∧∃v3 v4 v5:Option V,σ=[some (.ref rl),some (.ref u),v3,v4,v5])
   ⟨rfl,(fun r hr=>by simp at hr),none,none,none,rfl⟩ (fun i σ H' _ h=>by rw[h.1];exact SqL.of hrl) ?_ ?_⟩
  ·rintro i y σ H' hy ⟨rfl,hno,v3,v4,v5,rfl⟩
   obtain⟨a,ea,rfl⟩:=kbG hy
   obtain⟨r,er,hra⟩:=hr.at ea
   refine⟨a,_,rfl,SqT.of hra,rfl,_,_,rfl,_,_,rfl,_,_,rfl,rfl,?_⟩
   refine⟨_,rfl,rfl,_,rfl,?_⟩
   show if decide (V.str r.w=V.str "only")=true then _ else _
   rw[eq_str]
   by_cases hw:r.w=("only" :Str)
   ·rw[decide_eq_true hw]
    refine iteT ⟨_,rfl,_,rfl,u,_,rfl, .inl (SqL.of hu),rfl,kbS _,_,rfl,?_⟩
    rw[if_neg UA,kbR]
    cases ha:order.contains r.a with
    | true=>
     refine iteT ⟨_,rfl,_,rfl,u,_,rfl, .inl (SqL.of hu),rfl,kbS _,_,rfl,?_⟩
     rw[if_pos rfl,kbR]
     cases hb:order.contains r.b with
     |true=>exact iteF ⟨rfl,kbo er hno (by unfold loneM;rw[decide_eq_true hw,ha,hb];rfl),_,_,_,rfl⟩
     |false=>
      refine iteT ⟨_,rfl,?_⟩
      have z:=ke0 (f:=loneM order) er (by unfold loneM;rw[decide_eq_true hw,ha,hb];rfl) hno
      unfold onlyM at k
      rw[z] at k
      exact k
    |false=>exact iteF (iteF ⟨rfl,kbo er hno (by unfold loneM;rw[decide_eq_true hw,ha];rfl),_,_,_,rfl⟩)
   ·rw[decide_eq_false hw]
    refine iteF (iteF ⟨rfl,kbo er hno ?_,_,_,_,rfl⟩)
    unfold loneM
    rw[decide_eq_false hw]
    rfl
  ·rintro σ H' ⟨rfl,hno,v3,v4,v5,rfl⟩
   have z:=kiJ (by rw[Uu];exact hr.len) hno
   unfold onlyM at k
   rw[z] at k
   exact k
inductive kgw (d:D) (vs:List V) (H:Hp) (Q:VK) (E_:XK):Prop
 |ct (t h u:Addr) (T:TillD) (hand:List Int) (used:List Nat) (n:Nat) (V:Vch) (_:vs=[.ref t, .ref h, .ref u,iV n]) (_:TillIs d H t T) (_:H h=some (.lst (hand.map L2.V.int))) (_:H u=some (.lst (used.map iV))) (_:T.vs[n]?=some V) (_:hand.length=T.vs.length) (_:Q (sV (wordM V T.rs hand used n)) H):kgw d vs H Q E_
theorem kdr:kaq ["till","hand","used","number"] ["till","hand","used","number"] (kag kbK):=⟨rfl,rfl,rfl,by decide +kernel,rfl,by decide +kernel,by decide +kernel⟩
theorem kdx(W:WB K mg d base):FnOk P w K mg base CX0 2 d.Yi d.Yj ["till","hand","used","number"] (kgw d):=by
 refine FunD.ok W.Qq.F kdr (fun vs H Q E h=>?_) (fun cdv A outer s H vs Q E hr h=>?_)
 ·obtain⟨t,h,u,T,hand,used,n,V,rfl,_⟩:=h
  rfl
 ·obtain⟨t,h,u,T,hand,used,n,Vc,rfl,hT,hh,hu,hn,hl,k⟩:=h
  obtain⟨dx,fs,p,vl,rl,va,ra,ht,t1,t2,t3,t4,hp,hvl,hva,hrl,hra⟩:=hT
  have Vl:=kdV (P:=P) (w:=w) (base:=base) W
  have Vm:=kdW (P:=P) (w:=w) (base:=base) W
  refine⟨_,kad (ps_if (kat op_gt (pe_op kbr (pe_bm Jk PySem.F.slot_list_count PySem.F.type_list_count kjv (pv 2) (kaa (pv 3) kae)) kaf) (pe_ix (r:=rIxL K) kaC (pv 1) (pv 3) (fun _ _=>rfl)) (kax _)) (kai (kao kaP)) (kau))
   (kad (ps_if (PW.pt (kbP (ka5 (kam (K:=K) (kam (K:=K) (pe_ix (r:=rIxL K) kaC (kam (K:=K) (pv 0) rfl) (pv 3) (fun _ _=>rfl)) rfl) rfl)) (kbD (kat kbn (pv 3) (pv 2) (by with_unfolding_all rfl))))) (kai (kao kaP)) (kau))
   (kad (ps_if (ka5 (kan Vl hr rfl W.Qr.m W.Qr.F.kp W.Qr.b .nil pass0 (kaa (kam (K:=K) (pv 0) rfl) (kaa (pv 2) (kaa (pv 3) kae))))) (kai (kao kaP)) (kau))
   (kad (ps_if (ka5 (kan Vm hr rfl W.Qs.m W.Qs.F.kp W.Qs.b .nil pass0 (kaa (kam (K:=K) (pv 0) rfl) (kaa (pv 2) (kaa (pv 3) kae))))) (kai (kao kaP)) (kau))
   (kai (kao kaV))))),?_⟩
  obtain⟨v,ev⟩:=at_of (xs:=va) (i:=n) (by rw[hva.len];exact at_lt hn)
  obtain⟨Vc',eV',hV⟩:=hva.at ev
  rw[hn] at eV'
  cases eV'
  obtain⟨mA,dxv,fsv,hv,lvm,_,⟨dxm,fsm,hm,m1,m2,m3,m4,m5,m6⟩,hh',_⟩:=id hV
  obtain⟨z,ez⟩:=at_of (xs:=hand) (i:=n) (by rw[hl];exact at_lt hn)
  have eu:H u=some (.lst ((used.map fun(i:Nat)=>(i:Int)).map V.int)):=by rw[hu,UU];rfl
  have eg:hand.getD n 0=z:=by rw[UP,ez];rfl
  refine⟨_,rfl, .inl ⟨rfl,_,SqL.of hu⟩,_,rfl,u,_,_,rfl,rfl,eu,_,_,rfl,rfl,_,rfl,_,rfl,h,_,_,_,rfl,rfl,SqL.of hh,kaY (v:=.int z) (by rw[UF,ez];rfl),_,_,rfl,rfl,_,rfl,?_⟩
  rw[kk5]
  unfold wordM at k
  rw[eg] at k
  by_cases c1:z<(used.count n:Int)+1
  ·rw[if_pos c1] at k
   rw[show decide ((used.count n:Int)+1 > z)=true from decide_eq_true c1]
   exact iteT k
  rw[if_neg c1] at k
  rw[show decide ((used.count n:Int)+1 > z)=false from decide_eq_false c1]
  refine iteF ?_
  refine⟨_,rfl,t,d.qd,dx,fs,_,rfl,ht,W.qd.cl,W.qF,t2,_,rfl,vl,_,_,_,rfl,rfl,SqL.of hvl,kaY (v:=.ref v) (by rw[UF,ev];rfl),v,clsOf d Vc.so,dxv,fsv,_,rfl,hv,cl_of W hh',na_of W hh',lvm,mA,d.qe,dxm,fsm,_,rfl,hm,W.qe.cl,W.Q5,m5,Vc.ms.once,rfl,?_⟩
  cases ho:Vc.ms.once with
  | true=>
   rw[ho,N8] at k
   refine iteT ⟨_,rfl,_,rfl,u,_,rfl, .inl (SqL.of hu),rfl,kbS _,_,rfl,?_⟩
   rw[if_neg UA,kbR]
   cases hc:used.contains n with
   |true=>
    rw[hc,if_pos rfl] at k
    exact iteT k
   | false=>
    rw[hc,if_neg UA] at k
    refine iteF ?_
    refine⟨_,rfl,t,d.qd,dx,fs,_,rfl,ht,W.qd.cl,W.qt,t3,_,rfl,_,rfl,rl,u,ra,T.rs,used,n,rfl,hrl,hra,hu,_,rfl,?_⟩
    cases h1:kce T.rs used n with
    |true=>
     rw[h1,if_pos rfl] at k
     exact iteT k
    | false=>
     rw[h1,if_neg UA] at k
     refine iteF ⟨_,rfl,t,d.qd,dx,fs,_,rfl,ht,W.qd.cl,W.qt,t3,_,rfl,_,rfl,rl,u,ra,T.rs,used,n,rfl,hrl,hra,hu,_,rfl,?_⟩
     cases h2:kcg T.rs used n with
     |true=>
      rw[h2,if_pos rfl] at k
      exact iteT k
     |false=>
      rw[h2,if_neg UA] at k
      exact iteF k
  | false=>
   rw[ho,Nc,if_neg UA] at k
   refine iteF (iteF ?_)
   refine⟨_,rfl,t,d.qd,dx,fs,_,rfl,ht,W.qd.cl,W.qt,t3,_,rfl,_,rfl,rl,u,ra,T.rs,used,n,rfl,hrl,hra,hu,_,rfl,?_⟩
   cases h1:kce T.rs used n with
   |true=>
    rw[h1,if_pos rfl] at k
    exact iteT k
   | false=>
    rw[h1,if_neg UA] at k
    refine iteF ⟨_,rfl,t,d.qd,dx,fs,_,rfl,ht,W.qd.cl,W.qt,t3,_,rfl,_,rfl,rl,u,ra,T.rs,used,n,rfl,hrl,hra,hu,_,rfl,?_⟩
    cases h2:kcg T.rs used n with
    |true=>
     rw[h2,if_pos rfl] at k
     exact iteT k
    |false=>
     rw[h2,if_neg UA] at k
     exact iteF k
inductive khK (d:D) (vs:List V) (H:Hp) (Q:VK) (E_:XK):Prop
 |ct (H0:Hp) (w dx t b h:Addr) (hand:List Int) (B:Bask) (_:vs=[.ref w, .ref t, .ref b, .ref h]) (_:H0 w=none) (_:Same H0 H) (_:H w=some (.ins d.c_Way dx [])) (_:H0 h=some (.lst (hand.map V.int))) (_:BaskIs d.qf d.qg H0 b B) (_:B.rs.length≤12) (_:(∀r∈B.rs,r.Ok)) (_:∀(H':Hp) (x:Addr),Same H0 H'→H0 x=none→WayAt d 5 H' w t b x hand []→StndIs d.qc H' x (stnd0 B)→Q .non H'):khK d vs H Q E_
theorem kf2:kaq ["self","till","basket","hand"] ["self","till","basket","hand"] (kag kc6):=⟨rfl,rfl,rfl,by decide +kernel,rfl,by decide +kernel,by decide +kernel⟩
theorem kdZ(W:WB K mg d base):FnOk P w K mg base CX0 4 d.Y5 d.Y7 ["self","till","basket","hand"] (khK d):=by
 refine FunD.ok W.qX.F kf2 (fun vs H Q E h=>?_) (fun cdv A outer s H vs Q E hr h=>?_)
 ·obtain⟨H0,wy,dx,t,b,h,hand,B,rfl,_⟩:=h
  rfl
 ·obtain⟨H0,wy,dx,t,b,h,hand,B,rfl,fw,s0,hw,hh,hb,hB,hok,k⟩:=h
  have Qc:=kbF (P:=P) (w:=w) (base:=base) W
  refine⟨_,kad (kaL (pv 0) (pv 1) rfl)
   (kad (kaL (pv 0) (pv 2) rfl)
   (kad (kaL (pv 0) (kaX (r:=kbC K) kaM (by rfl) W.B.list kbI (kaa (pv 3) kae)) rfl)
   (kad (kaL (pv 0) (kaI kae) rfl)
   (kai (kaL (pv 0) (kbe (W.qQ.mk' W.qc) Qc hr rfl W.qc.m W.qQ.b .nil pass0 (kaa (pv 2) kae)) rfl))))),?_⟩
  try refine sN fun _ Y4=>?_
  refine⟨_,rfl,_,rfl,wy,d.c_Way,dx,[],rfl,hw,W.c_Way.cl,W.qE,by decide,?_⟩
  have s1:Same H0 (upd H wy (.ins d.c_Way dx (putF "till" (.ref t) []))):=kaw fw s0 (nx hw)
  have hw1:(upd H wy (.ins d.c_Way dx (putF "till" (.ref t) []))) wy=some (.ins d.c_Way dx (putF "till" (.ref t) [])):=kac
  generalize upd H wy (.ins d.c_Way dx (putF "till" (.ref t) []))=H1 at *
  try apply Y4
  try refine sN fun _ Y4=>?_
  refine⟨_,rfl,_,rfl,wy,d.c_Way,dx,_,rfl,hw1,W.c_Way.cl,W.QI,few (Uy (kal (n:=0) (Uw _)) (by decide)),?_⟩
  have s2:Same H0 (upd H1 wy (.ins d.c_Way dx (putF "basket" (.ref b) (putF "till" (.ref t) [])))):=kaw fw s1 (nx hw1)
  have hw2:(upd H1 wy (.ins d.c_Way dx (putF "basket" (.ref b) (putF "till" (.ref t) [])))) wy=some (.ins d.c_Way dx (putF "basket" (.ref b) (putF "till" (.ref t) []))):=kac
  generalize upd H1 wy (.ins d.c_Way dx (putF "basket" (.ref b) (putF "till" (.ref t) [])))=H2 at *
  try apply Y4
  try refine sN fun _ Y4=>?_
  refine⟨_,rfl,h,_,rfl, .inl (SqL.of (s2 _ _ hh)),fun h' hh'=>?_⟩
  have n3:=kah (o:=.lst (hand.map V.int)) hh'
  have nh:h'≠wy:=(kaj hw2 hh').symm
  have s3:=s2.trans n3
  have e3:(upd H2 h' (.lst (hand.map V.int))) h'=some (.lst (hand.map V.int)):=kac
  have hw3:=n3 _ _ hw2
  clear n3
  generalize upd H2 h' (.lst (hand.map V.int))=H3 at *
  try apply Y4
  try refine sN fun _ Y4=>?_
  refine⟨_,rfl,wy,d.c_Way,dx,_,rfl,hw3,W.c_Way.cl,W.Xk,few (Uy (kal (kal (n:=0) (Uw _))) (by decide)),?_⟩
  have s4:Same H0 (upd H3 wy (.ins d.c_Way dx (putF "hand" (.ref h') (putF "basket" (.ref b) (putF "till" (.ref t) []))))):=kaw fw s3 (nx hw3)
  have e4:(upd H3 wy (.ins d.c_Way dx (putF "hand" (.ref h') (putF "basket" (.ref b) (putF "till" (.ref t) []))))) h'=some (.lst (hand.map V.int)):=by rw[kak nh];exact e3
  have hw4:(upd H3 wy (.ins d.c_Way dx (putF "hand" (.ref h') (putF "basket" (.ref b) (putF "till" (.ref t) []))))) wy=some (.ins d.c_Way dx (putF "hand" (.ref h') (putF "basket" (.ref b) (putF "till" (.ref t) [])))):=kac
  generalize upd H3 wy (.ins d.c_Way dx (putF "hand" (.ref h') (putF "basket" (.ref b) (putF "till" (.ref t) []))))=H4 at *
  try apply Y4
  try refine sN fun _ Y4=>?_
  refine⟨by decide,fun u hu=>?_⟩
  have n5:=kah (o:=.lst []) hu
  have nu:u≠wy:=(kaj hw4 hu).symm
  have s5:=s4.trans n5
  have e5:=n5 _ _ e4
  have eu5:(upd H4 u (.lst [])) u=some (.lst (([]:List Nat).map iV)):=kac
  have hw5:=n5 _ _ hw4
  clear n5
  generalize upd H4 u (.lst [])=H5 at *
  try apply Y4
  try refine sN fun _ Y4=>?_
  refine⟨_,rfl,wy,d.c_Way,dx,_,rfl,hw5,W.c_Way.cl,W.qS,few (Uy (kal (kal (kal (n:=0) (Uw _)))) (by decide)),?_⟩
  have s6:Same H0 (upd H5 wy (.ins d.c_Way dx (putF "used" (.ref u) (putF "hand" (.ref h') (putF "basket" (.ref b) (putF "till" (.ref t) [])))))):=kaw fw s5 (nx hw5)
  have e6:(upd H5 wy (.ins d.c_Way dx (putF "used" (.ref u) (putF "hand" (.ref h') (putF "basket" (.ref b) (putF "till" (.ref t) [])))))) h'=some (.lst (hand.map V.int)):=by rw[kak nh];exact e5
  have eu6:(upd H5 wy (.ins d.c_Way dx (putF "used" (.ref u) (putF "hand" (.ref h') (putF "basket" (.ref b) (putF "till" (.ref t) [])))))) u=some (.lst (([]:List Nat).map iV)):=by rw[kak nu];exact eu5
  have hw6:(upd H5 wy (.ins d.c_Way dx (putF "used" (.ref u) (putF "hand" (.ref h') (putF "basket" (.ref b) (putF "till" (.ref t) [])))))) wy=some (.ins d.c_Way dx (putF "used" (.ref u) (putF "hand" (.ref h') (putF "basket" (.ref b) (putF "till" (.ref t) []))))):=kac
  generalize upd H5 wy (.ins d.c_Way dx (putF "used" (.ref u) (putF "hand" (.ref h') (putF "basket" (.ref b) (putF "till" (.ref t) [])))))=H6 at *
  try apply Y4
  try refine sN fun _ Y4=>?_
  refine⟨_,rfl,kim (hb.same s6) hB hok fun H7 x s7 f7 hx=>?_⟩
  have hw7:=s7 _ _ hw6
  have fx:H0 x=none:=s6.free f7
  have nxw:x≠wy:=(kaj hw6 f7).symm
  try apply Y4
  try refine sN fun _ Y4=>?_
  refine⟨_,rfl,wy,d.c_Way,dx,_,rfl,hw7,W.c_Way.cl,W.QJ,few (Uy (kal (kal (kal (kal (n:=0) (Uw _))))) (by decide)),?_⟩
  try apply Y4
  refine k _ x (kaw fw (s6.trans s7) (nx hw7)) fx ⟨dx,_,h',u,kac,?_,?_,?_,?_,?_,?_,?_,?_,?_,?_,?_,?_⟩ ?_
  ·(repeat (first|rw[kab,if_pos rfl]|rw[kab,if_neg (by decide +kernel)]))
  ·(repeat (first|rw[kab,if_pos rfl]|rw[kab,if_neg (by decide +kernel)]))
  ·(repeat (first|rw[kab,if_pos rfl]|rw[kab,if_neg (by decide +kernel)]))
  ·(repeat (first|rw[kab,if_pos rfl]|rw[kab,if_neg (by decide +kernel)]))
  ·(repeat (first|rw[kab,if_pos rfl]|rw[kab,if_neg (by decide +kernel)]))
  ·(repeat (first|rw[kab,if_pos rfl]|rw[kab,if_neg (by decide +kernel)]))
   rfl
  ·(repeat (first|rw[kab,if_pos rfl]|rw[kab,if_neg (by decide +kernel)]))
   rfl
  ·(repeat (first|rw[kab,if_pos rfl]|rw[kab,if_neg (by decide +kernel)]))
   rfl
  ·(repeat (first|rw[kab,if_pos rfl]|rw[kab,if_neg (by decide +kernel)]))
   rfl
  ·exact Uy (kal (kal (kal (kal (kal (n:=0) (Uw _)))))) (by decide)
  ·rw[kak nh];exact s7 _ _ e6
  ·rw[kak nu];exact s7 _ _ eu6
  ·obtain⟨o,pp,mm,⟨dxs,fss,hxs,q⟩,ho,hpp,hmm⟩:=hx
   try apply Y4
   exact⟨o,pp,mm,⟨dxs,fss,by rw[kak nxw];exact hxs,q⟩,by rw[kak (ne_of ho hw7 (by intro z;cases z))];exact ho,by rw[kak (ne_of hpp hw7 (by intro z;cases z))];exact hpp,by rw[kak (ne_of hmm hw7 (by intro z;cases z))];exact hmm⟩
theorem kkj{d:D}{H:Hp}{t b h:Addr}{hand:List Int}{B:Bask}{R:Addr→Hp→Prop}{E:XK}(hh:H h=some (.lst (hand.map V.int)))(hb:BaskIs d.qf d.qg H b B)(hB:B.rs.length≤12)(hok:∀r∈B.rs,r.Ok)
  (k:∀(H':Hp) (w x:Addr),Same H H'→H w=none→H x=none→WayAt d 5 H' w t b x hand []→StndIs d.qc H' x (stnd0 B)→R w H'):
  ∀w dx,H w=none→H dx=none→dx≠w→khK d [.ref w, .ref t, .ref b, .ref h] (upd (upd H dx (.own w)) w (.ins d.c_Way dx [])) (fun v H2=>v=.non∧R w H2) E:=
 fun w dx nw nd _=>⟨H,w,dx,t,b,h,hand,B,rfl,nw,kbh nw nd,kac,hh,hb,hB,hok,fun H' x s f hW hx=>⟨rfl,k H' w x s nw f hW hx⟩⟩
inductive kfb (d:D) (vs:List V) (H:Hp) (Q:VK) (E_:XK):Prop
 |ct (wy t b x:Addr) (T:TillD) (B:Bask) (S:Stnd) (hand:List Int) (used:List Nat) (n:Nat) (V:Vch) (_:vs=[.ref wy,iV n]) (_:WayIs d H wy t b x hand used) (_:TillIs d H t T) (_:BaskIs d.qf d.qg H b B) (_:StndIs d.qc H x S) (_:Wf T.ps B S) (_:VchOk T.ps V) (_:T.vs[n]?=some V) (_:hand.length=T.vs.length) (_:∀(H':Hp),Same H H'→Q (dueM V T B hand used S n) H'):kfb d vs H Q E_
theorem Zy:kaq ["self","number","word"] ["self","number"] (kag kb5):=⟨rfl,rfl,rfl,by decide +kernel,rfl,by decide +kernel,by decide +kernel⟩
theorem kcr(W:WB K mg d base):FnOk P w K mg base CX0 5 d.Y9 d.Za ["self","number"] (kfb d):=by
 refine FunD.ok W.qY.F Zy (fun vs H Q E h=>?_) (fun cdv A outer s H vs Q E hr h=>?_)
 ·obtain⟨wy,t,b,x,T,B,S,hand,used,n,V,rfl,_⟩:=h
  rfl
 ·obtain⟨wy,t,b,x,T,B,S,hand,used,n,Vc,rfl,hW,hT,hB,hS,wf,vo,hn,hl,k⟩:=h
  obtain⟨dxw,fsw,h,u,hw,w1,w2,w3,w4,w5,w6,w7,w8,w9,w10,hh,hu⟩:=id hW
  obtain⟨dx,fs,p,vl,rl,va,ra,ht,t1,t2,t3,t4,hp,hvl,hva,hrl,hra⟩:=id hT
  have Vn:=kdx (P:=P) (w:=w) (base:=base) W
  have Xu:=kdl (P:=P) (w:=w) (base:=base) W
  have hr2:Room 2 _:=hr.mono (by decide)
  refine⟨_,kad (kav (i:=2) Zy.nd rfl (Or.inl rfl) (kan Vn hr2 rfl W.Qq.m W.Qq.F.kp W.Qq.b .nil pass0 (kaa (kam (K:=K) (pv 0) rfl) (kaa (kam (K:=K) (pv 0) rfl) (kaa (kam (K:=K) (pv 0) rfl) (kaa (pv 1) kae))))))
   (kad (ps_if (kat kc9 (pv 2) kaV (kax _)) (kai (kao (pv 2))) (kau))
   (kai (kao (kan Xu hr rfl W.qL.m W.qL.F.kp W.qL.b .nil pass0 (kaa (pe_ix (r:=rIxL K) kaC (kam (K:=K) (kam (K:=K) (pv 0) rfl) rfl) (pv 1) (fun _ _=>rfl)) (kaa (kam (K:=K) (kam (K:=K) (pv 0) rfl) rfl) (kaa (kam (K:=K) (pv 0) rfl) (kaa (kam (K:=K) (pv 0) rfl) kae)))))))),?_⟩
  obtain⟨v,ev⟩:=at_of (xs:=va) (i:=n) (by rw[hva.len];exact at_lt hn)
  obtain⟨Vc',eV',hV⟩:=hva.at ev
  rw[hn] at eV'
  cases eV'
  refine⟨_,rfl,wy,d.c_Way,dxw,fsw,_,rfl,hw,W.c_Way.cl,W.qE,w1,_,rfl,wy,d.c_Way,dxw,fsw,_,rfl,hw,W.c_Way.cl,W.Xk,w3,_,rfl,wy,d.c_Way,dxw,fsw,_,rfl,hw,W.c_Way.cl,W.qS,w4,_,rfl,t,h,u,T,hand,used,n,Vc,rfl,hT,hh,hu,hn,hl,?_⟩
  unfold dueM at k
  cases e:wordM Vc T.rs hand used n with
  |some z=>
   rw[e] at k
   refine⟨_,rfl,rfl,_,rfl,?_⟩
   show if(!decide (V.str z=V.non))=true then _ else _
   rw[show(!decide (V.str z=V.non))=true by simp]
   exact iteT ⟨_,rfl,k H (Same.refl _)⟩
  |none=>
   rw[e] at k
   refine⟨_,rfl,rfl,_,rfl,?_⟩
   show if(!decide (V.non=V.non))=true then _ else _
   rw[show(!decide (V.non=V.non))=false by simp]
   refine iteF ⟨_,rfl,wy,d.c_Way,dxw,fsw,_,rfl,hw,W.c_Way.cl,W.qE,w1,t,d.qd,dx,fs,_,rfl,ht,W.qd.cl,W.qF,t2,_,rfl,vl,_,_,_,rfl,rfl,SqL.of hvl,kaY (v:=.ref v) (by rw[UF,ev];rfl),?_⟩
   refine⟨_,rfl,wy,d.c_Way,dxw,fsw,_,rfl,hw,W.c_Way.cl,W.qE,w1,t,d.qd,dx,fs,_,rfl,ht,W.qd.cl,W.qR,t1,_,rfl,wy,d.c_Way,dxw,fsw,_,rfl,hw,W.c_Way.cl,W.QI,w2,_,rfl,wy,d.c_Way,dxw,fsw,_,rfl,hw,W.c_Way.cl,W.QJ,w5,?_⟩
   exact⟨v,p,b,x,Vc,T.ps,B,S,rfl,hV,SqL.of hp,hB,hS,wf,vo,k⟩
inductive kgB (d:D) (vs:List V) (H:Hp) (Q:VK) (E_:XK):Prop
 |ct (wy t b x:Addr) (T:TillD) (B:Bask) (S:Stnd) (hand:List Int) (used:List Nat) (n:Nat) (V:Vch) (_:vs=[.ref wy,iV n]) (_:WayIs d H wy t b x hand used) (_:TillIs d H t T) (_:BaskIs d.qf d.qg H b B) (_:StndIs d.qc H x S) (_:Wf T.ps B S) (_:VchOk T.ps V) (_:T.vs[n]?=some V) (_:used.length<64) (_:∀(H':Hp) (wy' x':Addr),Same H H'→H wy'=none→WayIs d H' wy' t b x' hand (used++[n])→StndIs d.qc H' x' (aftM V T.ps (kds B) S)→Q (.ref wy') H'):kgB d vs H Q E_
theorem Zz:kaq ["self","number","further"] ["self","number"] (kag kcn):=⟨rfl,rfl,rfl,by decide +kernel,rfl,by decide +kernel,by decide +kernel⟩
theorem keU(W:WB K mg d base):FnOk P w K mg base CX0 6 d.Zb d.Zc ["self","number"] (kgB d):=by
 refine FunD.ok W.Xl.F Zz (fun vs H Q E h=>?_) (fun cdv A outer s H vs Q E hr h=>?_)
 ·obtain⟨wy,t,b,x,T,B,S,hand,used,n,V,rfl,_⟩:=h
  rfl
 ·obtain⟨wy,t,b,x,T,B,S,hand,used,n,Vc,rfl,hW,hT,hB,hS,wf,vo,hn,hl,k⟩:=h
  obtain⟨dxw,fsw,h,u,hw,w1,w2,w3,w4,w5,w6,w7,w8,w9,w10,hh,hu⟩:=id hW
  obtain⟨dx,fs,p,vl,rl,va,ra,ht,t1,t2,t3,t4,hp,hvl,hva,hrl,hra⟩:=id hT
  have Xv:=kdZ (P:=P) (w:=w) (base:=base) W
  have Xw:=kgQ (P:=P) (w:=w) (base:=base) W
  refine⟨_,kad (kav (i:=2) Zz.nd rfl (Or.inl rfl) (kbe (W.qX.mk' W.c_Way) Xv hr rfl W.c_Way.m W.qX.b .nil pass0 (kaa (kam (K:=K) (pv 0) rfl) (kaa (kam (K:=K) (pv 0) rfl) (kaa (kam (K:=K) (pv 0) rfl) kae)))))
   (kad (kaL (pv 2) (pe_op kkg (kam (K:=K) (pv 0) rfl) (kaI (kaa (pv 1) kae))) rfl)
   (kad (kaL (pv 2) (kan Xw hr rfl W.qM.m W.qM.F.kp W.qM.b .nil pass0 (kaa (pe_ix (r:=rIxL K) kaC (kam (K:=K) (kam (K:=K) (pv 0) rfl) rfl) (pv 1) (fun _ _=>rfl)) (kaa (kam (K:=K) (kam (K:=K) (pv 0) rfl) rfl) (kaa (kam (K:=K) (pv 0) rfl) (kaa (kam (K:=K) (pv 0) rfl) kae))))) rfl)
   (kai (kao (pv 2))))),?_⟩
  obtain⟨v,ev⟩:=at_of (xs:=va) (i:=n) (by rw[hva.len];exact at_lt hn)
  obtain⟨Vc',eV',hV⟩:=hva.at ev
  rw[hn] at eV'
  cases eV'
  try refine sN fun _ Y4=>?_
  refine⟨_,rfl,wy,d.c_Way,dxw,fsw,_,rfl,hw,W.c_Way.cl,W.qE,w1,_,rfl,wy,d.c_Way,dxw,fsw,_,rfl,hw,W.c_Way.cl,W.QI,w2,_,rfl,wy,d.c_Way,dxw,fsw,_,rfl,hw,W.c_Way.cl,W.Xk,w3,kkj hh hB wf.nl wf.ok fun H1 y x1 s1 fy fx1 hy hx1=>?_⟩
  obtain⟨dxy,fsy,h1,u1,hyy,y1,y2,y3,y4,y5,y6,y7,y8,y9,y10,hh1,hu1⟩:=hy
  try apply Y4
  try refine sN fun _ Y4=>?_
  refine⟨_,rfl,wy,d.c_Way,dxw,fsw,_,rfl,s1 _ _ hw,W.c_Way.cl,W.qS,w4,_,rfl,(by show 1≤sizeLine;decide),fun q1 hq1=>?_⟩
  have n2:=kah (o:=.lst [iV n]) hq1
  have eq1:(upd H1 q1 (.lst [iV n])) q1=some (.lst [iV n]):=kac
  have s2:=s1.trans n2
  have hy2:=n2 _ _ hyy
  have hh2:=n2 _ _ hh1
  clear n2
  generalize upd H1 q1 (.lst [iV n])=H2 at *
  try apply Y4
  try refine sN fun _ Y4=>?_
  refine⟨u,q1,_,_,rfl,rfl,s2 _ _ hu,eq1,UH (kar (by rw[Uu];show _+1≤1000;omega)),fun q2 hq2=>?_⟩
  have n3:=kah (o:=.lst (used.map iV++[iV n])) hq2
  have eq2:(upd H2 q2 (.lst (used.map iV++[iV n]))) q2=some (.lst ((used++[n]).map iV)):=by rw[kac,UD];rfl
  have s3:=s2.trans n3
  have hy3:=n3 _ _ hy2
  have hh3:=n3 _ _ hh2
  have nq2:q2≠y:=(kaj hy2 hq2).symm
  clear n3
  generalize upd H2 q2 (.lst (used.map iV++[iV n]))=H3 at *
  have nh1:h1≠y:=ne_of hh3 hy3 (by intro z;cases z)
  try apply Y4
  try refine sN fun _ Y4=>?_
  refine⟨_,rfl,y,d.c_Way,dxy,fsy,rfl,hy3,W.c_Way.cl,W.qS,few (Uy y10 (by decide)),?_⟩
  have s4:Same H (upd H3 y (.ins d.c_Way dxy (putF "used" (.ref q2) fsy))):=kaw fy s3 (nx hy3)
  have eq4:(upd H3 y (.ins d.c_Way dxy (putF "used" (.ref q2) fsy))) q2=some (.lst ((used++[n]).map iV)):=by rw[kak nq2];exact eq2
  have hh4:(upd H3 y (.ins d.c_Way dxy (putF "used" (.ref q2) fsy))) h1=some (.lst (hand.map V.int)):=by rw[kak nh1];exact hh3
  have hy4:(upd H3 y (.ins d.c_Way dxy (putF "used" (.ref q2) fsy))) y=some (.ins d.c_Way dxy (putF "used" (.ref q2) fsy)):=kac
  generalize upd H3 y (.ins d.c_Way dxy (putF "used" (.ref q2) fsy))=H4 at *
  try apply Y4
  try refine sN fun _ Y4=>?_
  refine⟨_,rfl,wy,d.c_Way,dxw,fsw,_,rfl,s4 _ _ hw,W.c_Way.cl,W.qE,w1,t,d.qd,dx,fs,_,rfl,s4 _ _ ht,W.qd.cl,W.qF,t2,_,rfl,vl,_,_,_,rfl,rfl,SqL.of (s4 _ _ hvl),kaY (v:=.ref v) (by rw[UF,ev];rfl),?_⟩
  try apply Y4
  try refine sN fun _ Y4=>?_
  refine⟨_,rfl,wy,d.c_Way,dxw,fsw,_,rfl,s4 _ _ hw,W.c_Way.cl,W.qE,w1,t,d.qd,dx,fs,_,rfl,s4 _ _ ht,W.qd.cl,W.qR,t1,_,rfl,wy,d.c_Way,dxw,fsw,_,rfl,s4 _ _ hw,W.c_Way.cl,W.QI,w2,_,rfl,wy,d.c_Way,dxw,fsw,_,rfl,s4 _ _ hw,W.c_Way.cl,W.QJ,w5,?_⟩
  try apply Y4
  try refine sN fun _ Y4=>?_
  refine⟨v,p,b,x,Vc,T.ps,B,S,rfl,hV.same s4,SqL.of (s4 _ _ hp),hB.same s4,hS.same s4,wf,vo,fun H5 x' s5 f5 hx'=>?_⟩
  have hy5:=s5 _ _ hy4
  have hh5:=s5 _ _ hh4
  have eq5:=s5 _ _ eq4
  have nx':x'≠y:=(kaj hy4 f5).symm
  try apply Y4
  try refine sN fun _ Y4=>?_
  refine⟨_,rfl,y,d.c_Way,dxy,_,rfl,hy5,W.c_Way.cl,W.QJ,few (Uy (kal y10) (by decide)),?_⟩
  try apply Y4
  try refine sN fun _ Y4=>?_
  refine⟨_,rfl,k _ y x' (kaw fy (s4.trans s5) (nx hy5)) fy ⟨dxy,_,h1,q2,kac,?_,?_,?_,?_,?_,?_,?_,?_,?_,?_,?_,?_⟩ ?_⟩
  ·(repeat (first|rw[kab,if_pos rfl]|rw[kab,if_neg (by decide +kernel)]))
   try apply Y4
   exact y1
  ·(repeat (first|rw[kab,if_pos rfl]|rw[kab,if_neg (by decide +kernel)]))
   try apply Y4
   exact y2
  ·(repeat (first|rw[kab,if_pos rfl]|rw[kab,if_neg (by decide +kernel)]))
   try apply Y4
   exact y3
  ·(repeat (first|rw[kab,if_pos rfl]|rw[kab,if_neg (by decide +kernel)]))
  ·(repeat (first|rw[kab,if_pos rfl]|rw[kab,if_neg (by decide +kernel)]))
  ·(repeat (first|rw[kab,if_pos rfl]|rw[kab,if_neg (by decide +kernel)]))
   try apply Y4
   exact y6
  ·(repeat (first|rw[kab,if_pos rfl]|rw[kab,if_neg (by decide +kernel)]))
   try apply Y4
   exact y7
  ·(repeat (first|rw[kab,if_pos rfl]|rw[kab,if_neg (by decide +kernel)]))
   try apply Y4
   exact y8
  ·(repeat (first|rw[kab,if_pos rfl]|rw[kab,if_neg (by decide +kernel)]))
   try apply Y4
   exact y9
  ·exact Uy (kal (kal y10)) (by decide)
  ·rw[kak nh1];exact hh5
  ·rw[kak nq2];exact eq5
  ·obtain⟨o,pp,mm,⟨dxs,fss,hxs,q⟩,ho,hpp,hmm⟩:=hx'
   try apply Y4
   exact⟨o,pp,mm,⟨dxs,fss,by rw[kak nx'];exact hxs,q⟩,by rw[kak (ne_of ho hy5 (by intro z;cases z))];exact ho,by rw[kak (ne_of hpp hy5 (by intro z;cases z))];exact hpp,by rw[kak (ne_of hmm hy5 (by intro z;cases z))];exact hmm⟩
inductive khT (d:D) (vs:List V) (H:Hp) (Q:VK) (E_:XK):Prop
 |ct (wy t b x:Addr) (T:TillD) (hand:List Int) (used:List Nat) (_:vs=[.ref wy]) (_:WayIs d H wy t b x hand used) (_:TillIs d H t T) (_:Q (.bl (onlyM T.rs used).isNone) H):khT d vs H Q E_
theorem kdu:kaq ["self"] ["self"] (kag kbN):=⟨rfl,rfl,rfl,by decide +kernel,rfl,by decide +kernel,by decide +kernel⟩
theorem kdz(W:WB K mg d base):FnOk P w K mg base CX0 2 d.Zd d.Ze ["self"] (khT d):=by
 refine FunD.ok W.Xm.F kdu (fun vs H Q E h=>?_) (fun cdv A outer s H vs Q E hr h=>?_)
 ·obtain⟨wy,t,b,x,T,hand,used,rfl,_⟩:=h
  rfl
 ·obtain⟨wy,t,b,x,T,hand,used,rfl,hW,hT,k⟩:=h
  obtain⟨dxw,fsw,h,u,hw,w1,w2,w3,w4,w5,w6,w7,w8,w9,w10,hh,hu⟩:=id hW
  obtain⟨dx,fs,p,vl,rl,va,ra,ht,t1,t2,t3,t4,hp,hvl,hva,hrl,hra⟩:=id hT
  have Vo:=kcR (P:=P) (w:=w) (base:=base) W
  refine⟨_,kai (kao (ka1 keo (kan Vo hr rfl W.Qt.m W.Qt.F.kp W.Qt.b .nil pass0 (kaa (kam (K:=K) (kam (K:=K) (pv 0) rfl) rfl) (kaa (kam (K:=K) (pv 0) rfl) kae))) kaV (kax _))),?_⟩
  refine⟨_,rfl,wy,d.c_Way,dxw,fsw,_,rfl,hw,W.c_Way.cl,W.qE,w1,t,d.qd,dx,fs,_,rfl,ht,W.qd.cl,W.qt,t3,_,rfl,wy,d.c_Way,dxw,fsw,_,rfl,hw,W.c_Way.cl,W.qS,w4,rl,u,ra,T.rs,used,rfl,hrl,hra,hu,rfl,?_⟩
  cases e:onlyM T.rs used with
  |none=>
   rw[e] at k
   show Q (.bl (decide (V.non=V.non))) H
   rw[show decide (V.non=V.non)=true by simp]
   exact k
  |some z=>
   rw[e] at k
   show Q (.bl (decide (V.int (z:Int)=V.non))) H
   rw[show decide (V.int (z:Int)=V.non)=false by simp]
   exact k
noncomputable def walkM(T:TillD)(B:Bask)(hand:List Int):List Nat→List Nat→Stnd→List Nat×Stnd
 |[],used,S=>(used,S)
 |n::ns,used,S=>match T.vs[n]? with
  |none=>(used,S)
  |some V=>if dueM V T B hand used S n=.non then walkM T B hand ns (used++[n]) (aftM V T.ps (kds B) S) else(used,S)
inductive khL (d:D) (vs:List V) (H:Hp) (Q:VK) (E_:XK):Prop
 |ct (t b h o:Addr) (T:TillD) (B:Bask) (hand:List Int) (order:List Nat) (_:vs=[.ref t, .ref b, .ref h, .ref o]) (_:TillIs d H t T) (_:kev T) (_:BaskIs d.qf d.qg H b B) (_:Wf T.ps B (stnd0 B)) (_:H h=some (.lst (hand.map V.int))) (_:H o=some (.lst (order.map iV))) (_:hand.length=T.vs.length) (_:(∀n∈order,n<T.vs.length)) (_:order.length<64) (_:∀(H':Hp) (wy x:Addr),Same H H'→H wy=none→WayIs d H' wy t b x hand (walkM T B hand order [] (stnd0 B)).1→StndIs d.qc H' x (walkM T B hand order [] (stnd0 B)).2→Wf T.ps B (walkM T B hand order [] (stnd0 B)).2→Q (.ref wy) H'):khL d vs H Q E_
theorem QQ:kaq ["till","basket","hand","order","way","number"] ["till","basket","hand","order"] (kag keK):=⟨rfl,rfl,rfl,by decide +kernel,rfl,by decide +kernel,by decide +kernel⟩
theorem kik(W:WB K mg d base):FnOk P w K mg base CX0 7 d.Yg d.Yh ["till","basket","hand","order"] (khL d):=by
 refine FunD.ok W.Qp.F QQ (fun vs H Q E h=>?_) (fun cdv A outer s H vs Q E hr h=>?_)
 ·obtain⟨t,b,h,o,T,B,hand,order,rfl,_⟩:=h
  rfl
 ·obtain⟨t,b,h,o,T,B,hand,order,rfl,hT,tok,hB,wf0,hh,ho,hl,hlt,h64,k⟩:=h
  have Xv:=kdZ (P:=P) (w:=w) (base:=base) W
  have Xx:=kcr (P:=P) (w:=w) (base:=base) W
  have Vp:=keU (P:=P) (w:=w) (base:=base) W
  have hr5:Room 5 _:=hr.mono (by decide)
  refine⟨_,kad (kav (i:=4) QQ.nd rfl (Or.inl rfl) (kbe (W.qX.mk' W.c_Way) Xv hr5 rfl W.c_Way.m W.qX.b .nil pass0 (kaa (pv 0) (kaa (pv 1) (kaa (pv 2) kae)))))
   (kad (kbk PassesOwn.never rfl (kaH (K:=K) (pv 3)) (kap (i:=5) QQ.nd rfl (Or.inl rfl))
   (kad (ps_if (kat kc9 (kga (pv 4) W.c_Way.cl W.qY.me Xx hr5 W.qY.b .nil pass0 (kaa (pv 5) kae)) kaV (kax _)) (kai (kao (pv 4))) (kau))
   (kai (kav (i:=4) QQ.nd rfl (Or.inl rfl) (kga (pv 4) W.c_Way.cl W.Xl.me Vp hr W.Xl.b .nil pass0 (kaa (pv 5) kae))))))
   (kai (kao (pv 4)))),?_⟩
  generalize eR:walkM T B hand order [] (stnd0 B)=R at k
  try refine sN fun _ Y4=>?_
  refine⟨_,rfl,_,rfl,_,rfl,kkj hh hB wf0.nl wf0.ok fun H1 y0 x0 s1 fy0 fx0 hy0 hx0=>?_⟩
  try apply Y4
  try refine sN fun _ Y4=>?_
  refine⟨_,rfl,o,rfl,⟨_,SqL.of (s1 _ _ ho)⟩,kbq (xs:=order.map iV) (fun i σ H'=>Same H H'∧∃(y x:Addr) (used:List Nat) (S:Stnd) (v5:Option V),WayIs d H' y t b x hand used∧H y=none∧StndIs d.qc H' x S∧Wf T.ps B S∧used.length=i∧walkM T B hand (order.drop i) used S=R∧σ=[some (.ref t),some (.ref b),some (.ref h),some (.ref o),some (.ref y),v5])
   ⟨s1,y0,x0,[],_,none,hy0.most (by decide),fy0,hx0,wf0,rfl,eR,rfl⟩ (fun i σ H' _ h=>SqL.of (h.1 _ _ ho)) ?_ ?_⟩
  ·rintro i yv σ H' hyv ⟨sI,y,x,used,S,v5,hY,fy,hx,wf,hul,hwalk,rfl⟩
   obtain⟨n,en,rfl⟩:∃n,order[i]?=some n∧yv=iV n:=kbH hyv
   have hi:=at_lt en
   obtain⟨Vc,hV⟩:=at_of (hlt n (UE en))
   have vo:=tok.vs Vc (UE hV)
   have ed:order.drop i=n::order.drop (i+1):=by
    obtain⟨h1,h2⟩:=UG.mp en
    rw[Ms h1,h2]
   rw[ed] at hwalk
   have hwk:=hwalk
   unfold walkM at hwk
   rw[hV] at hwk
   simp only at hwk
   obtain⟨dxw,fsw,hd,u,hw,w1,w2,w3,w4,w5,w6,w7,w8,w9,w10,hh',hu⟩:=id hY
   try apply Y4
   try refine sN fun _ Y6=>?_
   refine⟨_,rfl,y,dxw,fsw,rfl,hw,w6,_,rfl,y,t,b,x,T,B,S,hand,used,n,Vc,rfl,hY,hT.same sI,hB.same sI,hx,wf,vo,hV,hl,fun H2 s2=>⟨rfl,_,rfl,?_⟩⟩
   have s02:=sI.trans s2
   by_cases hn:dueM Vc T B hand used S n=.non
   ·rw[if_pos hn] at hwk
    rw[hn]
    rw[show(!decide (V.non=V.non))=false by simp]
    refine iteF ?_
    try first|apply Y6|apply Y4
    try refine sN fun _ Y8=>?_
    refine⟨_,rfl,y,dxw,fsw,rfl,s2 _ _ hw,w7,_,rfl,y,t,b,x,T,B,S,hand,used,n,Vc,rfl,hY.same s2,hT.same s02,hB.same s02,hx.same s2,wf,vo,hV,by omega,fun H3 y' x' s3 fy' hY' hx'=>?_⟩
    try first|apply Y8|apply Y6|apply Y4
    exact⟨s02.trans s3,y',x',used++[n],_,_,hY',s02.free fy',hx',wf.after vo,by rw[UW,hul];rfl,hwk,rfl⟩
   ·rw[if_neg hn] at hwk
    rw[show(!decide (dueM Vc T B hand used S n=V.non))=true by simp[hn]]
    refine iteT ?_
    try first|apply Y8|apply Y6|apply Y4
    try refine sN fun _ Y8=>?_
    refine⟨_,rfl,k H2 y x s02 fy ?_ ?_ ?_⟩
    ·rw[←hwk];exact hY.same s2
    ·rw[←hwk];exact hx.same s2
    ·rw[←hwk];exact wf
  ·rintro σ H' ⟨sI,y,x,used,S,v5,hY,fy,hx,wf,hul,hwalk,rfl⟩
   rw[Uu,List.drop_length] at hwalk
   have hwk:=hwalk
   unfold walkM at hwk
   try first|apply Y6|apply Y4
   try refine sN fun _ Y6=>?_
   refine⟨_,rfl,k H' y x sI fy ?_ ?_ ?_⟩
   ·rw[←hwk];exact hY
   ·rw[←hwk];exact hx
   ·rw[←hwk];exact wf
noncomputable def kbT(T:TillD)(B:Bask)(hand:List Int)(order:List Nat):Option (Nat×L2.V):=
 let r:=walkM T B hand order [] (stnd0 B)
 if r.1.length<order.length then match T.vs[order.getD r.1.length 0]? with
  |none=>none
  |some V=>some (r.1.length,dueM V T B hand r.1 r.2 (order.getD r.1.length 0))
 else if(onlyM T.rs r.1).isNone=true then none else some (r.1.length, .str "only")
noncomputable def FltIs(H:Hp)(v:L2.V):Option (Nat×L2.V)→Prop
 |none=>v=.non
 |some (k,z)=>∃a,v=.ref a∧H a=some (.tup [iV k,z])
inductive khV (d:D) (vs:List V) (H:Hp) (Q:VK) (E_:XK):Prop
 |ct (t b h o:Addr) (T:TillD) (B:Bask) (hand:List Int) (order:List Nat) (_:vs=[.ref t, .ref b, .ref h, .ref o]) (_:TillIs d H t T) (_:kev T) (_:BaskIs d.qf d.qg H b B) (_:Wf T.ps B (stnd0 B)) (_:H h=some (.lst (hand.map V.int))) (_:H o=some (.lst (order.map iV))) (_:hand.length=T.vs.length) (_:(∀n∈order,n<T.vs.length)) (_:order.length<64) (_:∀(H':Hp) (v:L2.V),Same H H'→FltIs H' v (kbT T B hand order)→Q v H'):khV d vs H Q E_
theorem Xy:kaq ["till","basket","hand","order","way","place"] ["till","basket","hand","order"] (kag kf5):=⟨rfl,rfl,rfl,by decide +kernel,rfl,by decide +kernel,by decide +kernel⟩
theorem kgP(W:WB K mg d base):FnOk P w K mg base CX0 8 d.Ye d.Yf ["till","basket","hand","order"] (khV d):=by
 refine FunD.ok W.qu.F Xy (fun vs H Q E h=>?_) (fun cdv A outer s H vs Q E hr h=>?_)
 ·obtain⟨t,b,h,o,T,B,hand,order,rfl,_⟩:=h
  rfl
 ·obtain⟨t,b,h,o,T,B,hand,order,rfl,hT,tok,hB,wf0,hh,ho,hl,hlt,h64,k⟩:=h
  have Vq:=kik (P:=P) (w:=w) (base:=base) W
  have Xx:=kcr (P:=P) (w:=w) (base:=base) W
  have Vr:=kdz (P:=P) (w:=w) (base:=base) W
  have hr2:Room 2 _:=hr.mono (by decide)
  have hr5:Room 5 _:=hr.mono (by decide)
  refine⟨_,kad (kav (i:=4) Xy.nd rfl (Or.inl rfl) (kan Vq hr rfl W.Qp.m W.Qp.F.kp W.Qp.b .nil pass0 (kaa (pv 0) (kaa (pv 1) (kaa (pv 2) (kaa (pv 3) kae))))))
   (kad (kav (i:=5) Xy.nd rfl (Or.inl rfl) (kas (r:=ka4 K) kaA (by rfl) W.B.len b_len (kaa (kam (K:=K) (pv 4) rfl) kae)))
   (kad (ps_if (kat op_lt (pv 5) (kas (r:=ka4 K) kaA (by rfl) W.B.len b_len (kaa (pv 3) kae)) (kax _)) (kai (kao (ka9 (kaa (pv 5) (kaa (kga (pv 4) W.c_Way.cl W.qY.me Xx hr5 W.qY.b .nil pass0 (kaa (pe_ix (r:=rIxL K) kaC (pv 3) (pv 5) (fun _ _=>rfl)) kae)) kae))))) (kau))
   (kad (ps_if (kgK (ka5 (kjk (pv 4) W.c_Way.cl W.Xm.me Vr hr2 W.Xm.b .nil pass0))) (kai (kao (ka9 (kaa (pv 5) (kaa kaP kae))))) (kau))
   (kai (kao kaV))))),?_⟩
  try refine sN fun _ Y4=>?_
  refine⟨_,rfl,_,rfl,_,rfl,_,rfl,t,b,h,o,T,B,hand,order,rfl,hT,tok,hB,wf0,hh,ho,hl,hlt,h64,fun H1 y x s1 fy hY hx wf=>?_⟩
  unfold kbT at k
  simp only at k
  generalize walkM T B hand order [] (stnd0 B)=r at *
  obtain⟨used,S⟩:=r
  simp only at *
  obtain⟨dxw,fsw,hd,u,hw,w1,w2,w3,w4,w5,w6,w7,w8,w9,w10,hh',hu⟩:=id hY
  try apply Y4
  try refine sN fun _ Y4=>?_
  refine⟨_,rfl,y,d.c_Way,dxw,fsw,_,rfl,hw,W.c_Way.cl,W.qS,w4,u,_,rfl, .inl (SqL.of hu),?_⟩
  rw[Uu]
  try apply Y4
  try refine sN fun _ Y4=>?_
  refine⟨_,rfl,_,rfl,o,_,rfl, .inl (SqL.of (s1 _ _ ho)),_,_,rfl,rfl,_,rfl,?_⟩
  rw[Uu]
  by_cases hlen:used.length<order.length
  ·rw[if_pos hlen] at k
   rw[show decide ((used.length:Int)<(order.length:Int))=true by simp;exact hlen]
   obtain⟨n,en⟩:=at_of hlen
   have eg:order.getD used.length 0=n:=by rw[UP,en];rfl
   obtain⟨Vc,hV⟩:=at_of (hlt n (UE en))
   rw[eg,hV] at k
   have vo:=tok.vs Vc (UE hV)
   refine iteT ?_
   try apply Y4
   try refine sN fun _ Y6=>?_
   refine⟨_,rfl,_,rfl,y,dxw,fsw,rfl,hw,w6,_,rfl,_,rfl,o,_,_,_,rfl,rfl,SqL.of (s1 _ _ ho),kaY (v:=iV n) (by rw[UF,en];rfl),y,t,b,x,T,B,S,hand,used,n,Vc,rfl,hY,hT.same s1,hB.same s1,hx,wf,vo,hV,hl,fun H2 s2=>?_⟩
   try first|apply Y6|apply Y4
   try refine sN fun _ Y6=>?_
   refine⟨(by show 2≤sizeLine;decide),fun q hq=>?_⟩
   try first|apply Y6|apply Y4
   exact k _ _ ((s1.trans s2).trans (kah hq)) ⟨q,rfl,kac⟩
  ·rw[if_neg hlen] at k
   rw[show decide ((used.length:Int)<(order.length:Int))=false by simp;omega]
   refine iteF ?_
   try first|apply Y6|apply Y4
   try refine sN fun _ Y6=>?_
   refine⟨_,rfl,y,dxw,fsw,rfl,hw,w8,y,t,b,x,T,hand,used,rfl,hY,hT.same s1,_,rfl,?_⟩
   cases e:(onlyM T.rs used).isNone with
   |true=>
    rw[e,if_pos rfl] at k
    refine iteF ?_
    try first|apply Y6|apply Y4
    exact k H1 _ s1 rfl
   |false=>
    rw[e,if_neg UA] at k
    refine iteT ?_
    try first|apply Y6|apply Y4
    try refine sN fun _ Y8=>?_
    refine⟨_,rfl,(by show 2≤sizeLine;decide),fun q hq=>?_⟩
    try first|apply Y8|apply Y6|apply Y4
    exact k _ _ (s1.trans (kah hq)) ⟨q,rfl,kac⟩
inductive khR (vs:List V) (H:Hp) (Q:VK) (E_:XK):Prop
 |ct (c k:Int) (_:vs=[.int c, .int k]) (_:0≤k) (_:k≤1000) (_:∀z:Int,0≤z→z<998244353→Q (.int z) H):khR vs H Q E_
theorem ZA:kaq ["_law_cell_here","_law_k","_law_once"] ["_law_cell_here","_law_k"] (kag kch):=⟨rfl,rfl,rfl,by decide +kernel,rfl,by decide +kernel,by decide +kernel⟩
theorem kbc(W:WB K mg d base):FnOk P w K mg base CX0 1 d.Yq d.Yr ["_law_cell_here","_law_k"] khR:=by
 refine FunD.ok W.qh.F ZA (fun vs H Q E h=>?_) (fun cdv A outer s H vs Q E hr h=>?_)
 ·obtain⟨c,k,rfl,_⟩:=h
  rfl
 ·obtain⟨c,k,rfl,k0,k1,kk⟩:=h
  refine⟨_,kad (kav (i:=2) ZA.nd rfl (Or.inl rfl) (pe_op kaB (pe_op kdU (pe_op kbr (pe_op kbr (pe_op kaB (pv 0) kaf) (pe_op kdU kaf (pv 1))) kaf) kaf) kaf))
   (kai (kao (pe_op kaB (pe_op kdU (pv 2) (pe_op kbr (pe_op kbr (pe_op kaB (pv 2) kaf) (pv 1)) kaf)) kaf))),?_⟩
  refine⟨_,rfl,_,_,rfl,rfl,(by show(0:Int)<1000000007;decide),_,rfl,_,_,rfl,rfl, .inl ⟨by decide,by decide⟩,_,_,rfl,rfl,_,_,rfl,rfl,_,_,rfl,rfl, .inr ⟨by decide,by decide⟩,_,_,rfl,rfl,(by show(0:Int)<2147483647;decide),?_⟩
  generalize ho:(c%1000000007+7*k+1)*48271%2147483647=o
  refine⟨_,rfl,_,rfl,_,_,rfl,rfl,(by show(0:Int)<1009;decide),_,rfl,_,_,rfl,rfl,_,_,rfl,rfl,_,_,rfl,rfl, .inl ⟨by omega,by omega⟩,_,_,rfl,rfl,(by show(0:Int)<998244353;decide),?_⟩
  generalize o*(o%1009+k+3)=q
  exact kk _ (by omega) (by omega)
inductive kj5 (K:Uv) (vs:List V) (H:Hp) (Q:VK) (E_:XK):Prop
 |ct (a:Addr) (ns:List Int) (n:Nat) (_:vs=[.ref a,iV n]) (_:SqL K H a (ns.map V.int)) (_:∀z:Int,Q (.int z) H):kj5 K vs H Q E_
theorem kfk:kaq ["_law_script","_law_k"] ["_law_script","_law_k"] (kag kcI):=⟨rfl,rfl,rfl,by decide +kernel,rfl,by decide +kernel,by decide +kernel⟩
theorem kfu(W:WB K mg d base):FnOk P w K mg base CX0 1 d.Ys d.Yt ["_law_script","_law_k"] (kj5 K):=by
 refine FunD.ok W.qw.F kfk (fun vs H Q E h=>?_) (fun cdv A outer s H vs Q E hr h=>?_)
 ·obtain⟨a,ns,n,rfl,_⟩:=h
  rfl
 ·obtain⟨a,ns,n,rfl,hS,kk⟩:=h
  refine⟨_,kad (ps_if (kat op_lt (pv 1) (kas (r:=ka4 K) kaA (by rfl) W.B.len b_len (kaa (pv 0) kae)) (kax _)) (kai (kao (pe_ix (r:=rIxL K) kaC (pv 0) (pv 1) (fun _ _=>rfl)))) (kau))
   (kai (kao kaf)),?_⟩
  refine⟨_,rfl,_,rfl,a,_,rfl, .inl hS,_,_,rfl,rfl,_,rfl,ite2 (fun h=>?_) (fun _=>kk 0)⟩
  have hn:n<ns.length:=by
   have:(n:Int)<((ns.map V.int).length:Nat):=by simpa using h
   rw[Uu] at this
   omega
  obtain⟨z,ez⟩:=at_of hn
  exact⟨_,rfl,_,rfl,a,_,_,_,rfl,rfl,hS,kaY (v:=.int z) (by rw[UF,ez];rfl),kk z⟩
noncomputable def Alk:Nat→Hp→V→V→Prop
 |0,_,_,_=>False
 |n+1,H,v,w=>(v=w∧(v=.non∨(∃z,v=.bl z)∨(∃z,v=.int z)∨∃z,v=.str z))∨∃(a b:Addr) (xs ys:List V),v=.ref a∧w=.ref b∧((H a=some (.lst xs)∧H b=some (.lst ys))∨(H a=some (.tup xs)∧H b=some (.tup ys)))∧xs.length=ys.length∧xs.length≤100∧∀(i:Nat) (x y:V),xs[i]?=some x→ys[i]?=some y→Alk n H x y
theorem Alk.same:∀{n:Nat} {H H':Hp} {v w:V},Same H H'→Alk n H v w→Alk n H' v w
 |0,_,_,_,_,_,h=>h
 | n+1,H,H',v,w,s,h=>by
  rcases h with h|⟨a,b,xs,ys,h1,h2,h3,h4,h5,h6⟩
  ·exact .inl h
  ·refine .inr ⟨a,b,xs,ys,h1,h2,?_,h4,h5,fun i x y e1 e2=>Alk.same s (h6 i x y e1 e2)⟩
   rcases h3 with⟨g1,g2⟩|⟨g1,g2⟩
   ·exact .inl ⟨s _ _ g1,s _ _ g2⟩
   ·exact .inr ⟨s _ _ g1,s _ _ g2⟩
inductive kc3 (n:Nat) (vs:List V) (H:Hp) (Q:VK) (E_:XK):Prop
 |ct (v w:V) (_:vs=[v,w]) (_:Alk n H v w) (_:∀H',Same H H'→Q (.bl true) H'):kc3 n vs H Q E_
theorem kgD{vs:List V}{H:Hp}{Q:VK}{E:XK}(h:kc3 0 vs H Q E):False:=by
 obtain⟨_,_,_,h,_⟩:=h
 exact h
theorem keH:kaq ["_law_found","_law_due_here"] ["_law_found","_law_due_here"] (kag kcm):=⟨rfl,rfl,rfl,by decide +kernel,rfl,by decide +kernel,by decide +kernel⟩
theorem kdK(W:WB K mg d base)(n:Nat)(G_rec:FnOk P w K mg base CX0 (0+n) d.qU d.qV ["_law_found","_law_due_here"] (kc3 n)):FnOk P w K mg base CX0 (0+n+1) d.qU d.qV ["_law_found","_law_due_here"] (kc3 (n+1)):=by
 refine FunD.ok W.qx.F keH (fun vs H Q E h=>?_) (fun cdv A outer s H vs Q E hr h=>?_)
 ·obtain⟨v,w,rfl,_⟩:=h
  rfl
 ·obtain⟨v,w,rfl,hv,k⟩:=h
  refine⟨_,kad (ps_if (ka5 (kas (r:=kka K) kht (by rfl) W.B.isi b_isi (kaa (pv 1) (kaa (ka9 (kaa (kbE (v:=.ty "list") (by rfl) W.B.list kbI rfl) (kaa (kbE (v:=.ty "tuple") (by rfl) W.B.tuple kgt rfl) kae))) kae)))) (kad (ps_if (PW.pt (pw_or (kat op_ne (kas (r:=rIsi K) kaK (by rfl) W.B.isi b_isi (kaa (pv 0) (kaa (kbE (v:=.ty "list") (by rfl) W.B.list kbI rfl) kae))) (kas (r:=rIsi K) kaK (by rfl) W.B.isi b_isi (kaa (pv 1) (kaa (kbE (v:=.ty "list") (by rfl) W.B.list kbI rfl) kae))) (kax _)) (kh9 (kat op_ne (kas (r:=rIsi K) kaK (by rfl) W.B.isi b_isi (kaa (pv 0) (kaa (kbE (v:=.ty "tuple") (by rfl) W.B.tuple kgt rfl) kae))) (kas (r:=rIsi K) kaK (by rfl) W.B.isi b_isi (kaa (pv 1) (kaa (kbE (v:=.ty "tuple") (by rfl) W.B.tuple kgt rfl) kae))) (kax _))))) (kai (kao pe_bl)) (kau))
   (kai (kao (kfp (ka1 op_eq (kas (r:=ka4 K) kaA (by rfl) W.B.len b_len (kaa (pv 0) kae)) (kas (r:=ka4 K) kaA (by rfl) W.B.len b_len (kaa (pv 1) kae)) (kax _)) (kfo (kas (kjQ rfl) (by rfl) W.B.all b_all (kaa (kbv (N:=["_law_one","_law_other"]) (CompScope.plain rfl (by decide +kernel) (by decide +kernel) (by decide +kernel) (show(["_law_one","_law_other"]:List Str).Nodup by decide +kernel)) rfl (kjj rfl W.B.zip (kaa (pv 0) (kaa (pv 1) kae))) (fun _ _ _ _=>kbm (K:=K) (n:=2) rfl (kay (kap (i:=0) (show(["_law_one","_law_other"]:List Str).Nodup by decide +kernel) rfl (Or.inl rfl)) (kay (kap (i:=1) (show(["_law_one","_law_other"]:List Str).Nodup by decide +kernel) rfl (Or.inl rfl)) kbl))) (fun _ _ _ _=>(kan G_rec hr rfl W.qx.m W.qx.F.kp W.qx.b .nil pass0 (kaa (pv 0) (kaa (pv 1) kae))))) kae))))))) (kau))
   (kad (ps_if (kat keo (pv 1) kaV (kax _)) (kai (kao (ka1 keo (pv 0) kaV (kax _)))) (kau))
   (kad (ps_if (ka5 (kas (r:=rIsi K) kaK (by rfl) W.B.isi b_isi (kaa (pv 1) (kaa (kbE (v:=.ty "bool") (by rfl) W.B.bool ki1 rfl) kae)))) (kai (kao (kfp (kas (r:=rIsi K) kaK (by rfl) W.B.isi b_isi (kaa (pv 0) (kaa (kbE (v:=.ty "bool") (by rfl) W.B.bool ki1 rfl) kae))) (kfo (ka1 op_eq (pv 0) (pv 1) (kax _)))))) (kau))
   (kad (ps_if (ka5 (kas (r:=rIsi K) kaK (by rfl) W.B.isi b_isi (kaa (pv 1) (kaa (kbE (v:=.ty "str") (by rfl) W.B.str b_str rfl) kae)))) (kai (kao (kfp (kas (r:=rIsi K) kaK (by rfl) W.B.isi b_isi (kaa (pv 0) (kaa (kbE (v:=.ty "str") (by rfl) W.B.str b_str rfl) kae))) (kfo (ka1 op_eq (pv 0) (pv 1) (kax _)))))) (kau))
   (kai (kao (kfp (kas (r:=rIsi K) kaK (by rfl) W.B.isi b_isi (kaa (pv 0) (kaa (kbE (v:=.ty "int") (by rfl) W.B.int b_int rfl) kae))) (kfp (kll (kas (r:=rIsi K) kaK (by rfl) W.B.isi b_isi (kaa (pv 0) (kaa (kbE (v:=.ty "bool") (by rfl) W.B.bool ki1 rfl) kae)))) (kfo (ka1 op_eq (pv 0) (pv 1) (kax _)))))))))),?_⟩
  rcases hv with⟨rfl,hv⟩|⟨a,b,xs,ys,rfl,rfl,hab,hlen,h100,hall⟩
  ·rcases hv with rfl|⟨z,rfl⟩|⟨z,rfl⟩|⟨z,rfl⟩
   ·refine⟨_,rfl,(by show 2≤sizeLine;decide),fun tp htp=>⟨_,tp,_,rfl,SqT.of kac,TyOf.non, .inl rfl,(fun a e=>by cases e),_,rfl,?_⟩⟩
    have k1:=k _ (kah (o:=.tup [.ty "list", .ty "tuple"]) htp)
    rw[show isSeq (.type "NoneType")=false by decide +kernel]
    refine iteF ⟨_,rfl,rfl,_,rfl,?_⟩
    show if decide (V.non=V.non)=true then _ else _
    rw[show decide (V.non=V.non)=true by simp]
    refine iteT ⟨_,rfl,rfl,?_⟩
    show Q (.bl (decide (V.non=V.non))) _
    rw[show decide (V.non=V.non)=true by simp]
    exact k1
   ·refine⟨_,rfl,(by show 2≤sizeLine;decide),fun tp htp=>⟨_,tp,_,rfl,SqT.of kac,TyOf.bl _, .inr (.inl rfl),(fun a e=>by cases e),_,rfl,?_⟩⟩
    have k1:=k _ (kah (o:=.tup [.ty "list", .ty "tuple"]) htp)
    rw[show isSeq (.type "bool")=false by decide +kernel]
    refine iteF ⟨_,rfl,rfl,_,rfl,?_⟩
    show if decide (V.bl z=V.non)=true then _ else _
    rw[show decide (V.bl z=V.non)=false by simp]
    refine iteF ⟨_,rfl,_,_,_,_,rfl, .inl ⟨_,rfl⟩,TyOf.bl _,kaW _ _,_,rfl,iteT ?_⟩
    refine⟨_,rfl,_,_,_,_,rfl, .inl ⟨_,rfl⟩,TyOf.bl _,kaW _ _,_,rfl,iteT ⟨_,rfl,_,rfl,rfl,?_⟩⟩
    show Q (.bl (decide (V.bl z=V.bl z))) _
    rw[show decide (V.bl z=V.bl z)=true by simp]
    exact k1
   ·refine⟨_,rfl,(by show 2≤sizeLine;decide),fun tp htp=>⟨_,tp,_,rfl,SqT.of kac,TyOf.int _, .inr (.inr (.inl rfl)),(fun a e=>by cases e),_,rfl,?_⟩⟩
    have k1:=k _ (kah (o:=.tup [.ty "list", .ty "tuple"]) htp)
    rw[show isSeq (.type "int")=false by decide +kernel]
    refine iteF ⟨_,rfl,rfl,_,rfl,?_⟩
    show if decide (V.int z=V.non)=true then _ else _
    rw[show decide (V.int z=V.non)=false by simp]
    refine iteF ⟨_,rfl,_,_,_,_,rfl, .inl ⟨_,rfl⟩,TyOf.int _,kdn _,_,rfl,iteF ?_⟩
    refine⟨_,rfl,_,_,_,_,rfl, .inl ⟨_,rfl⟩,TyOf.int _,kbQ (by decide +kernel) (by decide +kernel) (by decide +kernel),_,rfl,iteF ?_⟩
    refine⟨_,rfl,_,_,_,_,rfl, .inl ⟨_,rfl⟩,TyOf.int _,kaW _ _,_,rfl,iteT ⟨_,rfl,_,_,_,_,rfl, .inl ⟨_,rfl⟩,TyOf.int _,kdn _,_,rfl,?_⟩⟩
    refine⟨_,rfl,iteT ⟨_,rfl,_,rfl,rfl,?_⟩⟩
    show Q (.bl (decide (V.int z=V.int z))) _
    rw[show decide (V.int z=V.int z)=true by simp]
    exact k1
   ·refine⟨_,rfl,(by show 2≤sizeLine;decide),fun tp htp=>⟨_,tp,_,rfl,SqT.of kac,TyOf.str _, .inr (.inr (.inr (.inl rfl))),(fun a e=>by cases e),_,rfl,?_⟩⟩
    have k1:=k _ (kah (o:=.tup [.ty "list", .ty "tuple"]) htp)
    rw[show isSeq (.type "str")=false by decide +kernel]
    refine iteF ⟨_,rfl,rfl,_,rfl,?_⟩
    show if decide (V.str z=V.non)=true then _ else _
    rw[show decide (V.str z=V.non)=false by simp]
    refine iteF ⟨_,rfl,_,_,_,_,rfl, .inl ⟨_,rfl⟩,TyOf.str _,kbQ (by decide +kernel) (by decide +kernel) (by decide +kernel),_,rfl,iteF ?_⟩
    refine⟨_,rfl,_,_,_,_,rfl, .inl ⟨_,rfl⟩,TyOf.str _,kaW _ _,_,rfl,iteT ?_⟩
    refine⟨_,rfl,_,_,_,_,rfl, .inl ⟨_,rfl⟩,TyOf.str _,kaW _ _,_,rfl,iteT ⟨_,rfl,_,rfl,rfl,?_⟩⟩
    show Q (.bl (decide (V.str z=V.str z))) _
    rw[show decide (V.str z=V.str z)=true by simp]
    exact k1
  ·rcases hab with⟨ha,hb⟩|⟨ha,hb⟩
   ·refine⟨_,rfl,(by show 2≤sizeLine;decide),fun tp htp=>?_⟩
    have n1:=kah (o:=.tup [.ty "list", .ty "tuple"]) htp
    have e1:(upd H tp (.tup [.ty "list", .ty "tuple"])) tp=some (.tup [.ty "list", .ty "tuple"]):=kac
    generalize upd H tp (.tup [.ty "list", .ty "tuple"])=H1 at *
    have ha1:=n1 _ _ ha
    have hb1:=n1 _ _ hb
    refine⟨_,tp,_,rfl,SqT.of e1,TyOf.lst hb1, .inr (.inr (.inr (.inr (.inl rfl)))),(fun c e=>by cases e;exact .inl ⟨_,hb1⟩),_,rfl,?_⟩
    rw[show isSeq (.type "list")=true by decide +kernel]
    refine iteT ⟨_,rfl,_,_,_,_,rfl, .inl ⟨_,rfl⟩,TyOf.lst ha1,kaW _ _,_,rfl,_,_,_,_,rfl, .inl ⟨_,rfl⟩,TyOf.lst hb1,kaW _ _,rfl,_,rfl,iteF ?_⟩
    refine⟨_,rfl,_,_,_,_,rfl, .inl ⟨_,rfl⟩,TyOf.lst ha1,kbQ (by decide +kernel) (by decide +kernel) (by decide +kernel),_,rfl,_,_,_,_,rfl, .inl ⟨_,rfl⟩,TyOf.lst hb1,kbQ (by decide +kernel) (by decide +kernel) (by decide +kernel),rfl,_,rfl,iteF ?_⟩
    refine⟨_,rfl,a,_,rfl, .inl (SqL.of ha1),_,rfl,b,_,rfl, .inl (SqL.of hb1),rfl,_,rfl,?_⟩
    rw[hlen,show decide (V.int ((ys.length:Nat):Int)=V.int ((ys.length:Nat):Int))=true by simp]
    have em:min xs.length ys.length=ys.length:=by rw[hlen,JL]
    refine iteT ⟨_,rfl,_,rfl, .inl ⟨a,b,xs,ys,rfl,ha1,hb1,ke2 (xs:=xs) (ys:=ys) (fun i σ ws H'=>Same H1 H'∧ws=(Uz i true).map V.bl∧∃v0 v1:Option V,σ=[v0,v1])
     ⟨Same.refl _,rfl,none,none,rfl⟩ (by rw[em];exact UH (kar (by omega))) (fun i σ ws H' hi h=>⟨h.1 _ _ ha1,h.1 _ _ hb1,by rw[h.2.1];simp⟩) ?_ ?_⟩⟩
    ·rintro i y1 y2 t σ ws H' hy1 hy2 ⟨s1,rfl,v0,v1,rfl⟩ ht
     have n2:=kah (o:=.tup [y1,y2]) ht
     refine⟨t,_,rfl,SqT.of kac,rfl,_,_,rfl,_,_,rfl,rfl,_,rfl,_,rfl,y1,y2,rfl,Alk.same ((n1.trans s1).trans n2) (hall i y1 y2 hy1 hy2),fun H2 s2=>⟨(s1.trans n2).trans s2,?_,_,_,rfl⟩⟩
     rw[J8,UD]
     rfl
    ·rintro σ ws H' ⟨s1,rfl,v0,v1,rfl⟩ D hD
     rw[em]
     refine⟨D,Uz ys.length true,rfl,SqL.of kac,?_⟩
     rw[show(Uz ys.length true).all id=true by simp]
     exact k _ ((n1.trans s1).trans (kah hD))
   ·refine⟨_,rfl,(by show 2≤sizeLine;decide),fun tp htp=>?_⟩
    have n1:=kah (o:=.tup [.ty "list", .ty "tuple"]) htp
    have e1:(upd H tp (.tup [.ty "list", .ty "tuple"])) tp=some (.tup [.ty "list", .ty "tuple"]):=kac
    generalize upd H tp (.tup [.ty "list", .ty "tuple"])=H1 at *
    have ha1:=n1 _ _ ha
    have hb1:=n1 _ _ hb
    refine⟨_,tp,_,rfl,SqT.of e1,TyOf.tup hb1, .inr (.inr (.inr (.inr (.inr rfl)))),(fun c e=>by cases e;exact .inr ⟨_,hb1⟩),_,rfl,?_⟩
    rw[show isSeq (.type "tuple")=true by decide +kernel]
    refine iteT ⟨_,rfl,_,_,_,_,rfl, .inl ⟨_,rfl⟩,TyOf.tup ha1,kbQ (by decide +kernel) (by decide +kernel) (by decide +kernel),_,rfl,_,_,_,_,rfl, .inl ⟨_,rfl⟩,TyOf.tup hb1,kbQ (by decide +kernel) (by decide +kernel) (by decide +kernel),rfl,_,rfl,iteF ?_⟩
    refine⟨_,rfl,_,_,_,_,rfl, .inl ⟨_,rfl⟩,TyOf.tup ha1,kaW _ _,_,rfl,_,_,_,_,rfl, .inl ⟨_,rfl⟩,TyOf.tup hb1,kaW _ _,rfl,_,rfl,iteF ?_⟩
    refine⟨_,rfl,a,_,rfl, .inr (SqT.of ha1),_,rfl,b,_,rfl, .inr (SqT.of hb1),rfl,_,rfl,?_⟩
    rw[hlen,show decide (V.int ((ys.length:Nat):Int)=V.int ((ys.length:Nat):Int))=true by simp]
    have em:min xs.length ys.length=ys.length:=by rw[hlen,JL]
    refine iteT ⟨_,rfl,_,rfl, .inr ⟨a,b,xs,ys,rfl,ha1,hb1,kiS (xs:=xs) (ys:=ys) (fun i σ ws H'=>Same H1 H'∧ws=(Uz i true).map V.bl∧∃v0 v1:Option V,σ=[v0,v1])
     ⟨Same.refl _,rfl,none,none,rfl⟩ (by rw[em];exact UH (kar (by omega))) (fun i σ ws H' hi h=>⟨h.1 _ _ ha1,h.1 _ _ hb1,by rw[h.2.1];simp⟩) ?_ ?_⟩⟩
    ·rintro i y1 y2 t σ ws H' hy1 hy2 ⟨s1,rfl,v0,v1,rfl⟩ ht
     have n2:=kah (o:=.tup [y1,y2]) ht
     refine⟨t,_,rfl,SqT.of kac,rfl,_,_,rfl,_,_,rfl,rfl,_,rfl,_,rfl,y1,y2,rfl,Alk.same ((n1.trans s1).trans n2) (hall i y1 y2 hy1 hy2),fun H2 s2=>⟨(s1.trans n2).trans s2,?_,_,_,rfl⟩⟩
     rw[J8,UD]
     rfl
    ·rintro σ ws H' ⟨s1,rfl,v0,v1,rfl⟩ D hD
     rw[em]
     refine⟨D,Uz ys.length true,rfl,SqL.of kac,?_⟩
     rw[show(Uz ys.length true).all id=true by simp]
     exact k _ ((n1.trans s1).trans (kah hD))
theorem kcC(W:WB K mg d base):∀n:Nat,FnOk P w K mg base CX0 (0+n) d.qU d.qV ["_law_found","_law_due_here"] (kc3 n)
 |0=>⟨fun _ _ _ _ h=>(kgD h).elim,fun _ _ _ _ _ _ _ _ _ _ _ _ _ h=>(kgD h).elim⟩
 |n+1=>kdK W n (kcC W n)
theorem kcT(W:WB K mg d base):FnOk P w K mg base CX0 5 d.qU d.qV ["_law_found","_law_due_here"] (kc3 5):=kcC W 5
theorem at4N{a b c e:V}{i:Int}(h0:0≤i)(h4:i<4):∃v,atI [a,b,c,e] i=some v∧(v=a∨v=b∨v=c∨v=e):=by
 obtain⟨n,rfl⟩:=Int.eq_ofNat_of_zero_le h0
 have hn:n<4:=by omega
 match n,hn with
 |0,_=>exact⟨a,rfl, .inl rfl⟩
 |1,_=>exact⟨b,rfl, .inr (.inl rfl)⟩
 |2,_=>exact⟨c,rfl, .inr (.inr (.inl rfl))⟩
 |3,_=>exact⟨e,rfl, .inr (.inr (.inr rfl))⟩
theorem at3N{a b c:V}{i:Int}(h0:0≤i)(h3:i<3):∃v,atI [a,b,c] i=some v∧(v=a∨v=b∨v=c):=by
 obtain⟨n,rfl⟩:=Int.eq_ofNat_of_zero_le h0
 have hn:n<3:=by omega
 match n,hn with
 |0,_=>exact⟨a,rfl, .inl rfl⟩
 |1,_=>exact⟨b,rfl, .inr (.inl rfl)⟩
 |2,_=>exact⟨c,rfl, .inr (.inr rfl)⟩
inductive khY (vs:List V) (H:Hp) (Q:VK) (E_:XK):Prop
 |ct (z:Int) (g:Bool) (_:vs=[.int z, .bl g]) (_:∀(H':Hp) (c:Int),Same H H'→0≤c→c≤1000000000000→Q (.int c) H'):khY vs H Q E_
theorem keG:kaq ["_law_drawn","_law_great"] ["_law_drawn","_law_great"] (kag kck):=⟨rfl,rfl,rfl,by decide +kernel,rfl,by decide +kernel,by decide +kernel⟩
theorem kca(W:WB K mg d base):FnOk P w K mg base CX0 1 d.Yu d.Yv ["_law_drawn","_law_great"] khY:=by
 refine FunD.ok W.qm.F keG (fun vs H Q E h=>?_) (fun cdv A outer s H vs Q E hr h=>?_)
 ·obtain⟨z,g,rfl,_⟩:=h
  rfl
 ·obtain⟨z,g,rfl,kk⟩:=h
  refine⟨_,kad (ps_if (ka5 (pv 1)) (kai (kao (pe_ix (r:=rIxL K) kaC (kaI (kaa (pe_op kaB (pe_op kdU (pv 0) kaf) kaf) (kaa (pe_op kcQ (pe_op klo kaf kaf) (pe_op kaB (pe_op kaG (pv 0) kaf) kaf)) (kaa (pe_op kaB (pe_op kaG (pv 0) kaf) kaf) (kaa kaf kae))))) (pe_op kaB (pv 0) kaf) (fun _ _=>rfl)))) (kau))
   (kai (kao (pe_ix (r:=rIxL K) kaC (kaI (kaa (pe_op kaB (pe_op kaG (pv 0) kaf) kaf) (kaa (pe_op kaB (pe_op kaG (pv 0) kaf) kaf) (kaa (pe_op kaB (pe_op kaG (pv 0) kaf) kaf) (kaa kaf kae))))) (pe_op kaB (pv 0) kaf) (fun _ _=>rfl)))),?_⟩
  refine⟨_,rfl,g,rfl,?_⟩
  cases g with
  |true=>
   refine iteT ⟨_,rfl,_,_,rfl,rfl, .inr ⟨by decide,by decide⟩,_,_,rfl,rfl,(by show(0:Int)<1000000000001;decide),_,_,rfl,rfl,⟨by decide,by decide,by decide⟩,_,rfl,_,_,rfl,rfl,⟨by decide,by decide⟩,_,_,rfl,rfl,(by show(0:Int)<3;decide),_,_,rfl,rfl,_,rfl,_,_,rfl,rfl,⟨by decide,by decide⟩,_,_,rfl,rfl,(by show(0:Int)<9;decide),(by show 4≤sizeLine;decide),fun p hp=>?_⟩
   have e10:(10:Int) ^ (12:Int).toNat=1000000000000:=by decide
   obtain⟨v,e,hv⟩:=at4N (a:=.int (z*1000003%1000000000001)) (b:=.int ((10:Int) ^ (12:Int).toNat-z/4%3)) (c:=.int (z/4%9)) (e:=.int 0) (i:=z%4) (by omega) (by omega)
   refine⟨_,rfl,_,_,rfl,rfl,(by show(0:Int)<4;decide),p,_,_,v,rfl,rfl,SqL.of kac,e,?_⟩
   rcases hv with rfl|rfl|rfl|rfl
   ·exact kk _ _ (kah hp) (by omega) (by omega)
   ·exact kk _ _ (kah hp) (by rw[e10];omega) (by rw[e10];omega)
   ·exact kk _ _ (kah hp) (by omega) (by omega)
   ·exact kk _ _ (kah hp) (by omega) (by omega)
  |false=>
   refine iteF ⟨_,rfl,_,_,rfl,rfl,⟨by decide,by decide⟩,_,_,rfl,rfl,(by show(0:Int)<7;decide),_,rfl,_,_,rfl,rfl,⟨by decide,by decide⟩,_,_,rfl,rfl,(by show(0:Int)<40;decide),_,rfl,_,_,rfl,rfl,⟨by decide,by decide⟩,_,_,rfl,rfl,(by show(0:Int)<300;decide),(by show 4≤sizeLine;decide),fun p hp=>?_⟩
   obtain⟨v,e,hv⟩:=at4N (a:=.int (z/4%7)) (b:=.int (z/4%40)) (c:=.int (z/4%300)) (e:=.int 0) (i:=z%4) (by omega) (by omega)
   refine⟨_,rfl,_,_,rfl,rfl,(by show(0:Int)<4;decide),p,_,_,v,rfl,rfl,SqL.of kac,e,?_⟩
   rcases hv with rfl|rfl|rfl|rfl
   ·exact kk _ _ (kah hp) (by omega) (by omega)
   ·exact kk _ _ (kah hp) (by omega) (by omega)
   ·exact kk _ _ (kah hp) (by omega) (by omega)
   ·exact kk _ _ (kah hp) (by omega) (by omega)
inductive kj1 (vs:List V) (H:Hp) (Q:VK) (E_:XK):Prop
 |ct (c:Int) (_:vs=[.int c]) (_:∀(H':Hp) (p:Addr) (ps:List (Option Nat)),Same H H'→H p=none→H' p=some (.lst (ps.map pV))→Good ps→ps.length≤20→0<ps.length→Q (.ref p) H'):kj1 vs H Q E_
theorem QR:kaq ["_law_cell_here","_law_parents_here","_law_k","_law_drawn"] ["_law_cell_here"] (kag kb4):=⟨rfl,rfl,rfl,by decide +kernel,rfl,by decide +kernel,by decide +kernel⟩
theorem kdY(W:WB K mg d base):FnOk P w K mg base CX0 2 d.Yw d.Yx ["_law_cell_here"] kj1:=by
 refine FunD.ok W.Qu.F QR (fun vs H Q E h=>?_) (fun cdv A outer s H vs Q E hr h=>?_)
 ·obtain⟨c,rfl,_⟩:=h
  rfl
 ·obtain⟨c,rfl,kk⟩:=h
  have qp:=kbc (P:=P) (w:=w) (base:=base) W
  refine⟨_,kad (kav (i:=1) QR.nd rfl (Or.inl rfl) (kaI (kaa kaV kae)))
   (kad (kbk PassesOwn.never rfl (kif rfl W.B.range (kaa kaf (kaa (pe_op kbr kaf (pe_op kaB (kan qp hr rfl W.qh.m W.qh.F.kp W.qh.b .nil pass0 (kaa (pv 0) (kaa kaf kae))) kaf)) kae))) (kap (i:=2) QR.nd rfl (Or.inl rfl))
   (kad (kav (i:=3) QR.nd rfl (Or.inl rfl) (kan qp hr rfl W.qh.m W.qh.F.kp W.qh.b .nil pass0 (kaa (pv 0) (kaa (pe_op kbr kaf (pv 2)) kae))))
   (kai (ka8 (pe_bm Jk Js Jt kbf (pv 1) (kaa (pe_ix (r:=rIxL K) kaC (kaI (kaa kaV (kaa (pe_op kaB (pe_op kaG (pv 3) kaf) (pv 2)) (kaa (pe_op kaB (pe_op kaG (pv 3) kaf) (pv 2)) kae)))) (pe_op kaB (pv 3) kaf) (fun _ _=>rfl)) kae))))))
   (kai (kao (pv 1)))),?_⟩
  refine⟨(by show 1≤sizeLine;decide),fun p hp=>?_⟩
  have s1:=kah (o:=.lst [V.non]) hp
  have hp1:(upd H p (.lst [V.non])) p=some (.lst (([none]:List (Option Nat)).map pV)):=kac
  generalize upd H p (.lst [V.non])=H1 at *
  refine⟨_,rfl,c,1,rfl,by decide,by decide,fun m m0 m1=>⟨_,_,rfl,rfl,(by show(0:Int)<6;decide),_,_,rfl,rfl,_,_,rfl,⟨by decide,by decide,by omega,by omega⟩,?_⟩⟩
  refine kcv (fun i σ H'=>Same H H'∧∃(ps:List (Option Nat)) (v2 v3:Option V),σ=[some (.int c),some (.ref p),v2,v3]∧H' p=some (.lst (ps.map pV))∧ps.length=i+1∧Good ps)
   ⟨s1,[none],none,none,rfl,hp1,rfl,kfD kjF (fun k e=>by cases e)⟩ ?_ ?_
  ·rintro i σ H' hi ⟨s2,ps,v2,v3,rfl,hp2,hl,hg⟩
   have hi6:i<6:=by omega
   refine⟨_,rfl,_,rfl,_,_,rfl,rfl,c,1+(1+(i:Int)),rfl,by omega,by omega,fun d d0 d1=>?_⟩
   refine⟨_,rfl, .inl ⟨rfl,_,SqL.of hp2⟩,_,rfl,_,_,rfl,rfl,⟨by decide,by decide⟩,_,rfl,_,_,rfl,rfl,(by show(0:Int)<1+(i:Int);omega),_,rfl,_,_,rfl,rfl,⟨by decide,by decide⟩,_,rfl,_,_,rfl,rfl,(by show(0:Int)<1+(i:Int);omega),(by show 3≤sizeLine;decide),fun q hq=>?_⟩
   have hm0:0≤d/3%(1+(i:Int)):=Int.emod_nonneg _ (by omega)
   have hm1:d/3%(1+(i:Int))<1+(i:Int):=Int.emod_lt_of_pos _ (by omega)
   obtain⟨n,en⟩:=Int.eq_ofNat_of_zero_le hm0
   have n3:=kah (o:=.lst [V.non,V.int (d/3%(1+(i:Int))),V.int (d/3%(1+(i:Int)))]) hq
   have hp3:=n3 _ _ hp2
   have s3:=s2.trans n3
   obtain⟨v,ev,hv⟩:=at3N (a:=.non) (b:=.int (d/3%(1+(i:Int)))) (c:=.int (d/3%(1+(i:Int)))) (i:=d%3) (by omega) (by omega)
   obtain⟨o,eo,ho⟩:∃o:Option Nat,v=pV o∧∀k,o=some k→k<ps.length:=by
    rcases hv with rfl|rfl|rfl
    ·exact⟨none,rfl,fun k e=>by cases e⟩
    ·exact⟨some n,by rw[en];rfl,fun k e=>by cases e;omega⟩
    ·exact⟨some n,by rw[en];rfl,fun k e=>by cases e;omega⟩
   subst eo
   refine⟨_,rfl,_,_,rfl,rfl,(by show(0:Int)<3;decide),q,_,_,_,rfl,rfl,SqL.of kac,ev,?_⟩
   generalize upd H' q (.lst [V.non,V.int (d/3%(1+(i:Int))),V.int (d/3%(1+(i:Int)))])=H3 at *
   refine⟨p,_,_,rfl,rfl,hp3,kar (by rw[Uu];omega),?_⟩
   refine⟨kaw hp s3 (nx hp3),ps++[o],_,_,rfl,?_,by simp[hl],kfD hg ho⟩
   rw[kac]
   simp
  ·rintro σ H' ⟨s2,ps,v2,v3,rfl,hp2,hl,hg⟩
   exact⟨_,rfl,kk H' p ps s2 hp hp2 hg (by omega) (by omega)⟩
noncomputable def mkT(M:Mks):List V:=[pV M.kind, .int M.needs,oV M.most, .bl M.member, .bl M.once, .bl M.lone]
inductive kgA (vs:List V) (H:Hp) (Q:VK) (E_:XK):Prop
 |ct (c:Int) (ps:List (Option Nat)) (g:Bool) (_:vs=[.int c,iV ps.length, .bl g]) (_:0<ps.length) (_:∀(H':Hp) (t:Addr) (M:Mks),Same H H'→H t=none→H' t=some (.tup (mkT M))→MksOk ps M→Q (.ref t) H'):kgA vs H Q E_
theorem qT:kaq ["_law_cell_here","_law_kinds","_law_great","_law_drawn","_law_kind","_law_needs","_law_most","_law_other"] ["_law_cell_here","_law_kinds","_law_great"] (kag kci):=⟨rfl,rfl,rfl,by decide +kernel,rfl,by decide +kernel,by decide +kernel⟩
theorem keS(W:WB K mg d base):FnOk P w K mg base CX0 2 d.Yy d.Yz ["_law_cell_here","_law_kinds","_law_great"] kgA:=by
 refine FunD.ok W.Qv.F qT (fun vs H Q E h=>?_) (fun cdv A outer s H vs Q E hr h=>?_)
 ·obtain⟨c,ps,g,rfl,_⟩:=h
  rfl
 ·obtain⟨c,ps,g,rfl,hl0,kk⟩:=h
  have qp:=kbc (P:=P) (w:=w) (base:=base) W
  have qB:=kca (P:=P) (w:=w) (base:=base) W
  refine⟨_,kad (kav (i:=3) qT.nd rfl (Or.inl rfl) (kan qp hr rfl W.qh.m W.qh.F.kp W.qh.b .nil pass0 (kaa (pv 0) (kaa kaf kae))))
   (kad (kav (i:=4) qT.nd rfl (Or.inl rfl) (pe_ix (r:=rIxL K) kaC (kaI (kaa kaV (kaa kaV (kaa (pe_op kaB (pe_op kaG (pv 3) kaf) (pv 1)) kae)))) (pe_op kaB (pv 3) kaf) (fun _ _=>rfl)))
   (kad (kav (i:=5) qT.nd rfl (Or.inl rfl) (pe_ix (r:=rIxL K) kaC (kaI (kaa kaf (kaa kaf (kaa (kan qB hr rfl W.qm.m W.qm.F.kp W.qm.b .nil pass0 (kaa (pe_op kaG (pv 3) kaf) (kaa (pv 2) kae))) kae)))) (pe_op kaB (pe_op kaG (pv 3) kaf) kaf) (fun _ _=>rfl)))
   (kad (kav (i:=6) qT.nd rfl (Or.inl rfl) (pe_ix (r:=rIxL K) kaC (kaI (kaa kaV (kaa kaV (kaa kaV (kaa (kan qB hr rfl W.qm.m W.qm.F.kp W.qm.b .nil pass0 (kaa (pe_op kaG (pv 3) kaf) (kaa (pv 2) kae))) kae))))) (pe_op kaB (pe_op kaG (pv 3) kaf) kaf) (fun _ _=>rfl)))
   (kad (kav (i:=7) qT.nd rfl (Or.inl rfl) (kan qp hr rfl W.qh.m W.qh.F.kp W.qh.b .nil pass0 (kaa (pv 0) (kaa kaf kae))))
   (kai (kao (ka9 (kaa (pv 4) (kaa (pv 5) (kaa (pv 6) (kaa (ka1 op_eq (pe_op kaB (pv 7) kaf) kaf (kax _)) (kaa (ka1 op_eq (pe_op kaB (pe_op kaG (pv 7) kaf) kaf) kaf (kax _)) (kaa (ka1 op_eq (pe_op kaB (pe_op kaG (pv 7) kaf) kaf) kaf (kax _)) kae))))))))))))),?_⟩
  refine⟨_,rfl,c,11,rfl,by decide,by decide,fun d d0 d1=>?_⟩
  have hm0:0≤d/3%(ps.length:Int):=Int.emod_nonneg _ (by omega)
  have hm1:d/3%(ps.length:Int)<(ps.length:Int):=Int.emod_lt_of_pos _ (by omega)
  refine⟨_,rfl,_,_,rfl,rfl,⟨by decide,by decide⟩,_,rfl,_,_,rfl,rfl,(by show(0:Int)<(ps.length:Int);omega),(by show 3≤sizeLine;decide),fun l1 hl1=>?_⟩
  obtain⟨v1,e1,hv1⟩:=at3N (a:=.non) (b:=.non) (c:=.int (d/3%(ps.length:Int))) (i:=d%3) (by omega) (by omega)
  obtain⟨kd,rfl,hkd⟩:∃kd:Option Nat,v1=pV kd∧∀k,kd=some k→k<ps.length:=by
   rcases hv1 with rfl|rfl|rfl
   ·exact⟨none,rfl,fun k e=>by cases e⟩
   ·exact⟨none,rfl,fun k e=>by cases e⟩
   ·exact⟨some (d/3%(ps.length:Int)).toNat,by show V.int _=V.int _;rw[Int.toNat_of_nonneg hm0],fun k e=>by cases e;omega⟩
  refine⟨_,rfl,_,_,rfl,rfl,(by show(0:Int)<3;decide),l1,_,_,_,rfl,rfl,SqL.of kac,e1,?_⟩
  have s1:=kah (o:=.lst [V.non,V.non,V.int (d/3%(ps.length:Int))]) hl1
  generalize upd H l1 (.lst [V.non,V.non,V.int (d/3%(ps.length:Int))])=H1 at *
  refine⟨_,rfl,_,_,rfl,rfl,⟨by decide,by decide⟩,_,rfl,_,g,rfl,fun H2 c2 s2 c20 c21=>⟨(by show 3≤sizeLine;decide),fun l2 hl2=>?_⟩⟩
  obtain⟨v2,e2,hv2⟩:=at3N (a:=.int 0) (b:=.int 0) (c:=.int c2) (i:=d/9%3) (by omega) (by omega)
  obtain⟨nd,rfl,hnd⟩:∃nd:Int,v2=.int nd∧0≤nd∧nd≤1000000000000:=by
   rcases hv2 with rfl|rfl|rfl
   ·exact⟨0,rfl,by decide,by decide⟩
   ·exact⟨0,rfl,by decide,by decide⟩
   ·exact⟨c2,rfl,c20,c21⟩
  refine⟨_,rfl,_,_,rfl,rfl,⟨by decide,by decide⟩,_,_,rfl,rfl,(by show(0:Int)<3;decide),l2,_,_,_,rfl,rfl,SqL.of kac,e2,?_⟩
  have s3:=(s1.trans s2).trans (kah (o:=.lst [V.int 0,V.int 0,V.int c2]) hl2)
  generalize upd H2 l2 (.lst [V.int 0,V.int 0,V.int c2])=H3 at *
  refine⟨_,rfl,_,_,rfl,rfl,⟨by decide,by decide⟩,_,rfl,_,g,rfl,fun H4 c4 s4 c40 c41=>⟨(by show 4≤sizeLine;decide),fun l4 hl4=>?_⟩⟩
  obtain⟨v4,e4,hv4⟩:=at4N (a:=.non) (b:=.non) (c:=.non) (e:=.int c4) (i:=d/27%4) (by omega) (by omega)
  obtain⟨mo,rfl,hmo⟩:∃mo:Option Int,v4=oV mo∧∀m,mo=some m→0≤m∧m≤1000000000000:=by
   rcases hv4 with rfl|rfl|rfl|rfl
   ·exact⟨none,rfl,fun m e=>by cases e⟩
   ·exact⟨none,rfl,fun m e=>by cases e⟩
   ·exact⟨none,rfl,fun m e=>by cases e⟩
   ·exact⟨some c4,rfl,fun m e=>by cases e;exact⟨c40,c41⟩⟩
  refine⟨_,rfl,_,_,rfl,rfl,⟨by decide,by decide⟩,_,_,rfl,rfl,(by show(0:Int)<4;decide),l4,_,_,_,rfl,rfl,SqL.of kac,e4,?_⟩
  have s5:=(s3.trans s4).trans (kah (o:=.lst [V.non,V.non,V.non,V.int c4]) hl4)
  generalize upd H4 l4 (.lst [V.non,V.non,V.non,V.int c4])=H5 at *
  refine⟨_,rfl,c,12,rfl,by decide,by decide,fun o o0 o1=>?_⟩
  refine⟨_,rfl,_,rfl,_,rfl,_,rfl,_,_,rfl,rfl,(by show(0:Int)<7;decide),rfl,_,rfl,_,_,rfl,rfl,⟨by decide,by decide⟩,_,_,rfl,rfl,(by show(0:Int)<4;decide),rfl,_,rfl,_,_,rfl,rfl,⟨by decide,by decide⟩,_,_,rfl,rfl,(by show(0:Int)<4;decide),rfl,(by show 6≤sizeLine;decide),fun t ht=>?_⟩
  have fin:∀b1 b2 b3:Bool,Q (.ref t) (upd H5 t (.tup (mkT ⟨kd,nd,mo,b1,b2,b3⟩))):=fun b1 b2 b3=>kk (upd H5 t (.tup (mkT ⟨kd,nd,mo,b1,b2,b3⟩))) t ⟨kd,nd,mo,b1,b2,b3⟩ (s5.trans (kah ht)) (s5.free ht) kac ⟨hkd,hnd,hmo⟩
  exact fin _ _ _
noncomputable def srtT:Srt→List V
 | .off a=>[.str "off", .int a]
 | .share s b=>[.str "share", .int s, .bl b]
 | .cheap n=>[.str "cheapest", .int n]
 | .bund n p=>[.str "bundle", .int n, .int p]
 | .carr=>[.str "carriage"]
noncomputable def VchT(H:Hp)(t:Addr)(V:Vch):Prop:=∃mt,H t=some (.tup (srtT V.so++[.ref mt]))∧H mt=some (.tup (mkT V.ms))
theorem VchT.same{H H':Hp}{t:Addr}{V:Vch}(s:Same H H'):VchT H t V→VchT H' t V:=fun⟨mt,h1,h2⟩=>⟨mt,s _ _ h1,s _ _ h2⟩
theorem VchT.put{H:Hp}{t l:Addr}{V:Vch}{xs ys:List L2.V}(hl:H l=some (.lst xs)):VchT H t V→VchT (upd H l (.lst ys)) t V:=fun⟨mt,h1,h2⟩=>
 ⟨mt,by rw[kak (ne_of h1 hl (by intro z;cases z))];exact h1,by rw[kak (ne_of h2 hl (by intro z;cases z))];exact h2⟩
theorem ki2{ns:List Int}{i:Int}(h0:0≤i)(h:i<((ns.length:Nat):Int)):∃z,z∈ns∧atI (ns.map V.int) i=some (.int z):=by
 obtain⟨n,rfl⟩:=Int.eq_ofNat_of_zero_le h0
 obtain⟨z,ez⟩:=at_of (xs:=ns) (i:=n) (by omega)
 exact⟨z,UE ez,kaY (by rw[UF,ez];rfl)⟩
theorem kjP(xs:List V)(x:V):cutV (xs++[x]) none (some ((((xs++[x]).length:Nat):Int)-1))=xs:=by
 rw[show(((xs++[x]).length:Nat):Int)-1=((xs.length:Nat):Int) by rw[UW,JK];omega,kiR,List.take_left]
theorem kjM(xs:List V)(x:V):¬(HT.sIx (xs++[x]).length 0 none=0∧HT.sIx (xs++[x]).length (xs++[x]).length (some ((((xs++[x]).length:Nat):Int)-1))=(xs++[x]).length):=by
 rintro⟨_,h⟩
 rw[show(((xs++[x]).length:Nat):Int)-1=((xs.length:Nat):Int) by rw[UW,JK];omega,HT.sIx_nat,UW,JK] at h
 omega
theorem P2.put{α β:Type}{R: α→β→Prop}{a: α}{b: β}(r:R a b):∀{as:List α} {bs:List β} (i:Nat),P2 R as bs→P2 R (as.set i a) (bs.set i b)
 |_,_,_, .nil=>.nil
 |_,_,0, .cons _ t=>.cons r t
 |_,_,i+1, .cons q t=>.cons q (P2.put r i t)
theorem kk7{ss:List Str}{i:Int}(h0:0≤i)(h:i<((ss.length:Nat):Int)):∃z,z∈ss∧atI (ss.map V.str) i=some (.str z):=by
 obtain⟨n,rfl⟩:=Int.eq_ofNat_of_zero_le h0
 obtain⟨z,ez⟩:=at_of (xs:=ss) (i:=n) (by omega)
 exact⟨z,UE ez,kaY (by rw[UF,ez];rfl)⟩
theorem RulIs.put{H:Hp}{a l:Addr}{r:Rul}{xs ys:List L2.V}(hl:H l=some (.lst xs))(h:RulIs H a r):RulIs (upd H l (.lst ys)) a r:=by
 have h':H a=some (.tup [.str r.w,iV r.a,iV r.b]):=h
 show(upd H l (.lst ys)) a=_
 rw[kak (ne_of h' hl (by intro z;cases z))]
 exact h'
inductive kgy (vs:List V) (H:Hp) (Q:VK) (E_:XK):Prop
 |ct (c:Int) (ps:List (Option Nat)) (g:Bool) (_:vs=[.int c,iV ps.length, .bl g]) (_:0<ps.length) (_:∀(H':Hp) (t mt:Addr) (so:Srt) (M:Mks),Same H H'→H t=none→H' t=some (.tup (srtT so++[.ref mt]))→H' mt=some (.tup (mkT M))→SrtOk so→MksOk ps M→Q (.ref t) H'):kgy vs H Q E_
theorem QS:kaq ["_law_cell_here","_law_kinds","_law_great","_law_drawn","_law_marks_here","_law_rest"] ["_law_cell_here","_law_kinds","_law_great"] (kag kb3):=⟨rfl,rfl,rfl,by decide +kernel,rfl,by decide +kernel,by decide +kernel⟩
theorem kdX(W:WB K mg d base):FnOk P w K mg base CX0 3 d.YA d.YB ["_law_cell_here","_law_kinds","_law_great"] kgy:=by
 refine FunD.ok W.Qw.F QS (fun vs H Q E h=>?_) (fun cdv A outer s H vs Q E hr h=>?_)
 ·obtain⟨c,ps,g,rfl,_⟩:=h
  rfl
 ·obtain⟨c,ps,g,rfl,hl0,kk⟩:=h
  have qp:=kbc (P:=P) (w:=w) (base:=base) W
  have Vt:=keS (P:=P) (w:=w) (base:=base) W
  have qB:=kca (P:=P) (w:=w) (base:=base) W
  have hr1:Room 1 _:=hr.mono (by decide)
  refine⟨_,kad (kav (i:=3) QS.nd rfl (Or.inl rfl) (kan qp hr1 rfl W.qh.m W.qh.F.kp W.qh.b .nil pass0 (kaa (pv 0) (kaa kaf kae))))
   (kad (kav (i:=4) QS.nd rfl (Or.inl rfl) (kan Vt hr rfl W.Qv.m W.Qv.F.kp W.Qv.b .nil pass0 (kaa (pv 0) (kaa (pv 1) (kaa (pv 2) kae)))))
   (kad (kav (i:=5) QS.nd rfl (Or.inl rfl) (pe_op kaG (pv 3) kaf))
   (kad (ps_if (kat op_lt (pe_op kaB (pv 3) kaf) kaf (kax _)) (kai (kao (ka9 (kaa kaP (kaa (kan qB hr1 rfl W.qm.m W.qm.F.kp W.qm.b .nil pass0 (kaa (pv 5) (kaa (pv 2) kae))) (kaa (pv 4) kae)))))) (kau))
   (kad (ps_if (kat op_eq (pe_op kaB (pv 3) kaf) kaf (kax _)) (kai (kao (ka9 (kaa kaP (kaa (pe_ix (r:=rIxL K) kaC (kaI (kaa kaf (kaa kaf (kaa (pe_op kbr kaf (pe_op kaB (pe_op kaG (pv 5) kaf) kaf)) kae)))) (pe_op kaB (pv 5) kaf) (fun _ _=>rfl)) (kaa (ka1 op_eq (pe_op kaB (pe_op kaG (pv 5) kaf) kaf) kaf (kax _)) (kaa (pv 4) kae))))))) (kau))
   (kad (ps_if (kat op_eq (pe_op kaB (pv 3) kaf) kaf (kax _)) (kai (kao (ka9 (kaa kaP (kaa (pe_ix (r:=rIxL K) kaC (kaI (kaa kaf (kaa kaf (kaa (pe_op kbr kaf (pe_op kaB (pe_op kaG (pv 5) kaf) kaf)) kae)))) (pe_op kaB (pv 5) kaf) (fun _ _=>rfl)) (kaa (pv 4) kae)))))) (kau))
   (kad (ps_if (kat op_eq (pe_op kaB (pv 3) kaf) kaf (kax _)) (kai (kao (ka9 (kaa kaP (kaa (pe_ix (r:=rIxL K) kaC (kaI (kaa kaf (kaa kaf (kaa (pe_op kbr kaf (pe_op kaB (pe_op kaG (pv 5) kaf) kaf)) kae)))) (pe_op kaB (pv 5) kaf) (fun _ _=>rfl)) (kaa (kan qB hr1 rfl W.qm.m W.qm.F.kp W.qm.b .nil pass0 (kaa (pe_op kaG (pv 5) kaf) (kaa (pv 2) kae))) (kaa (pv 4) kae))))))) (kau))
   (kai (kao (ka9 (kaa kaP (kaa (pv 4) kae))))))))))),?_⟩
  try refine sN fun _ Y4=>?_
  refine⟨_,rfl,c,13,rfl,by decide,by decide,fun d d0 d1=>?_⟩
  try apply Y4
  try refine sN fun _ Y4=>?_
  refine⟨_,rfl,_,rfl,_,rfl,c,ps,g,rfl,hl0,fun H1 mt M s1 f1 h1 hM=>?_⟩
  try apply Y4
  try refine sN fun _ Y4=>?_
  refine⟨_,rfl,_,_,rfl,rfl,⟨by decide,by decide⟩,?_⟩
  have fin:∀(so:Srt) (H2:Hp) (t:Addr),Same H1 H2→H2 t=none→SrtOk so→Q (.ref t) (upd H2 t (.tup (srtT so++[.ref mt]))):=fun so H2 t s2 ft hso=>kk _ t mt so M ((s1.trans s2).trans (kah ft)) ((s1.trans s2).free ft) kac (kah ft _ _ (s2 _ _ h1)) hso hM
  try apply Y4
  try refine sN fun _ Y4=>?_
  refine⟨_,rfl,_,_,rfl,rfl,(by show(0:Int)<6;decide),_,_,rfl,rfl,_,rfl,ite2 (fun _=>?_) (fun _=>?_)⟩
  ·exact⟨_,rfl,_,rfl,_,g,rfl,fun H2 a s2 a0 a1=>⟨_,rfl,(by show 3≤sizeLine;decide),fun t ht=>fin (.off a) H2 t s2 ht ⟨a0,a1⟩⟩⟩
  try apply Y4
  try refine sN fun _ Y4=>?_
  refine⟨_,rfl,_,_,rfl,rfl,(by show(0:Int)<6;decide),rfl,_,rfl,ite2 (fun _=>?_) (fun _=>?_)⟩
  ·refine⟨_,rfl,_,_,rfl,rfl,⟨by decide,by decide⟩,_,_,rfl,rfl,(by show(0:Int)<1000;decide),_,_,rfl,rfl,(by show 3≤sizeLine;decide),fun l hl=>?_⟩
   obtain⟨v,e,hv⟩:=at3N (a:=.int 1) (b:=.int 1000) (c:=.int (1+d/6/3%1000)) (i:=d/6%3) (by omega) (by omega)
   obtain⟨sh,rfl,hsh⟩:∃sh:Int,v=.int sh∧1≤sh∧sh≤1000:=by
    rcases hv with rfl|rfl|rfl
    ·exact⟨1,rfl,by decide,by decide⟩
    ·exact⟨1000,rfl,by decide,by decide⟩
    ·exact⟨_,rfl,by omega,by omega⟩
   have s2:=kah (o:=.lst [V.int 1,V.int 1000,V.int (1+d/6/3%1000)]) hl
   have e2:(upd H1 l (.lst [V.int 1,V.int 1000,V.int (1+d/6/3%1000)])) l=some (.lst [V.int 1,V.int 1000,V.int (1+d/6/3%1000)]):=kac
   generalize upd H1 l (.lst [V.int 1,V.int 1000,V.int (1+d/6/3%1000)])=H2 at *
   try apply Y4
   try refine sN fun _ Y6=>?_
   refine⟨_,rfl,_,_,rfl,rfl,(by show(0:Int)<3;decide),l,_,_,_,rfl,rfl,SqL.of e2,e,?_⟩
   try first|apply Y6|apply Y4
   try refine sN fun _ Y6=>?_
   refine⟨_,rfl,_,_,rfl,rfl,⟨by decide,by decide⟩,_,_,rfl,rfl,(by show(0:Int)<2;decide),?_⟩
   try first|apply Y6|apply Y4
   try refine sN fun _ Y6=>?_
   refine⟨rfl,?_⟩
   try first|apply Y6|apply Y4
   try refine sN fun _ Y6=>?_
   refine⟨_,rfl,(by show 4≤sizeLine;decide),fun t ht=>?_⟩
   have f2:∀b:Bool,Q (.ref t) (upd H2 t (.tup (srtT (.share sh b)++[.ref mt]))):=fun b=>fin (.share sh b) H2 t s2 ht hsh
   try first|apply Y6|apply Y4
   exact f2 _
  try apply Y4
  try refine sN fun _ Y4=>?_
  refine⟨_,rfl,_,_,rfl,rfl,(by show(0:Int)<6;decide),rfl,_,rfl,ite2 (fun _=>?_) (fun _=>?_)⟩
  ·refine⟨_,rfl,_,_,rfl,rfl,⟨by decide,by decide⟩,_,_,rfl,rfl,(by show(0:Int)<19;decide),_,_,rfl,rfl,(by show 3≤sizeLine;decide),fun l hl=>?_⟩
   obtain⟨v,e,hv⟩:=at3N (a:=.int 2) (b:=.int 3) (c:=.int (2+d/6/3%19)) (i:=d/6%3) (by omega) (by omega)
   obtain⟨m,rfl,hm⟩:∃m:Int,v=.int m∧2≤m∧m≤20:=by
    rcases hv with rfl|rfl|rfl
    ·exact⟨2,rfl,by decide,by decide⟩
    ·exact⟨3,rfl,by decide,by decide⟩
    ·exact⟨_,rfl,by omega,by omega⟩
   have s2:=kah (o:=.lst [V.int 2,V.int 3,V.int (2+d/6/3%19)]) hl
   have e2:(upd H1 l (.lst [V.int 2,V.int 3,V.int (2+d/6/3%19)])) l=some (.lst [V.int 2,V.int 3,V.int (2+d/6/3%19)]):=kac
   generalize upd H1 l (.lst [V.int 2,V.int 3,V.int (2+d/6/3%19)])=H2 at *
   try apply Y4
   exact⟨_,rfl,_,_,rfl,rfl,(by show(0:Int)<3;decide),l,_,_,_,rfl,rfl,SqL.of e2,e,_,rfl,(by show 3≤sizeLine;decide),fun t ht=>fin (.cheap m) H2 t s2 ht hm⟩
  try apply Y4
  try refine sN fun _ Y4=>?_
  refine⟨_,rfl,_,_,rfl,rfl,(by show(0:Int)<6;decide),rfl,_,rfl,ite2 (fun _=>?_) (fun _=>?_)⟩
  ·refine⟨_,rfl,_,_,rfl,rfl,⟨by decide,by decide⟩,_,_,rfl,rfl,(by show(0:Int)<19;decide),_,_,rfl,rfl,(by show 3≤sizeLine;decide),fun l hl=>?_⟩
   obtain⟨v,e,hv⟩:=at3N (a:=.int 2) (b:=.int 3) (c:=.int (2+d/6/3%19)) (i:=d/6%3) (by omega) (by omega)
   obtain⟨m,rfl,hm⟩:∃m:Int,v=.int m∧2≤m∧m≤20:=by
    rcases hv with rfl|rfl|rfl
    ·exact⟨2,rfl,by decide,by decide⟩
    ·exact⟨3,rfl,by decide,by decide⟩
    ·exact⟨_,rfl,by omega,by omega⟩
   have s2:=kah (o:=.lst [V.int 2,V.int 3,V.int (2+d/6/3%19)]) hl
   have e2:(upd H1 l (.lst [V.int 2,V.int 3,V.int (2+d/6/3%19)])) l=some (.lst [V.int 2,V.int 3,V.int (2+d/6/3%19)]):=kac
   generalize upd H1 l (.lst [V.int 2,V.int 3,V.int (2+d/6/3%19)])=H2 at *
   try apply Y4
   exact⟨_,rfl,_,_,rfl,rfl,(by show(0:Int)<3;decide),l,_,_,_,rfl,rfl,SqL.of e2,e,_,rfl,_,_,rfl,rfl,⟨by decide,by decide⟩,_,rfl,_,g,rfl,fun H3 a s3 a0 a1=>⟨_,rfl,(by show 4≤sizeLine;decide),fun t ht=>fin (.bund m a) H3 t (s2.trans s3) ht ⟨hm.1,hm.2,a0,a1⟩⟩⟩
  try apply Y4
  exact⟨_,rfl,(by show 2≤sizeLine;decide),fun t ht=>fin .carr H1 t (Same.refl _) ht trivial⟩
inductive khS (d:D) (vs:List V) (H:Hp) (Q:VK) (E_:XK):Prop
 |ct (t mt:Addr) (so:Srt) (M:Mks) (_:vs=[.ref t]) (_:H t=some (.tup (srtT so++[.ref mt]))) (_:H mt=some (.tup (mkT M))) (_:Tbs d H) (_:∀(H':Hp) (v:Addr),Same H H'→H v=none→VchIs d H' v ⟨so,M⟩→Q (.ref v) H'):khS d vs H Q E_
theorem Xz:kaq ["_law_told","_law_marks_here","_law_own"] ["_law_told"] (kag kcH):=⟨rfl,rfl,rfl,by decide +kernel,rfl,by decide +kernel,by decide +kernel⟩
theorem kft(W:WB K mg d base):FnOk P w K mg base CX0 6 d.YC d.YD ["_law_told"] (khS d):=by
 refine FunD.ok W.Qx.F Xz (fun vs H Q E h=>?_) (fun cdv A outer s H vs Q E hr h=>?_)
 ·obtain⟨t,mt,so,M,rfl,_⟩:=h
  rfl
 ·obtain⟨t,mt,so,M,rfl,ht,hmt,htb0,kk⟩:=h
  have Xo:=kcU (P:=P) (w:=w) (base:=base) W
  have Vu:=kgd (P:=P) (w:=w) (base:=base) W
  have Vv:=keV (P:=P) (w:=w) (base:=base) W
  have Vw:=kdA (P:=P) (w:=w) (base:=base) W
  have Vx:=keh (P:=P) (w:=w) (base:=base) W
  have Vy:=kdB (P:=P) (w:=w) (base:=base) W
  have hr2:Room 2 _:=hr.mono (by decide)
  refine⟨_,kad (kav (i:=1) Xz.nd rfl (Or.inl rfl) (pe_ix (r:=rIxT K) kbd (pv 0) (pe_op kcQ (kas (r:=ka4 K) kaA (by rfl) W.B.len b_len (kaa (pv 0) kae)) kaf) (fun _ _=>rfl)))
   (kad (kav (i:=2) Xz.nd rfl (Or.inl rfl) (kbe (W.QG.mk' W.qe) Xo hr2 rfl W.qe.m W.QG.b .nil pass0 (kaa (pe_ix (r:=rIxT K) kbd (pv 1) kaf (fun _ _=>rfl)) (kaa (pe_ix (r:=rIxT K) kbd (pv 1) kaf (fun _ _=>rfl)) (kaa (pe_ix (r:=rIxT K) kbd (pv 1) kaf (fun _ _=>rfl)) (kaa (pe_ix (r:=rIxT K) kbd (pv 1) kaf (fun _ _=>rfl)) (kaa (pe_ix (r:=rIxT K) kbd (pv 1) kaf (fun _ _=>rfl)) (kaa (pe_ix (r:=rIxT K) kbd (pv 1) kaf (fun _ _=>rfl)) kae))))))))
   (kad (ps_if (kat op_eq (pe_ix (r:=rIxT K) kbd (pv 0) kaf (fun _ _=>rfl)) kaP (kax _)) (kai (kao (kbe (W.Q7.mk' W.c_Off) Vu hr rfl W.c_Off.m W.Q7.b .nil pass0 (kaa (pe_ix (r:=rIxT K) kbd (pv 0) kaf (fun _ _=>rfl)) (kaa (pv 2) kae))))) (kau))
   (kad (ps_if (kat op_eq (pe_ix (r:=rIxT K) kbd (pv 0) kaf (fun _ _=>rfl)) kaP (kax _)) (kai (kao (kbe (W.Q8.mk' W.qi) Vv hr rfl W.qi.m W.Q8.b .nil pass0 (kaa (pe_ix (r:=rIxT K) kbd (pv 0) kaf (fun _ _=>rfl)) (kaa (pe_ix (r:=rIxT K) kbd (pv 0) kaf (fun _ _=>rfl)) (kaa (pv 2) kae)))))) (kau))
   (kad (ps_if (kat op_eq (pe_ix (r:=rIxT K) kbd (pv 0) kaf (fun _ _=>rfl)) kaP (kax _)) (kai (kao (kbe (W.Q9.mk' W.qk) Vw hr rfl W.qk.m W.Q9.b .nil pass0 (kaa (pe_ix (r:=rIxT K) kbd (pv 0) kaf (fun _ _=>rfl)) (kaa (pv 2) kae))))) (kau))
   (kad (ps_if (kat op_eq (pe_ix (r:=rIxT K) kbd (pv 0) kaf (fun _ _=>rfl)) kaP (kax _)) (kai (kao (kbe (W.Xa.mk' W.qj) Vx hr rfl W.qj.m W.Xa.b .nil pass0 (kaa (pe_ix (r:=rIxT K) kbd (pv 0) kaf (fun _ _=>rfl)) (kaa (pe_ix (r:=rIxT K) kbd (pv 0) kaf (fun _ _=>rfl)) (kaa (pv 2) kae)))))) (kau))
   (kai (kao (kbe (W.Xc.mk' W.ql) Vy hr rfl W.ql.m W.Xc.b .nil pass0 (kaa (pv 2) kae))))))))),?_⟩
  obtain⟨kd,nd,mo,b1,b2,b3⟩:=M
  have el:atI (srtT so++[V.ref mt]) (((srtT so++[V.ref mt]).length:Nat)-1)=some (V.ref mt):=by cases so <;> rfl
  refine⟨_,rfl,_,rfl,t,_,rfl, .inr (SqT.of ht),_,_,rfl,rfl,t,_,_,_,rfl,rfl,SqT.of ht,el,?_⟩
  refine⟨_,rfl,mt,_,_,_,rfl,rfl,SqT.of hmt,rfl,_,rfl,mt,_,_,_,rfl,rfl,SqT.of hmt,rfl,_,rfl,mt,_,_,_,rfl,rfl,SqT.of hmt,rfl,_,rfl,mt,_,_,_,rfl,rfl,SqT.of hmt,rfl,_,rfl,mt,_,_,_,rfl,rfl,SqT.of hmt,rfl,_,rfl,mt,_,_,_,rfl,rfl,SqT.of hmt,rfl,?_⟩
  refine kgV (M:=⟨kd,nd,mo,b1,b2,b3⟩) fun H1 mA s1 f1 hM=>?_
  have htb:Tbs d H1:=Tbs.same s1 htb0
  have ht1:=s1 _ _ ht
  have no:∀(a b:Str) (R1 R2:Prop),a≠b→R2→if decide (V.str a=V.str b)=true then R1 else R2:=fun a b R1 R2 hn h=>by
   rw[eq_str,decide_eq_false hn,if_neg UA]
   exact h
  cases so with
  |off a=>
   refine⟨_,rfl,t,_,_,_,rfl,rfl,SqT.of ht1,rfl,rfl,_,rfl,?_⟩
   show if decide (V.str "off"=V.str "off")=true then _ else _
   rw[show decide (V.str "off"=V.str "off")=true by simp]
   exact iteT ⟨_,rfl,t,_,_,_,rfl,rfl,SqT.of ht1,rfl,_,rfl,kfz (so:=.off a) ⟨_,rfl⟩ rfl hM fun H2 x s2 f2 hV=>kk H2 x (s1.trans s2) (s1.free f2) hV⟩
  |share sh b=>
   refine⟨_,rfl,t,_,_,_,rfl,rfl,SqT.of ht1,rfl,rfl,_,rfl,no "share" "off" _ _ (by decide +kernel) ?_⟩
   refine⟨_,rfl,t,_,_,_,rfl,rfl,SqT.of ht1,rfl,rfl,_,rfl,?_⟩
   show if decide (V.str "share"=V.str "share")=true then _ else _
   rw[show decide (V.str "share"=V.str "share")=true by simp]
   exact iteT ⟨_,rfl,t,_,_,_,rfl,rfl,SqT.of ht1,rfl,_,rfl,t,_,_,_,rfl,rfl,SqT.of ht1,rfl,_,rfl,kfz (so:=.share sh b) ⟨_,_,rfl⟩ rfl hM fun H2 x s2 f2 hV=>kk H2 x (s1.trans s2) (s1.free f2) hV⟩
  |cheap m=>
   refine⟨_,rfl,t,_,_,_,rfl,rfl,SqT.of ht1,rfl,rfl,_,rfl,no "cheapest" "off" _ _ (by decide +kernel) ?_⟩
   refine⟨_,rfl,t,_,_,_,rfl,rfl,SqT.of ht1,rfl,rfl,_,rfl,no "cheapest" "share" _ _ (by decide +kernel) ?_⟩
   refine⟨_,rfl,t,_,_,_,rfl,rfl,SqT.of ht1,rfl,rfl,_,rfl,?_⟩
   show if decide (V.str "cheapest"=V.str "cheapest")=true then _ else _
   rw[show decide (V.str "cheapest"=V.str "cheapest")=true by simp]
   exact iteT ⟨_,rfl,t,_,_,_,rfl,rfl,SqT.of ht1,rfl,_,rfl,kfz (so:=.cheap m) ⟨_,rfl⟩ rfl hM fun H2 x s2 f2 hV=>kk H2 x (s1.trans s2) (s1.free f2) hV⟩
  |bund m pz=>
   refine⟨_,rfl,t,_,_,_,rfl,rfl,SqT.of ht1,rfl,rfl,_,rfl,no "bundle" "off" _ _ (by decide +kernel) ?_⟩
   refine⟨_,rfl,t,_,_,_,rfl,rfl,SqT.of ht1,rfl,rfl,_,rfl,no "bundle" "share" _ _ (by decide +kernel) ?_⟩
   refine⟨_,rfl,t,_,_,_,rfl,rfl,SqT.of ht1,rfl,rfl,_,rfl,no "bundle" "cheapest" _ _ (by decide +kernel) ?_⟩
   refine⟨_,rfl,t,_,_,_,rfl,rfl,SqT.of ht1,rfl,rfl,_,rfl,?_⟩
   show if decide (V.str "bundle"=V.str "bundle")=true then _ else _
   rw[show decide (V.str "bundle"=V.str "bundle")=true by simp]
   exact iteT ⟨_,rfl,t,_,_,_,rfl,rfl,SqT.of ht1,rfl,_,rfl,t,_,_,_,rfl,rfl,SqT.of ht1,rfl,_,rfl,kfz (so:=.bund m pz) ⟨_,_,rfl⟩ rfl hM fun H2 x s2 f2 hV=>kk H2 x (s1.trans s2) (s1.free f2) hV⟩
  |carr=>
   refine⟨_,rfl,t,_,_,_,rfl,rfl,SqT.of ht1,rfl,rfl,_,rfl,no "carriage" "off" _ _ (by decide +kernel) ?_⟩
   refine⟨_,rfl,t,_,_,_,rfl,rfl,SqT.of ht1,rfl,rfl,_,rfl,no "carriage" "share" _ _ (by decide +kernel) ?_⟩
   refine⟨_,rfl,t,_,_,_,rfl,rfl,SqT.of ht1,rfl,rfl,_,rfl,no "carriage" "cheapest" _ _ (by decide +kernel) ?_⟩
   refine⟨_,rfl,t,_,_,_,rfl,rfl,SqT.of ht1,rfl,rfl,_,rfl,no "carriage" "bundle" _ _ (by decide +kernel) ?_⟩
   exact⟨_,rfl,kkT W.ql.cl W.Xb hM fun H2 x s2 f2 hV=>kk H2 x (s1.trans s2) (s1.free f2) hV⟩
noncomputable def RowT(H:Hp)(a:Addr)(r:Row):Prop:=H a=some (.tup [.int r.kd, .int r.pr, .int r.mn,oV r.ex])
inductive kfg (d:D) (vs:List V) (H:Hp) (Q:VK) (E_:XK):Prop
 |ct (p lp:Addr) (ra:List Addr) (B:Bask) (_:vs=[.ref p]) (_:H p=some (.tup [.ref lp, .int B.cg, .bl B.m])) (_:H lp=some (.lst (ra.map V.ref))) (_:P2 (fun a r=>RowT H a r) ra B.rs) (_:B.rs.length≤12) (_:∀H' b,Same H H'→H b=none→BaskIs d.qf d.qg H' b B→Q (.ref b) H'):kfg d vs H Q E_
theorem ZC:kaq ["_law_told","_law_lines"] ["_law_told"] (kag kbj):=⟨rfl,rfl,rfl,by decide +kernel,rfl,by decide +kernel,by decide +kernel⟩
theorem kcK(W:WB K mg d base):FnOk P w K mg base CX0 3 d.YG d.YH ["_law_told"] (kfg d):=by
 refine FunD.ok W.Qz.F ZC (fun vs H Q E h=>?_) (fun cdv A outer s H vs Q E hr h=>?_)
 ·obtain⟨p,lp,ra,B,rfl,_⟩:=h
  rfl
 ·obtain⟨p,lp,ra,B,rfl,hp,hlp,hR,h12,kk⟩:=h
  have Vz:=kfw (P:=P) (w:=w) (base:=base) W
  have VA:=kei (P:=P) (w:=w) (base:=base) W
  refine⟨_,kad (keL (N:=["_law_kind","_law_price","_law_many","_law_special"]) (CompScope.plain rfl (by decide +kernel) (by decide +kernel) (by decide +kernel) (show(["_law_kind","_law_price","_law_many","_law_special"]:List Str).Nodup by decide +kernel)) rfl (kaH (K:=K) (pe_ix (r:=rIxT K) kbd (pv 0) kaf (fun _ _=>rfl))) (fun _ _ _ _=>kbm (K:=K) (n:=4) rfl (kay (kap (i:=0) (show(["_law_kind","_law_price","_law_many","_law_special"]:List Str).Nodup by decide +kernel) rfl (Or.inl rfl)) (kay (kap (i:=1) (show(["_law_kind","_law_price","_law_many","_law_special"]:List Str).Nodup by decide +kernel) rfl (Or.inl rfl)) (kay (kap (i:=2) (show(["_law_kind","_law_price","_law_many","_law_special"]:List Str).Nodup by decide +kernel) rfl (Or.inl rfl)) (kay (kap (i:=3) (show(["_law_kind","_law_price","_law_many","_law_special"]:List Str).Nodup by decide +kernel) rfl (Or.inl rfl)) kbl))))) (fun _ _ _ _=>(kbe (W.Xg.mk' W.qf) Vz hr rfl W.qf.m W.Xg.b .nil pass0 (kaa (pv 0) (kaa (pv 1) (kaa (pv 2) (kaa (pv 3) kae)))))) (kap (i:=1) ZC.nd rfl (Or.inl rfl)))
   (kai (kao (kbe (W.Xj.mk' W.qg) VA hr rfl W.qg.m W.Xj.b .nil pass0 (kaa (pv 1) (kaa (pe_ix (r:=rIxT K) kbd (pv 0) kaf (fun _ _=>rfl)) (kaa (pe_ix (r:=rIxT K) kbd (pv 0) kaf (fun _ _=>rfl)) kae)))))),?_⟩
  have hlen:=hR.len
  refine⟨_,rfl,p,_,_,_,rfl,rfl,SqT.of hp,rfl,lp,rfl,⟨_,SqL.of hlp⟩,ka3 (xs:=ra.map V.ref) (fun i σ zs H'=>Same H H'∧∃ns:List Addr,zs=ns.map V.ref∧Lines d.qf H' ns (B.rs.take i)∧∃v0 v1 v2 v3:Option V,σ=[v0,v1,v2,v3])
   ⟨Same.refl _,[],rfl, .nil,none,none,none,none,rfl⟩ (by rw[Uu,hlen];exact UH (kar (by omega))) ?_ ?_ ?_⟩
  ·rintro i σ zs H' hi ⟨s,ns,rfl,hn,_⟩
   exact⟨SqL.of (s _ _ hlp),by rw[Uu,hn.len,UL];rw[Uu] at hi;omega⟩
  ·rintro i y σ zs H4 hy ⟨s4,ns,rfl,hn,v0,v1,v2,v3,rfl⟩
   obtain⟨a,ea,rfl⟩:=kbG hy
   obtain⟨r,er,hra⟩:=hR.at ea
   refine⟨a,_,rfl,SqT.of (s4 _ _ hra),rfl,_,_,rfl,_,_,rfl,_,_,rfl,_,_,rfl,rfl,_,rfl,_,rfl,_,rfl,_,rfl,kkS (r:=r) fun H6 y s6 fy hy=>?_⟩
   refine⟨s4.trans s6,ns++[y],by rw[UD];rfl,?_,_,_,_,_,rfl⟩
   rw[take_snoc er]
   exact(hn.same s6).snoc hy
  rintro σ zs H4 ⟨s4,ns,rfl,hn,v0,v1,v2,v3,rfl⟩ q hq
  rw[Uu,hlen,UY] at hn
  generalize hg5:upd H4 q _=H5
  obtain⟨n5,e5⟩:=kaJ hg5 hq
  have s5:=s4.trans n5
  refine⟨_,rfl,_,rfl,p,_,_,_,rfl,rfl,SqT.of (s5 _ _ hp),rfl,_,rfl,p,_,_,_,rfl,rfl,SqT.of (s5 _ _ hp),rfl,kkU (SqL.of e5) fun H6 y l' s6 fy fl' hl' hy=>?_⟩
  exact kk H6 y (s5.trans s6) (none_of s5 fy) ⟨l',ns,hy,hl',hn.same (n5.trans s6)⟩
noncomputable def mans(rs:List Row):List Nat:=rs.map fun r=>r.mn.toNat
theorem kfq:∀(rs:List Row) (k:Nat),((rs.zipIdx k).map fun p=>Uz p.1.mn.toNat p.2).flatten.length=(mans rs).sum
 |[],k=>rfl
 |r::rs,k=>by
  rw[J7,UQ,U0,UW,JD,kfq rs (k+1)]
  rfl
theorem kjo(rs:List Row):(ownN rs).length=(mans rs).sum:=kfq rs 0
theorem kgW:∀{rs:List Row},(∀r∈rs,0≤r.mn)→(rs.map fun r=>r.mn).sum=(((mans rs).sum:Nat):Int)
 |[],_=>rfl
 |r::rs,h=>by
  have h0:=h r UX
  have ih:=kgW (rs:=rs) fun r hr=>h r (US _ hr)
  unfold mans at ih⊢
  rw[UQ,UQ,NG,NG,ih]
  omega
theorem at5{i:Int}(h0:0≤i)(h5:i<5):∃m:Nat,atI [V.int 1, .int 2, .int 3, .int 4, .int 2] i=some (.int ((m:Nat):Int))∧m≤4:=by
 have h:i=0∨i=1∨i=2∨i=3∨i=4:=by omega
 rcases h with rfl|rfl|rfl|rfl|rfl
 ·exact⟨1,rfl,by decide⟩
 ·exact⟨2,rfl,by decide⟩
 ·exact⟨3,rfl,by decide⟩
 ·exact⟨4,rfl,by decide⟩
 ·exact⟨2,rfl,by decide⟩
theorem P2.tk{α β:Type}{R: α→β→Prop}:∀{as:List α} {bs:List β} {n:Nat},P2 R as bs→P2 R (as.take n) (bs.take n)
 |_,_,0,_=>by rw[N9,N9];exact .nil
 |_,_,n+1, .nil=>.nil
 |_,_,n+1, .cons h t=>.cons h (P2.tk t)
noncomputable def RowK(n:Nat)(r:Row):Prop:=r.Ok∧(0≤r.kd∧r.kd<(n:Int))∧r.mn≤20
inductive kj6 (vs:List V) (H:Hp) (Q:VK) (E_:XK):Prop
 |ct (c:Int) (n:Nat) (g:Bool) (_:vs=[.int c,iV n, .bl g]) (_:0<n) (_:∀(H':Hp) (p lp:Addr) (ra:List Addr) (B:Bask),Same H H'→H' p=some (.tup [.ref lp, .int B.cg, .bl B.m])→H' lp=some (.lst (ra.map V.ref))→P2 (fun a r=>RowT H' a r) ra B.rs→B.rs.length≤12→(∀r∈B.rs,r.Ok)→(∀r∈B.rs,0≤r.kd∧r.kd<(n:Int))→0≤B.cg∧B.cg≤1000000000000→(ownN B.rs).length<64→Q (.ref p) H'):kj6 vs H Q E_
theorem qH:kaq ["_law_cell_here","_law_kinds","_law_great","_law_head","_law_lines","_law_k","_law_drawn","_law_many","_law_special"] ["_law_cell_here","_law_kinds","_law_great"] (kag kb9):=⟨rfl,rfl,rfl,by decide +kernel,rfl,by decide +kernel,by decide +kernel⟩
theorem keg(W:WB K mg d base):FnOk P w K mg base CX0 2 d.YE d.YF ["_law_cell_here","_law_kinds","_law_great"] kj6:=by
 refine FunD.ok W.Qy.F qH (fun vs H Q E h=>?_) (fun cdv A outer s H vs Q E hr h=>?_)
 ·obtain⟨c,n,g,rfl,_⟩:=h
  rfl
 ·obtain⟨c,n,g,rfl,hn,kk⟩:=h
  have qp:=kbc (P:=P) (w:=w) (base:=base) W
  have qB:=kca (P:=P) (w:=w) (base:=base) W
  refine⟨_,kad (kav (i:=3) qH.nd rfl (Or.inl rfl) (kan qp hr rfl W.qh.m W.qh.F.kp W.qh.b .nil pass0 (kaa (pv 0) (kaa kaf kae))))
   (kad (kav (i:=4) qH.nd rfl (Or.inl rfl) (kaI kae))
   (kad (kbk PassesOwn.never rfl (kcp rfl W.B.range (kaa (pe_ix (r:=rIxL K) kaC (kaI (kaa kaf (kaa kaf (kaa kaf (kaa kaf (kaa kaf kae)))))) (pe_op kaB (pv 3) kaf) (fun _ _=>rfl)) kae)) (kap (i:=5) qH.nd rfl (Or.inl rfl))
   (kad (kav (i:=6) qH.nd rfl (Or.inl rfl) (kan qp hr rfl W.qh.m W.qh.F.kp W.qh.b .nil pass0 (kaa (pv 0) (kaa (pe_op kbr kaf (pv 5)) kae))))
   (kad (kav (i:=7) qH.nd rfl (Or.inl rfl) (pe_ix (r:=rIxL K) kaC (kaI (kaa (pe_op kaB (pe_op kaG (pv 6) kaf) kaf) (kaa kaf kae))) (kaX kiZ (by rfl) W.B.int b_int (kaa (ka1 op_eq (pe_op kaB (pv 6) kaf) kaf (kax _)) kae)) (fun _ _=>rfl)))
   (kad (kav (i:=8) qH.nd rfl (Or.inl rfl) (pe_ix (r:=rIxL K) kaC (kaI (kaa kaV (kaa kaV (kaa (kan qB hr rfl W.qm.m W.qm.F.kp W.qm.b .nil pass0 (kaa (pe_op kaG (pv 6) kaf) (kaa (pv 2) kae))) kae)))) (pe_op kaB (pe_op kaG (pv 6) kaf) kaf) (fun _ _=>rfl)))
   (kai (ka8 (pe_bm Jk Js Jt kbf (pv 4) (kaa (ka9 (kaa (pe_op kaB (pe_op kaG (pv 6) kaf) (pv 1)) (kaa (kan qB hr rfl W.qm.m W.qm.F.kp W.qm.b .nil pass0 (kaa (pe_op kaG (pv 6) kaf) (kaa (pv 2) kae))) (kaa (pv 7) (kaa (pv 8) kae))))) kae))))))))
   (kad (kfn (ps_if (kat op_gt (kas (r:=rSum K) (kdI rfl) (by rfl) W.B.sum b_sum (kaa (kbv (N:=["_law_line"]) (CompScope.plain rfl (by decide +kernel) (by decide +kernel) (by decide +kernel) (nd1 _)) rfl (kaH (K:=K) (pv 4)) (fun _ _ _ _=>kap (i:=0) (nd1 _) rfl (Or.inl rfl)) (fun _ _ _ _=>(pe_ix (r:=rIxT K) kbd (pv 0) kaf (fun _ _=>rfl)))) kae)) kaf (kax _)) (kai (kav (i:=4) qH.nd rfl (Or.inl rfl) (kcz (r:=rSlL K) keD (pv 4) keN (kco kaf)))) (kau)))
   (kai (kao (ka9 (kaa (pv 4) (kaa (kan qB hr rfl W.qm.m W.qm.F.kp W.qm.b .nil pass0 (kaa (pe_op kaG (pv 3) kaf) (kaa (pv 2) kae))) (kaa (ka1 op_eq (pe_op kaB (pe_op kaG (pv 3) kaf) kaf) kaf (kax _)) kae))))))))),?_⟩
  try refine sN fun _ Y4=>?_
  refine⟨_,rfl,c,21,rfl,by decide,by decide,fun hd hd0 hd1=>?_⟩
  try apply Y4
  try refine sN fun _ Y4=>?_
  refine⟨by decide,fun q fq=>?_⟩
  generalize hg1:upd H q _=H1
  obtain⟨n1,(e1:H1 q=some (.lst (([]:List Addr).map V.ref)))⟩:=kaJ hg1 fq
  try apply Y4
  try refine sN fun _ Y4=>?_
  refine⟨(by show 5≤sizeLine;decide),fun l hl=>?_⟩
  generalize hg2:upd H1 l _=H2
  obtain⟨n2,e2⟩:=kaJ hg2 hl
  obtain⟨m,em,hm⟩:=at5 (i:=hd%5) (by omega) (by omega)
  try apply Y4
  try refine sN fun _ Y4=>?_
  refine⟨_,rfl,_,_,rfl,rfl,(by show(0:Int)<5;decide),l,_,_,_,rfl,rfl,SqL.of e2,em,((m:Nat):Int),rfl,by omega,by omega,kcv (fun i σ H'=>Same H H'∧∃(ra:List Addr) (rs:List Row) (v5 v6 v7 v8:Option V),H' q=some (.lst (ra.map V.ref))∧P2 (fun a r=>RowT H' a r) ra rs∧rs.length=i∧(∀r∈rs,RowK n r)∧σ=[some (.int c),some (iV n),some (.bl g),some (.int hd),some (.ref q),v5,v6,v7,v8])
   ⟨n1.trans n2,[],[],none,none,none,none,n2 _ _ e1, .nil,rfl,(fun r hr=>by cases hr),rfl⟩ ?_ ?_⟩
  ·rintro i σ H' hi ⟨sI,ra,rs,v5,v6,v7,v8,eq,hR,hrl,hK,rfl⟩
   have hi4:i<4:=by
    have:i<m:=by simpa using hi
    omega
   rw[Int.zero_add]
   try apply Y4
   try refine sN fun _ Y6=>?_
   refine⟨_,rfl,_,rfl,_,_,rfl,rfl,c,22+(i:Int),rfl,by omega,by omega,fun dr dr0 dr1=>?_⟩
   try first|apply Y6|apply Y4
   try refine sN fun _ Y6=>?_
   refine⟨_,rfl,_,_,rfl,rfl,⟨by decide,by decide⟩,_,_,rfl,rfl,(by show(0:Int)<5;decide),(by show 2≤sizeLine;decide),fun l1 hl1=>?_⟩
   generalize hg3:upd H' l1 _=H3
   obtain⟨n3,e3⟩:=kaJ hg3 hl1
   try first|apply Y6|apply Y4
   try refine sN fun _ Y6=>?_
   refine⟨_,rfl,_,_,rfl,rfl,(by show(0:Int)<8;decide),rfl, .inr ⟨_,rfl,?_⟩⟩
   generalize decide (V.int (dr%8)=V.int 7)=dm
   obtain⟨mn,emn,hmn⟩:∃mn:Int,atI [V.int (dr/8%5),V.int 20] (if dm=true then(1:Int) else 0)=some (.int mn)∧0≤mn∧mn≤20:=by
    cases dm with
    |true=>exact⟨20,rfl,by decide,by decide⟩
    |false=>exact⟨dr/8%5,rfl,by omega,by omega⟩
   try first|apply Y6|apply Y4
   try refine sN fun _ Y6=>?_
   refine⟨l1,_,_,_,rfl,rfl,SqL.of e3,emn,?_⟩
   try first|apply Y6|apply Y4
   try refine sN fun _ Y6=>?_
   refine⟨_,rfl,_,_,rfl,rfl,⟨by decide,by decide⟩,_,rfl,_,g,rfl,fun H4 cz s4 cz0 cz1=>⟨(by show 3≤sizeLine;decide),fun l2 hl2=>?_⟩⟩
   generalize hg5:upd H4 l2 _=H5
   obtain⟨n5,e5⟩:=kaJ hg5 hl2
   obtain⟨v,ev,hv⟩:=at3N (a:=V.non) (b:=V.non) (c:=V.int cz) (i:=dr/40%3) (by omega) (by omega)
   obtain⟨ex,rfl,hex⟩:∃ex:Option Int,v=oV ex∧∀z,ex=some z→0≤z∧z≤1000000000000:=by
    rcases hv with rfl|rfl|rfl
    ·exact⟨none,rfl,fun z h=>by cases h⟩
    ·exact⟨none,rfl,fun z h=>by cases h⟩
    ·exact⟨some cz,rfl,fun z h=>by cases h;exact⟨cz0,cz1⟩⟩
   try first|apply Y6|apply Y4
   try refine sN fun _ Y6=>?_
   refine⟨_,rfl,_,_,rfl,rfl,⟨by decide,by decide⟩,_,_,rfl,rfl,(by show(0:Int)<3;decide),l2,_,_,_,rfl,rfl,SqL.of e5,ev,?_⟩
   have s35:=(n3.trans s4).trans n5
   have eq5:=s35 _ _ eq
   try first|apply Y6|apply Y4
   try refine sN fun _ Y6=>?_
   refine⟨_,rfl, .inl ⟨rfl,_,SqL.of eq5⟩,_,rfl,_,_,rfl,rfl,⟨by decide,by decide⟩,_,rfl,_,_,rfl,rfl,(by show(0:Int)<((n:Nat):Int);omega),_,rfl,_,_,rfl,rfl,⟨by decide,by decide⟩,_,rfl,_,g,rfl,fun H6 pz s6 p0 p1=>⟨_,rfl,_,rfl,(by show 4≤sizeLine;decide),fun tp htp=>?_⟩⟩
   generalize hg7:upd H6 tp _=H7
   obtain⟨n7,e7⟩:=kaJ hg7 htp
   have s37:=(s35.trans s6).trans n7
   have eq7:=s37 _ _ eq
   try first|apply Y6|apply Y4
   try refine sN fun _ Y6=>?_
   refine⟨q,_,_,rfl,rfl,eq7,kar (by rw[Uu,hR.len];omega),?_⟩
   have b8:But q H7 (upd H7 q (.lst (ra.map V.ref++[V.ref tp]))):=kaz (nx eq7)
   try first|apply Y6|apply Y4
   try refine sN fun _ Y6=>?_
   refine⟨kaw fq (sI.trans s37) (nx eq7),ra++[tp],rs++[⟨dr/120%(n:Int),pz,mn,ex⟩],_,_,_,_,?_,?_,by rw[UW,hrl];rfl,?_,rfl⟩
   ·rw[kac,UD]
    rfl
   ·refine P2.snoc (P2.mono hR fun a r h=>?_) ?_
    ·have h7:=s37 _ _ h
     try first|apply Y6|apply Y4
     exact b8 _ _ (ne_of h7 eq7 (by intro z;cases z)) h7
    ·exact b8 _ _ (ne_of e7 eq7 (by intro z;cases z)) e7
   ·intro r hr
    rcases Jd.mp hr with h|h
    ·exact hK r h
    ·have e:r=⟨dr/120%(n:Int),pz,mn,ex⟩:=by simpa using h
     subst e
     have hn':(0:Int)<(n:Int):=by omega
     try first|apply Y6|apply Y4
     exact⟨⟨p0,p1,hmn.1,Int.le_trans hmn.2 (by decide),hex⟩,⟨Int.emod_nonneg _ (by omega),Int.emod_lt_of_pos _ hn'⟩,hmn.2⟩
  ·rintro σ H' ⟨sI,ra,rs,v5,v6,v7,v8,eq,hR,hrl,hK,rfl⟩
   have hl4:rs.length≤4:=by
    have:m=rs.length:=by simpa using hrl.symm
    omega
   have hm0:∀r∈rs,0≤r.mn:=fun r hr=>(hK r hr).1.mn0
   try first|apply Y6|apply Y4
   try refine sN fun _ Y6=>?_
   refine⟨fun σ H''=>Same H' H''∧∃(lq:Addr) (ra':List Addr) (rs':List Row),H'' lq=some (.lst (ra'.map V.ref))∧P2 (fun a r=>RowT H'' a r) ra' rs'∧rs'.length≤4∧(∀r∈rs',RowK n r)∧(mans rs').sum≤20∧σ=[some (.int c),some (iV n),some (.bl g),some (.int hd),some (.ref lq),v5,v6,v7,v8],?_,?_⟩
   ·refine⟨_,rfl,q,rfl,⟨_,SqL.of eq⟩,ka3 (xs:=ra.map V.ref) (fun i σ ys H''=>H''=H'∧ys=((rs.take i).map fun r=>r.mn).map V.int∧∃v,σ=[v]) ⟨rfl,rfl,none,rfl⟩ (by rw[Uu,hR.len];exact UH (kar (by omega))) ?_ ?_ ?_⟩
    ·rintro i σ ys H'' hi ⟨rfl,rfl,_⟩
     try first|apply Y6|apply Y4
     exact⟨SqL.of eq,by rw[Uu,Uu,UL];rw[Uu,hR.len] at hi;omega⟩
    ·rintro i y σ ys H'' hy ⟨rfl,rfl,v,rfl⟩
     obtain⟨a,ea,rfl⟩:=kbG hy
     obtain⟨r,er,hra⟩:=hR.at ea
     try first|apply Y6|apply Y4
     try refine sN fun _ Y10=>?_
     refine⟨_,rfl,a,_,_,_,rfl,rfl,SqT.of hra,rfl,rfl,?_,_,rfl⟩
     rw[take_snoc er,UD,UD]
     rfl
    ·rintro σ ys H'' ⟨rfl,rfl,v,rfl⟩ D hD
     rw[Uu,hR.len,UY]
     generalize hg3:upd H'' D _=H3
     obtain⟨n3,e3⟩:=kaJ hg3 hD
     try first|apply Y10|apply Y6|apply Y4
     try refine sN fun _ Y10=>?_
     refine⟨D,_,rfl,SqL.of e3,_,_,rfl,rfl,_,rfl,?_⟩
     rw[kgW hm0]
     by_cases hc:(((mans rs).sum:Nat):Int) > 20
     ·rw[decide_eq_true hc]
      refine iteT ?_
      try first|apply Y10|apply Y6|apply Y4
      try refine sN fun _ Y12=>?_
      refine⟨_,rfl,_,rfl,q,_,rfl,SqL.of (n3 _ _ eq),fun q2 hq2=>?_⟩
      rw[show(1:Int)=((1:Nat):Int) from rfl,kiR,←JT]
      generalize hg4:upd H3 q2 _=H4
      obtain⟨n4,e4⟩:=kaJ hg4 hq2
      have s34:=n3.trans n4
      have hK1:∀r∈rs.take 1,RowK n r:=fun r hr=>hK r (NF hr)
      try first|apply Y12|apply Y10|apply Y6|apply Y4
      try refine sN fun _ Y12=>?_
      refine⟨s34,q2,ra.take 1,rs.take 1,e4,P2.tk (P2.mono hR fun a r h=>s34 _ _ h),by rw[UL];omega,hK1,?_,rfl⟩
      cases rs with
      |nil=>simp[mans]
      |cons r rs=>
       have:=(hK r UX).2.2
       simp only[List.take_succ_cons,N9,mans,UQ,Nj,NG,List.sum_nil]
       omega
     ·rw[decide_eq_false hc]
      refine iteF ?_
      try first|apply Y12|apply Y10|apply Y6|apply Y4
      exact⟨n3,q,ra,rs,n3 _ _ eq,P2.mono hR (fun a r h=>n3 _ _ h),hl4,hK,by omega,rfl⟩
   rintro σ H2' ⟨s2',lq,ra',rs',eq',hR',hl',hK',hs',rfl⟩
   try first|apply Y6|apply Y4
   try refine sN fun _ Y6=>?_
   refine⟨_,rfl,_,rfl,_,_,rfl,rfl,⟨by decide,by decide⟩,_,rfl,_,g,rfl,fun H4 cz s4 cz0 cz1=>?_⟩
   try first|apply Y6|apply Y4
   try refine sN fun _ Y6=>?_
   refine⟨_,rfl,_,_,rfl,rfl,⟨by decide,by decide⟩,_,_,rfl,rfl,(by show(0:Int)<3;decide),rfl,(by show 3≤sizeLine;decide),fun u fu=>?_⟩
   have fin:∀b:Bool,∀H5,Same H4 H5→H5 u=some (.tup [.ref lq, .int cz, .bl b])→Q (.ref u) H5:=fun b H5 s5 e5=>kk H5 u lq ra' ⟨rs',cz,b⟩ (((sI.trans s2').trans s4).trans s5) e5 ((s4.trans s5) _ _ eq') (P2.mono hR' fun a r h=>(s4.trans s5) _ _ h) (by show rs'.length≤12;omega) (fun r hr=>(hK' r hr).1) (fun r hr=>(hK' r hr).2.1) ⟨cz0,cz1⟩ (by show(ownN rs').length<64;rw[kjo];omega)
   try first|apply Y6|apply Y4
   exact fin _ _ (kah fu) kac
inductive khQ (vs:List V) (H:Hp) (Q:VK) (E_:XK):Prop
 |ct (c:Int) (m:Nat) (_:vs=[.int c,iV m]) (_:0<m) (_:∀(H':Hp) (o:Addr) (order:List Nat),Same H H'→H o=none→H' o=some (.lst (order.map iV))→(∀n∈order,n<m)→order.length≤8→Q (.ref o) H'):khQ vs H Q E_
theorem keF:kaq ["_law_cell_here","_law_many"] ["_law_cell_here","_law_many"] (kag kbW):=⟨rfl,rfl,rfl,by decide +kernel,rfl,by decide +kernel,by decide +kernel⟩
theorem keR(W:WB K mg d base):FnOk P w K mg base CX0 2 d.YI d.YJ ["_law_cell_here","_law_many"] khQ:=by
 refine FunD.ok W.QA.F keF (fun vs H Q E h=>?_) (fun cdv A outer s H vs Q E hr h=>?_)
 ·obtain⟨c,m,rfl,_⟩:=h
  rfl
 ·obtain⟨c,m,rfl,hm,kk⟩:=h
  have qp:=kbc (P:=P) (w:=w) (base:=base) W
  refine⟨_,kai (kao (kbv (N:=["_law_j","_law_cell_here","_law_many"]) (CompScope.of (N:=["_law_j","_law_cell_here","_law_many"]) (cap:=[none,some 0,some 1]) (kag kbW).names ["_law_cell_here","_law_many"] rfl rfl (by decide +kernel)) rfl (kcp rfl W.B.range (kaa (pe_op kaB (kan qp hr rfl W.qh.m W.qh.F.kp W.qh.b .nil pass0 (kaa (pv 0) (kaa kaf kae))) kaf) kae)) (fun _ _ _ _=>kap (i:=0) (show(["_law_j","_law_cell_here","_law_many"]:List Str).Nodup by decide +kernel) rfl (Or.inl rfl)) (fun _ _ _ _=>(pe_op kaB (kan qp hr rfl W.qh.m W.qh.F.kp W.qh.b .nil pass0 (kaa (pv 1) (kaa (pe_op kbr kaf (pv 0)) kae))) (pv 2))))),?_⟩
  try refine sN fun _ Y4=>?_
  refine⟨_,rfl,c,39,rfl,by decide,by decide,fun d d0 d1=>⟨_,_,rfl,rfl,(by show(0:Int)<9;decide),_,rfl,by omega,by omega,?_⟩⟩
  have hd:(d%9).toNat≤8:=by omega
  generalize (d%9).toNat=n at *
  try apply Y4
  refine khr (fun i σ ys H'=>H'=H∧∃(order:List Nat) (v0:Option V),ys=order.map iV∧order.length=i∧(∀n∈order,n<m)∧σ=[v0,some (.int c),some (iV m)])
   ⟨rfl,[],none,rfl,rfl,(fun n h=>by simp at h),rfl⟩ (UH (kar (by omega))) (fun i σ ys H' hi h=>by obtain⟨_,o,v0,rfl,hl,_⟩:=h;rw[Uu];exact hl) ?_ ?_
  ·rintro i σ ys H' hi ⟨rfl,order,v0,rfl,hl,hlt,rfl⟩
   rw[Int.zero_add]
   try apply Y4
   try refine sN fun _ Y6=>?_
   refine⟨_,rfl,_,rfl,_,_,rfl,rfl,c,40+(i:Int),rfl,by omega,by omega,fun z z0 z1=>?_⟩
   have e0:0≤z%(m:Int):=Int.emod_nonneg _ (by omega)
   have e1:z%(m:Int)<(m:Int):=Int.emod_lt_of_pos _ (by omega)
   try first|apply Y6|apply Y4
   try refine sN fun _ Y6=>?_
   refine⟨_,rfl,_,_,rfl,rfl,(by show(0:Int)<(m:Int);omega),rfl,order++[(z%(m:Int)).toNat],_,?_,by simp[hl],fun n hn=>?_,rfl⟩
   ·rw[UD]
    show _=_++[V.int (((z%(m:Int)).toNat:Nat):Int)]
    rw[Int.toNat_of_nonneg e0]
   ·rcases Jd.mp hn with h|h
    ·exact hlt n h
    ·have:n=(z%(m:Int)).toNat:=by simpa using h
     omega
  ·rintro σ ys H' ⟨rfl,order,v0,rfl,hl,hlt,rfl⟩ D hD
   try first|apply Y6|apply Y4
   exact kk _ D order (kah hD) hD kac hlt (by omega)
noncomputable def srt2(a b:Nat):List Int:=if a≤b then [(a:Int),(b:Int)] else [(b:Int),(a:Int)]
theorem ke9(a b:Nat):(srt2 a b).Perm [(a:Int),(b:Int)]:=by
 unfold srt2
 split
 ·exact JN.refl _
 ·exact JN.swap _ _ _
theorem kkC(a b:Nat):(srt2 a b).Pairwise (·≤·):=by
 unfold srt2
 split <;> simp <;> omega
theorem khJ{a b:Nat}{ms:List Int}(hp:ms.Perm [(a:Int),(b:Int)])(hs:ms.Pairwise (·≤·)):ms=srt2 a b:=
 JN.eq_of_pairwise (fun x y _ _ h1 h2=>by omega) hs (kkC a b) (hp.trans (ke9 a b).symm)
theorem srt2_eq{a b c e:Nat}:srt2 a b=srt2 c e↔(a=c∧b=e)∨(a=e∧b=c):=by
 unfold srt2
 split <;> split <;> simp <;> omega
noncomputable def nevs(rs:List Rul):List (List Int):=(rs.filter fun r=>decide (r.w=("never" :Str))).map fun r=>srt2 r.a r.b
theorem kju{rs:List Rul}{used:List Nat}{n:Nat}:(used.map fun m=>(nevs rs).any fun q=>decide (q=srt2 n m)).any id=kce rs used n:=by
 rw[JP]
 unfold kce nevs nevR
 simp only[NI,Jm,id_eq,decide_eq_true_eq,Jq,Np,Mt,J6,Function.comp_apply]
 constructor
 ·rintro⟨m,hm,r,⟨hr1,hr2⟩,e⟩
  refine⟨r,hr1,hr2,?_⟩
  rcases srt2_eq.mp e with⟨h1,h2⟩|⟨h1,h2⟩
  ·exact .inl ⟨h1,h2▸hm⟩
  ·exact .inr ⟨h2,h1▸hm⟩
 ·rintro⟨r,hr1,hr2,h⟩
  rcases h with⟨h1,h2⟩|⟨h1,h2⟩
  ·exact⟨r.b,h2,r,⟨hr1,hr2⟩,srt2_eq.mpr (.inl ⟨h1,rfl⟩)⟩
  ·exact⟨r.a,h2,r,⟨hr1,hr2⟩,srt2_eq.mpr (.inr ⟨rfl,h1⟩)⟩
theorem kjV{rs:List Rul}{used:List Nat}{n:Nat}:(used.map fun m=>rs.any fun r=>decide (r.w=("ahead" :Str))&&(decide (r.a=n)&&decide (r.b=m))).any id=kcg rs used n:=by
 rw[JP]
 unfold kcg ahdR
 simp only[NI,id_eq,decide_eq_true_eq,Jq,Mt,J6,Function.comp_apply]
 constructor
 ·rintro⟨m,hm,r,hr,h1,h2,h3⟩
  exact⟨r,hr,h1,h2,h3▸hm⟩
 ·rintro⟨r,hr,h1,h2,h3⟩
  exact⟨r.b,h3,r,hr,h1,h2,rfl⟩
theorem kdf{l:Nat}:∀{o:List Nat},(o.filter fun m=>decide (m=l)).length=o.count l
 |[]=>rfl
 | a::o=>by
  rw[JV,Nw]
  by_cases e:a=l
  ·subst e
   rw[decide_eq_true rfl,if_pos rfl,beq_self_eq_true,if_pos rfl,Jg,kdf]
  ·have e1:(a==l)=false:=beq_eq_false_iff_ne.mpr e
   rw[decide_eq_false e,if_neg UA,e1,if_neg UA,Nat.add_zero,kdf]
theorem kiA:∀(bs:List Bool),inV (.bl true) (bs.map V.bl)=bs.any id
 |[]=>rfl
 |b::bs=>by
  have ih:=kiA bs
  unfold inV at ih⊢
  rw[UQ,Ji,ih,Ji]
  congr 1
  cases b <;> rfl
theorem P2.memL{α β:Type}{R: α→β→Prop}:∀{as:List α} {bs:List β},P2 R as bs→∀a∈as,∃b∈bs,R a b
 |_,_, .nil,a,h=>by simp at h
 | _,_, .cons (a:=x) (b:=y) r t,a,h=>by
  rcases UO.mp h with rfl|h
  ·exact⟨y,by simp,r⟩
  ·obtain⟨b,hb,q⟩:=P2.memL t a h
   exact⟨b,US _ hb,q⟩
theorem any_rows{H:Hp}{ms:List Int}:∀{bs:List Addr} {qs:List (List Int)},P2 (fun b q=>H b=some (.lst (q.map V.int))) bs qs→(bs.any fun b=>eqVs (rowV H (.ref b)) (ms.map V.int))=qs.any fun q=>decide (q=ms)
 |_,_, .nil=>rfl
 |_,_, .cons r t=>by
  rw[Ji,Ji,any_rows t,kgI r,kfH]
theorem kfT{H:Hp}{n m:Nat}{z:Str}:∀{bs:List Addr} {rs:List Rul},P2 (fun b r=>RulIs H b r) bs rs→(bs.any fun b=>eqVs (rowV H (.ref b)) [.str z,iV n,iV m])=rs.any fun r=>decide (r.w=z)&&(decide (r.a=n)&&decide (r.b=m))
 |_,_, .nil=>rfl
 |_,_, .cons (a:=b) (b:=r) h t=>by
  have h':H b=some (.tup [.str r.w,iV r.a,iV r.b]):=h
  rw[Ji,Ji,kfT t,kgH h']
  congr 1
  show(eqV (.str r.w) (.str z)&&(eqV (.int (r.a:Int)) (.int (n:Int))&&(eqV (.int (r.b:Int)) (.int (m:Int))&&true)))=_
  rw[Nq]
  congr 1
  congr 1
  ·exact decide_eq_decide.mpr ⟨fun h=>by omega,fun h=>by omega⟩
  ·exact decide_eq_decide.mpr ⟨fun h=>by omega,fun h=>by omega⟩
theorem kjt{rs:List Rul}{r:Rul}(h:r.w=("never" :Str)):nevs (rs++[r])=nevs rs++[srt2 r.a r.b]:=by
 unfold nevs
 rw[JI,JV,decide_eq_true h,if_pos rfl,UD]
 rfl
theorem kkR{rs:List Rul}{r:Rul}(h:¬r.w=("never" :Str)):nevs (rs++[r])=nevs rs:=by
 unfold nevs
 rw[JI,JV,decide_eq_false h,if_neg UA]
 simp
theorem kgU{rs:List Rul}:(nevs rs).length≤rs.length:=by
 unfold nevs
 rw[Uu]
 exact JU _ _
inductive khU (d:D) (vs:List V) (H:Hp) (Q:VK) (E_:XK):Prop
 |ct (t b h o x:Addr) (T:TillD) (B:Bask) (S:Stnd) (hand:List Int) (ahead:List Nat) (n:Nat) (V:Vch) (_:vs=[.ref t, .ref b, .ref h, .ref o,iV n, .ref x]) (_:TillIs d H t T) (_:BaskIs d.qf d.qg H b B) (_:StndIs d.qc H x S) (_:Wf T.ps B S) (_:VchOk T.ps V) (_:T.vs[n]?=some V) (_:H h=some (.lst (hand.map L2.V.int))) (_:H o=some (.lst (ahead.map iV))) (_:hand.length=T.vs.length) (_:T.rs.length≤20) (_:ahead.length≤64) (_:∀H',Same H H'→Q (dueM V T B hand ahead S n) H'):khU d vs H Q E_
theorem XA:kaq ["_law_till","_law_basket_here","_law_hand","_law_ahead","_law_voucher_here","_law_standing","_law_used","_law_nevers"] ["_law_till","_law_basket_here","_law_hand","_law_ahead","_law_voucher_here","_law_standing"] (kag kbu):=⟨rfl,rfl,rfl,by decide +kernel,rfl,by decide +kernel,by decide +kernel⟩
theorem kfs(W:WB K mg d base):FnOk P w K mg base CX0 5 d.YK d.YL ["_law_till","_law_basket_here","_law_hand","_law_ahead","_law_voucher_here","_law_standing"] (khU d):=by
 refine FunD.ok W.QB.F XA (fun vs H Q E h=>?_) (fun cdv A outer s H vs Q E hr h=>?_)
 ·obtain⟨t,b,h,o,x,T,B,S,hand,ahead,n,V,rfl,_⟩:=h
  rfl
 ·obtain⟨t,b,h,o,x,T,B,S,hand,ahead,n,Vc,rfl,hT,hB,hS,wf,vo,hn,hh,ho,hl,hrs,h64,k⟩:=h
  obtain⟨dx,fs,p,vl,rl,va,ra,ht,t1,t2,t3,t4,hp,hvl,hva,hrl,hra⟩:=id hT
  have Xu:=kdl (P:=P) (w:=w) (base:=base) W
  refine⟨_,kad (kav (i:=6) XA.nd rfl (Or.inl rfl) (pe_ix (r:=rIxL K) kaC (kam (K:=K) (pv 0) rfl) (pv 4) (fun _ _=>rfl)))
   (kad (ps_if (kat op_ge (kas (r:=ka4 K) kaA (by rfl) W.B.len b_len (kaa (keP (N:=["_law_one","_law_voucher_here"]) (CompScope.of (N:=["_law_one","_law_voucher_here"]) (cap:=[none,some 4]) (kag kbu).names ["_law_till","_law_basket_here","_law_hand","_law_ahead","_law_voucher_here","_law_standing","_law_used","_law_nevers"] rfl rfl (by decide +kernel)) rfl (kaH (K:=K) (pv 3)) (fun _ _ _ _=>kap (i:=0) (show(["_law_one","_law_voucher_here"]:List Str).Nodup by decide +kernel) rfl (Or.inl rfl)) (fun _ _ _ _=>kf9 (kat op_eq (pv 0) (pv 1) (kax _))) (fun _ _ _ _=>(pv 0))) kae)) (pe_ix (r:=rIxL K) kaC (pv 2) (pv 4) (fun _ _=>rfl)) (kax _)) (kai (kao kaP)) (kau))
   (kad (kfn (ps_if (PW.pt (kbP (ka5 (kam (K:=K) (kam (K:=K) (pv 6) rfl) rfl)) (kbD (kat kbn (pv 4) (pv 3) (by with_unfolding_all rfl))))) (kai (kao kaP)) (kau)))
   (kad (kav (i:=7) XA.nd rfl (Or.inr rfl) (keP (N:=["_law_rule"]) (CompScope.plain rfl (by decide +kernel) (by decide +kernel) (by decide +kernel) (nd1 _)) rfl (kaH (K:=K) (kam (K:=K) (pv 0) rfl)) (fun _ _ _ _=>kap (i:=0) (nd1 _) rfl (Or.inl rfl)) (fun _ _ _ _=>kf9 (kat op_eq (pe_ix (r:=rIxT K) kbd (pv 0) kaf (fun _ _=>rfl)) kaP (kax _))) (fun _ _ _ _=>(kas (r:=kj8 K) kfK (by rfl) W.B.sorted ke4 (kaa (kcz (r:=rSlT K) kj7 (pv 0) (kco kaf) keN) kae)))))
   (kad (ps_if (kat kbn pe_bl (kbv (N:=["_law_other","_law_voucher_here","_law_nevers"]) (CompScope.of (N:=["_law_other","_law_voucher_here","_law_nevers"]) (cap:=[none,some 4,some 7]) (kag kbu).names ["_law_till","_law_basket_here","_law_hand","_law_ahead","_law_voucher_here","_law_standing","_law_used","_law_nevers"] rfl rfl (by decide +kernel)) rfl (kaH (K:=K) (pv 3)) (fun _ _ _ _=>kap (i:=0) (show(["_law_other","_law_voucher_here","_law_nevers"]:List Str).Nodup by decide +kernel) rfl (Or.inl rfl)) (fun _ _ _ _=>(ka1 (kkf (hu_of hr)) (kas (r:=kj9 K) kfL (by rfl) W.B.sorted ke4 (kaa (kaI (kaa (pv 1) (kaa (pv 0) kae))) kae)) (pv 2) (by with_unfolding_all rfl)))) (by with_unfolding_all rfl)) (kai (kao kaP)) (kau))
   (kad (ps_if (kat kbn pe_bl (kbv (N:=["_law_other","_law_voucher_here","_law_till"]) (CompScope.of (N:=["_law_other","_law_voucher_here","_law_till"]) (cap:=[none,some 4,some 0]) (kag kbu).names ["_law_till","_law_basket_here","_law_hand","_law_ahead","_law_voucher_here","_law_standing","_law_used","_law_nevers"] rfl rfl (by decide +kernel)) rfl (kaH (K:=K) (pv 3)) (fun _ _ _ _=>kap (i:=0) (show(["_law_other","_law_voucher_here","_law_till"]:List Str).Nodup by decide +kernel) rfl (Or.inl rfl)) (fun _ _ _ _=>(ka1 (kkf (hu_of hr)) (ka9 (kaa kaP (kaa (pv 1) (kaa (pv 0) kae)))) (kam (K:=K) (pv 2) rfl) (by with_unfolding_all rfl)))) (by with_unfolding_all rfl)) (kai (kao kaP)) (kau))
   (kai (kao (kan Xu hr rfl W.qL.m W.qL.F.kp W.qL.b .nil pass0 (kaa (pv 6) (kaa (kam (K:=K) (pv 0) rfl) (kaa (pv 1) (kaa (pv 5) kae)))))))))))),?_⟩
  obtain⟨v,ev⟩:=at_of (xs:=va) (i:=n) (by rw[hva.len];exact at_lt hn)
  obtain⟨Vc',eV',hV⟩:=hva.at ev
  rw[hn] at eV'
  cases eV'
  obtain⟨mA,dxv,fsv,hv,lvm,_,⟨dxm,fsm,hm,m1,m2,m3,m4,m5,m6⟩,hh',_⟩:=id hV
  obtain⟨z,ez⟩:=at_of (xs:=hand) (i:=n) (by rw[hl];exact at_lt hn)
  have eg:hand.getD n 0=z:=by rw[UP,ez];rfl
  have la:(ahead.map iV).length≤sizeLine:=by rw[Uu];exact UH (kar (by omega))
  refine⟨_,rfl,t,d.qd,dx,fs,_,rfl,ht,W.qd.cl,W.qF,t2,_,rfl,vl,_,_,_,rfl,rfl,SqL.of hvl,kaY (v:=.ref v) (by rw[UF,ev];rfl),?_⟩
  refine⟨_,rfl,o,rfl,⟨_,SqL.of ho⟩,ket (xs:=ahead.map iV) (fun i σ ys H'=>H'=H∧ys=((ahead.take i).filter fun m=>decide (m=n)).map iV∧∃v,σ=[v,some (iV n)]) ⟨rfl,rfl,none,rfl⟩ la ?_ ?_ ?_⟩
  ·rintro i σ ys H' hi ⟨rfl,rfl,_⟩
   refine⟨SqL.of ho,?_⟩
   rw[Uu]
   exact Uy (JU _ _) (by rw[UL];omega)
  ·rintro i y σ ys H' hy ⟨rfl,rfl,v,rfl⟩
   obtain⟨m,em,rfl⟩:∃m,ahead[i]?=some m∧y=iV m:=kbH hy
   refine⟨_,rfl,_,rfl,rfl,_,rfl,?_⟩
   rw[take_snoc em,JI,UD]
   show if decide (iV m=iV n)=true then _ else _
   rw[kfF]
   by_cases e1:m=n
   ·rw[decide_eq_true e1]
    refine iteT ⟨_,rfl,rfl,?_,_,rfl⟩
    rw[JV,decide_eq_true e1,if_pos rfl]
    rfl
   ·rw[decide_eq_false e1]
    refine iteF ⟨rfl,?_,_,rfl⟩
    rw[JV,decide_eq_false e1,if_neg UA]
    exact(Ng _).symm
  rintro σ ys H' ⟨rfl,rfl,v0,rfl⟩ q1 hq1
  generalize hg1:upd H' q1 _=H1
  obtain⟨n1,e1⟩:=kaJ hg1 hq1
  clear hg1
  have ec:(((ahead.take (ahead.map iV).length).filter fun m=>decide (m=n)).map iV).length=ahead.count n:=by rw[Uu,Uu,UY,kdf]
  refine⟨q1,_,rfl, .inl (SqL.of e1),_,rfl,_,rfl,h,_,_,_,rfl,rfl,SqL.of (n1 _ _ hh),kaY (v:=.int z) (by rw[UF,ez];rfl),_,_,rfl,rfl,_,rfl,?_⟩
  rw[ec]
  unfold dueM wordM at k
  rw[eg] at k
  by_cases c1:z<(ahead.count n:Int)+1
  ·rw[if_pos c1] at k
   rw[show decide ((ahead.count n:Int)≥z)=true from decide_eq_true (by omega)]
   exact iteT (k _ n1)
  rw[if_neg c1] at k
  rw[show decide ((ahead.count n:Int)≥z)=false from decide_eq_false (by omega)]
  refine iteF ?_
  have k1:∀H',Same H1 H'→Q _ H':=fun H' s=>k H' (n1.trans s)
  have hT1:=hT.same n1
  have ht':=n1 _ _ ht
  have hp':=n1 _ _ hp
  have hrl':=n1 _ _ hrl
  have hra':P2 (fun a r=>RulIs H1 a r) ra T.rs:=hra.mono fun a r h=>n1 _ _ h
  have hB1:=hB.same n1
  have hS1:=hS.same n1
  have ho1:=n1 _ _ ho
  have hV1:=hV.same n1
  have hv1:=n1 _ _ hv
  have hm1:=n1 _ _ hm
  clear k n1 hq1 e1 hT hT1 hB hS hV hva hvl hh ht hp hrl hra ho hv hm
  refine⟨fun σ' H'=>H'=H1∧(Vc.ms.once&&ahead.contains n)=false∧σ'=[some (.ref t),some (.ref b),some (.ref h),some (.ref o),some (iV n),some (.ref x),some (.ref v),none],?_,?_⟩
  ·refine⟨_,rfl,v,clsOf d Vc.so,dxv,fsv,_,rfl,hv1,cl_of W hh',na_of W hh',lvm,mA,d.qe,dxm,fsm,_,rfl,hm1,W.qe.cl,W.Q5,m5,Vc.ms.once,rfl,?_⟩
   cases eo:Vc.ms.once with
   | true=>
    refine iteT ⟨_,rfl,_,rfl,o,_,rfl, .inl (SqL.of ho1),rfl,kbS _,_,rfl,?_⟩
    rw[if_neg UA,kbR]
    cases hc:ahead.contains n with
    |true=>
     rw[eo,hc,N8,if_pos rfl] at k1
     exact iteT (k1 _ (Same.refl _))
    |false=>exact iteF ⟨rfl,rfl,rfl⟩
   |false=>exact iteF (iteF ⟨rfl,Nc _,rfl⟩)
  rintro σ' H' ⟨rfl,hof,rfl⟩
  rw[hof,if_neg UA] at k1
  refine⟨_,rfl,t,d.qd,dx,fs,_,rfl,ht',W.qd.cl,W.qt,t3,rl,rfl,⟨_,SqL.of hrl'⟩,ket (xs:=ra.map V.ref) (fun i σ ys H2=>Same H' H2∧∃(bs:List Addr) (v:Option V),ys=bs.map V.ref∧P2 (fun b q=>H2 b=some (.lst (q.map V.int))) bs (nevs (T.rs.take i))∧σ=[v]) ⟨Same.refl _,[],none,rfl, .nil,rfl⟩ (by rw[Uu,hra'.len];exact UH (kar (by omega))) ?_ ?_ ?_⟩
  ·rintro i σ ys H2 hi ⟨s2,bs,v,rfl,hbs,rfl⟩
   refine⟨SqL.of (s2 _ _ hrl'),?_⟩
   rw[Uu,hbs.len]
   exact Uy kgU (by rw[UL];omega)
  ·rintro i y σ ys H2 hy ⟨s2,bs,v,rfl,hbs,rfl⟩
   obtain⟨a,ea,rfl⟩:=kbG hy
   obtain⟨r,er,hr1⟩:=hra'.at ea
   have hr2:H2 a=some (.tup [.str r.w,iV r.a,iV r.b]):=s2 _ _ hr1
   refine⟨_,rfl,a,_,_,_,rfl,rfl,SqT.of hr2,rfl,rfl,_,rfl,?_⟩
   show if decide (V.str r.w=V.str "never")=true then _ else _
   rw[eq_str,take_snoc er]
   by_cases hw:r.w=("never" :Str)
   ·rw[decide_eq_true hw,kjt hw]
    refine iteT ⟨_,rfl,_,rfl,a,_,rfl,SqT.of hr2,(fun h=>absurd h.1 (by show ¬(HT.sIx 3 0 (some 1)=0);decide)),fun c hc=>?_⟩
    refine⟨c,[(r.a:Int),(r.b:Int)],rfl,SqT.of (by rw[kac];rfl),(by show 2<64;decide),fun D ms hD hpm hup=>?_⟩
    have em:=khJ hpm hup
    subst em
    have s3:=(kah (o:=.tup (cutV [V.str r.w,iV r.a,iV r.b] (some 1) none)) hc).trans (kah (o:=.lst ((srt2 r.a r.b).map V.int)) hD)
    exact⟨s2.trans s3,bs++[D],_,by rw[UD];rfl,P2.snoc (hbs.mono fun b q h=>s3 _ _ h) kac,rfl⟩
   ·rw[decide_eq_false hw,kkR hw]
    exact iteF ⟨s2,bs,_,rfl,hbs,rfl⟩
  rintro σ ys H2 ⟨s2,bs,v1,rfl,hbs,rfl⟩ nv hnv
  rw[Uu,hra'.len,UY] at hbs
  generalize hg3:upd H2 nv _=H3
  obtain⟨n3,e3⟩:=kaJ hg3 hnv
  clear hg3
  have s13:=s2.trans n3
  have hbs3:P2 (fun b q=>H3 b=some (.lst (q.map V.int))) bs (nevs T.rs):=hbs.mono fun b q h=>n3 _ _ h
  have lnev:(nevs T.rs).length≤20:=Uy kgU hrs
  refine⟨_,rfl,o,rfl,⟨_,SqL.of (s13 _ _ ho1)⟩,ka3 (xs:=ahead.map iV) (fun i σ ys H4=>Same H3 H4∧ys=((ahead.take i).map fun m=>(nevs T.rs).any fun q=>decide (q=srt2 n m)).map V.bl∧∃v,σ=[v,some (iV n),some (.ref nv)]) ⟨Same.refl _,rfl,none,rfl⟩ la ?_ ?_ ?_⟩
  ·rintro i σ ys H4 hi ⟨s4,rfl,_⟩
   refine⟨SqL.of ((s13.trans s4) _ _ ho1),?_⟩
   rw[Uu] at hi
   rw[Uu,Uu,UL]
   omega
  ·rintro i y σ ys H4 hy ⟨s4,rfl,v,rfl⟩
   obtain⟨m,em,rfl⟩:∃m,ahead[i]?=some m∧y=iV m:=kbH hy
   refine⟨_,rfl,_,rfl,(by show 2≤sizeLine;decide),fun l hl=>⟨l,[(n:Int),(m:Int)],rfl,SqL.of kac,(by show 2<64;decide),fun D ms hD hpm hup=>?_⟩⟩
   have em':=khJ hpm hup
   subst em'
   have s5:=(kah (o:=.lst [iV n,iV m]) hl).trans (kah (o:=.lst ((srt2 n m).map V.int)) hD)
   have s35:=s4.trans s5
   have hbs5:=hbs3.mono fun b q h=>s35 _ _ h
   have lq:∀a b:Nat,(srt2 a b).length=2:=fun a b=>(ke9 a b).length_eq
   refine⟨_,rfl,D,nv,(srt2 n m).map V.int,bs,rfl,rfl,s35 _ _ e3,kgn _,fun b hb=>?_,?_⟩
   ·obtain⟨q,hq,hbq⟩:=P2.memL hbs5 b hb
    refine⟨_, .inl ⟨hbq,kac⟩,?_,kgn _⟩
    unfold nevs at hq
    obtain⟨r,_,rfl⟩:=UR.mp hq
    rw[Uu,Uu,lq,lq]
   ·rw[any_rows hbs5]
    refine⟨s35,?_,_,rfl⟩
    rw[take_snoc em,UD,UD]
    rfl
  rintro σ ys H4 ⟨s4,rfl,v2,rfl⟩ q5 hq5
  rw[Uu,UY]
  generalize hg5:upd H4 q5 _=H5
  obtain⟨n5,e5⟩:=kaJ hg5 hq5
  clear hg5
  refine⟨q5,_,rfl, .inl (SqL.of e5),rfl,kg1 _,_,rfl,?_⟩
  rw[if_neg UA,kiA,kju]
  have s15:=(s13.trans s4).trans n5
  cases h1:kce T.rs ahead n with
  |true=>
   rw[h1,if_pos rfl] at k1
   exact iteT (k1 _ s15)
  | false=>
   rw[h1,if_neg UA] at k1
   refine iteF ?_
   refine⟨_,rfl,o,rfl,⟨_,SqL.of (s15 _ _ ho1)⟩,ka3 (xs:=ahead.map iV) (fun i σ ys H6=>Same H5 H6∧ys=((ahead.take i).map fun m=>T.rs.any fun r=>decide (r.w=("ahead" :Str))&&(decide (r.a=n)&&decide (r.b=m))).map V.bl∧∃v,σ=[v,some (iV n),some (.ref t)]) ⟨Same.refl _,rfl,none,rfl⟩ la ?_ ?_ ?_⟩
   ·rintro i σ ys H6 hi ⟨s6,rfl,_⟩
    refine⟨SqL.of ((s15.trans s6) _ _ ho1),?_⟩
    rw[Uu] at hi
    rw[Uu,Uu,UL]
    omega
   ·rintro i y σ ys H6 hy ⟨s6,rfl,v,rfl⟩
    obtain⟨m,em,rfl⟩:∃m,ahead[i]?=some m∧y=iV m:=kbH hy
    refine⟨_,rfl,_,rfl,(by show 3≤sizeLine;decide),fun l hl=>?_⟩
    have n7:=kah (o:=.tup [.str "ahead",iV n,iV m]) hl
    have e7:(upd H6 l (.tup [.str "ahead",iV n,iV m])) l=some (.tup [.str "ahead",iV n,iV m]):=kac
    generalize upd H6 l (.tup [.str "ahead",iV n,iV m])=H7 at *
    have s17:=(s15.trans s6).trans n7
    have hra7:P2 (fun a r=>RulIs H7 a r) ra T.rs:=hra'.mono fun a r h=>s17 _ _ h
    refine⟨_,rfl,t,d.qd,dx,fs,_,rfl,s17 _ _ ht',W.qd.cl,W.qt,t3,l,rl,[.str "ahead",iV n,iV m],ra,rfl,rfl,s17 _ _ hrl',rfl,fun b hb=>?_,?_⟩
    ·obtain⟨r,hr,hbr⟩:=P2.memL hra7 b hb
     exact⟨_, .inr ⟨hbr,e7⟩,rfl,rfl⟩
    ·rw[kfT hra7]
     refine⟨s6.trans n7,?_,_,rfl⟩
     rw[take_snoc em,UD,UD]
     rfl
   rintro σ ys H6 ⟨s6,rfl,v3,rfl⟩ q7 hq7
   rw[Uu,UY]
   generalize hg7:upd H6 q7 _=H7
   obtain⟨n7,e7⟩:=kaJ hg7 hq7
   clear hg7
   refine⟨q7,_,rfl, .inl (SqL.of e7),rfl,kg1 _,_,rfl,?_⟩
   rw[if_neg UA,kiA,kjV]
   have s17:=(s15.trans s6).trans n7
   cases h2:kcg T.rs ahead n with
   |true=>
    rw[h2,if_pos rfl] at k1
    exact iteT (k1 _ s17)
   |false=>
    rw[h2,if_neg UA] at k1
    refine iteF ⟨_,rfl,_,rfl,t,d.qd,dx,fs,_,rfl,s17 _ _ ht',W.qd.cl,W.qR,t1,_,rfl,_,rfl,v,p,b,x,Vc,T.ps,B,S,rfl,hV1.same s17,SqL.of (s17 _ _ hp'),hB1.same s17,hS1.same s17,wf,vo,fun H8 s8=>k1 H8 (s17.trans s8)⟩
theorem khy{T:TillD}{B:Bask}{hand:List Int}{order:List Nat}{u:List Nat}{S:Stnd}{i n:Nat}{V:Vch}(e:walkM T B hand order [] (stnd0 B)=(u,S))(hu:u.length=i)(en:order[i]?=some n)(hV:T.vs[n]?=some V):kbT T B hand order=some (i,dueM V T B hand u S n):=by
 have hi:=at_lt en
 unfold kbT
 simp only[e]
 have eg:order.getD i 0=n:=by rw[UP,en];rfl
 rw[hu,if_pos hi,eg,hV]
theorem kjb{T:TillD}{B:Bask}{hand:List Int}{order:List Nat}{S:Stnd}(e:walkM T B hand order [] (stnd0 B)=(order,S)):kbT T B hand order=if(onlyM T.rs order).isNone=true then none else some (order.length, .str "only"):=by
 unfold kbT
 simp only[e]
 rw[if_neg (Jp _)]
inductive kj2 (d:D) (vs:List V) (H:Hp) (Q:VK) (E_:XK):Prop
 |ct (t b h o:Addr) (T:TillD) (B:Bask) (hand:List Int) (order:List Nat) (_:vs=[.ref t, .ref b, .ref h, .ref o]) (_:TillIs d H t T) (_:kev T) (_:BaskIs d.qf d.qg H b B) (_:Wf T.ps B (stnd0 B)) (_:H h=some (.lst (hand.map V.int))) (_:H o=some (.lst (order.map iV))) (_:hand.length=T.vs.length) (_:T.rs.length≤20) (_:(∀n∈order,n<T.vs.length)) (_:order.length<64) (_:∀(H':Hp) (v:L2.V),Same H H'→FltIs H' v (kbT T B hand order)→Q v H'):kj2 d vs H Q E_
theorem qI:kaq ["_law_till","_law_basket_here","_law_hand","_law_order_here","_law_standing","_law_place","_law_word_here","_law_one","_law_other"] ["_law_till","_law_basket_here","_law_hand","_law_order_here"] (kag kc5):=⟨rfl,rfl,rfl,by decide +kernel,rfl,by decide +kernel,by decide +kernel⟩
theorem kgc(W:WB K mg d base):FnOk P w K mg base CX0 6 d.YM d.YN ["_law_till","_law_basket_here","_law_hand","_law_order_here"] (kj2 d):=by
 refine FunD.ok W.QC.F qI (fun vs H Q E h=>?_) (fun cdv A outer s H vs Q E hr h=>?_)
 ·obtain⟨t,b,h,o,T,B,hand,order,rfl,_⟩:=h
  rfl
 ·obtain⟨t,b,h,o,T,B,hand,order,rfl,hT,tok,hB,wf0,hh,ho,hl,hrs,hlt,h64,k⟩:=h
  obtain⟨dx,fs,p,vl,rl,va,ra,ht,t1,t2,t3,t4,hp,hvl,hva,hrl,hra⟩:=id hT
  have Qc:=kbF (P:=P) (w:=w) (base:=base) W
  have VB:=kfs (P:=P) (w:=w) (base:=base) W
  have Xw:=kgQ (P:=P) (w:=w) (base:=base) W
  have hr3:Room 3 _:=hr.mono (by decide)
  refine⟨_,kad (kav (i:=4) qI.nd rfl (Or.inl rfl) (kbe (W.qQ.mk' W.qc) Qc hr3 rfl W.qc.m W.qQ.b .nil pass0 (kaa (pv 1) kae)))
   (kad (kbk PassesOwn.never rfl (kcp rfl W.B.range (kaa (kas (r:=ka4 K) kaA (by rfl) W.B.len b_len (kaa (pv 3) kae)) kae)) (kap (i:=5) qI.nd rfl (Or.inl rfl))
   (kad (kav (i:=6) qI.nd rfl (Or.inl rfl) (kan VB hr rfl W.QB.m W.QB.F.kp W.QB.b .nil pass0 (kaa (pv 0) (kaa (pv 1) (kaa (pv 2) (kaa (kcz (r:=rSlL K) keD (pv 3) keN (kco (pv 5))) (kaa (pe_ix (r:=rIxL K) kaC (pv 3) (pv 5) (fun _ _=>rfl)) (kaa (pv 4) kae))))))))
   (kad (ps_if (kat kc9 (pv 6) kaV (kax _)) (kai (kao (ka9 (kaa (pv 5) (kaa (pv 6) kae))))) (kau))
   (kai (kav (i:=4) qI.nd rfl (Or.inl rfl) (kan Xw hr rfl W.qM.m W.qM.F.kp W.qM.b .nil pass0 (kaa (pe_ix (r:=rIxL K) kaC (kam (K:=K) (pv 0) rfl) (pe_ix (r:=rIxL K) kaC (pv 3) (pv 5) (fun _ _=>rfl)) (fun _ _=>rfl)) (kaa (kam (K:=K) (pv 0) rfl) (kaa (pv 1) (kaa (pv 4) kae))))))))))
   (kad (kbk PassesOwn.never rfl (kaH (K:=K) (kam (K:=K) (pv 0) rfl)) (kbm (K:=K) (n:=3) rfl (kay (kap (i:=6) qI.nd rfl (Or.inl rfl)) (kay (kap (i:=7) qI.nd rfl (Or.inl rfl)) (kay (kap (i:=8) qI.nd rfl (Or.inl rfl)) kbl))))
   (kai (ps_if (PW.pt (kbP (kat op_eq (pv 6) kaP (kax _)) (kbP (kat kbn (pv 7) (pv 3) (by with_unfolding_all rfl)) (kbD (kat kdj (pv 8) (pv 3) (by with_unfolding_all rfl)))))) (kai (kao (ka9 (kaa (kas (r:=ka4 K) kaA (by rfl) W.B.len b_len (kaa (pv 3) kae)) (kaa kaP kae))))) (kau))))
   (kai (kao kaV)))),?_⟩
  generalize eR:walkM T B hand order [] (stnd0 B)=R
  refine⟨_,rfl,kim hB wf0.nl wf0.ok fun H1 x0 s1 f1 hx0=>?_⟩
  refine⟨_,rfl,o,_,rfl, .inl (SqL.of (s1 _ _ ho)),_,rfl,by omega,by rw[Uu];omega,?_⟩
  rw[show(((order.map iV).length:Nat):Int).toNat=order.length by simp]
  refine kcv (fun i σ H'=>Same H H'∧∃(x:Addr) (S:Stnd) (v5 v6:Option V),StndIs d.qc H' x S∧Wf T.ps B S∧walkM T B hand (order.drop i) (order.take i) S=R∧σ=[some (.ref t),some (.ref b),some (.ref h),some (.ref o),some (.ref x),v5,v6,none,none])
   ⟨s1,x0,stnd0 B,none,none,hx0,wf0,eR,rfl⟩ ?_ ?_
  ·rintro i σ H' hi ⟨sI,x,S,v5,v6,hx,wf,hwalk,rfl⟩
   rw[Int.zero_add]
   obtain⟨n,en⟩:=at_of hi
   obtain⟨Vc,hV⟩:=at_of (hlt n (UE en))
   have vo:=tok.vs Vc (UE hV)
   have ed:order.drop i=n::order.drop (i+1):=by
    obtain⟨h1,h2⟩:=UG.mp en
    rw[Ms h1,h2]
   rw[ed] at hwalk
   unfold walkM at hwalk
   rw[hV] at hwalk
   simp only at hwalk
   refine⟨_,rfl,_,rfl,_,rfl,_,rfl,_,rfl,_,rfl,o,_,rfl,SqL.of (sI _ _ ho),fun q hq=>?_⟩
   rw[kiR,←JT]
   generalize hg2:upd H' q _=H2
   obtain⟨n2,e2⟩:=kaJ hg2 hq
   clear hg2
   have s2:=sI.trans n2
   refine⟨_,rfl,_,rfl,o,_,_,_,rfl,rfl,SqL.of (s2 _ _ ho),kaY (v:=iV n) (by rw[UF,en];rfl),_,rfl,?_⟩
   refine⟨t,b,h,q,x,T,B,S,hand,order.take i,n,Vc,rfl,hT.same s2,hB.same s2,hx.same n2,wf,vo,hV,s2 _ _ hh,e2,hl,hrs,(by rw[UL];omega),fun H3 s3=>⟨_,rfl,rfl,_,rfl,?_⟩⟩
   have s03:=s2.trans s3
   by_cases hn:dueM Vc T B hand (order.take i) S n=.non
   ·rw[if_pos hn] at hwalk
    rw[hn]
    rw[show(!decide (V.non=V.non))=false by simp]
    obtain⟨v,ev⟩:=at_of (xs:=va) (i:=n) (by rw[hva.len];exact at_lt hV)
    obtain⟨Vc',eV',hVc⟩:=hva.at ev
    rw[hV] at eV'
    cases eV'
    refine iteF ⟨_,rfl,t,d.qd,dx,fs,_,rfl,s03 _ _ ht,W.qd.cl,W.qF,t2,_,rfl,_,rfl,o,_,_,_,rfl,rfl,SqL.of (s03 _ _ ho),kaY (v:=iV n) (by rw[UF,en];rfl),vl,_,_,_,rfl,rfl,SqL.of (s03 _ _ hvl),kaY (v:=.ref v) (by rw[UF,ev];rfl),?_⟩
    refine⟨_,rfl,t,d.qd,dx,fs,_,rfl,s03 _ _ ht,W.qd.cl,W.qR,t1,_,rfl,_,rfl,v,p,b,x,Vc,T.ps,B,S,rfl,hVc.same s03,SqL.of (s03 _ _ hp),hB.same s03,(hx.same n2).same s3,wf,vo,fun H4 x' s4 f4 hx'=>?_⟩
    refine⟨s03.trans s4,x',_,_,_,hx',wf.after vo,?_,rfl⟩
    rw[take_snoc en]
    exact hwalk
   ·rw[if_neg hn] at hwalk
    rw[show(!decide (dueM Vc T B hand (order.take i) S n=V.non))=true by simp[hn]]
    rw[←hwalk] at eR
    have ef:=khy eR (by rw[UL];omega) en hV
    rw[ef] at k
    refine iteT ⟨_,rfl,_,rfl,(by show 2≤sizeLine;decide),fun q2 hq2=>?_⟩
    exact k _ _ (s03.trans (kah hq2)) ⟨q2,rfl,kac⟩
  ·rintro σ H' ⟨sI,x,S,v5,v6,hx,wf,hwalk,rfl⟩
   rw[List.drop_length,UY] at hwalk
   unfold walkM at hwalk
   rw[←hwalk] at eR
   have ef:=kjb eR
   rw[ef] at k
   have hrl':=sI _ _ hrl
   have hra':P2 (fun a r=>RulIs H' a r) ra T.rs:=hra.mono fun a r h=>sI _ _ h
   have ho':=sI _ _ ho
   refine⟨_,rfl,t,d.qd,dx,fs,_,rfl,sI _ _ ht,W.qd.cl,W.qt,t3,rl,rfl,⟨_,SqL.of hrl'⟩,kbq (xs:=ra.map V.ref) (fun i σ H''=>H''=H'∧(∀r∈T.rs.take i,loneM order r=false)∧∃v6 v7 v8:Option V,σ=[some (.ref t),some (.ref b),some (.ref h),some (.ref o),some (.ref x),v5,v6,v7,v8])
    ⟨rfl,(fun r hr=>by simp at hr),_,none,none,rfl⟩ (fun i σ H'' _ h=>by rw[h.1];exact SqL.of hrl') ?_ ?_⟩
   ·rintro i y σ H'' hy ⟨rfl,hno,v6,v7,v8,rfl⟩
    obtain⟨a,ea,rfl⟩:=kbG hy
    obtain⟨r,er,hra1⟩:=hra'.at ea
    refine⟨a,_,rfl,SqT.of hra1,rfl,_,_,rfl,_,_,rfl,_,_,rfl,rfl,?_⟩
    refine⟨_,rfl,rfl,_,rfl,?_⟩
    show if decide (V.str r.w=V.str "only")=true then _ else _
    rw[eq_str]
    by_cases hw:r.w=("only" :Str)
    ·rw[decide_eq_true hw]
     refine iteT ⟨_,rfl,_,rfl,o,_,rfl, .inl (SqL.of ho'),rfl,kbS _,_,rfl,?_⟩
     rw[if_neg UA,kbR]
     cases ha:order.contains r.a with
     | true=>
      refine iteT ⟨_,rfl,_,rfl,o,_,rfl, .inl (SqL.of ho'),rfl,kbS _,_,rfl,?_⟩
      rw[if_pos rfl,kbR]
      cases hb:order.contains r.b with
      |true=>exact iteF ⟨rfl,kbo er hno (by unfold loneM;rw[decide_eq_true hw,ha,hb];rfl),_,_,_,rfl⟩
      |false=>
       have z:=ke0 (f:=loneM order) er (by unfold loneM;rw[decide_eq_true hw,ha,hb];rfl) hno
       unfold onlyM at k
       rw[z] at k
       refine iteT ⟨_,rfl,o,_,rfl, .inl (SqL.of ho'),(by show 2≤sizeLine;decide),fun q2 hq2=>?_⟩
       refine k _ _ (sI.trans (kah hq2)) ?_
       rw[if_neg (by simp)]
       refine⟨q2,rfl,?_⟩
       rw[kac,Uu]
       rfl
     |false=>exact iteF (iteF ⟨rfl,kbo er hno (by unfold loneM;rw[decide_eq_true hw,ha];rfl),_,_,_,rfl⟩)
    ·rw[decide_eq_false hw]
     refine iteF (iteF ⟨rfl,kbo er hno ?_,_,_,_,rfl⟩)
     unfold loneM
     rw[decide_eq_false hw]
     rfl
   ·rintro σ H'' ⟨rfl,hno,v6,v7,v8,rfl⟩
    have z:=kiJ (by rw[Uu];exact hra'.len) hno
    unfold onlyM at k
    rw[z] at k
    exact k _ _ sI rfl
theorem FltIs.same{H H':Hp}{v:L2.V}{o:Option (Nat×L2.V)}(s:Same H H')(h:FltIs H v o):FltIs H' v o:=by
 cases o with
 |none=>exact h
 |some q=>
  obtain⟨a,e1,ha⟩:=h
  exact⟨a,e1,s _ _ ha⟩
theorem kjK(V:Vch)(T:TillD)(B:Bask)(hand:List Int)(used:List Nat)(S:Stnd)(n:Nat):dueM V T B hand used S n=.non∨∃z,dueM V T B hand used S n=.str z:=by
 unfold dueM
 cases wordM V T.rs hand used n with
 |some z=>exact .inr ⟨z,rfl⟩
 | none=>
  show hindM V T.ps B S=.non∨∃z,hindM V T.ps B S=.str z
  unfold hindM
  split
  ·exact .inr ⟨_,rfl⟩
  ·split
   ·exact .inr ⟨_,rfl⟩
   ·split
    ·exact .inr ⟨_,rfl⟩
    ·exact .inl rfl
theorem kjI{T:TillD}{B:Bask}{hand:List Int}{order:List Nat}{k:Nat}{z:L2.V}(h:kbT T B hand order=some (k,z)):z=.non∨∃s,z=.str s:=by
 unfold kbT at h
 simp only at h
 split at h
 ·split at h
  ·cases h
  ·have e:=congrArg Prod.snd (Option.some.inj h)
   simp only at e
   rw[←e]
   exact kjK ..
 ·split at h
  ·cases h
  ·have e:=congrArg Prod.snd (Option.some.inj h)
   simp only at e
   rw[←e]
   exact .inr ⟨_,rfl⟩
theorem kfE{T:TillD}{B:Bask}{hand:List Int}{order:List Nat}{H:Hp}{v w:L2.V}(hv:FltIs H v (kbT T B hand order))(hw:FltIs H w (kbT T B hand order)):Alk 5 H v w:=by
 cases e:kbT T B hand order with
 |none=>
  rw[e] at hv hw
  have e1:v=.non:=hv
  have e2:w=.non:=hw
  rw[e1,e2]
  exact .inl ⟨rfl, .inl rfl⟩
 | some q=>
  obtain⟨k,z⟩:=q
  rw[e] at hv hw
  obtain⟨a,rfl,ha⟩:=hv
  obtain⟨b,rfl,hb⟩:=hw
  refine .inr ⟨a,b,_,_,rfl,rfl, .inr ⟨ha,hb⟩,rfl,(by show 2≤100;decide),fun i x y e1 e2=>?_⟩
  rw[e1] at e2
  cases e2
  match i,e1 with
  |0,e1=>
   cases e1
   exact .inl ⟨rfl, .inr (.inr (.inl ⟨_,rfl⟩))⟩
  |1,e1=>
   cases e1
   rcases kjI e with rfl|⟨s,rfl⟩
   ·exact .inl ⟨rfl, .inl rfl⟩
   ·exact .inl ⟨rfl, .inr (.inr (.inr ⟨_,rfl⟩))⟩
  |i+2,e1=>cases e1
inductive khZ (d:D) (vs:List V) (H:Hp) (Q:VK) (E_:XK):Prop
 |ct (t b h o:Addr) (T:TillD) (B:Bask) (hand:List Int) (order:List Nat) (_:vs=[.ref t, .ref b, .ref h, .ref o]) (_:TillIs d H t T) (_:kev T) (_:BaskIs d.qf d.qg H b B) (_:Wf T.ps B (stnd0 B)) (_:H h=some (.lst (hand.map V.int))) (_:H o=some (.lst (order.map iV))) (_:hand.length=T.vs.length) (_:T.rs.length≤20) (_:(∀n∈order,n<T.vs.length)) (_:order.length<64) (_:∀H',Same H H'→Q (.bl true) H'):khZ d vs H Q E_
theorem QT:kaq ["_law_till","_law_basket_here","_law_hand","_law_order_here","_law_handed","_law_kept","_law_found"] ["_law_till","_law_basket_here","_law_hand","_law_order_here"] (kag kcl):=⟨rfl,rfl,rfl,by decide +kernel,rfl,by decide +kernel,by decide +kernel⟩
theorem keT(W:WB K mg d base):FnOk P w K mg base CX0 9 d.YO d.YQ ["_law_till","_law_basket_here","_law_hand","_law_order_here"] (khZ d):=by
 refine FunD.ok W.QD.F QT (fun vs H Q E h=>?_) (fun cdv A outer s H vs Q E hr h=>?_)
 ·obtain⟨t,b,h,o,T,B,hand,order,rfl,_⟩:=h
  rfl
 ·obtain⟨t,b,h,o,T,B,hand,order,rfl,hT,tok,hB,wf0,hh,ho,hl,hrs,hlt,h64,k⟩:=h
  obtain⟨dx,fs,p,vl,rl,va,ra,ht,t1,t2,t3,t4,hp,hvl,hva,hrl,hra⟩:=id hT
  have QU:=kgP (P:=P) (w:=w) (base:=base) W
  have XB:=kcT (P:=P) (w:=w) (base:=base) W
  have VC:=kgc (P:=P) (w:=w) (base:=base) W
  have hr5:Room 5 _:=hr.mono (by decide)
  have hr6:Room 6 _:=hr.mono (by decide)
  refine⟨_,kad (kav (i:=4) QT.nd rfl (Or.inl rfl) (kaI (kaa (kaX (r:=kbC K) kaM (by rfl) W.B.list kbI (kaa (pv 2) kae)) (kaa (kaX (r:=kbC K) kaM (by rfl) W.B.list kbI (kaa (pv 3) kae)) kae))))
   (kad (kav (i:=5) QT.nd rfl (Or.inl rfl) (kaI (kaa (kaX (r:=kbC K) kaM (by rfl) W.B.list kbI (kaa (kam (K:=K) (pv 0) rfl) kae)) (kaa (kaX (r:=kbC K) kaM (by rfl) W.B.list kbI (kaa (kam (K:=K) (pv 0) rfl) kae)) (kaa (kaX (r:=kbC K) kaM (by rfl) W.B.list kbI (kaa (kam (K:=K) (pv 0) rfl) kae)) kae)))))
   (kad (kav (i:=6) QT.nd rfl (Or.inl rfl) (kan QU hr rfl W.qu.m W.qu.F.kp W.qu.b .nil pass0 (kaa (pv 0) (kaa (pv 1) (kaa (pe_ix (r:=rIxL K) kaC (pv 4) kaf (fun _ _=>rfl)) (kaa (pe_ix (r:=rIxL K) kaC (pv 4) kaf (fun _ _=>rfl)) kae))))))
   (kad (ps_if (PW.pt (pw_or (kat (kke hr.units) (pv 4) (kaI (kaa (pv 2) (kaa (pv 3) kae))) (kax _)) (kh9 (kat (kke hr.units) (pv 5) (kaI (kaa (kam (K:=K) (pv 0) rfl) (kaa (kam (K:=K) (pv 0) rfl) (kaa (kam (K:=K) (pv 0) rfl) kae)))) (kax _))))) (kai (kao pe_bl)) (kau))
   (kai (kao (kan XB hr5 rfl W.qx.m W.qx.F.kp W.qx.b .nil pass0 (kaa (pv 6) (kaa (kan VC hr6 rfl W.QC.m W.QC.F.kp W.QC.b .nil pass0 (kaa (pv 0) (kaa (pv 1) (kaa (pv 2) (kaa (pv 3) kae))))) kae)))))))),?_⟩
  refine⟨_,rfl,h,_,rfl, .inl (SqL.of hh),fun h' fh'=>?_⟩
  generalize hg1:upd H h' _=H1
  obtain⟨s1,e1⟩:=kaJ hg1 fh'
  clear hg1
  refine⟨_,rfl,o,_,rfl, .inl (SqL.of (s1 _ _ ho)),fun o' fo'=>?_⟩
  generalize hg2:upd H1 o' _=H2
  obtain⟨n2,e2⟩:=kaJ hg2 fo'
  clear hg2
  have s2:=s1.trans n2
  refine⟨(by show 2≤sizeLine;decide),fun hd fhd=>?_⟩
  generalize hg3:upd H2 hd _=H3
  obtain⟨n3,e3⟩:=kaJ hg3 fhd
  clear hg3
  have s3:=s2.trans n3
  refine⟨_,rfl,t,d.qd,dx,fs,_,rfl,s3 _ _ ht,W.qd.cl,W.qR,t1,p,_,rfl, .inl (SqL.of (s3 _ _ hp)),fun p' fp'=>?_⟩
  generalize hg4:upd H3 p' _=H4
  obtain⟨n4,e4⟩:=kaJ hg4 fp'
  clear hg4
  have s4:=s3.trans n4
  refine⟨_,rfl,t,d.qd,dx,fs,_,rfl,s4 _ _ ht,W.qd.cl,W.qF,t2,vl,_,rfl, .inl (SqL.of (s4 _ _ hvl)),fun v' fv'=>?_⟩
  generalize hg5:upd H4 v' _=H5
  obtain⟨n5,e5⟩:=kaJ hg5 fv'
  clear hg5
  have s5:=s4.trans n5
  refine⟨_,rfl,t,d.qd,dx,fs,_,rfl,s5 _ _ ht,W.qd.cl,W.qt,t3,rl,_,rfl, .inl (SqL.of (s5 _ _ hrl)),fun r' fr'=>?_⟩
  generalize hg6:upd H5 r' _=H6
  obtain⟨n6,e6⟩:=kaJ hg6 fr'
  clear hg6
  have s6:=s5.trans n6
  refine⟨(by show 3≤sizeLine;decide),fun kp fkp=>?_⟩
  generalize hg7:upd H6 kp _=H7
  obtain⟨n7,e7⟩:=kaJ hg7 fkp
  clear hg7
  have s7:=s6.trans n7
  have s37:=((n4.trans n5).trans n6).trans n7
  have s27:=n3.trans s37
  have eh7:H7 h'=some (.lst (hand.map V.int)):=s27 _ _ (n2 _ _ e1)
  have eo7:H7 o'=some (.lst (order.map iV)):=s27 _ _ e2
  have ehd7:=s37 _ _ e3
  have ep7:H7 p'=some (.lst (T.ps.map pV)):=(n5.trans (n6.trans n7)) _ _ e4
  have ev7:H7 v'=some (.lst (va.map V.ref)):=(n6.trans n7) _ _ e5
  have er7:H7 r'=some (.lst (ra.map V.ref)):=n7 _ _ e6
  refine⟨_,rfl,_,rfl,_,rfl,hd,_,_,_,rfl,rfl,SqL.of ehd7,rfl,_,rfl,hd,_,_,_,rfl,rfl,SqL.of ehd7,rfl,t,b,h',o',T,B,hand,order,rfl,hT.same s7,tok,hB.same s7,wf0,eh7,eo7,hl,hlt,h64,fun H8 fv s8 hfv=>?_⟩
  have s08:=s7.trans s8
  refine⟨_,rfl,_,rfl,_,rfl,(by show 2≤sizeLine;decide),fun q9 fq9=>?_⟩
  generalize hg9:upd H8 q9 _=H9
  obtain⟨n9,e9⟩:=kaJ hg9 fq9
  clear hg9
  have s79:=s8.trans n9
  have s09:=s7.trans s79
  refine⟨hd,q9,_,_,rfl,rfl, .inl ⟨SqL.of (s79 _ _ ehd7),SqL.of e9⟩,rfl,fun i x y ex ey=>?_,_,rfl,iteF ?_⟩
  ·match i,ex,ey with
   |0,ex,ey=>
    cases ex
    cases ey
    exact DEq.flats (SqL.of (s79 _ _ eh7)) (SqL.of (s09 _ _ hh)) (kgn _)
   |1,ex,ey=>
    cases ex
    cases ey
    exact DEq.flats (SqL.of (s79 _ _ eo7)) (SqL.of (s09 _ _ ho)) (kbS _)
   |i+2,ex,ey=>cases ex
  refine⟨_,rfl,_,rfl,t,d.qd,dx,fs,_,rfl,s09 _ _ ht,W.qd.cl,W.qR,t1,_,rfl,t,d.qd,dx,fs,_,rfl,s09 _ _ ht,W.qd.cl,W.qF,t2,_,rfl,t,d.qd,dx,fs,_,rfl,s09 _ _ ht,W.qd.cl,W.qt,t3,(by show 3≤sizeLine;decide),fun qa fqa=>?_⟩
  generalize hga:upd H9 qa _=Ha
  obtain⟨na,ea⟩:=kaJ hga fqa
  clear hga
  have s7a:=s79.trans na
  have s0a:=s7.trans s7a
  refine⟨kp,qa,_,_,rfl,rfl, .inl ⟨SqL.of (s7a _ _ e7),SqL.of ea⟩,rfl,fun i x y ex ey=>?_,_,rfl,iteF ?_⟩
  ·match i,ex,ey with
   |0,ex,ey=>
    cases ex
    cases ey
    exact DEq.flats (SqL.of (s7a _ _ ep7)) (SqL.of (s0a _ _ hp)) (kk0 _)
   | 1,ex,ey=>
    cases ex
    cases ey
    exact DEq.lst (SqL.of (s7a _ _ ev7)) (SqL.of (s0a _ _ hvl)) rfl fun j a c e1 e2=>by
     rw[e1] at e2
     cases e2
     obtain⟨a',_,rfl⟩:=kbG e1
     exact DEq.same _
   | 2,ex,ey=>
    cases ex
    cases ey
    exact DEq.lst (SqL.of (s7a _ _ er7)) (SqL.of (s0a _ _ hrl)) rfl fun j a c e1 e2=>by
     rw[e1] at e2
     cases e2
     obtain⟨a',_,rfl⟩:=kbG e1
     exact DEq.same _
   |i+3,ex,ey=>cases ex
  refine⟨_,rfl,_,rfl,_,rfl,_,rfl,_,rfl,t,b,h,o,T,B,hand,order,rfl,hT.same s0a,tok,hB.same s0a,wf0,s0a _ _ hh,s0a _ _ ho,hl,hrs,hlt,h64,fun Hb dv sb hdv=>?_⟩
  have s8b:=(n9.trans na).trans sb
  have hfb:=hfv.same s8b
  exact⟨fv,dv,rfl,kfE hfb hdv,fun Hc sc=>k Hc ((s0a.trans sb).trans sc)⟩
noncomputable def turnR(r:Rul):Rul:=if r.w=("never" :Str) then⟨r.w,r.b,r.a⟩ else r
theorem khA(r:Rul):(turnR r).w=r.w:=by
 unfold turnR
 split <;> rfl
theorem khj{rs:List Rul}{used:List Nat}{n:Nat}:kce (rs.map turnR) used n=kce rs used n:=by
 unfold kce
 rw[J6]
 congr 1
 funext r
 show nevR used n (turnR r)=nevR used n r
 unfold nevR
 rw[khA]
 by_cases h:r.w=("never" :Str)
 ·unfold turnR
  rw[if_pos h]
  show(_&&((decide (r.b=n)&&used.contains r.a)||(decide (r.a=n)&&used.contains r.b)))=_
  rw[Bool.or_comm]
 ·rw[decide_eq_false h]
  rfl
theorem kez{r:Rul}(h:¬r.w=("never" :Str)):turnR r=r:=by
 unfold turnR
 rw[if_neg h]
theorem khv{rs:List Rul}{used:List Nat}{n:Nat}:kcg (rs.map turnR) used n=kcg rs used n:=by
 unfold kcg
 rw[J6]
 congr 1
 funext r
 show ahdR used n (turnR r)=ahdR used n r
 by_cases h:r.w=("never" :Str)
 ·unfold ahdR
  rw[khA,h,show decide (("never" :Str)=("ahead" :Str))=false by decide +kernel]
  rfl
 ·rw[kez h]
theorem kfr{order:List Nat}:∀{rs:List Rul},onlyM (rs.map turnR) order=onlyM rs order
 |[]=>rfl
 | r::rs=>by
  have ih:=kfr (order:=order) (rs:=rs)
  unfold onlyM at ih⊢
  rw[UQ]
  by_cases h:r.w=("never" :Str)
  ·have e1:loneM order (turnR r)=false:=by
    unfold loneM
    rw[khA,h,show decide (("never" :Str)=("only" :Str))=false by decide +kernel]
    rfl
   have e2:loneM order r=false:=by
    unfold loneM
    rw[h,show decide (("never" :Str)=("only" :Str))=false by decide +kernel]
    rfl
   rw[J9 (by rw[e1];simp),J9 (by rw[e2];simp)]
   exact ih
  ·rw[kez h]
   cases e:loneM order r with
   |true=>rw[Mu (by rw[e]),Mu (by rw[e])]
   |false=>
    rw[J9 (by rw[e];simp),J9 (by rw[e];simp)]
    exact ih
theorem kg3{ps:List (Option Nat)}{vs:List Vch}{rs:List Rul}{bk bk':Str}{V:Vch}{B:Bask}{hand:List Int}{used:List Nat}{S:Stnd}{n:Nat}:dueM V ⟨ps,vs,rs.map turnR,bk'⟩ B hand used S n=dueM V ⟨ps,vs,rs,bk⟩ B hand used S n:=by
 unfold dueM wordM
 simp only[khj,khv]
theorem ke7{ps:List (Option Nat)}{vs:List Vch}{rs:List Rul}{bk bk':Str}{B:Bask}{hand:List Int}:∀(o used:List Nat) (S:Stnd),walkM ⟨ps,vs,rs.map turnR,bk'⟩ B hand o used S=walkM ⟨ps,vs,rs,bk⟩ B hand o used S
 |[],_,_=>rfl
 |n::o,used,S=>by
  unfold walkM
  simp only
  cases vs[n]? with
  |none=>rfl
  |some V=>simp only[kg3 (bk:=bk) (bk':=bk'),ke7 (bk:=bk) (bk':=bk') o]
theorem khp{ps:List (Option Nat)}{vs:List Vch}{rs:List Rul}{bk bk':Str}{B:Bask}{hand:List Int}{order:List Nat}:kbT ⟨ps,vs,rs.map turnR,bk'⟩ B hand order=kbT ⟨ps,vs,rs,bk⟩ B hand order:=by
 unfold kbT
 simp only[ke7 (bk:=bk) (bk':=bk'),kfr,kg3 (bk:=bk) (bk':=bk')]
inductive khN (vs:List V) (H:Hp) (Q:VK) (E_:XK):Prop
 |ct (rl:Addr) (ra:List Addr) (rs:List Rul) (_:vs=[.ref rl]) (_:H rl=some (.lst (ra.map V.ref))) (_:P2 (fun a r=>RulIs H a r) ra rs) (_:rs.length≤20) (_:∀(H':Hp) (rl':Addr) (ra':List Addr),Same H H'→H rl'=none→H' rl'=some (.lst (ra'.map V.ref))→P2 (fun a r=>RulIs H' a r) ra' (rs.map turnR)→Q (.ref rl') H'):khN vs H Q E_
theorem Qd:kaq ["_law_rules","_law_turned_here","_law_word_here","_law_one","_law_other"] ["_law_rules"] (kag kb8):=⟨rfl,rfl,rfl,by decide +kernel,rfl,by decide +kernel,by decide +kernel⟩
theorem kef(W:WB K mg d base):FnOk P w K mg base CX0 1 d.YR d.YS ["_law_rules"] khN:=by
 refine FunD.ok W.QE.F Qd (fun vs H Q E h=>?_) (fun cdv A outer s H vs Q E hr h=>?_)
 ·obtain⟨rl,ra,rs,rfl,_⟩:=h
  rfl
 ·obtain⟨rl,ra,rs,rfl,hrl,hra,h20,kk⟩:=h
  refine⟨_,kad (kav (i:=1) Qd.nd rfl (Or.inl rfl) (kaI kae))
   (kad (kbk PassesOwn.never rfl (kaH (K:=K) (pv 0)) (kbm (K:=K) (n:=3) rfl (kay (kap (i:=2) Qd.nd rfl (Or.inl rfl)) (kay (kap (i:=3) Qd.nd rfl (Or.inl rfl)) (kay (kap (i:=4) Qd.nd rfl (Or.inl rfl)) kbl))))
   (kai (ps_if (kat op_eq (pv 2) kaP (kax _)) (kai (ka8 (pe_bm Jk Js Jt kbf (pv 1) (kaa (ka9 (kaa (pv 2) (kaa (pv 4) (kaa (pv 3) kae)))) kae)))) (kai (ka8 (pe_bm Jk Js Jt kbf (pv 1) (kaa (ka9 (kaa (pv 2) (kaa (pv 3) (kaa (pv 4) kae)))) kae)))))))
   (kai (kao (pv 1)))),?_⟩
  try refine sN fun _ Y4=>?_
  refine⟨by decide,fun tl ftl=>?_⟩
  generalize hg1:upd H tl _=H1
  obtain⟨n1,e1⟩:=kaJ hg1 ftl
  clear hg1
  try apply Y4
  try refine sN fun _ Y4=>?_
  refine⟨_,rfl,rl,rfl,⟨_,SqL.of (n1 _ _ hrl)⟩,kbq (xs:=ra.map V.ref) (fun i σ H'=>Same H H'∧∃(ra':List Addr) (v2 v3 v4:Option V),H' tl=some (.lst (ra'.map V.ref))∧P2 (fun a r=>RulIs H' a r) ra' ((rs.take i).map turnR)∧σ=[some (.ref rl),some (.ref tl),v2,v3,v4])
   ⟨n1,[],none,none,none,e1, .nil,rfl⟩ (fun i σ H' _ h=>SqL.of (h.1 _ _ hrl)) ?_ ?_⟩
  ·rintro i y σ H2 hy ⟨s2,ra',v2,v3,v4,etl,hr',rfl⟩
   obtain⟨a,ea,rfl⟩:=kbG hy
   obtain⟨r,er,hr1⟩:=hra.at ea
   have hr2:H2 a=some (.tup [.str r.w,iV r.a,iV r.b]):=s2 _ _ hr1
   have hir:=at_lt er
   have lr:ra'.length≤20:=by rw[hr'.len,Uu,UL];omega
   try apply Y4
   try refine sN fun _ Y6=>?_
   refine⟨a,_,rfl,SqT.of hr2,rfl,_,_,rfl,_,_,rfl,_,_,rfl,rfl,?_⟩
   try first|apply Y6|apply Y4
   try refine sN fun _ Y6=>?_
   refine⟨_,rfl,rfl,_,rfl,?_⟩
   show if decide (V.str r.w=V.str "never")=true then _ else _
   rw[eq_str]
   by_cases hw:r.w=("never" :Str)
   ·rw[decide_eq_true hw]
    have et:turnR r=⟨r.w,r.b,r.a⟩:=by unfold turnR;rw[if_pos hw]
    refine iteT ?_
    try first|apply Y6|apply Y4
    try refine sN fun _ Y8=>?_
    refine⟨_,rfl, .inl ⟨rfl,_,SqL.of etl⟩,_,rfl,_,rfl,_,rfl,(by show 3≤sizeLine;decide),fun q fq=>?_⟩
    generalize hg3:upd H2 q _=H3
    obtain⟨n3,e3⟩:=kaJ hg3 fq
    clear hg3
    have etl3:=n3 _ _ etl
    try first|apply Y8|apply Y6|apply Y4
    try refine sN fun _ Y8=>?_
    refine⟨tl,_,_,rfl,rfl,etl3,kar (by rw[Uu];omega),?_⟩
    try first|apply Y8|apply Y6|apply Y4
    try refine sN fun _ Y8=>?_
    refine⟨kaw ftl (s2.trans n3) (nx etl3),ra'++[q],_,_,_,by rw[kac,UD];rfl,?_,rfl⟩
    rw[take_snoc er,UD]
    try first|apply Y8|apply Y6|apply Y4
    refine P2.snoc (hr'.mono fun a r h=>RulIs.put etl3 (n3 _ _ h)) (RulIs.put etl3 ?_)
    rw[et]
    try first|apply Y8|apply Y6|apply Y4
    exact e3
   ·rw[decide_eq_false hw]
    have et:turnR r=r:=kez hw
    refine iteF ?_
    try first|apply Y8|apply Y6|apply Y4
    try refine sN fun _ Y8=>?_
    refine⟨_,rfl, .inl ⟨rfl,_,SqL.of etl⟩,_,rfl,_,rfl,_,rfl,(by show 3≤sizeLine;decide),fun q fq=>?_⟩
    generalize hg3:upd H2 q _=H3
    obtain⟨n3,e3⟩:=kaJ hg3 fq
    clear hg3
    have etl3:=n3 _ _ etl
    try first|apply Y8|apply Y6|apply Y4
    try refine sN fun _ Y8=>?_
    refine⟨tl,_,_,rfl,rfl,etl3,kar (by rw[Uu];omega),?_⟩
    try first|apply Y8|apply Y6|apply Y4
    try refine sN fun _ Y8=>?_
    refine⟨kaw ftl (s2.trans n3) (nx etl3),ra'++[q],_,_,_,by rw[kac,UD];rfl,?_,rfl⟩
    rw[take_snoc er,UD]
    try first|apply Y8|apply Y6|apply Y4
    refine P2.snoc (hr'.mono fun a r h=>RulIs.put etl3 (n3 _ _ h)) (RulIs.put etl3 ?_)
    rw[et]
    try first|apply Y8|apply Y6|apply Y4
    exact e3
  ·rintro σ H2 ⟨s2,ra',v2,v3,v4,etl,hr',rfl⟩
   rw[Uu,hra.len,UY] at hr'
   try first|apply Y6|apply Y4
   exact⟨_,rfl,kk H2 tl ra' s2 ftl etl hr'⟩
theorem qo:kaq ["_law_script","_law_cell_here","_law_parents_here","_law_vouchers","_law_hand","_law_k","_law_one","_law_told","_law_drawn","_law_marks_here","_law_rules","_law_word_here","_law_own","_law_tills","_law_basket_here","_law_order_here","_law_till"] ["_law_script"] (kag s_law):=⟨rfl,rfl,rfl,by decide +kernel,rfl,by decide +kernel,by decide +kernel⟩
theorem klp(W:WB K mg d base):FnOk P w K mg base CX0 10 d.f_law d.YT ["_law_script"] (kfc K d.tP_falling_groups):=by
 refine FunD.ok W.d_law.F qo (fun vs H Q E h=>?_) (fun cdv A outer s H vs Q E hr h=>?_)
 ·obtain⟨a,ns,rfl,_⟩:=h
  rfl
 ·obtain⟨a,ns,rfl,hS,hn,htb0,k⟩:=h
  have XC:=kfu (P:=P) (w:=w) (base:=base) W
  have VD:=kdY (P:=P) (w:=w) (base:=base) W
  have qp:=kbc (P:=P) (w:=w) (base:=base) W
  have VE:=kdX (P:=P) (w:=w) (base:=base) W
  have VF:=kft (P:=P) (w:=w) (base:=base) W
  have XD:=kfv (P:=P) (w:=w) (base:=base) W
  have VG:=kef (P:=P) (w:=w) (base:=base) W
  have VH:=kcK (P:=P) (w:=w) (base:=base) W
  have VI:=keg (P:=P) (w:=w) (base:=base) W
  have VJ:=keR (P:=P) (w:=w) (base:=base) W
  have VL:=keT (P:=P) (w:=w) (base:=base) W
  have XB:=kcT (P:=P) (w:=w) (base:=base) W
  have QU:=kgP (P:=P) (w:=w) (base:=base) W
  have hr1:Room 1 _:=hr.mono (by decide)
  have hr2:Room 2 _:=hr.mono (by decide)
  have hr3:Room 3 _:=hr.mono (by decide)
  have hr5:Room 5 _:=hr.mono (by decide)
  have hr6:Room 6 _:=hr.mono (by decide)
  have hr8:Room 8 _:=hr.mono (by decide)
  refine⟨_,kad (kav (i:=1) qo.nd rfl (Or.inl rfl) (kan XC hr1 rfl W.qw.m W.qw.F.kp W.qw.b .nil pass0 (kaa (pv 0) (kaa kaf kae))))
   (kad (kav (i:=2) qo.nd rfl (Or.inl rfl) (kan VD hr2 rfl W.Qu.m W.Qu.F.kp W.Qu.b .nil pass0 (kaa (pv 1) kae)))
   (kad (kav (i:=3) qo.nd rfl (Or.inl rfl) (kaI kae))
   (kad (kav (i:=4) qo.nd rfl (Or.inl rfl) (kaI kae))
   (kad (kbk PassesOwn.never rfl (kcp rfl W.B.range (kaa (pe_ix (r:=rIxL K) kaC (kaI (kaa kaf (kaa kaf (kaa kaf (kaa kaf (kaa kaf (kaa kaf kae))))))) (pe_op kaB (kan qp hr1 rfl W.qh.m W.qh.F.kp W.qh.b .nil pass0 (kaa (pv 1) (kaa kaf kae))) kaf) (fun _ _=>rfl)) kae)) (kap (i:=5) qo.nd rfl (Or.inl rfl))
   (kad (kav (i:=6) qo.nd rfl (Or.inl rfl) (pe_op kbr (kan XC hr1 rfl W.qw.m W.qw.F.kp W.qw.b .nil pass0 (kaa (pv 0) (kaa (pe_op kbr kaf (pv 5)) kae))) (pe_op kdU kaf (pv 5))))
   (kad (kav (i:=7) qo.nd rfl (Or.inl rfl) (kan VE hr3 rfl W.Qw.m W.Qw.F.kp W.Qw.b .nil pass0 (kaa (pv 6) (kaa (kas (r:=ka4 K) kaA (by rfl) W.B.len b_len (kaa (pv 2) kae)) (kaa (ka1 op_eq (pe_op kaB (pv 1) kaf) kaf (kax _)) kae)))))
   (kad (kav (i:=8) qo.nd rfl (Or.inl rfl) (kan qp hr1 rfl W.qh.m W.qh.F.kp W.qh.b .nil pass0 (kaa (pv 6) (kaa kaf kae))))
   (kad (kav (i:=9) qo.nd rfl (Or.inl rfl) (ka9 (kaa kaV (kaa kaf (kaa kaV (kaa pe_bl (kaa (ka1 op_eq (pe_op kaB (pv 8) kaf) kaf (kax _)) (kaa (ka1 op_eq (pe_op kaB (pe_op kaG (pv 8) kaf) kaf) kaf (kax _)) kae))))))))
   (kad (ka8 (pe_bm Jk Js Jt kbf (pv 3) (kaa (pe_op kkO (kcz (r:=rSlT K) kj7 (pv 7) keN (kco (pe_op kcQ (kas (r:=ka4 K) kaA (by rfl) W.B.len b_len (kaa (pv 7) kae)) kaf))) (ka9 (kaa (pv 9) kae))) kae)))
   (kai (ka8 (pe_bm Jk Js Jt kbf (pv 4) (kaa (pe_ix (r:=rIxL K) kaC (kaI (kaa kaf (kaa kaf (kaa kaf (kaa kaf kae))))) (pe_op kaB (pe_op kaG (pv 8) kaf) kaf) (fun _ _=>rfl)) kae))))))))))
   (kad (kav (i:=10) qo.nd rfl (Or.inl rfl) (kaI kae))
   (kad (kbk PassesOwn.never rfl (kcp rfl W.B.range (kaa (pe_op kbr kaf (pe_op kaB (kan qp hr1 rfl W.qh.m W.qh.F.kp W.qh.b .nil pass0 (kaa (pv 1) (kaa kaf kae))) kaf)) kae)) (kap (i:=5) qo.nd rfl (Or.inl rfl))
   (kad (kav (i:=8) qo.nd rfl (Or.inl rfl) (kan qp hr1 rfl W.qh.m W.qh.F.kp W.qh.b .nil pass0 (kaa (pv 1) (kaa (pe_op kbr kaf (pv 5)) kae))))
   (kad (kav (i:=11) qo.nd rfl (Or.inl rfl) (pe_ix (r:=rIxL K) kaC (kaI (kaa kaP (kaa kaP (kaa kaP (kaa kaP (kaa kaP kae)))))) (pe_op kaB (pv 8) kaf) (fun _ _=>rfl)))
   (kai (ka8 (pe_bm Jk Js Jt kbf (pv 10) (kaa (ka9 (kaa (pv 11) (kaa (pe_op kaB (pe_op kaG (pv 8) kaf) (kas (r:=ka4 K) kaA (by rfl) W.B.len b_len (kaa (pv 3) kae))) (kaa (pe_op kaB (pe_op kaG (pv 8) kaf) (kas (r:=ka4 K) kaA (by rfl) W.B.len b_len (kaa (pv 3) kae))) kae)))) kae)))))))
   (kad (keL (N:=["_law_told"]) (CompScope.plain rfl (by decide +kernel) (by decide +kernel) (by decide +kernel) (nd1 _)) rfl (kaH (K:=K) (pv 3)) (fun _ _ _ _=>kap (i:=0) (nd1 _) rfl (Or.inl rfl)) (fun _ _ _ _=>(kan VF hr6 rfl W.Qx.m W.Qx.F.kp W.Qx.b .nil pass0 (kaa (pv 0) kae))) (kap (i:=12) qo.nd rfl (Or.inl rfl)))
   (kad (kfn (ps_if (kat op_eq (pe_op kaB (pv 1) kaf) kaf (kax _)) (kai (kia (pe_ix (r:=rIxL K) kaC (pv 12) kaf (fun _ _=>rfl)) (kih (pv 12) (pe_op kcQ (kas (r:=ka4 K) kaA (by rfl) W.B.len b_len (kaa (pv 12) kae)) kaf) set_list))) (kau)))
   (kad (kav (i:=13) qo.nd rfl (Or.inl rfl) (kaI (kaa (kbe (W.qZ.mk' W.qd) XD hr2 rfl W.qd.m W.b1_Till_init (show Vals [.str "again"] [.str "again" d.tok0_Till_init] from(.cons ⟨_,rfl⟩ .nil)) pass0 (kaa (pv 2) (kaa (pv 12) (kaa (pv 10) kae)))) (kaa (kbe (W.qZ.mk' W.qd) XD hr2 rfl W.qd.m W.qZ.b .nil pass0 (kaa (pv 2) (kaa (pv 12) (kaa (kan VG hr1 rfl W.QE.m W.QE.F.kp W.QE.b .nil pass0 (kaa (pv 10) kae)) (kaa kaP kae))))) (kaa (kbe (W.qZ.mk' W.qd) XD hr2 rfl W.qd.m W.b1_Till_init (show Vals [.str "again"] [.str "again" d.tok0_Till_init] from(.cons ⟨_,rfl⟩ .nil)) pass0 (kaa (pv 2) (kaa (pv 12) (kaa (kaI kae) kae)))) kae)))))
   (kad (kav (i:=14) qo.nd rfl (Or.inl rfl) (kan VH hr3 rfl W.Qz.m W.Qz.F.kp W.Qz.b .nil pass0 (kaa (kan VI hr2 rfl W.Qy.m W.Qy.F.kp W.Qy.b .nil pass0 (kaa (kan XC hr1 rfl W.qw.m W.qw.F.kp W.qw.b .nil pass0 (kaa (pv 0) (kaa kaf kae))) (kaa (kas (r:=ka4 K) kaA (by rfl) W.B.len b_len (kaa (pv 2) kae)) (kaa (ka1 op_eq (pe_op kaB (pv 1) kaf) kaf (kax _)) kae)))) kae)))
   (kad (kbk PassesOwn.never rfl (kaH (K:=K) (pe_op kkg (kaI (kaa (pv 1) kae)) (kcz (r:=rSlL K) keD (pv 0) (kco kaf) (kco kaf)))) (kap (i:=6) qo.nd rfl (Or.inl rfl))
   (kad (kav (i:=15) qo.nd rfl (Or.inl rfl) (kan VJ hr2 rfl W.QA.m W.QA.F.kp W.QA.b .nil pass0 (kaa (pv 6) (kaa (kas (r:=ka4 K) kaA (by rfl) W.B.len b_len (kaa (pv 3) kae)) kae))))
   (kad (kbk PassesOwn.never rfl (kaH (K:=K) (pv 13)) (kap (i:=16) qo.nd rfl (Or.inl rfl))
   (kai (ps_if (kgK (ka5 (kan VL hr rfl W.QD.m W.QD.F.kp W.QD.b .nil pass0 (kaa (pv 16) (kaa (pv 14) (kaa (pv 4) (kaa (pv 15) kae))))))) (kai (kao pe_bl)) (kau))))
   (kai (ps_if (kgK (ka5 (kan XB hr5 rfl W.qx.m W.qx.F.kp W.qx.b .nil pass0 (kaa (kan QU hr8 rfl W.qu.m W.qu.F.kp W.qu.b .nil pass0 (kaa (pe_ix (r:=rIxL K) kaC (pv 13) kaf (fun _ _=>rfl)) (kaa (pv 14) (kaa (pv 4) (kaa (pv 15) kae))))) (kaa (kan QU hr8 rfl W.qu.m W.qu.F.kp W.qu.b .nil pass0 (kaa (pe_ix (r:=rIxL K) kaC (pv 13) kaf (fun _ _=>rfl)) (kaa (pv 14) (kaa (pv 4) (kaa (pv 15) kae))))) kae))))) (kai (kao pe_bl)) (kau))))))
   (kai (kao pe_bl))))))))))))),?_⟩
  try refine sN fun _ Y4=>?_
  refine⟨_,rfl,a,ns,0,rfl,hS,fun c=>?_⟩
  try apply Y4
  try refine sN fun _ Y4=>?_
  refine⟨_,rfl,c,rfl,fun H1 p ps s1 f1 hp hg hl20 hl0=>?_⟩
  try apply Y4
  try refine sN fun _ Y4=>?_
  refine⟨by decide,fun vo fvo=>?_⟩
  generalize hg2:upd H1 vo _=H2
  obtain⟨n2,e2⟩:=kaJ hg2 fvo
  clear hg2
  try apply Y4
  try refine sN fun _ Y4=>?_
  refine⟨by decide,fun ha fha=>?_⟩
  generalize hg3:upd H2 ha _=H3
  obtain⟨n3,e3⟩:=kaJ hg3 fha
  clear hg3
  have nvh:vo≠ha:=kaj e2 fha
  have fha1:H1 ha=none:=n2.free fha
  try apply Y4
  try refine sN fun _ Y4=>?_
  refine⟨(by show 6≤sizeLine;decide),fun l4 fl4=>?_⟩
  generalize hg4:upd H3 l4 _=H4
  obtain⟨n4,e4⟩:=kaJ hg4 fl4
  clear hg4
  try apply Y4
  try refine sN fun _ Y4=>?_
  refine⟨_,rfl,c,50,rfl,by decide,by decide,fun z z0 z1=>?_⟩
  obtain⟨m,hm,em⟩:=ki2 (ns:=[2,3,4,2,3,8]) (i:=z%6) (by omega) (by show z%6<6;omega)
  have hm8:1≤m∧m≤8:=by
   simp only[UO,Jb,or_false] at hm
   omega
  obtain⟨mn,rfl⟩:=Int.eq_ofNat_of_zero_le (show 0≤m by omega)
  try apply Y4
  try refine sN fun _ Y4=>?_
  refine⟨_,_,rfl,rfl,(by show(0:Int)<6;decide),l4,_,_,_,rfl,rfl,SqL.of e4,em,_,rfl,by omega,by omega,?_⟩
  rw[Int.toNat_natCast]
  clear em hm
  try apply Y4
  refine kcv (fun i σ H'=>Same H1 H'∧∃(ta:List Addr) (vs:List Vch) (hand:List Int) (v5 v6 v7 v8 v9:Option V),H' vo=some (.lst (ta.map V.ref))∧H' ha=some (.lst (hand.map V.int))∧P2 (fun t V=>VchT H' t V) ta vs∧(∀V∈vs,VchOk ps V)∧vs.length=i∧hand.length=i∧σ=[some (.ref a),some (.int c),some (.ref p),some (.ref vo),some (.ref ha),v5,v6,v7,v8,v9,none,none,none,none,none,none,none])
   ⟨(n2.trans n3).trans n4,[],[],[],none,none,none,none,none,(n3.trans n4) _ _ e2,n4 _ _ e3, .nil,(fun V hV=>by simp at hV),rfl,rfl,rfl⟩ ?_ ?_
  ·rintro i σ H' hi ⟨sI,ta,vs,hand,v5,v6,v7,v8,v9,evo,eha,hvt,hvo,hlv,hlh,rfl⟩
   rw[Int.zero_add]
   have hi8:i<8:=by omega
   have hta:=hvt.len
   try apply Y4
   try refine sN fun _ Y6=>?_
   refine⟨_,rfl,_,rfl,_,_,rfl,rfl,a,ns,1+i,(by show [V.ref a,V.int ((1:Int)+(i:Int))]=_;rw[show(1:Int)+(i:Int)=((1+i:Nat):Int) by omega];rfl),(s1.trans sI).seq hS,fun z2=>⟨_,rfl,_,_,rfl,rfl, .inl ⟨by decide,by decide⟩,_,_,rfl,rfl,?_⟩⟩
   dsimp only
   generalize z2+11*(i:Int)=one
   try first|apply Y6|apply Y4
   try refine sN fun _ Y6=>?_
   refine⟨_,rfl,_,rfl,p,_,rfl, .inl (SqL.of (sI _ _ hp)),_,rfl,_,_,rfl,rfl,(by show(0:Int)<2;decide),rfl,one,ps,_,(by rw[Uu];rfl),hl0,fun H5 t mt so M s5 f5 ht hmt sok mok=>?_⟩
   have evo5:=s5 _ _ evo
   have eha5:=s5 _ _ eha
   try first|apply Y6|apply Y4
   try refine sN fun _ Y6=>?_
   refine⟨_,rfl,one,51,rfl,by decide,by decide,fun z3 z30 z31=>?_⟩
   try first|apply Y6|apply Y4
   try refine sN fun _ Y6=>?_
   refine⟨_,rfl,_,_,rfl,rfl,(by show(0:Int)<4;decide),rfl,_,rfl,_,_,rfl,rfl,⟨by decide,by decide⟩,_,_,rfl,rfl,(by show(0:Int)<8;decide),rfl,(by show 6≤sizeLine;decide),fun mt' fmt'=>?_⟩
   generalize hg7:upd H5 mt' _=H7
   obtain⟨n7,e7'⟩:=kaJ hg7 fmt'
   clear hg7
   obtain⟨nd,bb,bc,e7,hnd⟩:∃(nd:Int) (bb bc:Bool),H7 mt'=some (.tup (mkT ⟨none,nd,none,false,bb,bc⟩))∧(0≤nd∧nd≤1000000000000):=⟨0,_,_,e7',by decide,by decide⟩
   clear e7'
   have evo7:=n7 _ _ evo5
   have ht7:=n7 _ _ ht
   try first|apply Y6|apply Y4
   try refine sN fun _ Y6=>?_
   refine⟨_,rfl, .inl ⟨rfl,_,SqL.of evo7⟩,_,rfl,_,rfl,t,_,rfl, .inr (SqT.of ht7),_,_,rfl,rfl,_,rfl,t,_,rfl,SqT.of ht7,kjM _ _,fun q fq=>?_⟩
   rw[kjP]
   generalize hg6:upd H7 q _=H6q
   obtain⟨n6,e6⟩:=kaJ hg6 fq
   clear hg6
   try first|apply Y6|apply Y4
   try refine sN fun _ Y6=>?_
   refine⟨_,rfl,(by show 1≤sizeLine;decide),fun t8 ft8=>?_⟩
   generalize hg8:upd H6q t8 _=H8
   obtain⟨n8,e8⟩:=kaJ hg8 ft8
   clear hg8
   try first|apply Y6|apply Y4
   try refine sN fun _ Y6=>?_
   refine⟨q,t8,_,_,rfl,rfl,SqT.of (n8 _ _ e6),SqT.of e8,(by cases so <;> simp[srtT]),UH (kar (by cases so <;> simp[srtT])),(fun h=>by cases h),fun _ q9 fq9=>?_⟩
   generalize hg9:upd H8 q9 _=H9
   obtain⟨n9,e9⟩:=kaJ hg9 fq9
   clear hg9
   have s79:=(n6.trans n8).trans n9
   have s59:=n7.trans s79
   have s9:=s5.trans s59
   have evo9:=s59 _ _ evo5
   have hV9:VchT H9 q9 ⟨so,⟨none,nd,none,false,bb,bc⟩⟩:=⟨mt',e9,s79 _ _ e7⟩
   try first|apply Y6|apply Y4
   try refine sN fun _ Y6=>?_
   refine⟨vo,_,_,rfl,rfl,evo9,kar (by rw[Uu,hta];omega),?_⟩
   have sA:=kaw (o:=.lst (ta.map V.ref++[V.ref q9])) fvo (sI.trans s9) (nx evo9)
   have hvtA:P2 (fun t Vc=>VchT (upd H9 vo (.lst (ta.map V.ref++[V.ref q9]))) t Vc) (ta++[q9]) (vs++[⟨so,⟨none,nd,none,false,bb,bc⟩⟩]):=P2.snoc (hvt.mono fun t V h=>(h.same s9).put evo9) (hV9.put evo9)
   have evoA:(upd H9 vo (.lst (ta.map V.ref++[V.ref q9]))) vo=some (.lst ((ta++[q9]).map V.ref)):=by rw[kac,UD];rfl
   have ehaA:(upd H9 vo (.lst (ta.map V.ref++[V.ref q9]))) ha=some (.lst (hand.map V.int)):=by rw[kak nvh.symm];exact s59 _ _ eha5
   generalize upd H9 vo (.lst (ta.map V.ref++[V.ref q9]))=HA at *
   try first|apply Y6|apply Y4
   try refine sN fun _ Y6=>?_
   refine⟨_,rfl, .inl ⟨rfl,_,SqL.of ehaA⟩,(by show 4≤sizeLine;decide),fun l6 fl6=>?_⟩
   generalize hgB:upd HA l6 _=HB
   obtain⟨nB,eB⟩:=kaJ hgB fl6
   clear hgB
   obtain⟨y,_,ey⟩:=ki2 (ns:=[2,3,5,4]) (i:=z3/32%4) (by omega) (by show z3/32%4<4;omega)
   try first|apply Y6|apply Y4
   try refine sN fun _ Y6=>?_
   refine⟨_,rfl,_,_,rfl,rfl,⟨by decide,by decide⟩,_,_,rfl,rfl,(by show(0:Int)<4;decide),l6,_,_,_,rfl,rfl,SqL.of eB,ey,ha,_,_,rfl,rfl,nB _ _ ehaA,kar (by rw[Uu];omega),?_⟩
   have ehaB:=nB _ _ ehaA
   try first|apply Y6|apply Y4
   try refine sN fun _ Y6=>?_
   refine⟨kaw fha1 (sA.trans nB) (nx ehaB),ta++[q9],vs++[⟨so,⟨none,nd,none,false,bb,bc⟩⟩],hand++[y],_,_,_,_,_,?_,?_,?_,?_,by simp[hlv],by simp[hlh],rfl⟩
   ·rw[kak nvh]
    try first|apply Y6|apply Y4
    exact nB _ _ evoA
   ·rw[kac,UD]
    rfl
   ·exact hvtA.mono fun t V h=>(h.same nB).put ehaB
   ·intro V hV
    rcases Jd.mp hV with h|h
    ·exact hvo V h
    ·have e:V=⟨so,⟨none,nd,none,false,bb,bc⟩⟩:=by simpa using h
     rw[e]
     try first|apply Y6|apply Y4
     exact⟨sok,⟨(fun k e=>by cases e),hnd,(fun k e=>by cases e)⟩⟩
  rintro σ H' ⟨sI,ta,vs,hand,v5,v6,v7,v8,v9,evo,eha,hvt,hvo,hlv,hlh,rfl⟩
  have hta:=hvt.len
  have hlv':=hlv
  have hL:(((ta.map V.ref).length:Nat):Int)=(mn:Int):=by rw[Uu];omega
  have hmn0:(0:Int)<(mn:Int):=by omega
  try apply Y4
  try refine sN fun _ Y4=>?_
  refine⟨by decide,fun rl frl=>?_⟩
  generalize hg5:upd H' rl _=H5
  obtain⟨n5,e5⟩:=kaJ hg5 frl
  clear hg5
  try apply Y4
  try refine sN fun _ Y4=>?_
  refine⟨_,rfl,c,53,rfl,by decide,by decide,fun y y0 y1=>⟨_,_,rfl,rfl,(by show(0:Int)<4;decide),_,_,rfl,rfl,_,rfl,by omega,by omega,?_⟩⟩
  try apply Y4
  refine kcv (fun i σ H6=>Same H' H6∧∃(ra:List Addr) (rs:List Rul) (v5 v8 v11:Option V),H6 rl=some (.lst (ra.map V.ref))∧P2 (fun a r=>RulIs H6 a r) ra rs∧(∀r∈rs,r.b<mn)∧rs.length=i∧σ=[some (.ref a),some (.int c),some (.ref p),some (.ref vo),some (.ref ha),v5,v6,v7,v8,v9,some (.ref rl),v11,none,none,none,none,none])
   ⟨n5,[],[],_,_,none,e5, .nil,(fun r hr=>by simp at hr),rfl,rfl⟩ ?_ ?_
  ·rintro i σ H6 hi ⟨s6,ra,rs,v5,v8,v11,erl,hra,hrb,hlr,rfl⟩
   have hi4:i<4:=by omega
   rw[Int.zero_add]
   try apply Y4
   try refine sN fun _ Y6=>?_
   refine⟨_,rfl,_,rfl,_,_,rfl,rfl,c,54+(i:Int),rfl,by omega,by omega,fun w w0 w1=>?_⟩
   try first|apply Y6|apply Y4
   try refine sN fun _ Y6=>?_
   refine⟨(by show 5≤sizeLine;decide),fun l7 fl7=>?_⟩
   generalize hg7:upd H6 l7 _=H7
   obtain⟨n7,e7⟩:=kaJ hg7 fl7
   clear hg7
   obtain⟨wd,_,ewd⟩:=kk7 (ss:=["never","ahead","ahead","never","only"]) (i:=w%5) (by omega) (by show w%5<5;omega)
   try first|apply Y6|apply Y4
   try refine sN fun _ Y6=>?_
   refine⟨_,rfl,_,_,rfl,rfl,(by show(0:Int)<5;decide),l7,_,_,_,rfl,rfl,SqL.of e7,ewd,?_⟩
   have erl7:=n7 _ _ erl
   have evo7:=(s6.trans n7) _ _ evo
   have q0:0≤w/5%(mn:Int):=Int.emod_nonneg _ (by omega)
   have q1:w/5%(mn:Int)<(mn:Int):=Int.emod_lt_of_pos _ hmn0
   have q2:0≤w/50%(mn:Int):=Int.emod_nonneg _ (by omega)
   have q3:w/50%(mn:Int)<(mn:Int):=Int.emod_lt_of_pos _ hmn0
   try first|apply Y6|apply Y4
   try refine sN fun _ Y6=>?_
   refine⟨_,rfl, .inl ⟨rfl,_,SqL.of erl7⟩,_,rfl,_,rfl,_,_,rfl,rfl,⟨by decide,by decide⟩,_,rfl,vo,_,rfl, .inl (SqL.of evo7),_,_,rfl,rfl,(by rw[hL];exact hmn0),_,rfl,_,_,rfl,rfl,⟨by decide,by decide⟩,_,rfl,vo,_,rfl, .inl (SqL.of evo7),_,_,rfl,rfl,(by rw[hL];exact hmn0),(by show 3≤sizeLine;decide),fun q fq=>?_⟩
   obtain⟨ua,eua⟩:=Int.eq_ofNat_of_zero_le q0
   obtain⟨ub,eub⟩:=Int.eq_ofNat_of_zero_le q2
   generalize hg8:upd H7 q _=H8
   obtain⟨n8,e8⟩:=kaJ hg8 fq
   clear hg8
   have hr8:RulIs H8 q ⟨wd,ua,ub⟩:=by
    show H8 q=some (.tup [.str wd,V.int ((ua:Nat):Int),V.int ((ub:Nat):Int)])
    rw[←eua,←eub,←hL]
    try first|apply Y6|apply Y4
    exact e8
   have erl8:=n8 _ _ erl7
   have lra:=hra.len
   try first|apply Y6|apply Y4
   try refine sN fun _ Y6=>?_
   refine⟨rl,_,_,rfl,rfl,erl8,kar (by rw[Uu];omega),?_⟩
   try first|apply Y6|apply Y4
   try refine sN fun _ Y6=>?_
   refine⟨kaw frl ((s6.trans n7).trans n8) (nx erl8),ra++[q],rs++[⟨wd,ua,ub⟩],_,_,_,by rw[kac,UD];rfl,P2.snoc (hra.mono fun a r h=>RulIs.put erl8 ((n7.trans n8) _ _ h)) (RulIs.put erl8 hr8),?_,by simp[hlr],rfl⟩
   intro r hr
   rcases Jd.mp hr with h|h
   ·exact hrb r h
   ·have e:r=⟨wd,ua,ub⟩:=by simpa using h
    rw[e]
    show ub<mn
    omega
  rintro σ HR ⟨sR,ra,rs,v5,v8,v11,erl,hra,hrb,hlr,rfl⟩
  have hlr4:rs.length≤4:=by omega
  have evoR:=sR _ _ evo
  have hvtR:P2 (fun t V=>VchT HR t V) ta vs:=hvt.mono fun t V h=>h.same sR
  have s1R:=sI.trans sR
  have ehaR:=sR _ _ eha
  try apply Y4
  try refine sN fun _ Y4=>?_
  refine⟨_,rfl,vo,rfl,⟨_,SqL.of evoR⟩,ka3 (xs:=ta.map V.ref) (fun i σ ys H2=>Same HR H2∧∃(va:List Addr) (v0:Option V),ys=va.map V.ref∧P2 (fun v V=>VchIs d H2 v V) va (vs.take i)∧σ=[v0]) ⟨Same.refl _,[],none,rfl, .nil,rfl⟩ (by rw[Uu,hta];exact UH (kar (by omega))) ?_ ?_ ?_⟩
  ·rintro i σ ys Hx hi ⟨sx,va,v0,rfl,hva,rfl⟩
   rw[Uu,hta] at hi
   try apply Y4
   exact⟨SqL.of (sx _ _ evoR),by rw[Uu,hva.len,UL];omega⟩
  ·rintro i y σ ys Hx hy ⟨sx,va,v0,rfl,hva,rfl⟩
   obtain⟨t,et,rfl⟩:=kbG hy
   obtain⟨V,eV,hV⟩:=hvtR.at et
   obtain⟨so,M⟩:=V
   obtain⟨mt,g1,g2⟩:=hV.same sx
   try apply Y4
   try refine sN fun _ Y6=>?_
   refine⟨_,rfl,t,mt,so,M,rfl,g1,g2,Tbs.same ((s1.trans s1R).trans sx) htb0,fun Hy v sy fy hv=>?_⟩
   try first|apply Y6|apply Y4
   try refine sN fun _ Y6=>?_
   refine⟨sx.trans sy,va++[v],_,by rw[UD];rfl,?_,rfl⟩
   rw[take_snoc eV]
   try first|apply Y6|apply Y4
   exact P2.snoc (hva.mono fun v V h=>h.same sy) hv
  rintro σ ys Hx ⟨sx,va,v0,rfl,hva,rfl⟩ ow fow
  rw[Uu,hta,UY] at hva
  have fow':HR ow=none:=sx.free fow
  generalize hg5:upd Hx ow _=H5
  obtain⟨n5,e5⟩:=kaJ hg5 fow
  clear hg5
  have s5:=sx.trans n5
  have hva5:P2 (fun v V=>VchIs d H5 v V) va vs:=hva.mono fun v V h=>h.same n5
  have lva:=hva5.len
  try apply Y4
  try refine sN fun _ Y4=>?_
  refine⟨fun σ' H6=>Same HR H6∧∃(va':List Addr) (vs':List Vch),H6 ow=some (.lst (va'.map V.ref))∧P2 (fun v V=>VchIs d H6 v V) va' vs'∧(∀V∈vs',VchOk ps V)∧vs'.length=mn∧σ'=[some (.ref a),some (.int c),some (.ref p),some (.ref vo),some (.ref ha),v5,v6,v7,v8,v9,some (.ref rl),v11,some (.ref ow),none,none,none,none],?_,?_⟩
  ·refine⟨_,rfl,_,_,rfl,rfl,(by show(0:Int)<3;decide),rfl,_,rfl,ite2 (fun _=>?_) (fun _=>⟨s5,va,vs,e5,hva5,hvo,hlv,rfl⟩)⟩
   obtain⟨w0,ew⟩:=at_of (xs:=va) (i:=0) (by omega)
   obtain⟨W0,eW,hW⟩:=hva.at ew
   have lm:(va.map V.ref).length=mn:=by rw[Uu];omega
   try apply Y4
   try refine sN fun _ Y6=>?_
   refine⟨_,rfl,ow,_,_,_,rfl,rfl,SqL.of e5,(show atI (va.map V.ref) ((0:Nat):Int)=_ from kaY (v:=.ref w0) (by rw[UF,ew];rfl)),_,rfl,_,rfl,ow,_,rfl, .inl (SqL.of e5),_,_,rfl,rfl,ow,_,_,mn-1,rfl,rfl,e5,(by rw[lm,show((mn:Nat):Int)-1=((mn-1:Nat):Int) by omega];exact kgl (by omega)),?_⟩
   rw[←N7]
   have s6:=kaw (o:=.lst ((va.set (mn-1) w0).map V.ref)) fow' s5 (nx e5)
   have sX:=kaw (o:=.lst ((va.set (mn-1) w0).map V.ref)) fow n5 (nx e5)
   try first|apply Y6|apply Y4
   try refine sN fun _ Y6=>?_
   refine⟨s6,va.set (mn-1) w0,vs.set (mn-1) W0,kac,?_,?_,?_,rfl⟩
   ·exact P2.put (hW.same sX) _ (hva.mono fun v V h=>h.same sX)
   ·intro V hV
    rcases List.mem_or_eq_of_mem_set hV with h|h
    ·exact hvo V h
    ·rw[h]
     try first|apply Y6|apply Y4
     exact hvo W0 (UE eW)
   ·rw[NT]
    try first|apply Y6|apply Y4
    exact hlv
  clear hva5 hva e5 n5 s5 hvo hlv fow lva hvt hvtR
  rintro σ' H6 ⟨s6,va',vs',e6,hva6,hvo6,hlv6,rfl⟩
  have s16:=(s1R.trans s6)
  have erl6:=s6 _ _ erl
  have hra6:P2 (fun a r=>RulIs H6 a r) ra rs:=hra.mono fun a r h=>s6 _ _ h
  have hp6:=s16 _ _ hp
  try apply Y4
  try refine sN fun _ Y4=>?_
  refine⟨_,rfl,_,rfl,_,rfl,kge (T:=⟨ps,vs',rs,"again"⟩) hp6 e6 hva6 erl6 hra6 fun H7 t0 s7 f7 hT0=>?_⟩
  try apply Y4
  try refine sN fun _ Y4=>?_
  refine⟨_,rfl,_,rfl,_,rfl,rl,ra,rs,rfl,s7 _ _ erl6,hra6.mono fun a r h=>s7 _ _ h,(by omega),fun Hr rl' ra' sr frl' erl' hra'=>?_⟩
  have s7r:=s7.trans sr
  try apply Y4
  refine kge (T:=⟨ps,vs',rs.map turnR,"shares"⟩) (s7r _ _ hp6) (s7r _ _ e6) (hva6.mono fun v V h=>h.same s7r) erl' hra' fun Ht t1 st ft hT1=>?_
  have s6t:=s7r.trans st
  try apply Y4
  try refine sN fun _ Y4=>?_
  refine⟨_,rfl,_,rfl,by decide,fun r3 fr3=>?_⟩
  generalize hg7:upd Ht r3 _=Hu
  obtain⟨nu,eu⟩:=kaJ hg7 fr3
  clear hg7
  have s6u:=s6t.trans nu
  try apply Y4
  refine kge (T:=⟨ps,vs',[],"again"⟩) (s6u _ _ hp6) (s6u _ _ e6) (hva6.mono fun v V h=>h.same s6u) (ra:=[]) eu .nil fun Hv t2 sv fv hT2=>?_
  try apply Y4
  try refine sN fun _ Y4=>?_
  refine⟨(by show 3≤sizeLine;decide),fun tl ftl=>?_⟩
  generalize hg8:upd Hv tl _=H8
  obtain⟨n8,etl⟩:=kaJ hg8 ftl
  clear hg8
  have s68:=(s6u.trans sv).trans n8
  have hT2':=hT2.same n8
  have hT1':=hT1.same ((nu.trans sv).trans n8)
  have hT0':=hT0.same ((((sr.trans st).trans nu).trans sv).trans n8)
  have s18:=s16.trans s68
  try apply Y4
  try refine sN fun _ Y4=>?_
  refine⟨_,rfl,a,ns,9,rfl,(s1.trans s18).seq hS,fun c9=>⟨_,rfl,p,_,rfl, .inl (SqL.of (s18 _ _ hp)),_,rfl,_,_,rfl,rfl,(by show(0:Int)<2;decide),rfl,c9,ps.length,_,(by rw[Uu];rfl),hl0,fun H9 bp lp ra B s9 hbp hlp hra hB12 hBok hBkd hBc hB64=>⟨bp,lp,ra,B,rfl,hbp,hlp,hra,hB12,fun H10 b s10 f10 hb=>?_⟩⟩⟩
  have s810:=s9.trans s10
  have s610:=s68.trans s810
  have s110:=s18.trans s810
  have wf0:=Wf.start hg hl20 hBkd hBok hB12 hBc hB64
  have nv8:vs'.length≤8:=by omega
  have eha10:=(s6.trans s610) _ _ ehaR
  have evo10:=(s6.trans s610) _ _ evoR
  have lh:hand.length=vs'.length:=by omega
  try apply Y4
  try refine sN fun _ Y4=>?_
  refine⟨_,rfl,(by show 1≤sizeLine;decide),fun l1 fl1=>?_⟩
  generalize hgA:upd H10 l1 _=HA
  obtain⟨nA,eA⟩:=kaJ hgA fl1
  clear hgA
  try apply Y4
  try refine sN fun _ Y4=>?_
  refine⟨_,rfl,_,rfl,_,rfl,a,_,rfl,((s1.trans s110).trans nA).seq hS,fun l2 fl2=>?_⟩
  obtain⟨ms,ems,lms⟩:=kjO ns (some 10) (some 18)
  rw[ems]
  generalize hgB:upd HA l2 _=HB
  obtain⟨nB,eB⟩:=kaJ hgB fl2
  clear hgB
  try apply Y4
  try refine sN fun _ Y4=>?_
  refine⟨l1,l2,_,_,rfl,rfl,nB _ _ eA,eB,UH (kar (by rw[Uu,JK];omega)),fun l3 fl3=>?_⟩
  rw[show [V.int c]++ms.map V.int=(c::ms).map V.int from rfl]
  generalize hgC:upd HB l3 _=HC
  obtain⟨nC,eC⟩:=kaJ hgC fl3
  clear hgC
  have s10C:=(nA.trans nB).trans nC
  have s8C:=s810.trans s10C
  have hbC:=hb.same s10C
  have ehaC:=s10C _ _ eha10
  have evoC:=s10C _ _ evo10
  have tok:∀(rs:List Rul) (bk:Str),kev ⟨ps,vs',rs,bk⟩:=fun _ _=>⟨hvo6,nv8⟩
  have hall:∀(i:Nat) (y:V),[V.ref t0,V.ref t1,V.ref t2][i]?=some y→∃(t:Addr) (T:TillD),y=.ref t∧TillIs d HC t T∧kev T∧T.ps=ps∧T.vs=vs'∧T.rs.length≤20:=fun i y hy=>by
   match i,hy with
   |0,hy=>cases hy;exact⟨t0,⟨ps,vs',rs,"again"⟩,rfl,hT0'.same s8C,tok _ _,rfl,rfl,by show rs.length≤20;omega⟩
   |1,hy=>cases hy;exact⟨t1,⟨ps,vs',rs.map turnR,"shares"⟩,rfl,hT1'.same s8C,tok _ _,rfl,rfl,by show(rs.map turnR).length≤20;rw[Uu];omega⟩
   |2,hy=>cases hy;exact⟨t2,⟨ps,vs',[],"again"⟩,rfl,hT2'.same s8C,tok _ _,rfl,rfl,by show 0≤20;decide⟩
   |i+3,hy=>cases hy
  have hT0C:=hT0'.same s8C
  have hT1C:=hT1'.same s8C
  have etlC:=s8C _ _ etl
  clear hb eha10 evo10 e6 hva6 eA eB hT0 hT1 hT2 hT0' hT1' hT2'
  try apply Y4
  try refine sN fun _ Y4=>?_
  refine⟨l3,rfl,⟨_,SqL.of eC⟩,kbq (xs:=(c::ms).map V.int) (fun i σ H'=>Same HC H'∧∃v6 v15 v16:Option V,σ=[some (.ref a),some (.int c),some (.ref p),some (.ref vo),some (.ref ha),v5,v6,v7,v8,v9,some (.ref rl),v11,some (.ref ow),some (.ref tl),some (.ref b),v15,v16])
   ⟨Same.refl _,_,none,none,rfl⟩ (fun i σ H' _ h=>SqL.of (h.1 _ _ eC)) ?_ ?_⟩
  ·rintro i y σ Hi hy ⟨si,v6',v15,v16,rfl⟩
   obtain⟨one,_,rfl⟩:∃z,(c::ms)[i]?=some z∧y=V.int z:=kbH hy
   try apply Y4
   try refine sN fun _ Y6=>?_
   refine⟨_,rfl,_,rfl,vo,_,rfl, .inl (SqL.of (si _ _ evoC)),one,vs'.length,(by rw[Uu,hta,hlv',hlv6];rfl),(by omega),fun Hj o order sj fo eo hlt h8=>?_⟩
   have sCj:=si.trans sj
   try first|apply Y6|apply Y4
   try refine sN fun _ Y6=>?_
   refine⟨_,rfl,tl,rfl,⟨_,SqL.of (sCj _ _ etlC)⟩,kbq (xs:=[V.ref t0,V.ref t1,V.ref t2]) (fun i σ H'=>Same Hj H'∧∃v16:Option V,σ=[some (.ref a),some (.int c),some (.ref p),some (.ref vo),some (.ref ha),v5,some (.int one),v7,v8,v9,some (.ref rl),v11,some (.ref ow),some (.ref tl),some (.ref b),some (.ref o),v16])
    ⟨Same.refl _,_,rfl⟩ (fun i σ H' _ h=>SqL.of ((sCj.trans h.1) _ _ etlC)) ?_ ?_⟩
   ·rintro j y σ Hk hy ⟨sk,v16,rfl⟩
    obtain⟨t,T,rfl,hT,tk,e1,e2,h20⟩:=hall j y hy
    have sCk:=sCj.trans sk
    try first|apply Y6|apply Y4
    try refine sN fun _ Y8=>?_
    refine⟨_,rfl,_,rfl,_,rfl,_,rfl,t,b,ha,o,T,B,hand,order,rfl,hT.same sCk,tk,hbC.same sCk,(by rw[e1];exact wf0),sCk _ _ ehaC,sk _ _ eo,(by rw[e2];exact lh),h20,(by rw[e2];exact hlt),by omega,fun Hl sl=>⟨_,rfl,iteF ⟨sk.trans sl,_,rfl⟩⟩⟩
   ·rintro σ Hk ⟨sk,v16,rfl⟩
    have sCk:=sCj.trans sk
    try first|apply Y8|apply Y6|apply Y4
    try refine sN fun _ Y8=>?_
    refine⟨_,rfl,tl,_,_,_,rfl,rfl,SqL.of (sCk _ _ etlC),rfl,_,rfl,_,rfl,_,rfl,t1,b,ha,o,⟨ps,vs',rs.map turnR,"shares"⟩,B,hand,order,rfl,hT1C.same sCk,tok _ _,hbC.same sCk,wf0,sCk _ _ ehaC,sk _ _ eo,lh,hlt,by omega,fun Hl fv sl hfv=>?_⟩
    have sCl:=sCk.trans sl
    try first|apply Y8|apply Y6|apply Y4
    try refine sN fun _ Y8=>?_
    refine⟨_,rfl,tl,_,_,_,rfl,rfl,SqL.of (sCl _ _ etlC),rfl,_,rfl,_,rfl,_,rfl,t0,b,ha,o,⟨ps,vs',rs,"again"⟩,B,hand,order,rfl,hT0C.same sCl,tok _ _,hbC.same sCl,wf0,sCl _ _ ehaC,(sk.trans sl) _ _ eo,lh,hlt,by omega,fun Hm gv sm hgv=>?_⟩
    rw[khp (bk:="again")] at hfv
    try first|apply Y8|apply Y6|apply Y4
    exact⟨fv,gv,rfl,kfE (hfv.same sm) hgv,fun Hn sn=>⟨_,rfl,iteF ⟨(sCl.trans sm).trans sn,_,_,_,rfl⟩⟩⟩
  ·rintro σ Hi ⟨si,v6',v15,v16,rfl⟩
   try first|apply Y6|apply Y4
   exact k _
end
end Vs
namespace Vs
open PySem L2
theorem ln0{C:List Value→Prop}(k:C []):∀us:List Value,us.length=0→C us:=fun us h=>by
 cases us with
 |nil=>exact k
 |cons a us=>cases h
theorem lnS{C:List Value→Prop}{n:Nat}(k:∀(a:Value) (us:List Value),us.length=n→C (a::us)):∀us:List Value,us.length=n+1→C us:=fun us h=>by
 cases us with
 |nil=>cases h
 |cons a us=>exact k a us (Nat.succ.inj h)
theorem nL1{C:List Value→Prop}(k:∀a0:Value,C [a0]):∀us:List Value,us.length=1→C us:=lnS fun a0=>ln0 (k a0)
theorem nL2{C:List Value→Prop}(k:∀a0 a1:Value,C [a0,a1]):∀us:List Value,us.length=2→C us:=lnS fun a0=>lnS fun a1=>ln0 (k a0 a1)
theorem nL3{C:List Value→Prop}(k:∀a0 a1 a2:Value,C [a0,a1,a2]):∀us:List Value,us.length=3→C us:=lnS fun a0=>lnS fun a1=>lnS fun a2=>ln0 (k a0 a1 a2)
theorem nL4{C:List Value→Prop}(k:∀a0 a1 a2 a3:Value,C [a0,a1,a2,a3]):∀us:List Value,us.length=4→C us:=lnS fun a0=>lnS fun a1=>lnS fun a2=>lnS fun a3=>ln0 (k a0 a1 a2 a3)
theorem nL5{C:List Value→Prop}(k:∀a0 a1 a2 a3 a4:Value,C [a0,a1,a2,a3,a4]):∀us:List Value,us.length=5→C us:=lnS fun a0=>lnS fun a1=>lnS fun a2=>lnS fun a3=>lnS fun a4=>ln0 (k a0 a1 a2 a3 a4)
theorem nL6{C:List Value→Prop}(k:∀a0 a1 a2 a3 a4 a5:Value,C [a0,a1,a2,a3,a4,a5]):∀us:List Value,us.length=6→C us:=lnS fun a0=>lnS fun a1=>lnS fun a2=>lnS fun a3=>lnS fun a4=>lnS fun a5=>ln0 (k a0 a1 a2 a3 a4 a5)
theorem nL7{C:List Value→Prop}(k:∀a0 a1 a2 a3 a4 a5 a6:Value,C [a0,a1,a2,a3,a4,a5,a6]):∀us:List Value,us.length=7→C us:=lnS fun a0=>lnS fun a1=>lnS fun a2=>lnS fun a3=>lnS fun a4=>lnS fun a5=>lnS fun a6=>ln0 (k a0 a1 a2 a3 a4 a5 a6)
theorem bd_mk{K:Uv}{fd:FuncData}{ps:List Str}{ds:List Value}{n:Nat}(hn:n+ds.length=ps.length)(k:∀s:Shared,K.In s.heap→∀us:List Value,us.length=n→BindsTo s fd ⟨us,[]⟩ (ps.zip (us++ds))):Binds K fd ps ds:=fun s us KX hl=>k s KX us (by rw[UW] at hl;omega)
theorem dn_mk{K:Uv}{st:Stmt}{ps:List Str}{f:Addr}{oc:Value}{od an:Option Addr}{osl:Array (Option Value)}{kV doc pm cdv ct:Value}{h:Heap}{mg:Str→Option Value}{x:Str}(X:K.In h)(G:h.Ns mainGlobals mg)(a:UM K mainGlobals x=some (some (.ref f)))(l:K.lookup f=some ⟨oc,od, .func (UI x x (kaE st) (kaD st) (kag st) .none kV doc pm an cdv ct),osl⟩)(c:U2 K cdv x=true)(k:UJ K (.ref f)=true)(b:∀(kV doc pm:Value) (an:Option Addr) (cdv ct:Value),∀us:List Value,us.length=ps.length→bindArgs (UI x x (kaE st) (kaD st) (kag st) .none kV doc pm an cdv ct) ⟨us,[]⟩=pure (ps.zip us)):Dn K mg x st ps f (UI x x (kaE st) (kaD st) (kag st) .none kV doc pm an cdv ct):=⟨kbp l c k,Binds.all (b _ _ _ _ _ _),UZ X G a⟩
theorem mt_mk{K:Uv}{st:Stmt}{ps:List Str}{f:Addr}{oc:Value}{od an:Option Addr}{osl:Array (Option Value)}{kV doc pm cdv ct:Value}{m qual:Str}{C:Addr}(a:Ux K (.ref C) m=some (some (.ref f)))(i:U9 K (.ref f)=true)(l:K.lookup f=some ⟨oc,od, .func (UI m qual (kaE st) (kaD st) (kag st) .none kV doc pm an cdv ct),osl⟩)(c:U2 K cdv qual=true)(k:UJ K (.ref f)=true)(b:∀(kV doc pm:Value) (an:Option Addr) (cdv ct:Value),∀us:List Value,us.length=ps.length→bindArgs (UI m qual (kaE st) (kaD st) (kag st) .none kV doc pm an cdv ct) ⟨us,[]⟩=pure (ps.zip us)):MthT K C m qual st ps f (UI m qual (kaE st) (kaD st) (kag st) .none kV doc pm an cdv ct):=⟨a,i,kbp l c k,Binds.all (b _ _ _ _ _ _)⟩
theorem all_mk{l:PySem.W.OpenLaw}{w:World}{K:Uv}{h:Heap}{mg:Str→Option Value}{fa zdn zdp z2w ze0 zer z6w zdg z32 z2h z55 z2r zu z3g z6y z3o zap ze7 zbv z3e z44 z47 z1u z5m z7a z5l z60 z4q z5z z4i z7s z52 z1r z5s z7j z8x z5u z4x z9y zj zy z38 zf zp z1q zk z1l z51 ze zx z39 za zs z1k zc zv z2m zb zr z1i zm z1g z3y zi zw z2e zd z3v zo z8w z41 z5i z3k zn z1a z40 zl zh:Addr}{z6i z2k zgg zes zaa z5a zad z7y z3p z8j zc6 z6z zda za3 z57 zao z7e z37 z76 z9n z42 z9l z6s z2x z7m zbj z5v zbe z8y z45 z9g zar z5h zbn z5c:Option Addr}{z6j zgs zac za6 z8l z86 zcn zd0 za2 z9x z7g z7d z9i z94 z6p z6q zbl zbk z9c z9m zbf zbm z5d:Array (Option Value)}{z6l z2c z23 z1y zt z2b zgt zeu zev zet zcs zex z9w z56 z4y z4w z21 z4z za7 z82 z3t z3j z3w z1j z3q z8q zcb z73 z7k z71 z3z z6r zcg z9t z4u z53 z59 z1z z4s zak z72 z2n z34 z2t z19 z2o z7x z9q z4d z4a z46 z1p z4b z92 z7l z33 z31 z2p z1f z2y z70 zaz z61 z5n z5j z3c z5k zba z95 z43 z4e z4r z1o z4j z96 zb4 z5w z5e z5r z3b z5p zau z1t:Value}{za8 z30 z8b zcl zab z79 z9f z7h zb1 z98 z24 zbi z3m z29 z2g z22:Nat}{zdt zdx z2v ze2 zew z7u zdy z2z z2a z4t z2s z3f z6v z3x zaq ze3 zbw z3r z4f z4c z2j z62 z6t z5t z5o z4n z63 z49 z7b z4v z1s z5f z7q z8u z5y z50 z3h z8t z48 z5q z3l:FuncData}{zg:Array Value}{z25:Str}{z28 z2f:Int}{z1w:Bool}{ts:List Addr}(X:K.In h)(G:h.Ns mainGlobals mg)(hfa:mg "law"=some (.ref fa))
  (zfj:Dn K mg "dealt" kf6 ["cut","weights"] zdn zdt)
  (zg6:Dn K mg "under" kf4 ["parents","one","other"] zdp zdx)
  (z7r:Dn K mg "price_of_piece" kbz ["line","member"] z2w z2v)
  (zfz:Dn K mg "about" kdN ["voucher","parents","basket","standing"] ze0 ze2)
  (zgd:Dn K mg "fits" kh4 ["marks","parents","kind","marked"] zer zew)
  (zd1:Dn K mg "hindrance" kcG ["voucher","parents","basket","standing"] z6w z7u)
  (zfo:Dn K mg "after" kf7 ["voucher","parents","basket","standing"] zdg zdy)
  (z74:Dn K mg "cuts_of_pieces" kbB ["voucher","parents","basket","standing"] z32 z2z)
  (z68:Dn K mg "cut_of_carriage" kbt ["voucher","standing"] z2h z2a)
  (z9z:Dn K mg "wanted_cuts" kbb ["voucher","standing","pieces"] z55 z4t)
  (z78:Dn K mg "parted_by_line" kbA ["standing","pieces"] z2r z2s)
  (z75:UM K mainGlobals "falling_groups"=some (some (.ref zu))) (z77:K.lookup zu=some ⟨z6l,z6i, .func (UI "falling_groups" "falling_groups" (kaE kaF) (kaD kaF) (kag kaF) .none z2c z23 z1y z2k zt z2b),z6j⟩) (z7f:U2 K zt "falling_groups"=true) (z7c:UJ K (.ref zu)=true)
  (z84:Dn K mg "marked_behind" kbM ["voucher","standing","piece_cuts"] z3g z3f)
  (zce:Dn K mg "prices_of" kb7 ["standing","pieces"] z6y z6v)
  (z8h:Dn K mg "sum_of_prices" kbL ["standing","pieces"] z3o z3x)
  (zel:Dn K mg "at_most" kdM ["most","number"] zap zaq)
  (zfw:Dn K mg "fault" kf5 ["till","basket","hand","order"] ze7 ze3)
  (zf8:Dn K mg "way_by" keK ["till","basket","hand","order"] zbv zbw)
  (z85:Dn K mg "word_of_order" kbK ["till","hand","used","number"] z3e z3r)
  (z9d:Dn K mg "breaks_never" kbZ ["rules","used","number"] z44 z4f)
  (z9h:Dn K mg "breaks_ahead" kb0 ["rules","used","number"] z47 z4c)
  (z6k:Dn K mg "without_company" kbs ["rules","order"] z1u z2j)
  (zb5:Dn K mg "_law_mixed" kch ["_law_cell_here","_law_k"] z5m z62)
  (zct:Dn K mg "_law_cell" kcI ["_law_script","_law_k"] z7a z6t)
  (zaw:Dn K mg "_law_alike" kcm ["_law_found","_law_due_here"] z5l z5t)
  (zbc:Dn K mg "_law_coins" kck ["_law_drawn","_law_great"] z60 z5o)
  (z93:Dn K mg "_law_parents" kb4 ["_law_cell_here"] z4q z4n)
  (zbt:Dn K mg "_law_marks" kci ["_law_cell_here","_law_kinds","_law_great"] z5z z63)
  (z90:Dn K mg "_law_voucher" kb3 ["_law_cell_here","_law_kinds","_law_great"] z4i z49)
  (zcj:Dn K mg "_law_made" kcH ["_law_told"] z7s z7b)
  (zah:Dn K mg "_law_basket" kb9 ["_law_cell_here","_law_kinds","_law_great"] z52 z4v)
  (z5b:Dn K mg "_law_basket_made" kbj ["_law_told"] z1r z1s)
  (zay:Dn K mg "_law_order" kbW ["_law_cell_here","_law_many"] z5s z5f)
  (zcx:Dn K mg "_law_word" kbu ["_law_till","_law_basket_here","_law_hand","_law_ahead","_law_voucher_here","_law_standing"] z7j z7q)
  (ze4:Dn K mg "_law_due" kc5 ["_law_till","_law_basket_here","_law_hand","_law_order_here"] z8x z8u)
  (zb6:Dn K mg "_law_asked" kcl ["_law_till","_law_basket_here","_law_hand","_law_order_here"] z5u z5y)
  (z9u:Dn K mg "_law_turned" kb8 ["_law_rules"] z4x z50)
  (zfy:UM K mainGlobals "law"=some (some (.ref z9y))) (zgz:K.lookup z9y=some ⟨zgt,zgg, .func (UI "law" "law" (kaE s_law) (kaD s_law) (kag s_law) .none zeu zev zet zes zcs zex),zgs⟩) (zgy:U2 K zcs "law"=true) (zgw:UJ K (.ref z9y)=true)
  (zft:UM K mainGlobals "Marks"=some (some (.ref zj)))
  (zfc:UC K zj (.type "object")=some true) (zf1:UC K zj (.ref zj)=some true) (zf2:U6 K (.ref zj)=some (.type "type"))
  (inX:JW K (.builtin "object.__class__") "__get__"=some (some (.builtin "getset_descriptor.__get__"))) (itX:NQ K (.builtin "object.__class__")=some true)
  (zf3:U5 K zj Str.empty=true) (zez:U8 K zj=true) (zff:Jf K zj=true) (zf6:Ux K (.ref zj) "__setattr__"=some (some (.builtin "object.__setattr__"))) (zey:Ja K zj=true) (zfd:UJ K (.ref zj)=true) (zf9:Ux K (.ref zj) "__class__"=some (some (.builtin "object.__class__")))
  (zas:Ux K (.ref zj) "kind"=some none)
  (za5:Ux K (.ref zj) "needs"=some none)
  (zb3:Ux K (.ref zj) "most"=some none)
  (z8z:Ux K (.ref zj) "member"=some none)
  (zb2:Ux K (.ref zj) "once"=some none)
  (zbr:Ux K (.ref zj) "lone"=some none)
  (zbo:Ux K (.ref zj) "__init__"=some (some (.ref zy))) (zbs:U9 K (.ref zy)=true) (zb7:K.lookup zy=some ⟨z9w,zaa, .func (UI "__init__" "Marks.__init__" (kaE ka0) (kaD ka0) (kag ka0) (.ref z38) z56 z4y z4w z5a z21 z4z),zac⟩) (zb9:U2 K z21 "Marks.__init__"=true) (zbq:UJ K (.ref zy)=true) (zq:K.lookup z38=some ⟨za7,zad, .seq #[.none, .int 0 z30, .none, .bool false, .bool false, .bool false] za8,za6⟩)
  (zem:UM K mainGlobals "Voucher"=some (some (.ref zf)))
  (zdv:UC K zf (.type "object")=some true) (zdz:UC K zf (.ref zf)=some true) (zdl:U6 K (.ref zf)=some (.type "type"))
  (ze6:U5 K zf Str.empty=true) (zdj:U8 K zf=true) (zde:Jf K zf=true) (zdf:Ux K (.ref zf) "__setattr__"=some (some (.builtin "object.__setattr__"))) (zdr:Ja K zf=true) (zdc:UJ K (.ref zf)=true) (zdh:Ux K (.ref zf) "__class__"=some (some (.builtin "object.__class__")))
  (z9j:Ux K (.ref zf) "__init__"=some (some (.ref zp))) (z9r:U9 K (.ref zp)=true) (z9s:K.lookup zp=some ⟨z82,z7y, .func (UI "__init__" "Voucher.__init__" (kaE kaR) (kaD kaR) (kag kaR) (.ref z1q) z3t z3j z3w z3p z1j z3q),z8l⟩) (z9b:U2 K z1j "Voucher.__init__"=true) (z9a:UJ K (.ref zp)=true) (z4g:K.lookup z1q=some ⟨z8q,z8j, .seq #[.none] z8b,z86⟩)
  (zfn:UM K mainGlobals "Off"=some (some (.ref zk)))
  (z7o:UC K zk (.type "object")=some true) (z7w:UC K zk (.ref zk)=some true) (z7i:U6 K (.ref zk)=some (.type "type"))
  (zgr:U5 K zk Str.empty=true) (zgi:U8 K zk=true) (zgu:Jf K zk=true) (zgq:Ux K (.ref zk) "__setattr__"=some (some (.builtin "object.__setattr__"))) (zge:Ja K zk=true) (zgk:UJ K (.ref zk)=true) (zga:Ux K (.ref zk) "__class__"=some (some (.builtin "object.__class__")))
  (zbb:Ux K (.ref zk) "amount"=some none)
  (zch:Ux K (.ref zk) "marks"=some none)
  (ze5:Ux K (.ref zk) "__init__"=some (some (.ref z1l))) (zdm:U9 K (.ref z1l)=true) (ze1:K.lookup z1l=some ⟨zcb,zc6, .func (UI "__init__" "Off.__init__" (kaE kbg) (kaD kbg) (kag kbg) (.ref z51) z73 z7k z71 z6z z3z z6r),zcn⟩) (zdu:U2 K z3z "Off.__init__"=true) (zdk:UJ K (.ref z1l)=true) (z8s:K.lookup z51=some ⟨zcg,zda, .seq #[.none] zcl,zd0⟩)
  (zdi:UM K mainGlobals "Share"=some (some (.ref ze)))
  (z3d:UC K ze (.type "object")=some true) (z3i:UC K ze (.ref ze)=some true) (z3s:U6 K (.ref ze)=some (.type "type"))
  (zfa:U5 K ze Str.empty=true) (zfg:U8 K ze=true) (zf0:Jf K ze=true) (zf7:Ux K (.ref ze) "__setattr__"=some (some (.builtin "object.__setattr__"))) (zf4:Ja K ze=true) (zfe:UJ K (.ref ze)=true) (zf5:Ux K (.ref ze) "__class__"=some (some (.builtin "object.__class__")))
  (zae:Ux K (.ref ze) "share"=some none)
  (z8k:Ux K (.ref ze) "by_line"=some none)
  (zam:Ux K (.ref ze) "marks"=some none)
  (zat:Ux K (.ref ze) "__init__"=some (some (.ref zx))) (zax:U9 K (.ref zx)=true) (zb0:K.lookup zx=some ⟨z9t,za3, .func (UI "__init__" "Share.__init__" (kaE kaZ) (kaD kaZ) (kag kaZ) (.ref z39) z4u z53 z59 z57 z1z z4s),za2⟩) (zb8:U2 K z1z "Share.__init__"=true) (zbh:UJ K (.ref zx)=true) (z3a:K.lookup z39=some ⟨zak,zao, .seq #[.bool false, .none] zab,z9x⟩)
  (z8r:UM K mainGlobals "Cheapest"=some (some (.ref za)))
  (z1e:UC K za (.type "object")=some true) (z1c:UC K za (.ref za)=some true) (z1h:U6 K (.ref za)=some (.type "type"))
  (zcd:U5 K za Str.empty=true) (zc3:U8 K za=true) (zd4:Jf K za=true) (zci:Ux K (.ref za) "__setattr__"=some (some (.builtin "object.__setattr__"))) (zbx:Ja K za=true) (zd6:UJ K (.ref za)=true) (zcu:Ux K (.ref za) "__class__"=some (some (.builtin "object.__class__")))
  (z7z:Ux K (.ref za) "many"=some none)
  (z7n:Ux K (.ref za) "marks"=some none)
  (z8n:Ux K (.ref za) "__init__"=some (some (.ref zs))) (z8o:U9 K (.ref zs)=true) (z88:K.lookup zs=some ⟨z72,z7e, .func (UI "__init__" "Cheapest.__init__" (kaE kaN) (kaD kaN) (kag kaN) (.ref z1k) z2n z34 z2t z37 z19 z2o),z7g⟩) (z8p:U2 K z19 "Cheapest.__init__"=true) (z8m:UJ K (.ref zs)=true) (z3u:K.lookup z1k=some ⟨z7x,z76, .seq #[.none] z79,z7d⟩)
  (zbu:UM K mainGlobals "Bundle"=some (some (.ref zc)))
  (z26:UC K zc (.type "object")=some true) (z1v:UC K zc (.ref zc)=some true) (z27:U6 K (.ref zc)=some (.type "type"))
  (zec:U5 K zc Str.empty=true) (ze8:U8 K zc=true) (zea:Jf K zc=true) (zeh:Ux K (.ref zc) "__setattr__"=some (some (.builtin "object.__setattr__"))) (zee:Ja K zc=true) (zeb:UJ K (.ref zc)=true) (zeq:Ux K (.ref zc) "__class__"=some (some (.builtin "object.__class__")))
  (zaf:Ux K (.ref zc) "many"=some none)
  (z91:Ux K (.ref zc) "price"=some none)
  (z99:Ux K (.ref zc) "marks"=some none)
  (zai:Ux K (.ref zc) "__init__"=some (some (.ref zv))) (za9:U9 K (.ref zv)=true) (za4:K.lookup zv=some ⟨z9q,z9n, .func (UI "__init__" "Bundle.__init__" (kaE kaT) (kaD kaT) (kag kaT) (.ref z2m) z4d z4a z46 z42 z1p z4b),z9i⟩) (z9v:U2 K z1p "Bundle.__init__"=true) (zal:UJ K (.ref zv)=true) (z54:K.lookup z2m=some ⟨z92,z9l, .seq #[.none] z9f,z94⟩)
  (z8v:UM K mainGlobals "Carriage"=some (some (.ref zb)))
  (z1d:UC K zb (.type "object")=some true) (zz:UC K zb (.ref zb)=some true) (z1b:U6 K (.ref zb)=some (.type "type"))
  (zc0:U5 K zb Str.empty=true) (zc4:U8 K zb=true) (zcp:Jf K zb=true) (zcc:Ux K (.ref zb) "__setattr__"=some (some (.builtin "object.__setattr__"))) (zby:Ja K zb=true) (zc8:UJ K (.ref zb)=true) (zc2:Ux K (.ref zb) "__class__"=some (some (.builtin "object.__class__")))
  (z7t:Ux K (.ref zb) "marks"=some none)
  (z81:Ux K (.ref zb) "__init__"=some (some (.ref zr))) (z8d:U9 K (.ref zr)=true) (z87:K.lookup zr=some ⟨z7l,z6s, .func (UI "__init__" "Carriage.__init__" (kaE kaO) (kaD kaO) (kag kaO) (.ref z1i) z33 z31 z2p z2x z1f z2y),z6p⟩) (z80:U2 K z1f "Carriage.__init__"=true) (z83:UJ K (.ref zr)=true) (z3n:K.lookup z1i=some ⟨z70,z7m, .seq #[.none] z7h,z6q⟩)
  (zgl:UM K mainGlobals "Line"=some (some (.ref zm)))
  (zfs:UC K zm (.type "object")=some true) (zfq:UC K zm (.ref zm)=some true) (zfl:U6 K (.ref zm)=some (.type "type"))
  (zg8:U5 K zm Str.empty=true) (zfh:U8 K zm=true) (zfx:Jf K zm=true) (zg4:Ux K (.ref zm) "__setattr__"=some (some (.builtin "object.__setattr__"))) (zfk:Ja K zm=true) (zfi:UJ K (.ref zm)=true) (zfv:Ux K (.ref zm) "__class__"=some (some (.builtin "object.__class__")))
  (zc1:Ux K (.ref zm) "kind"=some none)
  (zbp:Ux K (.ref zm) "price"=some none)
  (zcq:Ux K (.ref zm) "many"=some none)
  (z9p:Ux K (.ref zm) "special"=some none)
  (zc7:Ux K (.ref zm) "__init__"=some (some (.ref z1g))) (zd8:U9 K (.ref z1g)=true) (zcf:K.lookup z1g=some ⟨zaz,zbj, .func (UI "__init__" "Line.__init__" (kaE ka7) (kaD ka7) (kag ka7) (.ref z3y) z61 z5n z5j z5v z3c z5k),zbl⟩) (zcv:U2 K z3c "Line.__init__"=true) (zcw:UJ K (.ref z1g)=true) (z7v:K.lookup z3y=some ⟨zba,zbe, .seq #[.none] zb1,zbk⟩)
  (zfb:UM K mainGlobals "Basket"=some (some (.ref zi)))
  (zek:UC K zi (.type "object")=some true) (zej:UC K zi (.ref zi)=some true) (zef:U6 K (.ref zi)=some (.type "type"))
  (zen:U5 K zi Str.empty=true) (zed:U8 K zi=true) (zei:Jf K zi=true) (zeo:Ux K (.ref zi) "__setattr__"=some (some (.builtin "object.__setattr__"))) (ze9:Ja K zi=true) (zep:UJ K (.ref zi)=true) (zeg:Ux K (.ref zi) "__class__"=some (some (.builtin "object.__class__")))
  (z97:Ux K (.ref zi) "lines"=some none)
  (z66:Ux K (.ref zi) "carriage"=some none)
  (z8f:Ux K (.ref zi) "member"=some none)
  (za1:Ux K (.ref zi) "__init__"=some (some (.ref zw))) (zag:U9 K (.ref zw)=true) (zan:K.lookup zw=some ⟨z95,z8y, .func (UI "__init__" "Basket.__init__" (kaE kaU) (kaD kaU) (kag kaU) (.ref z2e) z43 z4e z4r z45 z1o z4j),z9c⟩) (za0:U2 K z1o "Basket.__init__"=true) (zaj:UJ K (.ref zw)=true) (z1x:K.lookup z2e=some ⟨z96,z9g, .seq #[.int 0 z24, .bool false] z98,z9m⟩)
  (zdo:UM K mainGlobals "Standing"=some (some (.ref zd)))
  (zck:UC K zd (.type "object")=some true) (zdb:UC K zd (.ref zd)=some true) (zca:U6 K (.ref zd)=some (.type "type"))
  (zc9:U5 K zd Str.empty=true) (zcm:U8 K zd=true) (zd9:Jf K zd=true) (zd5:Ux K (.ref zd) "__setattr__"=some (some (.builtin "object.__setattr__"))) (zcy:Ja K zd=true) (zd2:UJ K (.ref zd)=true) (zco:Ux K (.ref zd) "__class__"=some (some (.builtin "object.__class__")))
  (z6d:Ux K (.ref zd) "owners"=some none)
  (z67:Ux K (.ref zd) "prices"=some none)
  (z58:Ux K (.ref zd) "carriage"=some none)
  (z69:Ux K (.ref zd) "marked"=some none)
  (z89:MthT K zd "__init__" "Standing.__init__" kbO ["self","basket"] z3v z3h)
  (zgx:UM K mainGlobals "Way"=some (some (.ref zo)))
  (zg9:UC K zo (.type "object")=some true) (zgn:UC K zo (.ref zo)=some true) (zgv:U6 K (.ref zo)=some (.type "type"))
  (zgh:U5 K zo Str.empty=true) (zgj:U8 K zo=true) (zgo:Jf K zo=true) (zgm:Ux K (.ref zo) "__setattr__"=some (some (.builtin "object.__setattr__"))) (zgf:Ja K zo=true) (zgp:UJ K (.ref zo)=true) (zgb:Ux K (.ref zo) "__class__"=some (some (.builtin "object.__class__")))
  (zdd:Ux K (.ref zo) "till"=some none)
  (zav:Ux K (.ref zo) "basket"=some none)
  (zdq:Ux K (.ref zo) "hand"=some none)
  (zdw:Ux K (.ref zo) "used"=some none)
  (z9o:Ux K (.ref zo) "standing"=some none)
  (zds:MthT K zo "__init__" "Way.__init__" kc6 ["self","till","basket","hand"] z8w z8t)
  (z9k:MthT K zo "word_for" "Way.word_for" kb5 ["self","number"] z41 z48)
  (zbg:MthT K zo "behind" "Way.behind" kcn ["self","number"] z5i z5q)
  (z8a:MthT K zo "is_let_by" "Way.is_let_by" kbN ["self"] z3k z3l)
  (zgc:UM K mainGlobals "Till"=some (some (.ref zn)))
  (zfp:UC K zn (.type "object")=some true) (zfm:UC K zn (.ref zn)=some true) (zg5:U6 K (.ref zn)=some (.type "type"))
  (zg0:U5 K zn Str.empty=true) (zfr:U8 K zn=true) (zg1:Jf K zn=true) (zg3:Ux K (.ref zn) "__setattr__"=some (some (.builtin "object.__setattr__"))) (zg2:Ja K zn=true) (zfu:UJ K (.ref zn)=true) (zg7:Ux K (.ref zn) "__class__"=some (some (.builtin "object.__class__")))
  (z9e:Ux K (.ref zn) "parents"=some none)
  (z8c:Ux K (.ref zn) "vouchers"=some none)
  (zbd:Ux K (.ref zn) "rules"=some none)
  (zc5:Ux K (.ref zn) "back"=some none)
  (zbz:Ux K (.ref zn) "__init__"=some (some (.ref z1a))) (zcz:U9 K (.ref z1a)=true) (zd7:K.lookup z1a=some ⟨zb4,zar, .func (UI "__init__" "Till.__init__" (kaE ka6) (kaD ka6) (kag ka6) (.ref z40) z5w z5e z5r z5h z3b z5p),zbf⟩) (zd3:U2 K z3b "Till.__init__"=true) (zcr:UJ K (.ref z1a)=true) (z7p:K.lookup z40=some ⟨zau,zbn, .seq #[.str "again" z3m] zbi,zbm⟩)
  (z8i:PySem.W.readsIn K zf (.type "type")=true) (z8g:JW K (.ref zf) "__getattribute__"=some (some (.builtin "type.__getattribute__"))) (z8e:PySem.W.findCls K (.ref zf) (.type "type") "__init__"=some (.val (.ref zp)))
  (z4l:UC K zk (.ref zb)=some false)
  (z36:UC K ze (.ref zb)=some false)
  (z1n:UC K za (.ref zb)=some false)
  (z2l:UC K zc (.ref zb)=some false)
  (z6x:UC K ze (.ref zk)=some false)
  (z4o:UC K za (.ref zk)=some false)
  (z5x:UC K zc (.ref zk)=some false)
  (z4p:UC K zb (.ref zk)=some false)
  (z6u:UC K zk (.ref ze)=some false)
  (z2u:UC K za (.ref ze)=some false)
  (z4m:UC K zc (.ref ze)=some false)
  (z35:UC K zb (.ref ze)=some false)
  (z4k:UC K zk (.ref za)=some false)
  (z2q:UC K ze (.ref za)=some false)
  (z2d:UC K zc (.ref za)=some false)
  (z1m:UC K zb (.ref za)=some false)
  (z5g:UC K zk (.ref zc)=some false)
  (z4h:UC K ze (.ref zc)=some false)
  (z20:UC K za (.ref zc)=some false)
  (z2i:UC K zb (.ref zc)=some false)
  (z6m:zt=.ref zl)
  (z64:K.lookup zl=some ⟨z1t,z5c, .fields zg,z5d⟩)
  (z6e:z1t=.type "code")
  (z6o:zg[11]?=some (.ref zh))
  (z6b:zg.getD 11 .none=.ref zh)
  (z6g:zg.getD 18 .none=.str z25 z29)
  (z6a:zg.getD 7 .none=.int z28 z2g)
  (z6f:zg.getD 9 .none=.bool z1w)
  (z6c:zg.getD 10 .none=.int z2f z22)
  (z65:zl≠zh)
  (z6n:K.lookup zh=none)
  (z6h:zh∈ts)
  (z1:UM K mainGlobals "range"=some none)
  (z2:UM K mainGlobals "len"=some none)
  (z3:UM K mainGlobals "min"=some none)
  (z4:UM K mainGlobals "max"=some none)
  (z5:UM K mainGlobals "isinstance"=some none)
  (z6:UM K mainGlobals "bool"=some none)
  (z7:UM K mainGlobals "int"=some none)
  (z8:UM K mainGlobals "list"=some none)
  (z9:UM K mainGlobals "sum"=some none)
  (z10:UM K mainGlobals "enumerate"=some none)
  (z11:UM K mainGlobals "any"=some none)
  (z12:UM K mainGlobals "all"=some none)
  (z13:UM K mainGlobals "reversed"=some none)
  (z14:UM K mainGlobals "zip"=some none)
  (z15:UM K mainGlobals "abs"=some none)
  (z16:UM K mainGlobals "sorted"=some none)
  (z17:UM K mainGlobals "tuple"=some none)
  (z18:UM K mainGlobals "str"=some none)
  :∃(fd:FuncData) (tP c0:Addr),tP∈ts∧CodeK K c0 tP∧K.lookup tP=none∧(∀(s:Shared) (v:Value),BindsTo s fd ⟨[v],[]⟩ [("_law_script",v)])∧∀base:Heap,K.In base→base.Ns mainGlobals mg→BltM mg base→FnOk l.prog w K mg base CX0 10 fa fd ["_law_script"] (kfc K tP):=by
 have e:=hfa.symm.trans (UZ X G zfy)
 have hf:z9y=fa:=by
  injection e with e
  injection e with e
  exact e.symm
 subst hf
 have B:TxtB mg:=⟨U3 X G z1,U3 X G z2,U3 X G z3,U3 X G z4,U3 X G z5,U3 X G z6,U3 X G z7,U3 X G z8,U3 X G z9,U3 X G z10,U3 X G z11,U3 X G z12,U3 X G z13,U3 X G z14,U3 X G z15,U3 X G z16,U3 X G z17,U3 X G z18⟩
 have W:Wld K mg ⟨(zdn),(zdt),(zdp),(zdx),(z2w),(z2v),(ze0),(ze2),(zer),(zew),(z6w),(z7u),(zdg),(zdy),(z32),(z2z),(z2h),(z2a),(z55),(z4t),(z2r),(z2s),(zu),(UI "falling_groups" "falling_groups" (kaE kaF) (kaD kaF) (kag kaF) .none z2c z23 z1y z2k zt z2b),(z3g),(z3f),(z6y),(z6v),(z3o),(z3x),(zap),(zaq),(ze7),(ze3),(zbv),(zbw),(z3e),(z3r),(z44),(z4f),(z47),(z4c),(z1u),(z2j),(z5m),(z62),(z7a),(z6t),(z5l),(z5t),(z60),(z5o),(z4q),(z4n),(z5z),(z63),(z4i),(z49),(z7s),(z7b),(z52),(z4v),(z1r),(z1s),(z5s),(z5f),(z7j),(z7q),(z8x),(z8u),(z5u),(z5y),(z4x),(z50),(z9y),(UI "law" "law" (kaE s_law) (kaD s_law) (kag s_law) .none zeu zev zet zes zcs zex),(zj),(zy),(UI "__init__" "Marks.__init__" (kaE ka0) (kaD ka0) (kag ka0) (.ref z38) z56 z4y z4w z5a z21 z4z),(z30),(zf),(zp),(UI "__init__" "Voucher.__init__" (kaE kaR) (kaD kaR) (kag kaR) (.ref z1q) z3t z3j z3w z3p z1j z3q),(zk),(z1l),(UI "__init__" "Off.__init__" (kaE kbg) (kaD kbg) (kag kbg) (.ref z51) z73 z7k z71 z6z z3z z6r),(ze),(zx),(UI "__init__" "Share.__init__" (kaE kaZ) (kaD kaZ) (kag kaZ) (.ref z39) z4u z53 z59 z57 z1z z4s),(za),(zs),(UI "__init__" "Cheapest.__init__" (kaE kaN) (kaD kaN) (kag kaN) (.ref z1k) z2n z34 z2t z37 z19 z2o),(zc),(zv),(UI "__init__" "Bundle.__init__" (kaE kaT) (kaD kaT) (kag kaT) (.ref z2m) z4d z4a z46 z42 z1p z4b),(zb),(zr),(UI "__init__" "Carriage.__init__" (kaE kaO) (kaD kaO) (kag kaO) (.ref z1i) z33 z31 z2p z2x z1f z2y),(zm),(z1g),(UI "__init__" "Line.__init__" (kaE ka7) (kaD ka7) (kag ka7) (.ref z3y) z61 z5n z5j z5v z3c z5k),(zi),(zw),(UI "__init__" "Basket.__init__" (kaE kaU) (kaD kaU) (kag kaU) (.ref z2e) z43 z4e z4r z45 z1o z4j),(z24),(zd),(z3v),(z3h),(zo),(z8w),(z8t),(z41),(z48),(z5i),(z5q),(z3k),(z3l),(zn),(z1a),(UI "__init__" "Till.__init__" (kaE ka6) (kaD ka6) (kag ka6) (.ref z40) z5w z5e z5r z5h z3b z5p),(z3m),(zl),(zh)⟩:=⟨B,zfj,zg6,z7r,zfz,zgd,zd1,zfo,z74,z68,z9z,z78,⟨(kbp z77 z7f z7c),(Binds.all (nL3 fun _ _ _=>rfl)),UZ X G z75⟩,z84,zce,z8h,zel,zfw,zf8,z85,z9d,z9h,z6k,zb5,zct,zaw,zbc,z93,zbt,z90,zcj,zah,z5b,zay,zcx,ze4,zb6,z9u,⟨(kbp zgz zgy zgw),(Binds.all (nL1 fun _=>rfl)),UZ X G zfy⟩,⟨⟨zf3,zez,zff,zf6⟩,UZ X G zft,⟨zf9,inX,itX,zfc⟩,zf1,zf2,zey,zfd⟩,zas,za5,zb3,z8z,zb2,zbr,⟨zbo,zbs,(kbp zb7 zb9 zbq),(bd_mk (n:=7) rfl fun _ KX=>nL7 fun _ _ _ _ _ _ _=>BindsTo.of_defaults rfl (KX _ _ zq) rfl rfl rfl)⟩,(bd_mk (n:=6) rfl fun _ KX=>nL6 fun _ _ _ _ _ _=>BindsTo.of_defaults rfl (KX _ _ zq) rfl rfl rfl),(bd_mk (n:=5) rfl fun _ KX=>nL5 fun _ _ _ _ _=>BindsTo.of_defaults rfl (KX _ _ zq) rfl rfl rfl),(bd_mk (n:=4) rfl fun _ KX=>nL4 fun _ _ _ _=>BindsTo.of_defaults rfl (KX _ _ zq) rfl rfl rfl),(bd_mk (n:=3) rfl fun _ KX=>nL3 fun _ _ _=>BindsTo.of_defaults rfl (KX _ _ zq) rfl rfl rfl),(bd_mk (n:=2) rfl fun _ KX=>nL2 fun _ _=>BindsTo.of_defaults rfl (KX _ _ zq) rfl rfl rfl),(bd_mk (n:=1) rfl fun _ KX=>nL1 fun _=>BindsTo.of_defaults rfl (KX _ _ zq) rfl rfl rfl),⟨⟨ze6,zdj,zde,zdf⟩,UZ X G zem,⟨zdh,inX,itX,zdv⟩,zdz,zdl,zdr,zdc⟩,⟨z9j,z9r,(kbp z9s z9b z9a),(bd_mk (n:=2) rfl fun _ KX=>nL2 fun _ _=>BindsTo.of_defaults rfl (KX _ _ z4g) rfl rfl rfl)⟩,(bd_mk (n:=1) rfl fun _ KX=>nL1 fun _=>BindsTo.of_defaults rfl (KX _ _ z4g) rfl rfl rfl),UZ X G zfn,⟨⟨zgr,zgi,zgu,zgq⟩,UZ X G zfn,⟨zga,inX,itX,z7o⟩,z7w,z7i,zge,zgk⟩,zbb,zch,⟨ze5,zdm,(kbp ze1 zdu zdk),(bd_mk (n:=3) rfl fun _ KX=>nL3 fun _ _ _=>BindsTo.of_defaults rfl (KX _ _ z8s) rfl rfl rfl)⟩,(bd_mk (n:=2) rfl fun _ KX=>nL2 fun _ _=>BindsTo.of_defaults rfl (KX _ _ z8s) rfl rfl rfl),UZ X G zdi,⟨⟨zfa,zfg,zf0,zf7⟩,UZ X G zdi,⟨zf5,inX,itX,z3d⟩,z3i,z3s,zf4,zfe⟩,zae,z8k,zam,⟨zat,zax,(kbp zb0 zb8 zbh),(bd_mk (n:=4) rfl fun _ KX=>nL4 fun _ _ _ _=>BindsTo.of_defaults rfl (KX _ _ z3a) rfl rfl rfl)⟩,(bd_mk (n:=3) rfl fun _ KX=>nL3 fun _ _ _=>BindsTo.of_defaults rfl (KX _ _ z3a) rfl rfl rfl),(bd_mk (n:=2) rfl fun _ KX=>nL2 fun _ _=>BindsTo.of_defaults rfl (KX _ _ z3a) rfl rfl rfl),UZ X G z8r,⟨⟨zcd,zc3,zd4,zci⟩,UZ X G z8r,⟨zcu,inX,itX,z1e⟩,z1c,z1h,zbx,zd6⟩,z7z,z7n,⟨z8n,z8o,(kbp z88 z8p z8m),(bd_mk (n:=3) rfl fun _ KX=>nL3 fun _ _ _=>BindsTo.of_defaults rfl (KX _ _ z3u) rfl rfl rfl)⟩,(bd_mk (n:=2) rfl fun _ KX=>nL2 fun _ _=>BindsTo.of_defaults rfl (KX _ _ z3u) rfl rfl rfl),UZ X G zbu,⟨⟨zec,ze8,zea,zeh⟩,UZ X G zbu,⟨zeq,inX,itX,z26⟩,z1v,z27,zee,zeb⟩,zaf,z91,z99,⟨zai,za9,(kbp za4 z9v zal),(bd_mk (n:=4) rfl fun _ KX=>nL4 fun _ _ _ _=>BindsTo.of_defaults rfl (KX _ _ z54) rfl rfl rfl)⟩,(bd_mk (n:=3) rfl fun _ KX=>nL3 fun _ _ _=>BindsTo.of_defaults rfl (KX _ _ z54) rfl rfl rfl),UZ X G z8v,⟨⟨zc0,zc4,zcp,zcc⟩,UZ X G z8v,⟨zc2,inX,itX,z1d⟩,zz,z1b,zby,zc8⟩,z7t,⟨z81,z8d,(kbp z87 z80 z83),(bd_mk (n:=2) rfl fun _ KX=>nL2 fun _ _=>BindsTo.of_defaults rfl (KX _ _ z3n) rfl rfl rfl)⟩,(bd_mk (n:=1) rfl fun _ KX=>nL1 fun _=>BindsTo.of_defaults rfl (KX _ _ z3n) rfl rfl rfl),⟨⟨zg8,zfh,zfx,zg4⟩,UZ X G zgl,⟨zfv,inX,itX,zfs⟩,zfq,zfl,zfk,zfi⟩,zc1,zbp,zcq,z9p,⟨zc7,zd8,(kbp zcf zcv zcw),(bd_mk (n:=5) rfl fun _ KX=>nL5 fun _ _ _ _ _=>BindsTo.of_defaults rfl (KX _ _ z7v) rfl rfl rfl)⟩,(bd_mk (n:=4) rfl fun _ KX=>nL4 fun _ _ _ _=>BindsTo.of_defaults rfl (KX _ _ z7v) rfl rfl rfl),⟨⟨zen,zed,zei,zeo⟩,UZ X G zfb,⟨zeg,inX,itX,zek⟩,zej,zef,ze9,zep⟩,z97,z66,z8f,⟨za1,zag,(kbp zan za0 zaj),(bd_mk (n:=4) rfl fun _ KX=>nL4 fun _ _ _ _=>BindsTo.of_defaults rfl (KX _ _ z1x) rfl rfl rfl)⟩,(bd_mk (n:=3) rfl fun _ KX=>nL3 fun _ _ _=>BindsTo.of_defaults rfl (KX _ _ z1x) rfl rfl rfl),(bd_mk (n:=2) rfl fun _ KX=>nL2 fun _ _=>BindsTo.of_defaults rfl (KX _ _ z1x) rfl rfl rfl),⟨⟨zc9,zcm,zd9,zd5⟩,UZ X G zdo,⟨zco,inX,itX,zck⟩,zdb,zca,zcy,zd2⟩,z6d,z67,z58,z69,z89,⟨⟨zgh,zgj,zgo,zgm⟩,UZ X G zgx,⟨zgb,inX,itX,zg9⟩,zgn,zgv,zgf,zgp⟩,zdd,zav,zdq,zdw,z9o,zds,z9k,zbg,z8a,⟨⟨zg0,zfr,zg1,zg3⟩,UZ X G zgc,⟨zg7,inX,itX,zfp⟩,zfm,zg5,zg2,zfu⟩,z9e,z8c,zbd,zc5,⟨zbz,zcz,(kbp zd7 zd3 zcr),(bd_mk (n:=5) rfl fun _ KX=>nL5 fun _ _ _ _ _=>BindsTo.of_defaults rfl (KX _ _ z7p) rfl rfl rfl)⟩,(bd_mk (n:=4) rfl fun _ KX=>nL4 fun _ _ _ _=>BindsTo.of_defaults rfl (KX _ _ z7p) rfl rfl rfl),⟨z8i,z8g,z8e⟩,kaQ z4l z1d z1b (kbi z4l z7w),kaQ z36 z1d z1b (kbi z36 z3i),kaQ z1n z1d z1b (kbi z1n z1c),kaQ z2l z1d z1b (kbi z2l z1v),kaQ z6x z7o z7i (kbi z6x z3i),kaQ z4o z7o z7i (kbi z4o z1c),kaQ z5x z7o z7i (kbi z5x z1v),kaQ z4p z7o z7i (kbi z4p zz),kaQ z6u z3d z3s (kbi z6u z7w),kaQ z2u z3d z3s (kbi z2u z1c),kaQ z4m z3d z3s (kbi z4m z1v),kaQ z35 z3d z3s (kbi z35 zz),kaQ z4k z1e z1h (kbi z4k z7w),kaQ z2q z1e z1h (kbi z2q z3i),kaQ z2d z1e z1h (kbi z2d z1v),kaQ z1m z1e z1h (kbi z1m zz),kaQ z5g z26 z27 (kbi z5g z7w),kaQ z4h z26 z27 (kbi z4h z3i),kaQ z20 z26 z27 (kbi z20 z1c),kaQ z2i z26 z27 (kbi z2i zz),z6m,⟨_,zg,z25,z29,z28,z2g,z1w,z2f,z22,z64,z6e,rfl,z6o,z6b,z6g,z6a,z6f,z6c,z65⟩⟩
 exact⟨_,zh,zl,z6h,W.ck_falling_groups,z6n,fun s v=>.of_eq rfl,fun base _ _ hB=>klp ⟨W,hB⟩⟩
end Vs
def PySem.W.Fast.tw12129854952994273152:Nat:=0
def PySem.W.Fast.tw12204046192260556065:Nat:=0
def PySem.W.Fast.tw10177602491280731457:Nat:=0
def PySem.W.Fast.tw8158178219398337859:Nat:=0
def PySem.W.Fast.tw8487226253473501635:Nat:=0
def PySem.W.Fast.tw18229332649491241667:Nat:=0
def PySem.W.Fast.tw9227695946244318276:Nat:=0
def PySem.W.Fast.tw1756007303507140708:Nat:=0
def PySem.W.Fast.tw11396012150362684454:Nat:=0
def PySem.W.Fast.tw17013757486511514728:Nat:=0
def PySem.W.Fast.tw9566090295368339816:Nat:=0
def PySem.W.Fast.tw7147682168824362250:Nat:=0
def PySem.W.Fast.tw2963511660238415274:Nat:=0
def PySem.W.Fast.tw2144615561152760716:Nat:=0
def PySem.W.Fast.tw12973761937779100749:Nat:=0
def PySem.W.Fast.tw12609630877927019853:Nat:=0
def PySem.W.Fast.tw15818885072015809261:Nat:=0
def PySem.W.Fast.tw16939658586065162894:Nat:=0
def PySem.W.Fast.tw4900355412276277423:Nat:=0
def PySem.W.Fast.tw1425840016916950735:Nat:=0
def PySem.W.Fast.tw10558589621029586512:Nat:=0
def PySem.W.Fast.tw11603166778921290352:Nat:=0
def PySem.W.Fast.tw6388244137810922705:Nat:=0
def PySem.W.Fast.tw2640887145998498449:Nat:=0
def PySem.W.Fast.tw5712474302833142642:Nat:=0
def PySem.W.Fast.tw8050393831190875315:Nat:=0
def PySem.W.Fast.tw3494119672162426039:Nat:=0
def PySem.W.Fast.tw14747169000150193431:Nat:=0
def PySem.W.Fast.tw17199956326934525241:Nat:=0
def PySem.W.Fast.tw3294134150430210651:Nat:=0
def PySem.W.Fast.tw4809550143637847835:Nat:=0
def PySem.W.Fast.tw2344687048518881628:Nat:=0
def PySem.W.Fast.tw18255372532825146780:Nat:=0
def PySem.W.Fast.tw11962271590645679294:Nat:=0
def PySem.W.Fast.tw1086434700264370693:Nat:=0
def PySem.W.Fast.tw15017501024347900732:Nat:=0
def PySem.W.Fast.tw14128728081305847101:Nat:=0
def PySem.W.Fast.tw9114235111466053439:Nat:=0
def PySem.W.Fast.tw15355167426883362870:Nat:=0
def PySem.W.Fast.tw2433846180975115163:Nat:=0
def PySem.W.Fast.tw6424797744966621927:Nat:=0
def PySem.W.Fast.tw5918025301295606455:Nat:=0
def PySem.W.Fast.tw12783458035368205138:Nat:=0
def PySem.W.Fast.tw7680991170296258689:Nat:=0
def PySem.W.Fast.tw6699234148656171532:Nat:=0
def PySem.W.Fast.tw7287357028499382103:Nat:=0
def PySem.W.Fast.tw10821872580135227652:Nat:=0
def PySem.W.Fast.tw13809725506176631894:Nat:=0
def PySem.W.Fast.tw10787715731075817947:Nat:=0
def PySem.W.Fast.tw14397487913214039162:Nat:=0
def PySem.W.Fast.tw12559588149787153537:Nat:=0
def PySem.W.Fast.tw9365785865748048033:Nat:=0
def PySem.W.Fast.tw7455196550588394568:Nat:=0
def PySem.W.Fast.tw17453498680781758962:Nat:=0
def PySem.W.Fast.tw503765506296099948:Nat:=0
def PySem.W.Fast.tw6410524082064103241:Nat:=0
def PySem.W.Fast.tw16175831611546595427:Nat:=0
def PySem.W.Fast.tw3328501212544220069:Nat:=0
def PySem.W.Fast.tw15912571387565458485:Nat:=0
def PySem.W.Fast.tw5208936191921056108:Nat:=0
def PySem.W.Fast.tw8122570412261640870:Nat:=0
def PySem.W.Fast.tw3931960128157316522:Nat:=0
def PySem.W.Fast.tw7805467999171936717:Nat:=0
def PySem.W.Fast.tw5445552081159549180:Nat:=0
def PySem.W.Fast.tw1503528910787209971:Nat:=0
def PySem.W.Fast.tw14600573127190346563:Nat:=0
def PySem.W.Fast.tw11581811725018647798:Nat:=0
def PySem.W.Fast.tw7340474794276202831:Nat:=0
def PySem.W.Fast.tw12902550552816970855:Nat:=0
def PySem.W.Fast.tw8831732130387731138:Nat:=0
def PySem.W.Fast.tw16751631996872785472:Nat:=0
open PySem PySem.W PyProof.Rows
set_option maxRecDepth 100000 in
set_option maxHeartbeats 0 in
theorem PySem.Challenge.cw_voucherstack_k20_never_and_ahead_holds : PySem.Challenge.rw_voucherstack_k20_never_and_ahead.Holds := by
 w_on;o_law;k_head;(case hw=>w_witness2)
 k_fill
 refine L2.walkT_of (l:=PySem.Challenge.rw_voucherstack_k20_never_and_ahead) (k:=10) (x:="_law_script") rfl rfl ⟨rfl,by decide,by decide⟩ (fun w h Y=>PySem.W.km_in_of Y) (fun w h Y=>PySem.W.km_tabs_of Y) ?F
 case F=>
  intro w mg fa h KX G hmg
  refine' Vs.all_mk KX G hmg ?Ur ?Us ?VQ ?Uo ?Ut ?Ug ?Uq ?VP ?VO ?V4 ?VR ?afalling_groups ?lfalling_groups ?cfalling_groups ?kfalling_groups ?VV ?Ue ?VW ?Uk ?Um ?Ul ?VS ?VY ?VX ?VN ?Ua ?Uc ?V5 ?V8 ?VZ ?Ub ?V1 ?Ud ?V3 ?VM ?V7 ?Uh ?Ui ?V6 ?V2 ?alaw ?llaw ?claw ?klaw ?aMarks ?imMarks ?isMarks ?iyMarks ?inX ?itX ?pgMarks ?hdMarks ?poMarks ?saMarks ?mkMarks ?kcMarks ?iaMarks ?nMarks_kind ?nMarks_needs ?nMarks_most ?nMarks_member ?nMarks_once ?nMarks_lone ?hMarks_init ?iMarks_init ?lMarks_init ?cMarks_init ?kMarks_init ?tMarks_init ?aVoucher ?imVoucher ?isVoucher ?iyVoucher ?pgVoucher ?hdVoucher ?poVoucher ?saVoucher ?mkVoucher ?kcVoucher ?iaVoucher ?hVoucher_init ?iVoucher_init ?lVoucher_init ?cVoucher_init ?kVoucher_init ?tVoucher_init ?aOff ?imOff ?isOff ?iyOff ?pgOff ?hdOff ?poOff ?saOff ?mkOff ?kcOff ?iaOff ?nOff_amount ?nOff_marks ?hOff_init ?iOff_init ?lOff_init ?cOff_init ?kOff_init ?tOff_init ?aShare ?imShare ?isShare ?iyShare ?pgShare ?hdShare ?poShare ?saShare ?mkShare ?kcShare ?iaShare ?nShare_share ?nShare_by_line ?nShare_marks ?hShare_init ?iShare_init ?lShare_init ?cShare_init ?kShare_init ?tShare_init ?aCheapest ?imCheapest ?isCheapest ?iyCheapest ?pgCheapest ?hdCheapest ?poCheapest ?saCheapest ?mkCheapest ?kcCheapest ?iaCheapest ?nCheapest_many ?nCheapest_marks ?hCheapest_init ?iCheapest_init ?lCheapest_init ?cCheapest_init ?kCheapest_init ?tCheapest_init ?aBundle ?imBundle ?isBundle ?iyBundle ?pgBundle ?hdBundle ?poBundle ?saBundle ?mkBundle ?kcBundle ?iaBundle ?nBundle_many ?nBundle_price ?nBundle_marks ?hBundle_init ?iBundle_init ?lBundle_init ?cBundle_init ?kBundle_init ?tBundle_init ?aCarriage ?imCarriage ?isCarriage ?iyCarriage ?pgCarriage ?hdCarriage ?poCarriage ?saCarriage ?mkCarriage ?kcCarriage ?iaCarriage ?nCarriage_marks ?hCarriage_init ?iCarriage_init ?lCarriage_init ?cCarriage_init ?kCarriage_init ?tCarriage_init ?aLine ?imLine ?isLine ?iyLine ?pgLine ?hdLine ?poLine ?saLine ?mkLine ?kcLine ?iaLine ?nLine_kind ?nLine_price ?nLine_many ?nLine_special ?hLine_init ?iLine_init ?lLine_init ?cLine_init ?kLine_init ?tLine_init ?aBasket ?imBasket ?isBasket ?iyBasket ?pgBasket ?hdBasket ?poBasket ?saBasket ?mkBasket ?kcBasket ?iaBasket ?nBasket_lines ?nBasket_carriage ?nBasket_member ?hBasket_init ?iBasket_init ?lBasket_init ?cBasket_init ?kBasket_init ?tBasket_init ?aStanding ?imStanding ?isStanding ?iyStanding ?pgStanding ?hdStanding ?poStanding ?saStanding ?mkStanding ?kcStanding ?iaStanding ?nStanding_owners ?nStanding_prices ?nStanding_carriage ?nStanding_marked ?VT ?aWay ?imWay ?isWay ?iyWay ?pgWay ?hdWay ?poWay ?saWay ?mkWay ?kcWay ?iaWay ?nWay_till ?nWay_basket ?nWay_hand ?nWay_used ?nWay_standing ?Uj ?V0 ?V9 ?VU ?aTill ?imTill ?isTill ?iyTill ?pgTill ?hdTill ?poTill ?saTill ?mkTill ?kcTill ?iaTill ?nTill_parents ?nTill_vouchers ?nTill_rules ?nTill_back ?hTill_init ?iTill_init ?lTill_init ?cTill_init ?kTill_init ?tTill_init ?rdVoucher_init ?gaVoucher_init ?fcVoucher_init ?qOff_Carriage ?qShare_Carriage ?qCheapest_Carriage ?qBundle_Carriage ?qShare_Off ?qCheapest_Off ?qBundle_Off ?qCarriage_Off ?qOff_Share ?qCheapest_Share ?qBundle_Share ?qCarriage_Share ?qOff_Cheapest ?qShare_Cheapest ?qBundle_Cheapest ?qCarriage_Cheapest ?qOff_Bundle ?qShare_Bundle ?qCheapest_Bundle ?qCarriage_Bundle ?qafalling_groups ?qbfalling_groups ?qcfalling_groups ?qdfalling_groups ?qefalling_groups ?qffalling_groups ?qgfalling_groups ?qhfalling_groups ?qifalling_groups ?qjfalling_groups ?qkfalling_groups ?qlfalling_groups ?z1 ?z2 ?z3 ?z4 ?z5 ?z6 ?z7 ?z8 ?z9 ?z10 ?z11 ?z12 ?z13 ?z14 ?z15 ?z16 ?z17 ?z18
  any_goals k_is
  (case Ur=>refine' Vs.dn_mk KX G ?_ ?_ ?_ ?_ (fun _ _ _ _ _ _=>Vs.nL2 fun _ _=>rfl);any_goals k_is)
  (case Us=>refine' Vs.dn_mk KX G ?_ ?_ ?_ ?_ (fun _ _ _ _ _ _=>Vs.nL3 fun _ _ _=>rfl);any_goals k_is)
  (case VQ=>refine' Vs.dn_mk KX G ?_ ?_ ?_ ?_ (fun _ _ _ _ _ _=>Vs.nL2 fun _ _=>rfl);any_goals k_is)
  (case Uo=>refine' Vs.dn_mk KX G ?_ ?_ ?_ ?_ (fun _ _ _ _ _ _=>Vs.nL4 fun _ _ _ _=>rfl);any_goals k_is)
  (case Ut=>refine' Vs.dn_mk KX G ?_ ?_ ?_ ?_ (fun _ _ _ _ _ _=>Vs.nL4 fun _ _ _ _=>rfl);any_goals k_is)
  (case Ug=>refine' Vs.dn_mk KX G ?_ ?_ ?_ ?_ (fun _ _ _ _ _ _=>Vs.nL4 fun _ _ _ _=>rfl);any_goals k_is)
  (case Uq=>refine' Vs.dn_mk KX G ?_ ?_ ?_ ?_ (fun _ _ _ _ _ _=>Vs.nL4 fun _ _ _ _=>rfl);any_goals k_is)
  (case VP=>refine' Vs.dn_mk KX G ?_ ?_ ?_ ?_ (fun _ _ _ _ _ _=>Vs.nL4 fun _ _ _ _=>rfl);any_goals k_is)
  (case VO=>refine' Vs.dn_mk KX G ?_ ?_ ?_ ?_ (fun _ _ _ _ _ _=>Vs.nL2 fun _ _=>rfl);any_goals k_is)
  (case V4=>refine' Vs.dn_mk KX G ?_ ?_ ?_ ?_ (fun _ _ _ _ _ _=>Vs.nL3 fun _ _ _=>rfl);any_goals k_is)
  (case VR=>refine' Vs.dn_mk KX G ?_ ?_ ?_ ?_ (fun _ _ _ _ _ _=>Vs.nL2 fun _ _=>rfl);any_goals k_is)
  (case VV=>refine' Vs.dn_mk KX G ?_ ?_ ?_ ?_ (fun _ _ _ _ _ _=>Vs.nL3 fun _ _ _=>rfl);any_goals k_is)
  (case Ue=>refine' Vs.dn_mk KX G ?_ ?_ ?_ ?_ (fun _ _ _ _ _ _=>Vs.nL2 fun _ _=>rfl);any_goals k_is)
  (case VW=>refine' Vs.dn_mk KX G ?_ ?_ ?_ ?_ (fun _ _ _ _ _ _=>Vs.nL2 fun _ _=>rfl);any_goals k_is)
  (case Uk=>refine' Vs.dn_mk KX G ?_ ?_ ?_ ?_ (fun _ _ _ _ _ _=>Vs.nL2 fun _ _=>rfl);any_goals k_is)
  (case Um=>refine' Vs.dn_mk KX G ?_ ?_ ?_ ?_ (fun _ _ _ _ _ _=>Vs.nL4 fun _ _ _ _=>rfl);any_goals k_is)
  (case Ul=>refine' Vs.dn_mk KX G ?_ ?_ ?_ ?_ (fun _ _ _ _ _ _=>Vs.nL4 fun _ _ _ _=>rfl);any_goals k_is)
  (case VS=>refine' Vs.dn_mk KX G ?_ ?_ ?_ ?_ (fun _ _ _ _ _ _=>Vs.nL4 fun _ _ _ _=>rfl);any_goals k_is)
  (case VY=>refine' Vs.dn_mk KX G ?_ ?_ ?_ ?_ (fun _ _ _ _ _ _=>Vs.nL3 fun _ _ _=>rfl);any_goals k_is)
  (case VX=>refine' Vs.dn_mk KX G ?_ ?_ ?_ ?_ (fun _ _ _ _ _ _=>Vs.nL3 fun _ _ _=>rfl);any_goals k_is)
  (case VN=>refine' Vs.dn_mk KX G ?_ ?_ ?_ ?_ (fun _ _ _ _ _ _=>Vs.nL2 fun _ _=>rfl);any_goals k_is)
  (case Ua=>refine' Vs.dn_mk KX G ?_ ?_ ?_ ?_ (fun _ _ _ _ _ _=>Vs.nL2 fun _ _=>rfl);any_goals k_is)
  (case Uc=>refine' Vs.dn_mk KX G ?_ ?_ ?_ ?_ (fun _ _ _ _ _ _=>Vs.nL2 fun _ _=>rfl);any_goals k_is)
  (case V5=>refine' Vs.dn_mk KX G ?_ ?_ ?_ ?_ (fun _ _ _ _ _ _=>Vs.nL2 fun _ _=>rfl);any_goals k_is)
  (case V8=>refine' Vs.dn_mk KX G ?_ ?_ ?_ ?_ (fun _ _ _ _ _ _=>Vs.nL2 fun _ _=>rfl);any_goals k_is)
  (case VZ=>refine' Vs.dn_mk KX G ?_ ?_ ?_ ?_ (fun _ _ _ _ _ _=>Vs.nL1 fun _=>rfl);any_goals k_is)
  (case Ub=>refine' Vs.dn_mk KX G ?_ ?_ ?_ ?_ (fun _ _ _ _ _ _=>Vs.nL3 fun _ _ _=>rfl);any_goals k_is)
  (case V1=>refine' Vs.dn_mk KX G ?_ ?_ ?_ ?_ (fun _ _ _ _ _ _=>Vs.nL3 fun _ _ _=>rfl);any_goals k_is)
  (case Ud=>refine' Vs.dn_mk KX G ?_ ?_ ?_ ?_ (fun _ _ _ _ _ _=>Vs.nL1 fun _=>rfl);any_goals k_is)
  (case V3=>refine' Vs.dn_mk KX G ?_ ?_ ?_ ?_ (fun _ _ _ _ _ _=>Vs.nL3 fun _ _ _=>rfl);any_goals k_is)
  (case VM=>refine' Vs.dn_mk KX G ?_ ?_ ?_ ?_ (fun _ _ _ _ _ _=>Vs.nL1 fun _=>rfl);any_goals k_is)
  (case V7=>refine' Vs.dn_mk KX G ?_ ?_ ?_ ?_ (fun _ _ _ _ _ _=>Vs.nL2 fun _ _=>rfl);any_goals k_is)
  (case Uh=>refine' Vs.dn_mk KX G ?_ ?_ ?_ ?_ (fun _ _ _ _ _ _=>Vs.nL6 fun _ _ _ _ _ _=>rfl);any_goals k_is)
  (case Ui=>refine' Vs.dn_mk KX G ?_ ?_ ?_ ?_ (fun _ _ _ _ _ _=>Vs.nL4 fun _ _ _ _=>rfl);any_goals k_is)
  (case V6=>refine' Vs.dn_mk KX G ?_ ?_ ?_ ?_ (fun _ _ _ _ _ _=>Vs.nL4 fun _ _ _ _=>rfl);any_goals k_is)
  (case V2=>refine' Vs.dn_mk KX G ?_ ?_ ?_ ?_ (fun _ _ _ _ _ _=>Vs.nL1 fun _=>rfl);any_goals k_is)
  (case VT=>refine' Vs.mt_mk ?_ ?_ ?_ ?_ ?_ (fun _ _ _ _ _ _=>Vs.nL2 fun _ _=>rfl);any_goals k_is)
  (case Uj=>refine' Vs.mt_mk ?_ ?_ ?_ ?_ ?_ (fun _ _ _ _ _ _=>Vs.nL4 fun _ _ _ _=>rfl);any_goals k_is)
  (case V0=>refine' Vs.mt_mk ?_ ?_ ?_ ?_ ?_ (fun _ _ _ _ _ _=>Vs.nL2 fun _ _=>rfl);any_goals k_is)
  (case V9=>refine' Vs.mt_mk ?_ ?_ ?_ ?_ ?_ (fun _ _ _ _ _ _=>Vs.nL2 fun _ _=>rfl);any_goals k_is)
  (case VU=>refine' Vs.mt_mk ?_ ?_ ?_ ?_ ?_ (fun _ _ _ _ _ _=>Vs.nL1 fun _=>rfl);any_goals k_is)
  (try case qafalling_groups=>first|rfl|decide|k_is)
  (try case qbfalling_groups=>k_is)
  (try case qcfalling_groups=>first|rfl|decide|k_is)
  (try case qdfalling_groups=>first|rfl|decide|k_is)
  (try case qefalling_groups=>first|rfl|decide|k_is)
  (try case qffalling_groups=>first|rfl|decide|k_is)
  (try case qgfalling_groups=>first|rfl|decide|k_is)
  (try case qhfalling_groups=>first|rfl|decide|k_is)
  (try case qifalling_groups=>first|rfl|decide|k_is)
  (try case qjfalling_groups=>first|rfl|decide|k_is)
  (try case qkfalling_groups=>first|k_is|rfl|decide|decide +kernel)
  (try case qlfalling_groups=>decide)
