import PyProof.Rows.All
import Wide.All
import OpenK.AllK
import Wide.FinOn
import Lean
import PyProof.EqAt
import PyProof.EqKinds
import PyProof.TupleCall
import PySem.Challenge.RW_voucherstack_k18_tills_kept
set_option Elab.async false
set_option linter.all false
set_option maxRecDepth 100000
open Bool renaming false_ne_true → X4, false_eq_true → Yt, eq_iff_iff → YN
open List renaming length_map → XU, mem_cons → X1, size_toArray → X5, not_mem_nil → X8, mem_append_right → X9, mem_cons_of_mem → Yb, replicate → Yh, mem_cons_self → Yi, lookup → Yk, range → Yn, nodup_cons → Yr, getElem?_map → Ys, getElem?_eq_some_iff → Yv, lookup_cons → Yw, map_append → Yx, length_append → Yz, mem_append → YB, length_cons → YC, map_cons → YD, getElem?_append_right → YE, mem_of_getElem? → YF, length_take → YH, getElem?_append_left → YI, nodup_nil → YK, reverse_cons → YQ, length_singleton → YR, pairwise_cons → YS, Perm → YT, filterMap_cons → YV, of_mem_zip → Y0, forIn_nil → Y2, forIn_cons → Y3, zipIdx_cons → Y5, flatten_cons → Y7, take_length → Y8, getElem?_set_self → Y9, getElem?_replicate → Zb, length_replicate → Zc
open Nat renaming le_refl → XR, le_trans → XZ, ne_of_lt → X2, lt_of_lt_of_le → X3, lt_irrefl → Ym, le_of_lt → Yo, ne_of_gt → Yp, zero_le → Yy, lt_of_le_of_lt → YJ, lt_succ_self → YO
open PySem.F renaming plainAttrs_list → YA, slot_list_append → YL, type_list_append → YM
open PySem.W renaming Frag → XQ, findIn → XS, mroIn → XT, kitOne → XW, fnOf → XX, nsIn → XY, keepIn → X0, mg_none_of → X6, mg_of → X7, codeIn → Ya, typeIn → Yc, plainGet → Yd, hasDictIn → Ye, makesIn → Yf, kia_one → Yg, plainOver → Yj, isFn → Yl, emptyDict → Yq, instObj → Yu, specialIn → YG, methodObj → YU, lookIn → YW, takerIn → YX, takesIn → YY, callWith_K → YZ, OpenLaw → Y1, cellsFrom_some → Za
namespace L2
open PySem PySem.Spec PyProof.Rows
noncomputable abbrev Key:=Sum Int Str
noncomputable def keyIs:Key→Value→Bool
 | .inl k,v=>Value.isInt k v
 | .inr x,v=>Value.isStrOf x v
noncomputable def keyH(w:World):Key→Int
 | .inl k=>hashInt k
 | .inr x=>hashStr w x
theorem kaL:∀{k:Key} {v:Value},keyIs k v=true→(∃i t,k=Sum.inl i∧v=Value.int i t)∨(∃x t,k=Sum.inr x∧v=Value.str x t)
 | .inl i,v,h=>by
  obtain⟨t,e⟩:=Value.isInt_shape (k:=i) (v:=v) h
  exact .inl ⟨i,t,rfl,e⟩
 | .inr x,v,h=>by
  obtain⟨t,e⟩:=Value.isStrOf_shape (x:=x) (v:=v) h
  exact .inr ⟨x,t,rfl,e⟩
theorem kfG(a b:Int):decide ((Sum.inl a:Key)=Sum.inl b)=(a==b):=by
 by_cases e:a=b
 ·subst e;simp
 ·have h:¬(Sum.inl a:Key)=Sum.inl b:=fun q=>e (Sum.inl.inj q)
  rw[decide_eq_false h]
  exact(beq_eq_false_iff_ne.mpr e).symm
theorem kfD(a b:Str):decide ((Sum.inr a:Key)=Sum.inr b)=decide (a=b):=by
 by_cases e:a=b
 ·subst e;simp
 ·have h:¬(Sum.inr a:Key)=Sum.inr b:=fun q=>e (Sum.inr.inj q)
  rw[decide_eq_false h,decide_eq_false e]
theorem kfF(a:Int)(b:Str):decide ((Sum.inl a:Key)=Sum.inr b)=false:=decide_eq_false (fun q=>nomatch q)
theorem kfE(a:Str)(b:Int):decide ((Sum.inr a:Key)=Sum.inl b)=false:=decide_eq_false (fun q=>nomatch q)
noncomputable def kd7(prog:Program)(w:World):PySem.KeyKind prog w Key where
 is:=keyIs
 hash:=keyH w
 inj:=fun v a b ha hb=>by
  rcases kaL ha with⟨i,t,rfl,rfl⟩|⟨x,t,rfl,rfl⟩
  ·rcases kaL hb with⟨j,u,rfl,e⟩|⟨y,u,rfl,e⟩
   ·injection e with e1 _;rw[e1]
   ·exact nomatch e
  ·rcases kaL hb with⟨j,u,rfl,e⟩|⟨y,u,rfl,e⟩
   ·exact nomatch e
   ·injection e with e1 _;rw[e1]
 byValue:=fun k v h=>by
  rcases kaL h with⟨i,t,rfl,rfl⟩|⟨x,t,rfl,rfl⟩ <;> rfl
 pyHash:=fun hv h=>by
  rcases kaL hv with⟨i,t,rfl,rfl⟩|⟨x,t,rfl,rfl⟩
  ·exact wpAny_pyHash_int h
  ·exact wpAny_pyHash_str h
 eqBool:=fun hu hv h=>by
  rcases kaL hu with⟨i,t,rfl,rfl⟩|⟨x,t,rfl,rfl⟩
  ·rcases kaL hv with⟨j,u,rfl,rfl⟩|⟨y,u,rfl,rfl⟩
   ·rw[kfG] at h;exact wpAny_eqBool_int h
   ·rw[kfF] at h;exact SeqAt.EqAt.int_str i t y u _ _ _ _ h
  ·rcases kaL hv with⟨j,u,rfl,rfl⟩|⟨y,u,rfl,rfl⟩
   ·rw[kfE] at h;exact SeqAt.EqAt.str_int x t j u _ _ _ _ h
   ·rw[kfD] at h;exact wpAny_eqBool_str h
 «strs» :=fun k x t v h=>by
  rcases kaL h with⟨i,u,rfl,e⟩|⟨y,u,rfl,e⟩
  ·exact nomatch e
  ·injection e with e1 _
   subst e1
   cases v <;> rfl
end L2
namespace L2
open PySem PySem.Spec PyProof.Rows
inductive V where
 |non|bl (b:Bool)|int (i:Int)|str (x:Str)|byt (b:Array UInt8)|flt (b:UInt64)|ref (a:Addr)|ty (n:String)
 deriving DecidableEq
noncomputable def RelV:V→Value→Prop
 | .non,u=>u=Value.none
 | .bl b,u=>u=Value.bool b
 | .int i,u=>∃t,u=Value.int i t
 | .str x,u=>∃t,u=Value.str x t
 | .byt b,u=>∃t,u=Value.bytes b t
 | .flt b,u=>∃t,u=Value.float b t
 | .ref a,u=>u=Value.ref a
 | .ty n,u=>u=Value.type n
noncomputable abbrev Vals:List V→List Value→Prop:=Paired RelV
theorem Vals.length{xs:List V}{us:List Value}(r:Vals xs us):xs.length=us.length:=Paired.length r
theorem Vals.get:∀{xs:List V} {us:List Value} {i:Nat} {x:V},Vals xs us→xs[i]?=some x→∃u,us[i]?=some u∧RelV x u
 |_,_,_,_, .nil,e=>by simp at e
 |_,_,0,_, .cons r _,e=>by simp at e;subst e;exact⟨_,rfl,r⟩
 |_,_,i+1,x, .cons _ t,e=>by
  obtain⟨u,h1,h2⟩:=Vals.get (i:=i) (x:=x) t (by simpa using e)
  exact⟨u,by simpa using h1,h2⟩
theorem Vals.set{x:V}{u:Value}(r:RelV x u):∀{xs:List V} {us:List Value} (i:Nat),Vals xs us→Vals (xs.set i x) (us.set i u)
 |_,_,_, .nil=>.nil
 |_,_,0, .cons _ t=>.cons r t
 |_,_,i+1, .cons q t=>.cons q (Vals.set r i t)
theorem Vals.append:∀{xs ys:List V} {us ws:List Value},Vals xs us→Vals ys ws→Vals (xs++ys) (us++ws)
 |_,_,_,_, .nil,s=>s
 |_,_,_,_, .cons r t,s=>.cons r (Vals.append t s)
theorem Vals.take:∀{xs:List V} {us:List Value} (n:Nat),Vals xs us→Vals (xs.take n) (us.take n)
 |_,_,0,_=>.nil
 |_,_,_+1, .nil=>.nil
 |_,_,n+1, .cons r t=>.cons r (Vals.take n t)
theorem Vals.drop:∀{xs:List V} {us:List Value} (n:Nat),Vals xs us→Vals (xs.drop n) (us.drop n)
 |_,_,0,r=>r
 |_,_,_+1, .nil=>.nil
 |_,_,n+1, .cons _ t=>Vals.drop n t
noncomputable def RelO:Option V→Option Value→Prop
 |some v,some u=>RelV v u
 |none,none=>True
 |_,_=>False
noncomputable def KV{κ:Type}:List (κ×V)→List (κ×Value)→Prop:=Paired fun(p: κ×V) (q: κ×Value)=>p.1=q.1∧RelV p.2 q.2
noncomputable def kV:Key→V
 | .inl i=>.int i
 | .inr x=>.str x
inductive HO where
 |lst (xs:List V)
 |tup (xs:List V)
 |dK (kvs:List (Key×V))|dT (kvs:List (List Key×V))
 |set (S:Int→Bool) (n:Nat)
 |ins (C dx:Addr) (fs:List (Str×V))
 |own (x:Addr)
 |xd (fs:List (Str×V))
 |met (f x:Addr)
 |rng (lo hi:Int)
 |frz (o:Obj) (u:HO)
 |tbl (ps:Array Value)
 |ext (φ:Heap→Prop)
noncomputable abbrev Hp:=Addr→Option HO
noncomputable def upd(H:Hp)(a:Addr)(o:HO):Hp:=fun b=>if b=a then some o else H b
theorem kae{H:Hp}{a:Addr}{o:HO}:upd H a o a=some o:=by unfold upd;rw[if_pos rfl]
theorem kak{H:Hp}{a b:Addr}{o:HO}(h:b≠a):upd H a o b=H b:=by unfold upd;rw[if_neg h]
theorem ne_of{H:Hp}{a b:Addr}{o u:HO}(h:H a=some o)(h':H b=some u)(d:o≠u):a≠b:=by
 intro e;subst e;rw[h] at h';exact d (Option.some.inj h')
theorem kai{H:Hp}{a b:Addr}{o:HO}(h:H a=some o)(h':H b=none):a≠b:=by
 intro e;subst e;rw[h] at h';cases h'
section
variable (P:Program) (w:World)
noncomputable def ObjOk(H:Hp)(h:Heap)(a:Addr):HO→Prop
 | .lst xs=>xs.length≤sizeLine∧∃(its:List Value) (n:Nat),Vals xs its∧h.get? a=some {cls:=.type "list",data:=.seq its.toArray n}
 | .tup xs=>xs.length≤sizeLine∧∃its:List Value,Vals xs its∧IsTup h a its.toArray
 | .dK kvs=>kvs.length≤sizeLine∧(a==sysModules)=false∧∃vs,KV kvs vs∧h.DictOf (kd7 P w) a vs
 | .dT kvs=>kvs.length≤sizeLine∧(a==sysModules)=false∧∃xs:List (List Key×Addr×Value),
   Paired (fun(p:List Key×V) (q:List Key×Addr×Value)=>p.1=q.1∧H q.2.1=some (.tup (p.1.map kV))∧RelV p.2 q.2.2) kvs xs∧
   ∃o es ep,h.get? a=some o∧o.ExactDict∧o.data=.dict es ep∧es.toList=xs.map (entryOfKey (tupleKind (kd7 P w)))∧(xs.map (·.1)).Nodup
 | .set S n=>h.SetOf (intKind P w) a S n
 | .ins C dx fs=>H dx=some (.own a)∧fs.length≤1000∧dx≠a∧h.get? a=some (Yu C dx)∧
   ∃mA,h.Ns1 dx mA∧(∀f,RelO (fs.lookup f) (mA f))∧PySem.Within mA (fs.map (·.1))
 | .own _=>∃o,h.get? a=some o
 | .xd fs=>∃mA,h.Ns1 a mA∧∀f,RelO (fs.lookup f) (mA f)
 | .rng lo hi=>∃t u v,h.get? a=some {cls:=.type "range",data:=.fields #[.int lo t, .int hi u, .int 1 v]}
 | .frz o u=>h.get? a=some o∧ObjOk H h a u
 | .tbl ps=>h.get? a=some {cls:=.none,data:=.fields ps}
 | .met f x=>h.get? a=some (YU (.ref f) (.ref x))
 | .ext φ=>φ h∧(∃o,h.get? a=some o)∧∀h1 h2:Heap,φ h1→(∀o,h1.get? a=some o→h2.get? a=some o)→φ h2
noncomputable def HOk(H:Hp)(h:Heap):Prop:=∀a o,H a=some o→ObjOk P w H h a o
end
section
variable {P:Program} {w:World} {H H':Hp} {h h':Heap} {a:Addr} {o:HO}
theorem ObjOk.lt(x:ObjOk P w H h a o):a<h.objs.size:=by
 cases o with
 |lst xs=>obtain⟨_,_,_,_,e⟩:=x;exact Heap.lt_size e
 |tup xs=>obtain⟨_,_,_,p⟩:=x;exact p.lt
 |dK kvs=>obtain⟨_,_,_,_,o,_,_,e,_⟩:=x;exact Heap.lt_size e
 |dT kvs=>obtain⟨_,_,_,_,o,_,_,e,_⟩:=x;exact Heap.lt_size e
 |set S n=>obtain⟨o,_,_,_,e,_⟩:=x;exact Heap.lt_size e
 |ins C dx fs=>obtain⟨_,_,_,e,_⟩:=x;exact Heap.lt_size e
 |own y=>obtain⟨_,e⟩:=x;exact Heap.lt_size e
 |xd fs=>obtain⟨_,⟨_,_,_,e,_⟩,_⟩:=x;exact Heap.lt_size e
 |rng lo hi=>obtain⟨_,_,_,e⟩:=x;exact Heap.lt_size e
 |frz ob u=>obtain⟨e,_⟩:=x;exact Heap.lt_size e
 |tbl ps=>exact Heap.lt_size (show h.get? a=some _ from x)
 |met f y=>exact Heap.lt_size (show h.get? a=some _ from x)
 |ext φ=>obtain⟨_,⟨_,e⟩,_⟩:=x;exact Heap.lt_size e
theorem Paired.mapP{α β:Type}{F G: α→β→Prop}:∀{l₁:List α} {l₂:List β},Paired F l₁ l₂→(∀a b,F a b→G a b)→Paired G l₁ l₂
 |_,_, .nil,_=>.nil
 |_,_, .cons r t,f=>.cons (f _ _ r) (Paired.mapP t f)
theorem ObjOk.stay(x:ObjOk P w H h a o)(k:∀b u,(b=a∨H b=some (.own a))→h.get? b=some u→h'.get? b=some u)
  (ho:∀b,H b=some (.own a)→H' b=some (.own a)) (ht:∀b xs,H b=some (.tup xs)→H' b=some (.tup xs)):ObjOk P w H' h' a o:=by
 induction o with
 |lst xs=>obtain⟨z,its,n,r,e⟩:=x;exact⟨z,its,n,r,k _ _ (.inl rfl) e⟩
 |tup xs=>obtain⟨z,its,r,ob,e,c⟩:=x;exact⟨z,its,r,ob,k _ _ (.inl rfl) e,c⟩
 |dK kvs=>obtain⟨z,y,vs,r,ob,es,ep,e,c⟩:=x;exact⟨z,y,vs,r,ob,es,ep,k _ _ (.inl rfl) e,c⟩
 |dT kvs=>
  obtain⟨z,y,xs,r,ob,es,ep,e,c⟩:=x
  exact⟨z,y,xs,Paired.mapP r fun p q z=>⟨z.1,ht _ _ z.2.1,z.2.2⟩,ob,es,ep,k _ _ (.inl rfl) e,c⟩
 |set S n=>obtain⟨ob,es,ep,t,e,c⟩:=x;exact⟨ob,es,ep,t,k _ _ (.inl rfl) e,c⟩
 |ins C dx fs=>
  obtain⟨d,z,ne,e,mA,⟨od,es,ep,e2,c⟩,r⟩:=x
  exact⟨ho _ d,z,ne,k _ _ (.inl rfl) e,mA,⟨od,es,ep,k _ _ (.inr d) e2,c⟩,r⟩
 |own y=>obtain⟨ob,e⟩:=x;exact⟨ob,k _ _ (.inl rfl) e⟩
 |xd fs=>obtain⟨mA,⟨od,es,ep,e,c⟩,r⟩:=x;exact⟨mA,⟨od,es,ep,k _ _ (.inl rfl) e,c⟩,r⟩
 |rng lo hi=>obtain⟨t,u,v,e⟩:=x;exact⟨t,u,v,k _ _ (.inl rfl) e⟩
 |frz ob u ih=>obtain⟨e,q⟩:=x;exact⟨k _ _ (.inl rfl) e,ih q⟩
 |tbl ps=>
  have e:h.get? a=some {cls:=.none,data:=.fields ps}:=x
  show h'.get? a=some {cls:=.none,data:=.fields ps}
  exact k a _ (.inl rfl) e
 |met f y=>
  have e:h.get? a=some (YU (.ref f) (.ref y)):=x
  show h'.get? a=some (YU (.ref f) (.ref y))
  exact k a _ (.inl rfl) e
 |ext φ=>obtain⟨p,⟨o,e⟩,st⟩:=x;exact⟨st _ _ p fun o q=>k _ _ (.inl rfl) q,⟨o,k _ _ (.inl rfl) e⟩,st⟩
theorem HOk.lt(x:HOk P w H h)(e:H a=some o):a<h.objs.size:=(x a o e).lt
theorem HOk.fresh(x:HOk P w H h)(e:h.objs.size≤a):H a=none:=by
 cases q:H a with
 |none=>rfl
 |some u=>exact absurd (X3 (x.lt q) e) (Ym _)
theorem HOk.kept(x:HOk P w H h)(k:∀b u,h.get? b=some u→h'.get? b=some u):HOk P w H h':=fun a o e=>
 (x a o e).stay (fun b u _ q=>k b u q) (fun _ q=>q) fun _ _ q=>q
theorem HOk.laid(x:HOk P w H h)(k:∀b u,h.get? b=some u→h'.get? b=some u)(hp:h.objs.size≤a)(new:ObjOk P w (upd H a o) h' a o):HOk P w (upd H a o) h':=fun b u e=>by
 have hn:=x.fresh hp
 by_cases hb:b=a
 ·subst hb;rw[kae] at e;cases e;exact new
 ·rw[kak hb] at e
  exact(x b u e).stay (fun c v _ q=>k c v q) (fun c q=>by rw[kak (kai q hn)];exact q) fun c xs q=>by rw[kak (kai q hn)];exact q
end
noncomputable def Rd(H:Hp)(a:Addr)(u:HO):Prop:=H a=some u∨∃o,H a=some (.frz o u)
theorem Rd.of{H:Hp}{a:Addr}{u:HO}(h:H a=some u):Rd H a u:=.inl h
theorem Rd.ok{P:Program}{w:World}{H:Hp}{h:Heap}{a:Addr}{u:HO}(r:Rd H a u)(x:HOk P w H h):ObjOk P w H h a u:=by
 rcases r with r|⟨o,r⟩
 ·exact x a u r
 ·obtain⟨_,q⟩:=x a _ r
  exact q
noncomputable def Mut:Option HO→Prop
 |some (.lst _)=>True
 |some (.dK _)=>True
 |some (.dT _)=>True
 |some (.set _ _)=>True
 |some (.ins _ _ _)=>True
 |some (.ext _)=>True
 |_=>False
section
variable {P:Program} {w:World} {H:Hp} {h h':Heap} {x e:Addr} {o':HO}
theorem HOk.write(ok:HOk P w H h)(mu:Mut (H x))(he:e=x∨H e=some (.own x))(k:∀b u,b≠e→h.get? b=some u→h'.get? b=some u)(heo:∃u,h'.get? e=some u)
  (new:ObjOk P w (upd H x o') h' x o'):HOk P w (upd H x o') h':=fun b u q=>by
 have nown:∀c y,H c=some (.own y)→c≠x:=fun c y r z=>by subst z;rw[r] at mu;exact mu
 have ntup:∀c xs,H c=some (.tup xs)→c≠x:=fun c xs r z=>by subst z;rw[r] at mu;exact mu
 by_cases hb:b=x
 ·subst hb;rw[kae] at q;cases q;exact new
 ·rw[kak hb] at q
  by_cases hbe:b=e
  ·have q':H b=some (.own x):=by
    rcases he with z|z
    ·exact absurd (hbe.trans z) hb
    ·rw[hbe];exact z
   rw[q] at q';cases q'
   obtain⟨v,hv⟩:=heo
   exact⟨v,by rw[hbe];exact hv⟩
  ·refine(ok b u q).stay (fun c v hc r=>k c v ?_ r) (fun c r=>by rw[kak (nown c b r)];exact r) fun c xs r=>by rw[kak (ntup c xs r)];exact r
   rcases hc with rfl|hc
   ·exact hbe
   ·rintro rfl
    rcases he with z|z
    ·exact nown c b hc z
    ·rw[hc] at z;cases z;exact hb rfl
end
structure Un (fs ex:List Addr) (H H':Hp) (h h':Heap):Prop where
 keep:∀b o,h.get? b=some o→H b=none→b∉fs→b∉ex→h'.get? b=some o
 slot:∀b o,h.get? b=some o→H b=none→b∈fs→b∉ex→∃sl,h'.get? b=some {o with slots:=sl}
 free:∀b o,h.get? b=some o→H b=none→b∉ex→H' b=none
 there:∀b o,h.get? b=some o→b∉ex→∃o',h'.get? b=some o'
 tups:∀b xs,H b=some (.tup xs)→H' b=some (.tup xs)
 frzs:∀b o u,H b=some (.frz o u)→H' b=some (.frz o u)
 tbls:∀b ps,H b=some (.tbl ps)→∃more,H' b=some (.tbl (ps++more))
section
variable {fs fs' ex ex':List Addr} {H H1 H2:Hp} {h h1 h2 h':Heap} {a x e:Addr} {o:HO}
theorem Un.any(u:Un fs ex H H1 h h1){b:Addr}{ob:Obj}(q:h.get? b=some ob)(n:H b=none)(hx:b∉ex):∃sl,h1.get? b=some {ob with slots:=sl}:=by
 by_cases hb:b∈fs
 ·exact u.slot b ob q n hb hx
 ·exact⟨ob.slots,u.keep b ob q n hb hx⟩
theorem Un.trans(a:Un fs ex H H1 h h1)(b:Un fs ex H1 H2 h1 h2):Un fs ex H H2 h h2 where
 keep:=fun c ob q n hc hx=>b.keep c ob (a.keep c ob q n hc hx) (a.free c ob q n hx) hc hx
 slot:=fun c ob q n hc hx=>by
  obtain⟨sl,e1⟩:=a.slot c ob q n hc hx
  obtain⟨sl',e2⟩:=b.slot c _ e1 (a.free c ob q n hx) hc hx
  exact⟨sl',e2⟩
 free:=fun c ob q n hx=>by
  obtain⟨o',e1⟩:=a.there c ob q hx
  exact b.free c o' e1 (a.free c ob q n hx) hx
 there:=fun c ob q hx=>by
  obtain⟨o',e1⟩:=a.there c ob q hx
  exact b.there c o' e1 hx
 tups:=fun c xs q=>b.tups c xs (a.tups c xs q)
 frzs:=fun c ob xs q=>b.frzs c ob xs (a.frzs c ob xs q)
 tbls:=fun c ps q=>by
  obtain⟨m1,e1⟩:=a.tbls c ps q
  obtain⟨m2,e2⟩:=b.tbls c _ e1
  exact⟨m1++m2,by rw[e2,Array.append_assoc]⟩
theorem Un.kept(k:∀b u,h.get? b=some u→h'.get? b=some u):Un fs ex H H h h':=
 ⟨fun b ob q _ _ _=>k b ob q,fun b ob q _ _ _=>⟨ob.slots,k b ob q⟩,fun _ _ _ n _=>n,fun b ob q _=>⟨ob,k b ob q⟩,fun _ _ q=>q,fun _ _ _ q=>q,fun _ ps q=>⟨#[],by rw[q];simp⟩⟩
theorem Un.refl:Un fs ex H H h h:=Un.kept fun _ _ q=>q
theorem Un.laid(k:∀b u,h.get? b=some u→h'.get? b=some u)(hp:h.objs.size≤a)(hn:H a=none):Un fs ex H (upd H a o) h h' where
 keep:=fun b u q _ _ _=>k b u q
 slot:=fun b u q _ _ _=>⟨u.slots,k b u q⟩
 free:=fun b u q n _=>by rw[kak (X2 (X3 (Heap.lt_size q) hp))];exact n
 there:=fun b u q _=>⟨u,k b u q⟩
 tups:=fun b xs q=>by rw[kak (kai q hn)];exact q
 frzs:=fun b u xs q=>by rw[kak (kai q hn)];exact q
 tbls:=fun b ps q=>⟨#[],by rw[kak (kai q hn),q];simp⟩
theorem Un.write(mu:Mut (H x))(he:e=x∨H e=some (.own x))(k:∀b u,b≠e→h.get? b=some u→h'.get? b=some u)(heo:∃u,h'.get? e=some u):Un fs ex H (upd H x o) h h':=by
 have hx:∀b,H b=none→b≠x:=fun b n z=>by subst z;rw[n] at mu;exact mu
 have hb:∀b,H b=none→b≠e:=fun b n z=>by
  subst z
  rcases he with r|r
  ·exact hx b n r
  ·rw[n] at r;cases r
 have hm:∀b u,H b=some u→¬Mut (some u)→b≠x:=fun b u q nm z=>by subst z;rw[q] at mu;exact nm mu
 refine⟨fun b u q n _ _=>k b u (hb b n) q,fun b u q n _ _=>⟨u.slots,k b u (hb b n) q⟩,fun b u q n _=>by rw[kak (hx b n)];exact n,fun b u q _=>?_,
  fun b xs q=>by rw[kak (hm b _ q fun z=>z)];exact q,fun b u xs q=>by rw[kak (hm b _ q fun z=>z)];exact q,fun b ps q=>⟨#[],by rw[kak (hm b _ q fun z=>z),q];simp⟩⟩
 by_cases hbe:b=e
 ·subst hbe;exact heo
 ·exact⟨u,k b u hbe q⟩
theorem Un.mono(u:Un fs ex H H1 h h1)(hs:∀b∈fs,b∈fs')(hx:∀b∈ex,b∈ex'):Un fs' ex' H H1 h h1:=
 ⟨fun b ob q n hb he=>u.keep b ob q n (fun z=>hb (hs b z)) fun z=>he (hx b z),fun _ _ q n _ he=>u.any q n fun z=>he (hx _ z),fun b ob q n he=>u.free b ob q n fun z=>he (hx b z),fun b ob q he=>u.there b ob q fun z=>he (hx b z),u.tups,u.frzs,u.tbls⟩
end
noncomputable def trk(h:Heap)(H:Hp):List Addr:=(Yn h.objs.size).filter fun a=>(H a).isSome
noncomputable def hidT(h:Heap)(H:Hp):Heap:=PySem.W.hideAll h (trk h H)
theorem kec(h:Heap)(H:Hp):(hidT h H).objs.size=h.objs.size:=PySem.W.hideAll_size _ _
theorem keE{h:Heap}{H:Hp}{b:Addr}{o:Obj}(e:h.get? b=some o)(n:H b=none):(hidT h H).get? b=some o:=
 PySem.W.hideAll_get _ e fun hm=>by
  have q:(H b).isSome=true:=(List.mem_filter.mp hm).2
  rw[n] at q;simp at q
theorem kfg{h:Heap}{H:Hp}{b:Addr}{o:Obj}(e:(hidT h H).get? b=some o):h.get? b=some o∧H b=none:=by
 have e':h.get? b=some o:=PySem.W.of_hideAll (trk h H) e
 refine⟨e',?_⟩
 cases q:H b with
 |none=>rfl
 |some x=>
  have hm:b∈trk h H:=List.mem_filter.mpr ⟨List.mem_range.mpr (Heap.lt_size e'),by simp[q]⟩
  have z:(hidT h H).get? b=none:=PySem.W.hideAll_none (trk h H) hm
  rw[z] at e;cases e
noncomputable def kfq(g h:Heap)(L:Addr):List (Addr×Obj):=(Yn h.objs.size).filterMap fun a=>if a=L∨(g.get? a).isSome=true then none else(h.get? a).map fun o=>(a,o)
noncomputable def rest(g h:Heap)(L d:Addr):List (Addr×Obj):=(kfq g h L).filter fun p=>decide (p.1≠d)
end L2
namespace L2
open PySem PySem.Spec PyProof.Rows
structure Mod (K:XQ) (mg:Str→Option Value) (base:Heap):Prop where
 kin:K.In base
 glob:base.Ns mainGlobals mg
 blt:∃mb,base.Ns builtinsNs mb∧∀x:Str,x≠"__name__"→mb x=bootBuiltins x
 nolimit:base.NoLimit
structure Cx where
 prog:Program
 w:World
 K:XQ
 mg:Str→Option Value
 base:Heap
 A:Around
 N:List Str
 s₀:Shared
 H₀:Hp
 env:Env
 outer:List Env
 stack:List Env
 ex:List Addr
 fn:Str→Bool
 calm:Bool
 pn:List (Addr×Obj)
 xe:Value→Shared→Prop
noncomputable def frs(l:List Env):List Addr:=l.filterMap (·.frame)
noncomputable abbrev Cx.fs(X:Cx):List Addr:=frs X.outer
noncomputable def Vis(sc:Scope)(x:Str):Prop:=sc.names.lookup x=some .local∨sc.names.lookup x=some .cell∨sc.names.lookup x=some .free
noncomputable def Loc(sc:Scope)(x:Str):Prop:=sc.names.lookup x=some .local∨sc.names.lookup x=some .cell
noncomputable def Look(env:Env)(h:Heap)(m:Str→Option Value)(x:Str)(u:Value):Prop:=
 (env.kindOf x=some .local∧m x=some u)∨((env.kindOf x=some .cell∨env.kindOf x=some .free)∧∃c,env.cells.lookup x=some c∧h.IsCell c (some u))
structure Cx.Ok (X:Cx):Prop where
 mod:Mod X.K X.mg X.base
 kind:X.env.scope.kind=.function
 glob:X.env.globals=mainGlobals
 blt:X.env.builtins=builtinsNs
 above:X.s₀.heap.objs.size≤X.env.locals
 inj:∀x y c,X.env.cells.lookup x=some c→X.env.cells.lookup y=some c→x=y
 has:∀x,(X.env.kindOf x=some .cell∨X.env.kindOf x=some .free)→∃c,X.env.cells.lookup x=some c
 cab:∀x c,X.fn x=true→X.env.cells.lookup x=some c→X.s₀.heap.objs.size≤c
 hd:X.calm=true→X.A.handled=none
 frames:X.A.frames=some X.stack
 stk:X.stack=X.outer∨(X.stack=X.env::X.outer∧X.env.frame=some X.env.locals)
 exf:∀b∈X.ex,b≠X.env.locals∧∀x c,X.env.cells.lookup x=some c→c≠b
 bs:∀b o,X.base.get? b=some o→X.s₀.heap.get? b=some o∧X.H₀ b=none
 bsz:X.base.objs.size≤X.s₀.heap.objs.size
 noex:∀b o,X.base.get? b=some o→b∉X.ex
 exfs:∀b∈X.ex,b∉X.fs
 funs:X.s₀.heap.FunFrames X.base X.outer
 frf:∀b∈X.fs,X.H₀ b=none
structure Inv (X:Cx) (pins:List (Addr×Obj)) (σ:List (Option V)) (H:Hp) (s:Shared):Prop where
 ok:X.Ok
 os:s.os=X.s₀.os
 bare:AllBare s.gens
 base:Un X.fs X.ex X.H₀ H X.s₀.heap s.heap
 loc:∃m,s.heap.Ns X.env.locals m∧∀(i:Nat) (x:Str) (v:V),X.N[i]?=some x→σ[i]?=some (some v)→Vis X.env.scope x→∃u,RelV v u∧Look X.env s.heap m x u
 cell:∀x c,X.env.cells.lookup x=some c→∃v,s.heap.IsCell c v
 free:H X.env.locals=none
 freeC:∀x c,X.env.cells.lookup x=some c→H c=none
 pin:∀p∈X.pn++pins,s.heap.get? p.1=some p.2∧H p.1=none∧p.1≠X.env.locals∧p.1∉X.fs∧∀v,p.2.data≠.cell v
 hok:HOk X.prog X.w H s.heap
 len: σ.length=X.N.length
section
variable {X:Cx} {pins:List (Addr×Obj)} {σ:List (Option V)} {H H':Hp} {s:Shared} {h':Heap}
theorem Cx.Ok.nofr(ok:X.Ok){b:Addr}{o:Obj}(e:X.base.get? b=some o):b∉X.fs:=fun hb=>by
 have:=(ok.funs.mem hb).1
 rw[e] at this;cases this
theorem Inv.bs(I:Inv X pins σ H s):∀b o,X.base.get? b=some o→s.heap.get? b=some o∧H b=none:=fun b o e=>
 ⟨I.base.keep b o (I.ok.bs b o e).1 (I.ok.bs b o e).2 (I.ok.nofr e) (I.ok.noex b o e),I.base.free b o (I.ok.bs b o e).1 (I.ok.bs b o e).2 (I.ok.noex b o e)⟩
theorem Inv.bk(I:Inv X pins σ H s):∀b o,X.base.get? b=some o→s.heap.get? b=some o:=fun b o e=>(I.bs b o e).1
theorem Inv.mod(I:Inv X pins σ H s):Mod X.K X.mg X.base:=I.ok.mod
theorem Inv.kIn(I:Inv X pins σ H s):X.K.In s.heap:=I.ok.mod.kin.keeps I.bk
theorem Inv.nolimit(I:Inv X pins σ H s):s.heap.NoLimit:=I.ok.mod.nolimit.keeps I.bk
theorem Inv.fr(I:Inv X pins σ H s):∃m,Fr X.base X.env.locals s.heap m:=
 let⟨m,hn,_⟩:=I.loc
 ⟨m,hn,I.bk,XZ I.ok.bsz I.ok.above⟩
theorem Inv.lt(I:Inv X pins σ H s):X.env.locals<s.heap.objs.size:=let⟨_,hn,_⟩:=I.loc;hn.lt
theorem Inv.sz(I:Inv X pins σ H s):X.s₀.heap.objs.size≤s.heap.objs.size:=XZ I.ok.above (Yo I.lt)
theorem Inv.nofs(I:Inv X pins σ H s){a:Addr}(h:s.heap.objs.size≤a):a∉X.fs:=fun hb=>by
 obtain⟨_,o,ho,_⟩:=I.ok.funs.mem hb
 exact absurd (X3 (Heap.lt_size ho) (XZ I.sz h)) (Ym _)
theorem Inv.cne(I:Inv X pins σ H s):∀x c,X.env.cells.lookup x=some c→c≠X.env.locals:=fun x c e z=>by
 obtain⟨v,o,ho,hd⟩:=I.cell x c e
 obtain⟨m,⟨o',es,ep,ho',hd',_⟩,_⟩:=I.loc
 rw[z,ho'] at ho;cases ho;rw[hd'] at hd;cases hd
theorem Inv.funs(I:Inv X pins σ H s):s.heap.FunFrames X.base X.outer:=by
 have all:∀(l:List Env),(∀b∈frs l,b∈X.fs)→X.s₀.heap.FunFrames X.base l→s.heap.FunFrames X.base l:=by
  intro l
  induction l with
  |nil=>intro _ _;trivial
  |cons env r ih=>
   intro hs hl
   obtain⟨hk,⟨L,o,hf,hn,ho,hd⟩,hr⟩:=hl
   have hL:L∈X.fs:=hs L (by unfold frs;rw[YV,hf];exact Yi)
   obtain⟨sl,e⟩:=I.base.slot L o ho (I.ok.frf L hL) hL fun z=>I.ok.exfs L z hL
   exact⟨hk,⟨L,_,hf,hn,e,hd⟩,ih (fun b hb=>hs b (by unfold frs;rw[YV,hf];exact Yb _ hb)) hr⟩
 exact all X.outer (fun _ hb=>hb) I.ok.funs
theorem Inv.stack(I:Inv X pins σ H s):s.heap.FunFrames X.base X.stack:=by
 rcases I.ok.stk with e|⟨e,hf⟩
 ·rw[e];exact I.funs
 ·rw[e]
  obtain⟨m,hn,_⟩:=I.loc
  refine .cons (by rw[I.ok.kind];decide) hf hn ?_ I.funs
  exact Heap.get?_none_of_le (XZ I.ok.bsz I.ok.above)
theorem Inv.stkSub(I:Inv X pins σ H s):∀b∈frs X.stack,b∈X.env.locals::X.fs:=fun b hb=>by
 rcases I.ok.stk with e|⟨e,hf⟩
 ·rw[e] at hb;exact Yb _ hb
 ·rw[e] at hb
  unfold frs at hb
  rw[YV,hf] at hb
  exact hb
theorem Inv.stkFree(I:Inv X pins σ H s):∀b∈frs X.stack,H b=none:=fun b hb=>by
 rcases X1.mp (I.stkSub b hb) with e|hb
 ·rw[e];exact I.free
 ·obtain⟨_,o,ho,_⟩:=I.ok.funs.mem hb
  exact I.base.free b o ho (I.ok.frf b hb) fun z=>I.ok.exfs b z hb
theorem Inv.step{g':Array GenState}{t':Nat}{d':Drawn}{ch:List Addr}(I:Inv X pins σ H s)
  (hch:∀b∈ch,(b∈X.ex∨X.s₀.heap.objs.size≤b)∧b≠X.env.locals∧(∀x c,X.env.cells.lookup x=some c→c≠b)∧∀p∈X.pn++pins,p.1≠b)
  (keep:∀b o,b≠X.env.locals→b∉X.fs→b∉ch→s.heap.get? b=some o→H b=none→h'.get? b=some o)
  (slot:∀b o,b≠X.env.locals→b∈X.fs→b∉ch→s.heap.get? b=some o→H b=none→∃sl,h'.get? b=some {o with slots:=sl}) (free:∀b o,b∉ch→s.heap.get? b=some o→H b=none→H' b=none)
  (there:∀b o,b∉ch→s.heap.get? b=some o→∃o',h'.get? b=some o')
  (tups:∀b xs,H b=some (.tup xs)→H' b=some (.tup xs)) (frzs:∀b o u,H b=some (.frz o u)→H' b=some (.frz o u)) (tbls:∀b ps,H b=some (.tbl ps)→∃more,H' b=some (.tbl (ps++more)))
  (ns:∀m,s.heap.Ns X.env.locals m→h'.Ns X.env.locals m) (hok:HOk X.prog X.w H' h') (hg:AllBare g'):
  Inv X pins σ H' {s with heap:=h',gens:=g',drawn:=d',toks:=t'}:=by
 have neL:∀b o,X.s₀.heap.get? b=some o→b≠X.env.locals:=fun b o e=>X2 (X3 (Heap.lt_size e) I.ok.above)
 have neC:∀b o,X.s₀.heap.get? b=some o→b∉X.ex→b∉ch:=fun b o e hx hb=>by
  rcases(hch b hb).1 with z|z
  ·exact hx z
  ·exact absurd (X3 (Heap.lt_size e) z) (Ym _)
 have cellK:∀x c,X.env.cells.lookup x=some c→∀v,s.heap.IsCell c v→h'.IsCell c v:=fun x c e v ⟨o,ho,hd⟩=>by
  have nch:c∉ch:=fun z=>(hch c z).2.2.1 x c e rfl
  by_cases hc:c∈X.fs
  ·obtain⟨sl,q⟩:=slot c o (I.cne x c e) hc nch ho (I.freeC x c e)
   exact⟨_,q,hd⟩
  ·exact⟨o,keep c o (I.cne x c e) hc nch ho (I.freeC x c e),hd⟩
 refine⟨I.ok,I.os,hg,⟨fun b o e n hb hx=>?_,fun b o e n hb hx=>?_,fun b o e n hx=>?_,fun b o e hx=>?_,fun b xs e=>tups b xs (I.base.tups b xs e),fun b o xs e=>frzs b o xs (I.base.frzs b o xs e),fun b ps e=>?_⟩,?_,fun x c e=>?_,?_,fun x c e=>?_,fun p hp=>?_,hok,I.len⟩
 ·exact keep b o (neL b o e) hb (neC b o e hx) (I.base.keep b o e n hb hx) (I.base.free b o e n hx)
 ·obtain⟨sl,e1⟩:=I.base.slot b o e n hb hx
  obtain⟨sl',e2⟩:=slot b _ (neL b o e) hb (neC b o e hx) e1 (I.base.free b o e n hx)
  exact⟨sl',e2⟩
 ·obtain⟨o',e1⟩:=I.base.there b o e hx
  exact free b o' (neC b o e hx) e1 (I.base.free b o e n hx)
 ·obtain⟨o',e1⟩:=I.base.there b o e hx
  exact there b o' (neC b o e hx) e1
 ·obtain⟨m1,e1⟩:=I.base.tbls b ps e
  obtain⟨m2,e2⟩:=tbls b _ e1
  exact⟨m1++m2,by rw[e2,Array.append_assoc]⟩
 ·obtain⟨m,hn,hl⟩:=I.loc
  refine⟨m,ns m hn,fun i x v e1 e2 e3=>?_⟩
  obtain⟨u,r,l⟩:=hl i x v e1 e2 e3
  refine⟨u,r,?_⟩
  rcases l with l|⟨k,c,e,z⟩
  ·exact .inl l
  ·exact .inr ⟨k,c,e,cellK x c e _ z⟩
 ·obtain⟨v,z⟩:=I.cell x c e
  exact⟨v,cellK x c e v z⟩
 ·obtain⟨m,⟨o,_,_,ho,_⟩,_⟩:=I.loc
  exact free _ o (fun z=>(hch _ z).2.1 rfl) ho I.free
 ·obtain⟨v,o,ho,hd⟩:=I.cell x c e
  exact free c o (fun z=>(hch c z).2.2.1 x c e rfl) ho (I.freeC x c e)
 ·obtain⟨e,n,ne,nf,d⟩:=I.pin p hp
  have nch:p.1∉ch:=fun z=>(hch p.1 z).2.2.2 p hp rfl
  exact⟨keep p.1 p.2 ne nf nch e n,free p.1 p.2 nch e n,ne,nf,d⟩
theorem Inv.un{t':Nat}(I:Inv X pins σ H s)(u:Un X.fs [] H H' s.heap h')(hok:HOk X.prog X.w H' h'):Inv X pins σ H' {s with heap:=h',toks:=t'}:=by
 obtain⟨m,⟨o,es,ep,ho,r⟩,_⟩:=id I.loc
 obtain⟨sl,hL⟩:=u.any ho I.free (by simp)
 exact I.step (g':=s.gens) (d':=s.drawn) (ch:=[]) (fun _ z=>nomatch z) (fun b o _ hb _ e n=>u.keep b o e n hb (by simp)) (fun b o _ hb _ e n=>u.slot b o e n hb (by simp)) (fun b o _ e n=>u.free b o e n (by simp)) (fun b o _ e=>u.there b o e (by simp)) u.tups u.frzs u.tbls (fun m' hm=>by
  obtain⟨o',es',ep',ho',r'⟩:=hm
  rw[ho] at ho';cases ho'
  exact⟨_,es',ep',hL,r'⟩) hok I.bare
theorem Inv.call{g':Array GenState}{t':Nat}{d':Drawn}{ch:List Addr}(I:Inv X pins σ H s)(u:Un (frs X.stack) ch H H' s.heap h')(hok:HOk X.prog X.w H' h')(hg:AllBare g')
  (hch:∀b∈ch,(b∈X.ex∨X.s₀.heap.objs.size≤b)∧b≠X.env.locals∧(∀x c,X.env.cells.lookup x=some c→c≠b)∧∀p∈X.pn++pins,p.1≠b):
  Inv X pins σ H' {s with heap:=h',gens:=g',drawn:=d',toks:=t'}:=by
 obtain⟨m,⟨o,es,ep,ho,r⟩,_⟩:=id I.loc
 obtain⟨sl,hL⟩:=u.any ho I.free fun z=>(hch _ z).2.1 rfl
 exact I.step (ch:=ch) hch (fun b o hL hb hc e n=>u.keep b o e n (fun z=>(X1.mp (I.stkSub b z)).elim hL hb) hc) (fun b o _ _ hc e n=>u.any e n hc) (fun b o hc e n=>u.free b o e n hc) (fun b o hc e=>u.there b o e hc) u.tups u.frzs u.tbls (fun m' hm=>by
  obtain⟨o',es',ep',ho',r'⟩:=hm
  rw[ho] at ho';cases ho'
  exact⟨_,es',ep',hL,r'⟩) hok hg
theorem Inv.turned{t':Nat}{it:Addr}(I:Inv X pins σ H s)(k:∀b o,b≠it→s.heap.get? b=some o→h'.get? b=some o)(hn:H it=none)(hL:it≠X.env.locals)
  (h1:it∈X.ex∨X.s₀.heap.objs.size≤it) (h2:∀x c,X.env.cells.lookup x=some c→c≠it) (h3:∀p∈X.pn++pins,p.1≠it):Inv X pins σ H {s with heap:=h',toks:=t'}:=by
 have nit:∀b u,H b=some u→b≠it:=fun b u e z=>by rw[z,hn] at e;cases e
 refine I.step (g':=s.gens) (d':=s.drawn) (ch:=[it]) (fun b hb=>?_) (fun b o _ _ hc e _=>k b o (fun z=>hc (by simp[z])) e) (fun b o _ _ hc e _=>⟨o.slots,k b o (fun z=>hc (by simp[z])) e⟩) (fun _ _ _ _ n=>n)
  (fun b o hc e=>⟨o,k b o (fun z=>hc (by simp[z])) e⟩) (fun _ _ e=>e) (fun _ _ _ e=>e) (fun b ps e=>⟨#[],by rw[e];simp⟩) (fun m hm=>?_) (fun b u e=>?_) I.bare
 ·have e:b=it:=by simpa using hb
  subst e
  exact⟨h1,hL,h2,h3⟩
 ·obtain⟨o,es,ep,ho,r⟩:=hm
  exact⟨o,es,ep,k _ o (Ne.symm hL) ho,r⟩
 ·refine(I.hok b u e).stay (fun c v hc q=>k c v ?_ q) (fun _ q=>q) fun _ _ q=>q
  rcases hc with z|z
  ·rw[z];exact nit b u e
  ·exact nit c _ z
theorem Inv.tok(I:Inv X pins σ H s)(t:Nat):Inv X pins σ H {s with toks:=t}:=I.un (h':=s.heap) (t':=t) Un.refl I.hok
theorem Inv.kept{t':Nat}(I:Inv X pins σ H s)(k:∀b u,s.heap.get? b=some u→h'.get? b=some u):Inv X pins σ H {s with heap:=h',toks:=t'}:=I.un (Un.kept k) (I.hok.kept k)
theorem Inv.laid{a:Addr}{o:HO}{t':Nat}(I:Inv X pins σ H s)(k:∀b u,s.heap.get? b=some u→h'.get? b=some u)(hp:s.heap.objs.size≤a)(new:ObjOk X.prog X.w (upd H a o) h' a o):
  Inv X pins σ (upd H a o) {s with heap:=h',toks:=t'}:=I.un (Un.laid k hp (I.hok.fresh hp)) (I.hok.laid k hp new)
theorem Inv.write{x e:Addr}{o:HO}{t':Nat}(I:Inv X pins σ H s)(mu:Mut (H x))(he:e=x∨H e=some (.own x))(k:∀b u,b≠e→s.heap.get? b=some u→h'.get? b=some u)(heo:∃u,h'.get? e=some u)
  (new:ObjOk X.prog X.w (upd H x o) h' x o):Inv X pins σ (upd H x o) {s with heap:=h',toks:=t'}:=I.un (Un.write mu he k heo) (I.hok.write mu he k heo new)
theorem Inv.pins_of{pins':List (Addr×Obj)}(I:Inv X pins σ H s)(h:∀p∈pins',s.heap.get? p.1=some p.2∧H p.1=none∧p.1≠X.env.locals∧p.1∉X.fs∧∀v,p.2.data≠.cell v):Inv X pins' σ H s:=
 ⟨I.ok,I.os,I.bare,I.base,I.loc,I.cell,I.free,I.freeC,fun p hp=>(YB.mp hp).elim (fun z=>I.pin p (List.mem_append_left _ z)) (h p),I.hok,I.len⟩
theorem kdv{N:List Str}(hN:N.Nodup){i j:Nat}{x:Str}(a:N[i]?=some x)(b:N[j]?=some x):i=j:=by
 obtain⟨h1,e1⟩:=Yv.mp a
 obtain⟨h2,e2⟩:=Yv.mp b
 exact(List.getElem_inj hN).mp (e1.trans e2.symm)
theorem kdO{M:Model}{A:Around}{E:Value→Shared→Prop}{i:Nat}{x:Str}{v:V}{u:Value}{Q:Unit→Shared→Prop}(I:Inv X pins σ H s)(hN:X.N.Nodup)(hi:X.N[i]?=some x)(hx:Loc X.env.scope x)(r:RelV v u)
  (h:∀s',Inv X pins (σ.set i (some v)) H s'→(∃a,Heap.SameBut a s.heap s'.heap∧(a=X.env.locals∨X.env.cells.lookup x=some a))→Q () s') (hf:X.fn x=true∨X.env.scope.names.lookup x=some .local:=by first|exact .inl rfl|exact .inr rfl|assumption):wpAny M A (storeName X.env x u) Q E s:=by
 obtain⟨m,hn,hl⟩:=id I.loc
 have hcls:(X.env.scope.kind== .class||(X.env.scope.kind== .module&&X.env.locals !=X.env.globals))=false:=by rw[I.ok.kind];rfl
 have hiσ:i< σ.length:=by rw[I.len];exact(Yv.mp hi).1
 have cne:=I.cne
 have tracked:∀{a:Addr} {h':Heap},(∃o,s.heap.get? a=some o∧H a=none)→Heap.SameBut a s.heap h'→HOk X.prog X.w H h':=fun {a h'} ha hs b ob e=>by
  obtain⟨_,_,hfree⟩:=ha
  refine(I.hok b ob e).stay (fun c w' hc q=>(hs.2 c ?_).trans q) (fun _ q=>q) fun _ _ q=>q
  rintro rfl
  rcases hc with rfl|hc
  ·rw[hfree] at e;cases e
  ·rw[hfree] at hc;cases hc
 rcases hx with hk|hk
 ·refine wpAny_storeName_local hk hn (fun h' hn' hs=>?_) hcls
  obtain⟨oL,_,_,hoL,_⟩:=id hn
  refine h _ ⟨I.ok,I.os,I.bare,⟨fun b o e n hb hx=>?_,fun b o e n hb hx=>?_,I.base.free,fun b o e hx=>?_,I.base.tups,I.base.frzs,I.base.tbls⟩,⟨_,hn',fun j y v' e1 e2 e3=>?_⟩,fun y c e=>?_,I.free,I.freeC,fun p hp=>?_,tracked ⟨oL,hoL,I.free⟩ hs,by simpa using I.len⟩ ⟨_,hs, .inl rfl⟩
  ·exact(hs.2 b (X2 (X3 (Heap.lt_size e) I.ok.above))).trans (I.base.keep b o e n hb hx)
  ·obtain⟨sl,e1⟩:=I.base.slot b o e n hb hx
   exact⟨sl,(hs.2 b (X2 (X3 (Heap.lt_size e) I.ok.above))).trans e1⟩
  ·obtain⟨o',e1⟩:=I.base.there b o e hx
   exact⟨o',(hs.2 b (X2 (X3 (Heap.lt_size e) I.ok.above))).trans e1⟩
  ·by_cases hj:j=i
   ·subst hj
    rw[hi] at e1;cases e1
    rw[Y9 hiσ] at e2
    cases e2
    exact⟨u,r, .inl ⟨hk,by simp⟩⟩
   ·rw[List.getElem?_set_ne (Ne.symm hj)] at e2
    obtain⟨u',r',q⟩:=hl j y v' e1 e2 e3
    refine⟨u',r',?_⟩
    rcases q with⟨k,e⟩|⟨k,c,e,z⟩
    ·refine .inl ⟨k,?_⟩
     have:y≠x:=fun e=>hj (kdv hN e1 (e▸hi))
     simp[this,e]
    ·exact .inr ⟨k,c,e,z.sameBut hs (cne y c e)⟩
  ·obtain⟨w',z⟩:=I.cell y c e
   exact⟨w',z.sameBut hs (cne y c e)⟩
  ·obtain⟨e,n,ne,nf,d⟩:=I.pin p hp
   exact⟨(hs.2 p.1 ne).trans e,n,ne,nf,d⟩
 ·have hfn:X.fn x=true:=by
   rcases hf with z|z
   ·exact z
   ·rw[z] at hk;cases hk
  obtain⟨c,hc⟩:=I.ok.has x (.inl hk)
  obtain⟨w',z⟩:=I.cell x c hc
  refine wpAny_storeName_cell I.ok.kind hk hc z (fun h' hc' hs=>?_)
  obtain⟨oc,hoc,hocd⟩:=id z
  refine h {s with heap:=h'} ⟨I.ok,I.os,I.bare,⟨fun b o e n hb hx=>?_,fun b o e n hb hx=>?_,I.base.free,fun b o e hx=>?_,I.base.tups,I.base.frzs,I.base.tbls⟩,⟨m,hn.sameBut hs (Ne.symm (cne x c hc)),fun j y v' e1 e2 e3=>?_⟩,fun y c' e=>?_,I.free,I.freeC,fun p hp=>?_,tracked ⟨oc,hoc,I.freeC x c hc⟩ hs,by simpa using I.len⟩ ⟨c,hs, .inr hc⟩
  ·exact(hs.2 b (X2 (X3 (Heap.lt_size e) (I.ok.cab x c hfn hc)))).trans (I.base.keep b o e n hb hx)
  ·obtain⟨sl,e1⟩:=I.base.slot b o e n hb hx
   exact⟨sl,(hs.2 b (X2 (X3 (Heap.lt_size e) (I.ok.cab x c hfn hc)))).trans e1⟩
  ·obtain⟨o',e1⟩:=I.base.there b o e hx
   exact⟨o',(hs.2 b (X2 (X3 (Heap.lt_size e) (I.ok.cab x c hfn hc)))).trans e1⟩
  ·by_cases hj:j=i
   ·subst hj
    rw[hi] at e1;cases e1
    rw[Y9 hiσ] at e2
    cases e2
    exact⟨u,r, .inr ⟨.inl hk,c,hc,hc'⟩⟩
   ·rw[List.getElem?_set_ne (Ne.symm hj)] at e2
    obtain⟨u',r',q⟩:=hl j y v' e1 e2 e3
    refine⟨u',r',?_⟩
    rcases q with q|⟨k,c',e,z'⟩
    ·exact .inl q
    ·refine .inr ⟨k,c',e,z'.sameBut hs ?_⟩
     rintro rfl
     exact hj (kdv hN e1 (I.ok.inj _ _ _ e hc▸hi))
  ·by_cases hcc:c'=c
   ·subst hcc;exact⟨_,hc'⟩
   ·obtain⟨w2,z2⟩:=I.cell y c' e
    exact⟨w2,z2.sameBut hs hcc⟩
  ·obtain⟨e,n,ne,nf,d⟩:=I.pin p hp
   refine⟨(hs.2 p.1 ?_).trans e,n,ne,nf,d⟩
   intro q
   rw[q,hoc] at e
   have q':oc=p.2:=Option.some.inj e
   exact d w' (by rw[←q'];exact hocd)
theorem kdi{M:Model}{A:Around}{E:Value→Shared→Prop}{i:Nat}{x:Str}{v:V}{u:Value}{Q:Unit→Shared→Prop}(I:Inv X pins σ H s)(hN:X.N.Nodup)(hi:X.N[i]?=some x)(hx:Loc X.env.scope x)(r:RelV v u)
  (h:∀s',Inv X pins (σ.set i (some v)) H s'→Q () s') (hf:X.fn x=true∨X.env.scope.names.lookup x=some .local:=by first|exact .inl rfl|exact .inr rfl|assumption):wpAny M A (storeName X.env x u) Q E s:=
 kdO I hN hi hx r (fun s' I' _=>h s' I') hf
theorem Inv.call'{s':Shared}{ch:List Addr}(I:Inv X pins σ H s)(ho:s'.os=s.os)(u:Un (frs X.stack) ch H H' s.heap s'.heap)(hok:HOk X.prog X.w H' s'.heap)(hg:AllBare s'.gens)
  (hch:∀b∈ch,(b∈X.ex∨X.s₀.heap.objs.size≤b)∧b≠X.env.locals∧(∀x c,X.env.cells.lookup x=some c→c≠b)∧∀p∈X.pn++pins,p.1≠b):Inv X pins σ H' s':=by
 obtain⟨h',g',d',t',o'⟩:=s'
 have e:o'=s.os:=ho
 subst e
 exact I.call (g':=g') (t':=t') (d':=d') u hok hg hch
end
noncomputable abbrev XK:=Value→Option Addr→Hp→Prop
noncomputable abbrev St:=List (Option V)
noncomputable abbrev VK:=V→Hp→Prop
noncomputable abbrev TE:=St→Hp→VK→Prop
noncomputable abbrev TT:=St→Hp→(Bool→Hp→Prop)→Prop
noncomputable abbrev TA:=St→Hp→(List V→Hp→Prop)→Prop
structure Ends where
 nx:St→Hp→Prop
 rt:VK
 bk:St→Hp→Prop:=fun _ _=>False
 ct:St→Hp→Prop:=fun _ _=>False
noncomputable abbrev TS:=Ends→St→Hp→Prop
noncomputable def EP(X:Cx)(pins:List (Addr×Obj))(σ:St)(Q:VK)(u:Value)(s':Shared):Prop:=∃v H',Inv X pins σ H' s'∧RelV v u∧Q v H'
noncomputable def TP(X:Cx)(pins:List (Addr×Obj))(σ:St)(Q:Bool→Hp→Prop)(b:Bool)(s':Shared):Prop:=∃H',Inv X pins σ H' s'∧Q b H'
noncomputable def AP(X:Cx)(pins:List (Addr×Obj))(σ:St)(Q:List V→Hp→Prop)(us:List Value)(s':Shared):Prop:=∃vs H',Inv X pins σ H' s'∧Vals vs us∧Q vs H'
noncomputable def SP(X:Cx)(pins:List (Addr×Obj))(D:Ends)(f:Flow)(s':Shared):Prop:=
 match f with
 | .next=>∃σ' H',Inv X pins σ' H' s'∧D.nx σ' H'
 | .brk=>∃σ' H',Inv X pins σ' H' s'∧D.bk σ' H'
 | .cont=>∃σ' H',Inv X pins σ' H' s'∧D.ct σ' H'
 | .ret u=>∃v σ' H',Inv X pins σ' H' s'∧RelV v u∧D.rt v H'
noncomputable def PE(X:Cx)(e:Expr)(t:TE):Prop:=
 ∀(pins:List (Addr×Obj)) (s:Shared) (σ:St) (H:Hp) (Q:VK),Inv X pins σ H s→t σ H Q→wpAny (model X.prog X.w) X.A (eval e X.env) (EP X pins σ Q) X.xe s
noncomputable def PT(X:Cx)(e:Expr)(t:TT):Prop:=
 ∀(pins:List (Addr×Obj)) (s:Shared) (σ:St) (H:Hp) (Q:Bool→Hp→Prop),Inv X pins σ H s→t σ H Q→wpAny (model X.prog X.w) X.A (isTrue e X.env (eval e X.env)) (TP X pins σ Q) X.xe s
noncomputable def PW(X:Cx)(e:Expr)(t:TT):Prop:=
 ∀(whole:Sem Value) (pins:List (Addr×Obj)) (s:Shared) (σ:St) (H:Hp) (Q:Bool→Hp→Prop),Inv X pins σ H s→t σ H Q→wpAny (model X.prog X.w) X.A (isTrue e X.env whole) (TP X pins σ Q) X.xe s
theorem PW.pt{X:Cx}{e:Expr}{t:TT}(h:PW X e t):PT X e t:=h _
noncomputable def PA(X:Cx)(es:List Expr)(t:TA):Prop:=
 ∀(pos:Pos) (pins:List (Addr×Obj)) (s:Shared) (σ:St) (H:Hp) (Q:List V→Hp→Prop),Inv X pins σ H s→t σ H Q→wpAny (model X.prog X.w) X.A (spliced (backTo pos (starEach es X.env))) (AP X pins σ Q) X.xe s
noncomputable def PS(X:Cx)(st:Stmt)(t:TS):Prop:=
 ∀(pins:List (Addr×Obj)) (s:Shared) (σ:St) (H:Hp) (D:Ends),Inv X pins σ H s→t D σ H→wpAny (model X.prog X.w) X.A (exec st X.env) (SP X pins D) X.xe s
noncomputable def PSs(X:Cx)(st:List Stmt)(t:TS):Prop:=
 ∀(pins:List (Addr×Obj)) (s:Shared) (σ:St) (H:Hp) (D:Ends),Inv X pins σ H s→t D σ H→wpAny (model X.prog X.w) X.A (execs st X.env) (SP X pins D) X.xe s
theorem thn{α:Type}{t:Sem α}{Q Q': α→Shared→Prop}{M:Model}{A:Around}{E:Value→Shared→Prop}{s:Shared}(h:wpAny M A t Q E s)(hQ:∀a s,Q a s→Q' a s):wpAny M A t Q' E s:=wpAny_mono h hQ fun _ _ x=>x
end L2
namespace L2
open PySem PySem.Spec PyProof.Rows
section
variable {X:Cx}
noncomputable def tVar(i:Nat):TE:=fun σ H Q=>∃v,σ[i]?=some (some v)∧Q v H
noncomputable def tC(v:V):TE:=fun _ H Q=>Q v H
theorem kfx{i:Nat}{x:Str}{pos:Pos}(hN:X.N[i]?=some x)(hv:Vis X.env.scope x)(hd:(x==("__debug__" :Str))=false:=by decide)(hcd:(x==("__classdict__" :Str))=false:=by decide):PE X (.Name x pos) (tVar i):=by
 intro pins s σ H Q I h
 obtain⟨v,e,h⟩:=h
 obtain⟨m,hn,hl⟩:=I.loc
 obtain⟨u,r,l⟩:=hl i x v hN e hv
 have fin:EP X pins σ Q u s:=⟨v,H,I,r,h⟩
 rcases l with⟨hk,hm⟩|⟨hk,c,hc,hcell⟩
 ·exact wpAny_Name (wpAny_loadName_local I.ok.kind hk hn hm fin) hd
 ·rcases hk with hk|hk
  ·exact wpAny_Name (wpAny_loadName_cell I.ok.kind hk hc hcell fin) hd
  ·exact wpAny_Name (wpAny_loadName_free I.ok.kind hk hc hcell fin hcd) hd
theorem kab{i j pos}:PE X (.Constant (.int i) j pos) (tC (.int i)):=fun _ _ _ H _ I h=>wpAny_Constant_int ⟨.int i,H,I.tok _,⟨_,rfl⟩,h⟩
theorem pe_bl{b j pos}:PE X (.Constant (.bool b) j pos) (tC (.bl b)):=fun _ _ _ H _ I h=>Constant_bool ⟨.bl b,H,I,rfl,h⟩
theorem kbi{j pos}:PE X (.Constant .none j pos) (tC .non):=fun _ _ _ H _ I h=>Constant_none ⟨.non,H,I,rfl,h⟩
theorem kaO{x j pos}:PE X (.Constant (.str x) j pos) (tC (.str x)):=fun _ _ _ H _ I h=>Calls.Constant_str ⟨.str x,H,I.tok _,⟨_,rfl⟩,h⟩
noncomputable def Gl(X:Cx)(x:Str):Prop:=X.env.kindOf x=some .globalImplicit
theorem kb7{E:Value→Shared→Prop}{pins:List (Addr×Obj)}{s:Shared}{σ:St}{H:Hp}{x:Str}{u:Value}{pos:Pos}{Q:Value→Shared→Prop}(I:Inv X pins σ H s)(hg:Gl X x)(hm:X.mg x=some u)(h:Q u s)
  (hd:(x==("__debug__" :Str))=false:=by decide):wpAny (model X.prog X.w) X.A (eval (.Name x pos) X.env) Q E s:=
 Calls.Name_function_global I.ok.kind hg (Calls.loadGlobal_global (by rw[I.ok.glob];exact I.mod.glob.keeps I.bk) hm h) hd
theorem kb8{E:Value→Shared→Prop}{pins:List (Addr×Obj)}{s:Shared}{σ:St}{H:Hp}{x:Str}{u:Value}{pos:Pos}{Q:Value→Shared→Prop}(I:Inv X pins σ H s)(hg:Gl X x)(hm:X.mg x=none)(hv:bootBuiltins x=some u)(h:Q u s)
  (hn:x≠"__name__":=by decide) (hd:(x==("__debug__" :Str))=false:=by decide):wpAny (model X.prog X.w) X.A (eval (.Name x pos) X.env) Q E s:=by
 obtain⟨mb,h1,h2⟩:=I.mod.blt
 exact Calls.Name_function_global I.ok.kind hg (Calls.loadGlobal_builtin (by rw[I.ok.glob];exact I.mod.glob.keeps I.bk) hm (by rw[I.ok.blt];exact h1.keeps I.bk) ((h2 x hn).trans hv) h) hd
theorem kbK{x:Str}{v:V}{u:Value}{pos:Pos}(hg:Gl X x)(hm:X.mg x=some u)(r:RelV v u)(hd:(x==("__debug__" :Str))=false:=by decide):PE X (.Name x pos) (tC v):=
 fun _ _ _ H _ I h=>kb7 I hg hm ⟨v,H,I,r,h⟩ hd
theorem kaV{x:Str}{v:V}{u:Value}{pos:Pos}(hg:Gl X x)(hm:X.mg x=none)(hv:bootBuiltins x=some u)(r:RelV v u)(hn:x≠"__name__":=by decide)(hd:(x==("__debug__" :Str))=false:=by decide):PE X (.Name x pos) (tC v):=
 fun _ _ _ H _ I h=>kb8 I hg hm hv ⟨v,H,I,r,h⟩ hn hd
variable {a b:Expr} {ta tb:TE} {pos:Pos}
noncomputable def tB(t:TE):TT:=fun σ H Q=>t σ H fun x H1=>∃c,x=.bl c∧Q c H1
theorem ka0{e:Expr}{t:TE}(h:PE X e t)(he:∀whole,isTrue e X.env whole=(do let v ←whole;standAt e.pos;holding [v] (truthy v)):=by intro _;rfl):PT X e (tB t):=by
 intro pins s σ H Q I hw
 refine isTrue_plain (thn (h pins s σ H _ I hw) fun v s1 ⟨x,H1,I1,r1,q1⟩=>?_) (he _)
 obtain⟨d,rfl,q⟩:=q1
 cases r1
 exact wpAny_truthy_bool ⟨H1,I1,q⟩
variable {tA tB':TT} {rest:List Expr}
noncomputable def tAnd(t u:TT):TT:=fun σ H Q=>t σ H fun c H1=>if c=true then u σ H1 Q else Q false H1
noncomputable def tOr(t u:TT):TT:=fun σ H Q=>t σ H fun c H1=>if c=true then Q true H1 else u σ H1 Q
noncomputable def tNot(t:TT):TT:=fun σ H Q=>t σ H fun c H1=>Q (!c) H1
theorem ke9(ha:PT X a tA):PW X (.BoolOp .And [a] pos) tA:=by
 intro wh pins s σ H Q I h
 refine isTrue_and (thn (ha pins s σ H Q I h) fun c s1 e=>?_)
 cases c with
 |true=>exact isTrue_and_nil e
 |false=>exact e
theorem keU(ha:PT X a tA):PW X (.BoolOp .Or [a] pos) tA:=by
 intro wh pins s σ H Q I h
 refine isTrue_or (thn (ha pins s σ H Q I h) fun c s1 e=>?_)
 cases c with
 |false=>exact isTrue_or_nil e
 |true=>exact e
theorem kfu(ha:PT X a tA)(hb:PW X (.BoolOp .And (b::rest) pos) tB'):PW X (.BoolOp .And (a::b::rest) pos) (tAnd tA tB'):=by
 intro wh pins s σ H Q I h
 refine isTrue_and (thn (ha pins s σ H _ I h) fun c s1 ⟨H1,I1,q1⟩=>?_)
 cases c with
 |true=>exact hb wh pins s1 σ H1 Q I1 q1
 |false=>exact⟨H1,I1,q1⟩
theorem pw_or(ha:PT X a tA)(hb:PW X (.BoolOp .Or (b::rest) pos) tB'):PW X (.BoolOp .Or (a::b::rest) pos) (tOr tA tB'):=by
 intro wh pins s σ H Q I h
 refine isTrue_or (thn (ha pins s σ H _ I h) fun c s1 ⟨H1,I1,q1⟩=>?_)
 cases c with
 |true=>exact⟨H1,I1,q1⟩
 |false=>exact hb wh pins s1 σ H1 Q I1 q1
theorem kcl(ha:PT X a tA):PT X (.UnaryOp .Not a pos) (tNot tA):=by
 intro pins s σ H Q I h
 exact isTrue_not (ha pins s σ H (fun c H1=>Q (!c) H1) I h)
noncomputable def tAndV(ta tb:TE):TE:=fun σ H Q=>ta σ H fun x H1=>∃c,x=.bl c∧if c=true then tb σ H1 Q else Q (.bl false) H1
noncomputable def tNotV(ta:TE):TE:=fun σ H Q=>ta σ H fun x H1=>∃c,x=.bl c∧Q (.bl (!c)) H1
theorem kcM{op}{t:TE}(h:PE X a t):PE X (.BoolOp op [a] pos) t:=fun pins s σ H Q I hw=>BoolOp_one (h pins s σ H Q I hw)
theorem kcm(ha:PE X a ta)(hb:PE X (.BoolOp .And (b::rest) pos) tb):PE X (.BoolOp .And (a::b::rest) pos) (tAndV ta tb):=by
 intro pins s σ H Q I h
 refine BoolOp_and (thn (ha pins s σ H _ I h) fun v s1 ⟨x,H1,I1,r1,q1⟩=>?_)
 obtain⟨c,rfl,q1⟩:=q1
 cases r1
 refine wpAny_truthy_bool ?_
 cases c with
 |true=>exact hb pins s1 σ H1 Q I1 q1
 |false=>exact⟨.bl false,H1,I1,rfl,q1⟩
theorem kfy(ha:PE X a ta):PE X (.UnaryOp .Not a pos) (tNotV ta):=by
 intro pins s σ H Q I h
 refine UnaryOp_ (thn (ha pins s σ H _ I h) fun v s1 ⟨x,H1,I1,r1,q1⟩=>?_)
 obtain⟨c,rfl,q1⟩:=q1
 cases r1
 exact not_of (wpAny_truthy_bool ⟨.bl (!c),H1,I1,rfl,q1⟩)
noncomputable def tIf(t:TT)(ta tb:TE):TE:=fun σ H Q=>t σ H fun c H1=>if c=true then ta σ H1 Q else tb σ H1 Q
theorem kez{c:Expr}(hc:PT X c tA)(ha:PE X a ta)(hb:PE X b tb):PE X (.IfExp c a b pos) (tIf tA ta tb):=by
 intro pins s σ H Q I h
 refine wpAny_IfExp (thn (hc pins s σ H _ I h) fun d s1 ⟨H1,I1,q1⟩=>?_)
 cases d with
 |true=>exact ha pins s1 σ H1 Q I1 q1
 |false=>exact hb pins s1 σ H1 Q I1 q1
end
end L2
namespace L2
open PySem PySem.Spec PyProof.Rows
noncomputable def SqL(K:XQ)(H:Hp)(a:Addr)(xs:List V):Prop:=
 Rd H a (.lst xs)∨
  ∃(o:Obj) (its:Array Value) (n:Nat),K.lookup a=some o∧o.cls=.type "list"∧o.dict=none∧o.data=.seq its n∧its.size≤sizeLine∧Vals xs its.toList
noncomputable def SqT(K:XQ)(H:Hp)(a:Addr)(xs:List V):Prop:=
 Rd H a (.tup xs)∨
  ∃(o:Obj) (its:Array Value) (n:Nat),K.lookup a=some o∧o.cls=.type "tuple"∧o.data=.seq its n∧its.size≤sizeLine∧Vals xs its.toList
noncomputable def absV:Value→Option V
 | .none=>some .non
 | .bool b=>some (.bl b)
 | .int i _=>some (.int i)
 | .str x _=>some (.str x)
 | .bytes b _=>some (.byt b)
 | .float b _=>some (.flt b)
 | .ref a=>some (.ref a)
 | .type n=>some (.ty n)
 |_=>none
theorem RelV.abs{x:V}{u:Value}(r:RelV x u):absV u=some x:=by
 cases x with
 |non=>cases r;rfl
 |bl _=>cases r;rfl
 |int _=>obtain⟨t,rfl⟩:=r;rfl
 |str _=>obtain⟨t,rfl⟩:=r;rfl
 |byt _=>obtain⟨t,rfl⟩:=r;rfl
 |flt _=>obtain⟨t,rfl⟩:=r;rfl
 |ref _=>cases r;rfl
 |ty _=>cases r;rfl
theorem RelV.inj{x y:V}{u:Value}(r:RelV x u)(q:RelV y u):x=y:=Option.some.inj (r.abs.symm.trans q.abs)
theorem Vals.inj:∀{xs ys:List V} {us:List Value},Vals xs us→Vals ys us→xs=ys
 |_,_,_, .nil, .nil=>rfl
 |_,_,_, .cons r t, .cons r' t'=>by rw[r.inj r',Vals.inj t t']
section
variable {X:Cx} {pins:List (Addr×Obj)} {σ:St} {H:Hp} {s:Shared} {a:Addr} {xs ys:List V}
theorem SqL.of{K:XQ}(h:H a=some (.lst xs)):SqL K H a xs:=.inl (.inl h)
theorem SqT.of{K:XQ}(h:H a=some (.tup xs)):SqT K H a xs:=.inl (.inl h)
theorem Inv.list(I:Inv X pins σ H s)(h:SqL X.K H a xs):∃its:List Value,Vals xs its∧PlainL s.heap a its.toArray∧xs.length≤sizeLine:=by
 rcases h with h|⟨o,its,n,hk,hc,hd,hs,hz,r⟩
 ·obtain⟨z,its,n,r,e⟩:=h.ok I.hok
  exact⟨its,r,⟨_,n,e,rfl,rfl,rfl⟩,z⟩
 ·refine⟨its.toList,r,⟨o,n,I.kIn a o hk,hc,hd,by simpa using hs⟩,?_⟩
  have e:=r.length
  simp only[Array.length_toList] at e
  omega
theorem Inv.tuple(I:Inv X pins σ H s)(h:SqT X.K H a xs):∃its:List Value,Vals xs its∧IsTup s.heap a its.toArray∧xs.length≤sizeLine:=by
 rcases h with h|⟨o,its,n,hk,hc,hs,hz,r⟩
 ·obtain⟨z,its,r,p⟩:=h.ok I.hok
  exact⟨its,r,p,z⟩
 ·refine⟨its.toList,r,⟨o,I.kIn a o hk,hc,n,by simpa using hs⟩,?_⟩
  have e:=r.length
  simp only[Array.length_toList] at e
  omega
theorem Inv.list_inj(I:Inv X pins σ H s)(h:SqL X.K H a xs)(h':SqL X.K H a ys):xs=ys:=by
 obtain⟨its,r,⟨o,n,e,_,_,d⟩,_⟩:=I.list h
 obtain⟨its',r',⟨o',n',e',_,_,d'⟩,_⟩:=I.list h'
 rw[e] at e';cases e'
 rw[d] at d'
 injection d' with d1 _
 have:its=its':=by simpa using congrArg Array.toList d1
 subst this
 exact r.inj r'
end
noncomputable abbrev Cx.wish(X:Cx)(E:Value→Shared→Prop):Cx:={X with xe:=E}
noncomputable abbrev Cx.nox(X:Cx):Cx:=X.wish fun _ _=>False
theorem Cx.Ok.wish{X:Cx}(ok:X.Ok)(E:Value→Shared→Prop):(X.wish E).Ok:=
 ⟨ok.mod,ok.kind,ok.glob,ok.blt,ok.above,ok.inj,ok.has,ok.cab,ok.hd,ok.frames,ok.stk,ok.exf,ok.bs,ok.bsz,ok.noex,ok.exfs,ok.funs,ok.frf⟩
theorem Cx.Ok.unwish{X:Cx}{E:Value→Shared→Prop}(ok:(X.wish E).Ok):X.Ok:=
 ⟨ok.mod,ok.kind,ok.glob,ok.blt,ok.above,ok.inj,ok.has,ok.cab,ok.hd,ok.frames,ok.stk,ok.exf,ok.bs,ok.bsz,ok.noex,ok.exfs,ok.funs,ok.frf⟩
section
variable {X:Cx} {pins:List (Addr×Obj)} {σ:St} {H:Hp} {s:Shared} {E:Value→Shared→Prop}
theorem Inv.wish(I:Inv X pins σ H s)(E:Value→Shared→Prop):Inv (X.wish E) pins σ H s:=⟨I.ok.wish E,I.os,I.bare,I.base,I.loc,I.cell,I.free,I.freeC,I.pin,I.hok,I.len⟩
theorem Inv.unwish(I:Inv (X.wish E) pins σ H s):Inv X pins σ H s:=⟨I.ok.unwish,I.os,I.bare,I.base,I.loc,I.cell,I.free,I.freeC,I.pin,I.hok,I.len⟩
theorem SP.unwish{D:Ends}{f:Flow}{s':Shared}(h:SP (X.wish E) pins D f s'):SP X pins D f s':=by
 cases f with
 |next=>obtain⟨σ',H',I,q⟩:=h;exact⟨σ',H',I.unwish,q⟩
 |brk=>obtain⟨σ',H',I,q⟩:=h;exact⟨σ',H',I.unwish,q⟩
 |cont=>obtain⟨σ',H',I,q⟩:=h;exact⟨σ',H',I.unwish,q⟩
 |ret u=>obtain⟨v,σ',H',I,r,q⟩:=h;exact⟨v,σ',H',I.unwish,r,q⟩
theorem PE.nox{e:Expr}{t:TE}(h:PE X.nox e t):PE X e t:=fun pins s σ H Q I hw=>
 wpAny_mono (h pins s σ H Q (I.wish _) hw) (fun _ _ ⟨v,H',I',r,q⟩=>⟨v,H',I'.unwish,r,q⟩) fun _ _ z=>False.elim z
theorem PT.nox{e:Expr}{t:TT}(h:PT X.nox e t):PT X e t:=fun pins s σ H Q I hw=>
 wpAny_mono (h pins s σ H Q (I.wish _) hw) (fun _ _ ⟨H',I',q⟩=>⟨H',I'.unwish,q⟩) fun _ _ z=>False.elim z
theorem PSs.nox{st:List Stmt}{t:TS}(h:PSs X.nox st t):PSs X st t:=fun pins s σ H D I hw=>
 wpAny_mono (h pins s σ H D (I.wish _) hw) (fun _ _ q=>q.unwish) fun _ _ z=>False.elim z
end
section
variable {X:Cx} {st:Stmt} {rest:List Stmt} {t u:TS} {e:Expr} {te:TE} {pos:Pos}
noncomputable def tNext:TS:=fun D σ H=>D.nx σ H
noncomputable def tSeq(t u:TS):TS:=fun D σ H=>t {D with nx:=u D} σ H
theorem kat:PSs X [] tNext:=fun _ _ σ H _ I h=>wpAny_execs_nil ⟨σ,H,I,h⟩
theorem kac(h1:PS X st t)(h2:PSs X rest u):PSs X (st::rest) (tSeq t u):=by
 intro pins s σ H D I h
 refine wpAny_execs_cons (thn (h1 pins s σ H {D with nx:=u D} I h) fun f s1 q=>?_)
 cases f with
 |next=>
  obtain⟨σ',H',I',q⟩:=q
  exact h2 pins s1 σ' H' D I' q
 |ret v=>exact q
 |brk=>exact q
 |cont=>exact q
theorem kah(h1:PS X st t):PSs X [st] t:=by
 intro pins s σ H D I h
 refine wpAny_execs_cons (thn (h1 pins s σ H D I h) fun f s1 q=>?_)
 cases f with
 |next=>exact wpAny_execs_nil q
 |ret v=>exact q
 |brk=>exact q
 |cont=>exact q
theorem Inv.quiet{pins:List (Addr×Obj)}{σ:St}{H:Hp}{s:Shared}(I:Inv X pins σ H s):interactive X.env=false:=by simp[interactive,I.ok.kind]
noncomputable def tDrop(te:TE):TS:=fun D σ H=>te σ H fun _ H1=>D.nx σ H1
theorem kaY(he:PE X e te)(hs:swapsWith e none pos.line X.env=pure false:=by rfl):PS X (.Expr e pos) (tDrop te):=by
 intro pins s σ H D I h
 exact wpAny_Expr_any (thn (he pins s σ H _ I h) fun v s1 ⟨x,H1,I1,r1,q1⟩=>⟨σ,H1,I1,q1⟩) I.quiet hs
noncomputable def tRet(te:TE):TS:=fun D σ H=>te σ H D.rt
theorem kas(he:PE X e te):PS X (.Return (some e) pos) (tRet te):=by
 intro pins s σ H D I h
 exact wpAny_Return_some (thn (he pins s σ H _ I h) fun v s1 ⟨x,H1,I1,r1,q1⟩=>⟨x,σ,H1,I1,r1,q1⟩)
noncomputable def tIfS(c:TT)(t u:TS):TS:=fun D σ H=>c σ H fun b H1=>if b=true then t D σ H1 else u D σ H1
theorem ps_if{c:Expr}{a b:List Stmt}{tc:TT}(hc:PT X c tc)(ha:PSs X a t)(hb:PSs X b u):PS X (.If c a b pos) (tIfS tc t u):=by
 intro pins s σ H D I h
 refine wpAny_If (thn (hc pins s σ H _ I h) fun d s1 ⟨H1,I1,q1⟩=>?_)
 cases d with
 |true=>exact ha pins s1 σ H1 D I1 q1
 |false=>exact hb pins s1 σ H1 D I1 q1
end
noncomputable abbrev TG:=V→St→Hp→(St→Hp→Prop)→Prop
noncomputable abbrev TGs:=List V→St→Hp→(St→Hp→Prop)→Prop
noncomputable def PG(X:Cx)(target:Expr)(t:TG):Prop:=
 ∀(pins:List (Addr×Obj)) (s:Shared) (σ:St) (H:Hp) (v:V) (u:Value) (Q:St→Hp→Prop),Inv X pins σ H s→RelV v u→t v σ H Q→
  wpAny (model X.prog X.w) X.A (assign target X.env u) (fun _ s'=>∃σ' H',Inv X pins σ' H' s'∧Q σ' H') X.xe s
noncomputable def PGs(X:Cx)(ts:List Expr)(t:TGs):Prop:=
 ∀(pins:List (Addr×Obj)) (s:Shared) (σ:St) (H:Hp) (vs:List V) (us:List Value) (Q:St→Hp→Prop),Inv X pins σ H s→Vals vs us→t vs σ H Q→
  wpAny (model X.prog X.w) X.A (assignInOrder ((assignEach ts X.env).map (·.2)) us) (fun _ s'=>∃σ' H',Inv X pins σ' H' s'∧Q σ' H') X.xe s
noncomputable abbrev TSet:=V→V→V→Hp→(Hp→Prop)→Prop
noncomputable def PSet(X:Cx)(t:TSet):Prop:=
 ∀(pins:List (Addr×Obj)) (s:Shared) (σ:St) (H:Hp) (o i v:V) (ov iv u:Value) (Q:Hp→Prop),Inv X pins σ H s→RelV o ov→RelV i iv→RelV v u→t o i v H Q→
  wpAny (model X.prog X.w) X.A (setItem ov iv u) (fun _ s'=>∃H',Inv X pins σ H' s'∧Q H') X.xe s
section
variable {X:Cx} {pos:Pos}
noncomputable def gName(i:Nat):TG:=fun v σ H Q=>Q (σ.set i (some v)) H
theorem kba{i:Nat}{x:Str}(hN:X.N.Nodup)(hi:X.N[i]?=some x)(hx:Loc X.env.scope x)(hf:X.fn x=true∨X.env.scope.names.lookup x=some .local:=by first|exact .inl rfl|exact .inr rfl|assumption):PG X (.Name x pos) (gName i):=by
 intro pins s σ H v u Q I r h
 exact wpAny_assign_Name (kdi I hN hi hx r (fun s' I'=>⟨_,H,I',h⟩) hf)
noncomputable def gNil:TGs:=fun vs σ H Q=>vs=[]∧Q σ H
noncomputable def gCons(t:TG)(u:TGs):TGs:=fun vs σ H Q=>∃v r,vs=v::r∧t v σ H fun σ' H'=>u r σ' H' Q
theorem kd0:PGs X [] gNil:=by
 intro pins s σ H vs us Q I r h
 obtain⟨e,h⟩:=h
 subst e
 cases r
 exact assignInOrder_nil ⟨σ,H,I,h⟩
theorem kbS{e:Expr}{es:List Expr}{t:TG}{u:TGs}(h1:PG X e t)(h2:PGs X es u)
  (hs:(assignEach (e::es) X.env).map (·.2)=assign e X.env::(assignEach es X.env).map (·.2):=by rfl):PGs X (e::es) (gCons t u):=by
 intro pins s σ H vs us Q I r h
 obtain⟨v,vr,e1,h⟩:=h
 subst e1
 cases r with
 |cons r rr=>
  rw[hs]
  refine assignInOrder_cons (thn (h1 pins s σ H _ _ _ I r h) fun _ s1 ⟨σ1,H1,I1,q1⟩=>?_)
  exact h2 pins s1 σ1 H1 _ _ Q I1 rr q1
noncomputable def gTup(K:XQ)(n:Nat)(t:TGs):TG:=fun v σ H Q=>∃a xs,v=.ref a∧SqT K H a xs∧xs.length=n∧t xs σ H Q
theorem kfw{es:List Expr}{k:Nat}{t:TGs}{n:Nat}(hc:X.calm=true)(h:PGs X es t)
  (hn:(assignEach es X.env).length=n:=by rfl) (hst:(assignEach es X.env).findIdx? (·.1)=none:=by rfl):PG X (.Tuple es k pos) (gTup X.K n t):=by
 intro pins s σ H v u Q I r hw
 obtain⟨a,xs,e1,hq,hl,hw⟩:=hw
 subst e1
 cases r
 obtain⟨its,rv,ht,hz⟩:=I.tuple hq
 refine assign_Tuple_tuple (I.ok.hd hc) ht (by simp[hn,←hl,rv.length]) hst fun h' hx=>?_
 have I1:Inv X pins σ H {s with heap:=h'}:=I.kept (t':=s.toks) fun b o e=>hx b o (X2 (Heap.lt_size e)) e
 exact h pins _ σ H xs _ Q I1 (by simpa using rv) hw
noncomputable def gSub(to ti:TE)(t:TSet):TG:=fun v σ H Q=>to σ H fun o H1=>ti σ H1 fun i H2=>t o i v H2 fun H3=>Q σ H3
theorem keX{o i:Expr}{to ti:TE}{t:TSet}(ho:PE X o to)(hi:PE X i ti)(hs:PSet X t)
  (ha:∀v,assign (.Subscript o i pos) X.env v=(do
   let ov ←holding [v] (eval o X.env)
   let iv ←holding [v,ov] (eval i X.env)
   standAt pos
   holding [v,ov,iv] (setItem ov iv v)
   release [v,ov,iv] []):=by intro _;rfl):PG X (.Subscript o i pos) (gSub to ti t):=by
 intro pins s σ H v u Q I r h
 rw[ha]
 refine wpAny_bind (wpAny_holding (thn (ho pins s σ H _ I h) fun ov s1 ⟨x,H1,I1,r1,q1⟩=>?_))
 refine wpAny_bind (wpAny_holding (thn (hi pins s1 σ H1 _ I1 q1) fun iv s2 ⟨y,H2,I2,r2,q2⟩=>?_))
 refine wpAny_bind (wpAny_standAt (wpAny_bind (wpAny_holding (thn (hs pins s2 σ H2 x y v ov iv u _ I2 r1 r2 r q2) fun _ s3 ⟨H3,I3,q3⟩=>?_))))
 exact wpAny_release ⟨σ,H3,I3,q3⟩
noncomputable def tAsg(te:TE)(g:TG):TS:=fun D σ H=>te σ H fun x H1=>g x σ H1 D.nx
theorem keW{tg e:Expr}{te:TE}{g:TG}(he:PE X e te)(hg:PG X tg g)(hs:swapsWithSole [tg] e pos.line X.env=pure false:=by rfl)(hw:swappedStores [tg] e X.env=pure none:=by rfl)
  (h1:(assignEach [tg] X.env).map (·.2)=[assign tg X.env]:=by rfl):PS X (.Assign [tg] e pos) (tAsg te g):=by
 intro pins s σ H D I h
 refine wpAny_Assign_stores (thn (he pins s σ H _ I h) fun v s1 ⟨x,H1,I1,r1,q1⟩=>?_) hs hw
 rw[h1]
 exact thn (hg pins s1 σ H1 x v _ I1 r1 q1) fun _ s2 q=>q
theorem kaH{i:Nat}{x:Str}{e:Expr}{te:TE}{pos':Pos}(hN:X.N.Nodup)(hi:X.N[i]?=some x)(hx:Loc X.env.scope x)(he:PE X e te)(hs:swapsWith e (some (.Name x pos')) pos.line X.env=pure false:=by rfl)(hf:X.fn x=true∨X.env.scope.names.lookup x=some .local:=by first|exact .inl rfl|exact .inr rfl|assumption):
  PS X (.Assign [.Name x pos'] e pos) (tAsg te (gName i)):=by
 intro pins s σ H D I h
 refine wpAny_Assign_Name (thn (he pins s σ H _ I h) fun v s1 ⟨y,H1,I1,r1,q1⟩=>?_) hs
 exact kdi I1 hN hi hx r1 (fun s2 I2=>⟨_,H1,I2,q1⟩) hf
end
section
variable {X:Cx} {pos:Pos}
end
structure It where
 go:Nat→Hp→Prop
 yld:Nat→Hp→V→Hp→Prop
 stop:Nat→Hp→Prop
noncomputable def FpOk(X:Cx)(pins:List (Addr×Obj))(H:Hp)(b:Addr):Prop:=
 H b=none∧b≠X.env.locals∧b∉X.fs∧(b∈X.ex∨X.s₀.heap.objs.size≤b)∧(∀x c,X.env.cells.lookup x=some c→c≠b)∧∀p∈X.pn++pins,p.1≠b
theorem Inv.fpOk{X:Cx}{pins:List (Addr×Obj)}{σ:St}{H H':Hp}{s:Shared}{b:Addr}(I:Inv X pins σ H s)(hb:s.heap.objs.size≤b)(hn:H' b=none):FpOk X pins H' b:=by
 refine⟨hn,Yp (X3 I.lt hb),I.nofs hb, .inr (XZ I.sz hb),fun x c e z=>?_,fun p hp z=>?_⟩
 ·obtain⟨v,q⟩:=I.cell x c e
  exact absurd (X3 q.lt (by rw[z];exact hb)) (Ym _)
 ·exact absurd (X3 (Heap.lt_size (I.pin p hp).1) (by rw[z];exact hb)) (Ym _)
structure Turn (P:Program) (w:World) (K:XQ) (tg:Expr) (J:It) (fp:List Addr) (it:Addr) (tn:Nat→Heap→Prop):Prop where
 mem:it∈fp
 obj:∀i h,tn i h→∀b∈fp,∃o,h.get? b=some o∧∀v,o.data≠.cell v
 keep:∀i h h',tn i h→(∀b∈fp,∀o,h.get? b=some o→h'.get? b=some o)→tn i h'
 item:∀(X:Cx),X.prog=P→X.w=w→X.K=K→X.calm=true→∀(i:Nat) (pins:List (Addr×Obj)) (s:Shared) (σ:St) (H:Hp) (E:Value→Shared→Prop),Inv X pins σ H s→(∀b∈fp,FpOk X pins H b)→tn i s.heap→J.go i H→
  wpAny (model P w) X.A (pyNext (.ref it)) (fun r s1=>∃u,r=some u∧
   wpAny (model P w) X.A (letOwnedTupleGo tg (.ref it) u) (fun _ s2=>∃x H',Inv X pins σ H' s2∧RelV x u∧J.yld i H x H'∧tn (i+1) s2.heap∧∀b∈fp,H' b=none) E s1) E s
 done:∀(X:Cx),X.prog=P→X.w=w→X.K=K→X.calm=true→∀(i:Nat) (pins:List (Addr×Obj)) (s:Shared) (σ:St) (H:Hp) (E:Value→Shared→Prop),Inv X pins σ H s→(∀b∈fp,FpOk X pins H b)→tn i s.heap→J.stop i H→
  wpAny (model P w) X.A (pyNext (.ref it)) (fun r s1=>r=none∧Inv X pins σ H s1) E s
 self:∀(A:Around) (i:Nat) (s:Shared) (Q:Value→Shared→Prop) (E:Value→Shared→Prop),tn i s.heap→Q (.ref it) s→wpAny (model P w) A (pyIter (.ref it)) Q E s
noncomputable abbrev TI:=St→Hp→(It→Hp→Prop)→Prop
noncomputable def PIE(X:Cx)(pins:List (Addr×Obj))(σ:St)(tg:Expr)(R:It→Hp→Prop)(itv:Value)(s2:Shared):Prop:=
 ∃(it:Addr) (fp:List Addr) (tn:Nat→Heap→Prop) (J:It) (H':Hp),itv=.ref it∧Inv X pins σ H' s2∧Turn X.prog X.w X.K tg J fp it tn∧tn 0 s2.heap∧(∀b∈fp,FpOk X pins H' b)∧R J H'
noncomputable def PI(X:Cx)(tg iter:Expr)(wi:TI):Prop:=
 ∀(pins:List (Addr×Obj)) (s:Shared) (σ:St) (H:Hp) (R:It→Hp→Prop),Inv X pins σ H s→wi σ H R→
  wpAny (model X.prog X.w) X.A (eval iter X.env) (fun v s1=>wpAny (model X.prog X.w) X.A (pyIter v) (PIE X pins σ tg R) X.xe s1) X.xe s
theorem go_of{M:Model}{A:Around}{E:Value→Shared→Prop}{s:Shared}{tg:Expr}{it:Addr}{u:Value}{o:Obj}{n:String}{vs:Array Value}{Q:Unit→Shared→Prop}(ho:s.heap.get? it=some o)(hc:o.cls=.type n)(hd:o.data=.fields vs)
    (hn:["enumerate","zip","dict_itemiterator","dict_reverseitemiterator","odict_iterator","itertools.zip_longest","itertools.pairwise"].contains n=false) (hQ:Q () s):wpAny M A (letOwnedTupleGo tg (.ref it) u) Q E s:=by
  unfold letOwnedTupleGo
  cases tg <;> first
    |exact wpAny_pure hQ
    |(cases u <;> first
        |exact wpAny_pure hQ
        | (refine wpAny_bind (wpAny_load ho ?_)
           rw[hc,hd]
           show wpAny M A (if(["enumerate","zip","dict_itemiterator","dict_reverseitemiterator","odict_iterator","itertools.zip_longest","itertools.pairwise"].contains n&&vs[0]? ==some (rawInt _))=true then _ else _) Q E s
           rw[if_neg (by intro h;rw[hn,Bool.false_and] at h;cases h)]
           exact wpAny_pure hQ))
noncomputable def Itl(K:XQ)(a:Addr):It:=
 ⟨fun i H=>∃xs x,SqL K H a xs∧xs[i]?=some x,fun i H x H'=>H'=H∧∀xs,SqL K H a xs→xs[i]?=some x,fun i H=>∃xs,SqL K H a xs∧xs.length≤i⟩
noncomputable def Itr(lo:Int)(n:Nat):It:=⟨fun i _=>i<n,fun i H x H'=>H'=H∧x=.int (lo+i),fun i _=>n≤i⟩
theorem kdM{P:Program}{w:World}{K:XQ}{tg:Expr}(a it:Addr):Turn P w K tg (Itl K a) [it] it (fun i h=>h.IsListIter it a i) where
 mem:=by simp
 obj:=fun i h st b hb=>by
  have e:b=it:=by simpa using hb
  subst e
  obtain⟨o,e,c,d⟩:=st
  exact⟨o,e,fun v z=>by rw[d] at z;cases z⟩
 keep:=fun i h h' st k=>st.at fun o e=>k it (by simp) o e
 item:=by
  intro X hP hw hK hc i pins s σ H E I hf st hg
  subst hP hw hK
  obtain⟨xs,x,hq,hx⟩:=hg
  obtain⟨its,rv,p,hz⟩:=I.list hq
  obtain⟨u,hu,ru⟩:=rv.get hx
  obtain⟨f0,f1,f2,f3,f4,f5⟩:=hf it (by simp)
  refine wpAny_pyNext_list_item st p.isList (x:=u) (by simpa using hu) fun h' st' sb=>?_
  have I1:Inv X pins σ H {s with heap:=h'}:=I.turned (t':=s.toks) (fun b o hb e=>(sb.2 b hb).trans e) f0 f1 f3 f4 f5
  obtain⟨o,e,c,d⟩:=id st'
  exact⟨u,rfl,go_of (s:={s with heap:=h'}) e c d (by decide) ⟨x,H,I1,ru,⟨rfl,fun ys hy=>by rw[I.list_inj hy hq];exact hx⟩,st',fun b hb=>(hf b hb).1⟩⟩
 done:=by
  intro X hP hw hK hc i pins s σ H E I hf st hg
  subst hP hw hK
  obtain⟨xs,hq,hx⟩:=hg
  obtain⟨its,rv,p,hz⟩:=I.list hq
  obtain⟨f0,f1,f2,f3,f4,f5⟩:=hf it (by simp)
  have hl:=rv.length
  exact wpAny_pyNext_list_end (I.ok.hd hc) st p.isList (by simp;omega) fun h' eb=>⟨rfl,I.turned (t':=s.toks) (fun b o hb e=>eb b o hb e) f0 f1 f3 f4 f5⟩
 self:=fun _ _ _ _ _ st h=>wpAny_pyIter_listiter st h
theorem kdC{P:Program}{w:World}{K:XQ}{tg:Expr}(it:Addr)(lo:Int)(n:Nat):Turn P w K tg (Itr lo n) [it] it (fun i h=>IsRangeIter h it (lo+(i:Nat)*1) ((n:Int)-(i:Nat)) 1) where
 mem:=by simp
 obj:=fun i h st b hb=>by
  have e:b=it:=by simpa using hb
  subst e
  exact⟨_,st,fun v z=>by
   have z':Data.fields _=Data.cell v:=z
   cases z'⟩
 keep:=fun i h h' st k=>k it (by simp) _ st
 item:=by
  intro X hP hw hK hc i pins s σ H E I hf st hg
  subst hP hw hK
  obtain⟨f0,f1,f2,f3,f4,f5⟩:=hf it (by simp)
  have W:=Walks.range (prog:=X.prog) (w:=X.w) (I.ok.hd hc) it lo 1 n
  refine W.item i s _ _ hg st fun v h' tk hv st' kk=>?_
  obtain⟨t,rfl⟩:=hv
  have I1:Inv X pins σ H {s with heap:=h',toks:=tk}:=I.turned (fun b o hb e=>kk b o (by simpa using hb) e) f0 f1 f3 f4 f5
  refine⟨_,rfl,go_of (s:={s with heap:=h',toks:=tk}) (n:="range_iterator") st' rfl rfl (by decide) ⟨.int (lo+i),H,I1,⟨t,?_⟩,⟨rfl,rfl⟩,st',fun b hb=>(hf b hb).1⟩⟩
  rw[Int.mul_one]
 done:=by
  intro X hP hw hK hc i pins s σ H E I hf st hg
  subst hP hw hK
  obtain⟨f0,f1,f2,f3,f4,f5⟩:=hf it (by simp)
  exact wpAny_pyNext_range_end (I.ok.hd hc) st (by have:n≤i:=hg;omega) fun h' eb=>⟨rfl,I.turned (t':=s.toks) (fun b o hb e=>eb b o hb e) f0 f1 f3 f4 f5⟩
 self:=fun _ _ _ _ _ st h=>wpAny_pyIter_rangeiter st h
end L2
namespace L2
open PySem PySem.Spec PyProof.Rows
section
variable {X:Cx} {tg:Expr}
noncomputable def iList(K:XQ)(tl:TE):TI:=fun σ H R=>tl σ H fun x H1=>∃a,x=.ref a∧(∃xs,SqL K H1 a xs)∧R (Itl K a) H1
theorem kfc{l:Expr}{tl:TE}(hl:PE X l tl):PI X tg l (iList X.K tl):=by
 intro pins s σ H R I h
 refine thn (hl pins s σ H _ I h) fun v s1 ⟨x,H1,I1,r1,q1⟩=>?_
 obtain⟨a,e,⟨xs,hq⟩,q⟩:=q1
 subst e
 cases r1
 obtain⟨its,rv,p,hz⟩:=I1.list hq
 refine wpAny_pyIter_list p.isList ?_
 refine⟨s1.heap.objs.size,[s1.heap.objs.size],_,_,H1,rfl,I1.kept (t':=s1.toks) fun b o e=>Heap.get?_push_of_some _ e,kdM a _,⟨_,Heap.get?_push_size _ rfl,rfl,rfl⟩,fun b hb=>?_,q⟩
 have e:b=s1.heap.objs.size:=by simpa using hb
 subst e
 exact I1.fpOk (XR _) (I1.hok.fresh (XR _))
theorem kdq{pins:List (Addr×Obj)}{σ:St}{H:Hp}{s:Shared}{R:It→Hp→Prop}{E:Value→Shared→Prop}{lo hi:Int}{t u v:Tok}{tk:Nat}(I:Inv X pins σ H s)(h1: -(2 ^ 62)≤lo)(h2:lo<2 ^ 62)(h3: -(2 ^ 62)≤hi)(h4:hi<2 ^ 62)
  (q:R (Itr lo (hi-lo).toNat) H):wpAny (model X.prog X.w) X.A (pyIter (.ref s.heap.objs.size)) (PIE X pins σ tg R) E {s with heap:=s.heap.push {cls:=.type "range",data:=.fields #[.int lo t, .int hi u, .int 1 v]},toks:=tk}:=by
 refine wpAny_pyIter_range (IsRange.new ..) (small_one h1 h2 h3 h4) ?_
 have I1:Inv X pins σ H {s with heap:=s.heap.push {cls:=.type "range",data:=.fields #[.int lo t, .int hi u, .int 1 v]},toks:=tk}:=I.kept fun b o e=>Heap.get?_push_of_some _ e
 refine⟨(s.heap.push {cls:=.type "range",data:=.fields #[.int lo t, .int hi u, .int 1 v]}).objs.size,[(s.heap.push {cls:=.type "range",data:=.fields #[.int lo t, .int hi u, .int 1 v]}).objs.size],_,_,H,rfl,
  I1.kept (t':=tk) fun b o e=>Heap.get?_push_of_some _ e,kdC _ lo (hi-lo).toNat,?_,fun b hb=>?_,q⟩
 ·have e1:lo+((0:Nat):Int)*1=lo:=by simp
  have e2:(((hi-lo).toNat:Nat):Int)-((0:Nat):Int)=Builtin.Range.rangeSize lo hi 1:=by rw[rangeSize_one];split <;> omega
  show IsRangeIter _ _ (lo+((0:Nat):Int)*1) ((((hi-lo).toNat:Nat):Int)-((0:Nat):Int)) 1
  rw[e1,e2]
  exact Heap.get?_push_size _ rfl
 ·have e:b=(s.heap.push {cls:=.type "range",data:=.fields #[.int lo t, .int hi u, .int 1 v]}).objs.size:=by simpa using hb
  subst e
  exact I1.fpOk (XR _) (I1.hok.fresh (XR _))
noncomputable def iRng1(ta:TA):TI:=fun σ H R=>ta σ H fun vs H1=>∃j:Int,vs=[.int j]∧-(2 ^ 62)≤j∧j<2 ^ 62∧R (Itr 0 j.toNat) H1
noncomputable def iRng2(ta:TA):TI:=fun σ H R=>ta σ H fun vs H1=>∃i j:Int,vs=[.int i, .int j]∧(-(2 ^ 62)≤i∧i<2 ^ 62∧-(2 ^ 62)≤j∧j<2 ^ 62)∧R (Itr i (j-i).toNat) H1
theorem kcL{a:Expr}{ta:TA}{p pos:Pos}(hg:Gl X "range")(hm:X.mg "range"=none)(ha:PA X [a] ta)(hs:starEach [a] X.env=[(false,eval a X.env)]:=by rfl):PI X tg (.Call (.Name "range" p) [a] [] pos) (iRng1 ta):=by
 intro pins s σ H R I h
 refine Call_ (kb8 I hg hm boot_range (PyProof.Rows.callWith_type1 (thn (ha pos pins s σ H _ I h) fun us s1 ⟨vs,H1,I1,r1,q1⟩=>?_) hs rfl))
 obtain⟨j,e,q1,q2,q⟩:=q1
 subst e
 cases r1 with
 |cons r rr=>
  cases rr
  obtain⟨t,rfl⟩:=r
  exact call_range_1 (kdq I1 (by omega) (by omega) q1 q2 (by simpa using q))
theorem kdZ{a b:Expr}{ta:TA}{p pos:Pos}(hg:Gl X "range")(hm:X.mg "range"=none)(ha:PA X [a,b] ta)(hs:starEach [a,b] X.env=[(false,eval a X.env),(false,eval b X.env)]:=by rfl)(hs2:starEach [b] X.env=[(false,eval b X.env)]:=by rfl):
  PI X tg (.Call (.Name "range" p) [a,b] [] pos) (iRng2 ta):=by
 intro pins s σ H R I h
 refine Call_ (kb8 I hg hm boot_range (PyProof.Rows.callWith_type1 (thn (ha pos pins s σ H _ I h) fun us s1 ⟨vs,H1,I1,r1,q1⟩=>?_) (by rw[hs,hs2]) (by rw[hs2];rfl)))
 obtain⟨i,j,e,⟨q1,q2,q3,q4⟩,q⟩:=q1
 subst e
 cases r1 with
 | cons r rr=>
  cases rr with
  |cons r' rr=>
   cases rr
   obtain⟨t,rfl⟩:=r
   obtain⟨t',rfl⟩:=r'
   exact call_range_2 (kdq I1 q1 q2 q3 q4 q)
noncomputable def tFor(wi:TI)(g:TG)(tb:TS):TS:=fun D σ H=>wi σ H fun J H1=>∃W:Nat→Nat→St→Hp→Prop,(∃m,W 0 m σ H1)∧∀i m σ H,W i m σ H→
 (J.stop i H∧D.nx σ H)∨(J.go i H∧∃N:St→Hp→Prop,(∀σ' H',N σ' H'→∃m',m'<m∧W (i+1) m' σ' H')∧∀x H',J.yld i H x H'→g x σ H' fun σ2 H2=>tb {D with nx:=N,ct:=N,bk:=D.nx} σ2 H2)
noncomputable def kds(fp:List Addr)(h:Heap):List (Addr×Obj):=fp.filterMap fun b=>(h.get? b).map fun o=>(b,o)
theorem kbs{fp:List Addr}{h:Heap}{b:Addr}{o:Obj}(hb:b∈fp)(e:h.get? b=some o):(b,o)∈kds fp h:=List.mem_filterMap.mpr ⟨b,hb,by rw[e];rfl⟩
theorem kd5{fp:List Addr}{h:Heap}{p:Addr×Obj}(hp:p∈kds fp h):p.1∈fp∧h.get? p.1=some p.2:=by
 obtain⟨b,hb,e⟩:=List.mem_filterMap.mp hp
 cases q:h.get? b with
 |none=>rw[q] at e;cases e
 |some o=>
  rw[q] at e
  have e':(b,o)=p:=Option.some.inj e
  subst e'
  exact⟨hb,q⟩
theorem Inv.pinned{pins:List (Addr×Obj)}{σ:St}{H:Hp}{s:Shared}{fp:List Addr}(I:Inv X pins σ H s)(hf:∀b∈fp,FpOk X pins H b)(ho:∀b∈fp,∃o,s.heap.get? b=some o∧∀v,o.data≠.cell v):Inv X (pins++kds fp s.heap) σ H s:=
 I.pins_of fun p hp=>(YB.mp hp).elim (fun z=>I.pin p (X9 _ z)) fun z=>by
  obtain⟨hb,e⟩:=kd5 z
  obtain⟨f0,f1,f2,_⟩:=hf p.1 hb
  obtain⟨o,e',d⟩:=ho p.1 hb
  rw[e] at e';cases e'
  exact⟨e,f0,f1,f2,d⟩
theorem Inv.unpinned{pins pl:List (Addr×Obj)}{σ:St}{H:Hp}{s:Shared}(I:Inv X (pins++pl) σ H s):Inv X pins σ H s:=I.pins_of fun p hp=>I.pin p (X9 _ (List.mem_append_left _ hp))
theorem kdr{iter:Expr}{body:List Stmt}{wi:TI}{g:TG}{tb:TS}{pos:Pos}(hp:PassesOwn (model X.prog X.w) X.A X.env X.xe)(hc:X.calm=true)(hi:PI X tg iter wi)(hg:PG X tg g)(hb:PSs X body tb)
  (hs:∀x,foldedSetIterable iter X.env x=pure x:=by intro _;rfl):PS X (.For tg iter body [] pos) (tFor wi g tb):=by
 intro pins s σ H D I h
 refine wpAny_For (thn (hi pins s σ H _ I h) fun v s1 h1=>thn h1 fun itv s2 h2=>?_) hs
 obtain⟨it,fp,tn,J,H2,e,I2,T,st2,f2,W,⟨m0,w0⟩,turn⟩:=h2
 subst e
 have stat:∀{H':Hp},(∀b∈fp,H' b=none)→∀b∈fp,FpOk X pins H' b:=fun hn b hb=>⟨hn b hb,(f2 b hb).2⟩
 refine codeAny_forLoop_any (fun n s'=>∃i σ' H',Inv X pins σ' H' s'∧tn i s'.heap∧(∀b∈fp,H' b=none)∧W i n σ' H') ?_ m0 ⟨0,σ,H2,I2,st2,fun b hb=>(f2 b hb).1,w0⟩
 rintro n s3 ⟨i,σ3,H3,I3,st3,fr3,w3⟩
 rcases turn i n σ3 H3 w3 with⟨stop,qn⟩|⟨go,N,hN,step⟩
 ·refine wpAny_passesOwn hp (thn (T.done X rfl rfl rfl hc i pins s3 σ3 H3 X.xe I3 (stat fr3) st3 stop) fun r s4 ⟨hr,I4⟩=>?_)
  subst hr
  exact wpAny_execs_nil ⟨σ3,H3,I4,qn⟩
 ·refine wpAny_passesOwn hp (thn (T.item X rfl rfl rfl hc i pins s3 σ3 H3 X.xe I3 (stat fr3) st3 go) fun r s4 ⟨u,hr,h4⟩=>?_)
  subst hr
  refine wpAny_passesOwn hp (thn h4 fun _ s5 ⟨x,H5,I5,r5,y5,st5,fr5⟩=>?_)
  have I5':=I5.pinned (stat fr5) (T.obj _ _ st5)
  refine wpAny_passesOwn hp (thn (hg _ s5 σ3 H5 x u _ I5' r5 (step x H5 y5)) fun _ s6 ⟨σ6,H6,I6,q6⟩=>?_)
  refine wpAny_passesOwn hp (thn (hb _ s6 σ6 H6 _ I6 q6) fun f s7 q7=>?_)
  have again:∀{σ7:St} {H7:Hp},Inv X (pins++kds fp s5.heap) σ7 H7 s7→N σ7 H7→∃m,m<n∧∃i σ' H',Inv X pins σ' H' s7∧tn i s7.heap∧(∀b∈fp,H' b=none)∧W i m σ' H':=fun {σ7 H7} I7 n7=>by
   obtain⟨m',hm,w7⟩:=hN σ7 H7 n7
   refine⟨m',hm,i+1,σ7,H7,I7.unpinned,T.keep _ _ _ st5 fun b hb o e=>(I7.pin (b,o) (X9 _ (X9 _ (kbs hb e)))).1,fun b hb=>?_,w7⟩
   obtain⟨o,e,d⟩:=T.obj _ _ st5 b hb
   exact(I7.pin (b,o) (X9 _ (X9 _ (kbs hb e)))).2.1
  cases f with
  |next=>obtain⟨σ7,H7,I7,n7⟩:=q7;exact again I7 n7
  |cont=>obtain⟨σ7,H7,I7,n7⟩:=q7;exact again I7 n7
  |brk=>obtain⟨σ7,H7,I7,q7⟩:=q7;exact⟨σ7,H7,I7.unpinned,q7⟩
  |ret v=>obtain⟨x7,σ7,H7,I7,r7,q7⟩:=q7;exact⟨x7,σ7,H7,I7.unpinned,r7,q7⟩
end
theorem kcc{lo:Int}{n:Nat}{g:TG}{tb:TS}{D:Ends}{σ:St}{H:Hp}(Pv:Nat→St→Hp→Prop)(h0:Pv 0 σ H)
  (hs:∀i σ H,i<n→Pv i σ H→g (.int (lo+i)) σ H fun σ2 H2=>tb {D with nx:=Pv (i+1),ct:=Pv (i+1),bk:=D.nx} σ2 H2) (hd:∀σ H,Pv n σ H→D.nx σ H):
  ∃W:Nat→Nat→St→Hp→Prop,(∃m,W 0 m σ H)∧∀i m σ H,W i m σ H→
   ((Itr lo n).stop i H∧D.nx σ H)∨((Itr lo n).go i H∧∃N:St→Hp→Prop,(∀σ' H',N σ' H'→∃m',m'<m∧W (i+1) m' σ' H')∧∀x H',(Itr lo n).yld i H x H'→g x σ H' fun σ2 H2=>tb {D with nx:=N,ct:=N,bk:=D.nx} σ2 H2):=by
 refine⟨fun i m σ H=>m=n-i∧i≤n∧Pv i σ H,⟨n,by simp,Yy _,h0⟩,?_⟩
 rintro i m σ H ⟨rfl,hi,p⟩
 by_cases hlt:i<n
 ·refine .inr ⟨hlt,Pv (i+1),fun σ' H' p'=>⟨n-(i+1),by omega,rfl,hlt,p'⟩,fun x H' y=>?_⟩
  obtain⟨e,y⟩:=y
  subst e y
  exact hs i σ _ hlt p
 ·have e:i=n:=by omega
  subst e
  exact .inl ⟨XR _,hd σ H p⟩
end L2
namespace L2
open PySem PySem.Spec PyProof.Rows
noncomputable abbrev R2:=V→V→Hp→VK→Prop
noncomputable def OpR(X:Cx)(f:Value→Value→Sem Value)(r:R2):Prop:=
 ∀(pins:List (Addr×Obj)) (s:Shared) (σ:St) (H:Hp) (x y:V) (v u:Value) (Q:VK),Inv X pins σ H s→RelV x v→RelV y u→r x y H Q→
  wpAny (model X.prog X.w) X.A (f v u) (EP X pins σ Q) X.xe s
noncomputable def CallR(X:Cx)(f:Value)(r:List V→Hp→VK→Prop):Prop:=
 ∀(pins:List (Addr×Obj)) (s:Shared) (σ:St) (H:Hp) (xs:List V) (us:List Value) (Q:VK),Inv X pins σ H s→Vals xs us→r xs H Q→
  wpAny (model X.prog X.w) X.A (call f us) (EP X pins σ Q) X.xe s
noncomputable def tOp(r:R2)(ta tb:TE):TE:=fun σ H Q=>ta σ H fun x H1=>tb σ H1 fun y H2=>r x y H2 Q
noncomputable def rI(C:Int→Int→Prop)(g:Int→Int→V):R2:=fun x y H Q=>∃i j,x=.int i∧y=.int j∧C i j∧Q (g i j) H
noncomputable def rI0(g:Int→Int→V):R2:=fun x y H Q=>∃i j,x=.int i∧y=.int j∧Q (g i j) H
section
variable {X:Cx} {a b c:Expr} {ta tb tc:TE} {pos:Pos}
theorem binT(ha:PE X a ta)(hb:PE X b tb){pins:List (Addr×Obj)}{s:Shared}{σ:St}{H:Hp}{R:V→V→Hp→Prop}(I:Inv X pins σ H s)
  (h:ta σ H fun x H1=>tb σ H1 fun y H2=>R x y H2) {Q:Value→Shared→Prop} {f:Value→Value→Sem Value}
  (hf:∀v u s2 x y H2,Inv X pins σ H2 s2→RelV x v→RelV y u→R x y H2→wpAny (model X.prog X.w) X.A (f v u) Q X.xe s2):
  wpAny (model X.prog X.w) X.A (eval a X.env) (fun v s₁=>wpAny (model X.prog X.w) X.A (eval b X.env) (fun u s₂=>wpAny (model X.prog X.w) X.A (f v u) Q X.xe s₂) X.xe s₁) X.xe s:=by
 refine thn (ha pins s σ H _ I h) fun v s1 ⟨x,H1,I1,r1,q1⟩=>?_
 refine thn (hb pins s1 σ H1 _ I1 q1) fun u s2 ⟨y,H2,I2,r2,q2⟩=>?_
 exact hf v u s2 x y H2 I2 r1 r2 q2
theorem pe_op{op:Operator}{r:R2}(ho:OpR X (binaryOp op) r)(ha:PE X a ta)(hb:PE X b tb):PE X (.BinOp a op b pos) (tOp r ta tb):=by
 intro pins s σ H Q I h
 exact wpAny_BinOp (binT ha hb I h fun v u s2 x y H2 I2 rx ry q=>ho pins s2 σ H2 x y v u Q I2 rx ry q)
theorem opI{f:Value→Value→Sem Value}{C:Int→Int→Prop}{g:Int→Int→Int}
  (rule:∀(i j:Int) (t u:Tok) (s:Shared) (Q:Value→Shared→Prop) (E:Value→Shared→Prop),C i j→Q (.int (g i j) s.toks) {s with toks:=s.toks+1}→wpAny (model X.prog X.w) X.A (f (.int i t) (.int j u)) Q E s):
  OpR X f (rI C fun i j=>.int (g i j)):=by
 intro pins s σ H x y v u Q I rx ry h
 obtain⟨i,j,rfl,rfl,hc,q⟩:=h
 obtain⟨t,rfl⟩:=rx
 obtain⟨t',rfl⟩:=ry
 exact rule i j t t' s _ _ hc ⟨.int (g i j),H,I.tok _,⟨_,rfl⟩,q⟩
theorem opI0{f:Value→Value→Sem Value}{g:Int→Int→Int}
  (rule:∀(i j:Int) (t u:Tok) (s:Shared) (Q:Value→Shared→Prop) (E:Value→Shared→Prop),Q (.int (g i j) s.toks) {s with toks:=s.toks+1}→wpAny (model X.prog X.w) X.A (f (.int i t) (.int j u)) Q E s):
  OpR X f (rI0 fun i j=>.int (g i j)):=by
 intro pins s σ H x y v u Q I rx ry h
 obtain⟨i,j,rfl,rfl,q⟩:=h
 obtain⟨t,rfl⟩:=rx
 obtain⟨t',rfl⟩:=ry
 exact rule i j t t' s _ _ ⟨.int (g i j),H,I.tok _,⟨_,rfl⟩,q⟩
theorem opB0{f:Value→Value→Sem Value}{g:Int→Int→Bool}
  (rule:∀(i j:Int) (t u:Tok) (s:Shared) (Q:Value→Shared→Prop) (E:Value→Shared→Prop),Q (.bool (g i j)) s→wpAny (model X.prog X.w) X.A (f (.int i t) (.int j u)) Q E s):
  OpR X f (rI0 fun i j=>.bl (g i j)):=by
 intro pins s σ H x y v u Q I rx ry h
 obtain⟨i,j,rfl,rfl,q⟩:=h
 obtain⟨t,rfl⟩:=rx
 obtain⟨t',rfl⟩:=ry
 exact rule i j t t' s _ _ ⟨.bl (g i j),H,I,rfl,q⟩
noncomputable def CDiv(i j:Int):Prop:=0<j∧j<1073741824
noncomputable def CPow(i j:Int):Prop:=0≤j∧j≤1000000∧i.natAbs<2 ^ 64
noncomputable def CMul(i j:Int):Prop:=(-(2 ^ 64)<i∧i<2 ^ 64)∨(-(2 ^ 64)<j∧j<2 ^ 64)
theorem CMul.ok{i j:Int}(h:CMul i j):IntMulOk i j:=by
 rcases h with⟨h1,h2⟩|⟨h1,h2⟩
 ·exact .of_left (intBits_le_64 h1 h2)
 ·exact .of_right (intBits_le_64 h1 h2)
theorem kbp:OpR X (binaryOp .Add) (rI0 fun i j=>.int (i+j)):=opI0 fun _ _ _ _ _ _ _ q=>add_int q
theorem keY:OpR X (binaryOp .Sub) (rI0 fun i j=>.int (i-j)):=opI0 fun _ _ _ _ _ _ _ q=>sub_int q
theorem kcO:OpR X (binaryOp .Mult) (rI CMul fun i j=>.int (i*j)):=opI fun _ _ _ _ _ _ _ hc q=>mul_int q hc.ok
theorem kaE:OpR X (binaryOp .FloorDiv) (rI CDiv fun i j=>.int (i/j)):=opI fun i j _ _ _ _ _ hc q=>by
 have h1:(0:Int)<j:=hc.1
 have h2:j<1073741824:=hc.2
 exact floordiv_int (by omega) (by rw[Int.fdiv_eq_ediv_of_nonneg i (by omega)];exact q) (.inl (PyProof.noPylong_small (by omega)))
theorem kaq:OpR X (binaryOp .Mod) (rI (fun _ j=>0<j) fun i j=>.int (i%j)):=opI fun i j _ _ _ _ _ hc q=>by
 have h1:(0:Int)<j:=hc
 exact mod_int' (by omega) (by rw[Int.fmod_eq_emod_of_nonneg i (by omega)];exact q)
theorem kfB:OpR X (binaryOp .Pow) (rI CPow fun i j=>.int (i ^ j.toNat)):=opI fun _ _ _ _ _ _ _ hc q=>pow_int_small hc.1 hc.2.1 hc.2.2 q
end
noncomputable def scal:V→V→Bool
 | .non, .non=>true| .non, .int _=>true| .int _, .non=>true| .non, .bl _=>true| .bl _, .non=>true| .non, .str _=>true| .str _, .non=>true
 | .int _, .int _=>true| .bl _, .bl _=>true| .str _, .str _=>true| .byt _, .byt _=>true
 | .int _, .str _=>true| .str _, .int _=>true| .bl _, .str _=>true| .str _, .bl _=>true
 |_,_=>false
noncomputable def rEq:R2:=fun x y H Q=>scal x y=true∧Q (.bl (decide (x=y))) H
noncomputable def rNe:R2:=fun x y H Q=>scal x y=true∧Q (.bl (!decide (x=y))) H
theorem keh{i j:Int}:decide (V.int i=V.int j)=(i==j):=by
 rw[YN]
 simp
theorem ke0{i j:Bool}:decide (V.bl i=V.bl j)=(i==j):=by
 rw[YN]
 simp
theorem keg{i j:Str}:decide (V.str i=V.str j)=(i==j):=by
 rw[YN]
 simp
theorem kei{i j:Array UInt8}:decide (V.byt i=V.byt j)=(i.toList==j.toList):=by
 rw[YN]
 cases i
 cases j
 simp
section
variable {X:Cx} {a b c:Expr} {ta tb tc:TE} {pos:Pos}
theorem kaD{pins:List (Addr×Obj)}{σ:St}{H:Hp}{s:Shared}{Q:VK}{k k':Bool}(I:Inv X pins σ H s)(q:Q (.bl k) H)(e:k=k'):EP X pins σ Q (.bool k') s:=by
 subst e
 exact⟨.bl k,H,I,rfl,q⟩
theorem op_eq:OpR X (compareOp .Eq) rEq:=by
 intro pins s σ H x y v u Q I rx ry h
 obtain⟨hs,q⟩:=h
 cases x with
 |non=>
  cases rx
  cases y with
  |non=>cases ry;exact PySem.EqNone.eq_none_none (kaD I q (by simp))
  |bl j=>cases ry;exact PySem.EqNone.eq_none_bool (kaD I q (by simp))
  |int j=>obtain⟨t',rfl⟩:=ry;exact PySem.EqNone.eq_none_int (kaD I q (by simp))
  |str j=>obtain⟨t',rfl⟩:=ry;exact PySem.EqNone.eq_none_str (kaD I q (by simp))
  |_=>exact absurd (show false=true from hs) X4
 |bl i=>
  cases rx
  cases y with
  |non=>cases ry;exact PySem.EqNone.eq_bool_none (kaD I q (by simp))
  |bl j=>cases ry;exact eq_bool (kaD I q ke0)
  |str j=>obtain⟨t',rfl⟩:=ry;exact PySem.EqMixed.eq_bool_str (kaD I q (by simp))
  |_=>exact absurd (show false=true from hs) X4
 |int i=>
  obtain⟨t,rfl⟩:=rx
  cases y with
  |non=>cases ry;exact PySem.EqNone.eq_int_none (kaD I q (by simp))
  |int j=>obtain⟨t',rfl⟩:=ry;exact eq_int (kaD I q keh)
  |str j=>obtain⟨t',rfl⟩:=ry;exact PySem.EqMixed.eq_int_str (kaD I q (by simp))
  |_=>exact absurd (show false=true from hs) X4
 |str i=>
  obtain⟨t,rfl⟩:=rx
  cases y with
  |non=>cases ry;exact PySem.EqNone.eq_str_none (kaD I q (by simp))
  |bl j=>cases ry;exact PySem.EqMixed.eq_str_bool (kaD I q (by simp))
  |int j=>obtain⟨t',rfl⟩:=ry;exact PySem.EqMixed.eq_str_int (kaD I q (by simp))
  |str j=>obtain⟨t',rfl⟩:=ry;exact eq_str (kaD I q keg)
  |_=>exact absurd (show false=true from hs) X4
 |byt i=>
  obtain⟨t,rfl⟩:=rx
  cases y with
  |byt j=>obtain⟨t',rfl⟩:=ry;exact PySem.W.eq_bytes (kaD I q kei)
  |_=>exact absurd (show false=true from hs) X4
 |_=>cases y <;> exact absurd (show false=true from hs) X4
theorem op_ne:OpR X (compareOp .NotEq) rNe:=by
 intro pins s σ H x y v u Q I rx ry h
 obtain⟨hs,q⟩:=h
 cases x with
 |non=>
  cases rx
  cases y with
  |non=>cases ry;exact PySem.EqNone.ne_none_none (kaD I q (by simp))
  |bl j=>cases ry;exact PySem.EqNone.ne_none_bool (kaD I q (by simp))
  |int j=>obtain⟨t',rfl⟩:=ry;exact PySem.EqNone.ne_none_int (kaD I q (by simp))
  |str j=>obtain⟨t',rfl⟩:=ry;exact PySem.EqNone.ne_none_str (kaD I q (by simp))
  |_=>exact absurd (show false=true from hs) X4
 |bl i=>
  cases rx
  cases y with
  |non=>cases ry;exact PySem.EqNone.ne_bool_none (kaD I q (by simp))
  |bl j=>cases ry;exact ne_bool (kaD I q (congrArg not ke0))
  |str j=>obtain⟨t',rfl⟩:=ry;exact PySem.EqMixed.ne_bool_str (kaD I q (by simp))
  |_=>exact absurd (show false=true from hs) X4
 |int i=>
  obtain⟨t,rfl⟩:=rx
  cases y with
  |non=>cases ry;exact PySem.EqNone.ne_int_none (kaD I q (by simp))
  |int j=>obtain⟨t',rfl⟩:=ry;exact ne_int (kaD I q (congrArg not keh))
  |str j=>obtain⟨t',rfl⟩:=ry;exact PySem.EqMixed.ne_int_str (kaD I q (by simp))
  |_=>exact absurd (show false=true from hs) X4
 |str i=>
  obtain⟨t,rfl⟩:=rx
  cases y with
  |non=>cases ry;exact PySem.EqNone.ne_str_none (kaD I q (by simp))
  |bl j=>cases ry;exact PySem.EqMixed.ne_str_bool (kaD I q (by simp))
  |int j=>obtain⟨t',rfl⟩:=ry;exact PySem.EqMixed.ne_str_int (kaD I q (by simp))
  |str j=>obtain⟨t',rfl⟩:=ry;exact ne_str (kaD I q (congrArg not keg))
  |_=>exact absurd (show false=true from hs) X4
 |byt i=>
  obtain⟨t,rfl⟩:=rx
  cases y with
  |byt j=>obtain⟨t',rfl⟩:=ry;exact PySem.W.ne_bytes (kaD I q (congrArg not kei))
  |_=>exact absurd (show false=true from hs) X4
 |_=>cases y <;> exact absurd (show false=true from hs) X4
theorem op_lt:OpR X (compareOp .Lt) (rI0 fun i j=>.bl (decide (i<j))):=opB0 fun _ _ _ _ _ _ _ q=>lt_int q
theorem op_gt:OpR X (compareOp .Gt) (rI0 fun i j=>.bl (decide (j<i))):=opB0 fun _ _ _ _ _ _ _ q=>gt_int q
theorem kd4:OpR X (compareOp .Is) (fun x y H Q=>y=.non∧Q (.bl (decide (x=.non))) H):=by
 intro pins s σ H x y v u Q I rx ry h
 obtain⟨rfl,q⟩:=h
 cases ry
 refine is_none_gen (kaD I q ?_)
 cases x <;> first
  |(cases rx;rfl)
  |(obtain⟨t,rfl⟩:=rx;rfl)
theorem OpR.or{f:Value→Value→Sem Value}{r r':R2}(h:OpR X f r)(h':OpR X f r'):OpR X f (fun x y H Q=>r x y H Q∨r' x y H Q):=by
 intro pins s σ H x y v u Q I rx ry q
 rcases q with q|q
 ·exact h pins s σ H x y v u Q I rx ry q
 ·exact h' pins s σ H x y v u Q I rx ry q
theorem kaI(b:Expr){op:CmpOp}(h:op≠.In:=by decide)(h2:op≠.NotIn:=by decide):behindInMarks op b=false:=by
 have e1:(op==CmpOp.In)=false:=by cases op <;> first|rfl|exact absurd rfl h
 have e2:(op==CmpOp.NotIn)=false:=by cases op <;> first|rfl|exact absurd rfl h2
 cases b <;> simp[behindInMarks,e1,e2]
theorem kbc{op:CmpOp}{r:R2}(ho:OpR X (compareOp op) r)(ha:PE X a ta)(hb:PE X b tb)(hm:behindInMarks op b=false):PE X (.Compare a [op] [b] pos) (tOp r ta tb):=by
 intro pins s σ H Q I h
 exact wpAny_Compare1 (binT ha hb I h fun v u s2 x y H2 I2 rx ry q=>ho pins s2 σ H2 x y v u Q I2 rx ry q) hm
noncomputable def tTest(t:TE):TT:=fun σ H Q=>t σ H fun x H'=>∃k,x=.bl k∧Q k H'
theorem kaM{op:CmpOp}{r:R2}(ho:OpR X (compareOp op) r)(ha:PE X a ta)(hb:PE X b tb)(hm:behindInMarks op b=false):PT X (.Compare a [op] [b] pos) (tTest (tOp r ta tb)):=by
 intro pins s σ H Q I h
 refine wpAny_isTrue_Compare1 (thn (ha pins s σ H _ I h) fun v s1 ⟨x,H1,I1,r1,q1⟩=>thn (hb pins s1 σ H1 _ I1 q1) fun u s2 ⟨y,H2,I2,r2,q2⟩=>
  thn (ho pins s2 σ H2 x y v u _ I2 r1 r2 q2) fun c s3 ⟨z,H3,I3,r3,k,e,q3⟩=>?_) hm
 subst e
 cases r3
 exact wpAny_truthy_bool ⟨H3,I3,q3⟩
theorem kcV:(sizeLine:Nat)<2 ^ 63:=by rw[sizeLine_eq];decide
theorem vals1{x:V}{us:List Value}(r:Vals [x] us):∃u,us=[u]∧RelV x u:=by
 cases r with
 |cons r1 r2=>cases r2;exact⟨_,rfl,r1⟩
theorem vals2{x y:V}{us:List Value}(r:Vals [x,y] us):∃u w',us=[u,w']∧RelV x u∧RelV y w':=by
 cases r with
 |cons r1 r2=>
  cases r2 with
  |cons r3 r4=>cases r4;exact⟨_,_,rfl,r1,r3⟩
end
end L2
namespace L2
open PySem PySem.Spec PyProof.Rows
structure ObjM (h:Heap) (x dx C:Addr) (mA:Str→Option Value):Prop where
 obj:h.get? x=some (Yu C dx)
 ns:h.Ns1 dx mA
 ne:dx≠x
theorem kd8{h:Heap}{dx:Addr}{mA:Str→Option Value}(n:h.Ns1 dx mA):∃od,h.get? dx=some od∧∀name,YW name od=some (mA name):=by
 obtain⟨o,es,ep,ho,hd,hk,_,hm⟩:=n
 refine⟨o,ho,fun name=>?_⟩
 have e:=hm name
 unfold nsFind findBy at e
 rw[←Array.find?_toList] at e
 unfold YW
 rw[hd]
 dsimp only
 split
 ·rename_i y q
  rw[q] at e
  exact congrArg some e
 ·rename_i q
  rw[q] at e
  have a:es.toList.any (·.refKey)=false:=by
   rw[List.any_eq_false]
   intro y hy
   obtain⟨z,t,hkey⟩:=hk y (Array.mem_toList_iff.mp hy)
   simp[DictEntry.refKey,hkey]
  have a':¬es.toList.any (·.refKey)=true:=by rw[a];exact X4
  rw[if_neg a']
  exact congrArg some e
theorem ObjM.look{h:Heap}{x dx C:Addr}{mA:Str→Option Value}(I:ObjM h x dx C mA):∃od,PySem.W.InstAt h x (Yu C dx) C (some od)∧∀name,YW name od=some (mA name):=
 let⟨od,ho,hl⟩:=kd8 I.ns
 ⟨od,⟨I.obj,rfl,rfl,ho⟩,hl⟩
section
variable {prog:Program} {w:World} {A:Around} {E:Value→Shared→Prop} {s:Shared} {K:XQ} {x dx C f:Addr} {mA:Str→Option Value} {name:Str} {v:Value}
theorem get_map{expr:Bool}{Q:Value→Shared→Prop}(X:K.In s.heap)(I:ObjM s.heap x dx C mA)(hg:Yd K C name=true)(hh:Ye K C=true)
  (ha:XS K (.ref C) name=some none) (hv:mA name=some v) (hv':PySem.W.handedIn v=true) (h:Q v {s with toks:=s.toks+1}):
  wpAny (model prog w) A (getAttr (.ref x) name expr) Q E s:=by
 obtain⟨od,J,hl⟩:=I.look
 exact PySem.W.get_value X J (PySem.W.plainGet_of hg).1 (PySem.W.findObj_own hh ha rfl (by rw[hl,hv])) hv' h
theorem ke5{ns:List Str}{Q:Unit→Shared→Prop}(X:K.In s.heap)(I:ObjM s.heap x dx C mA)
  (hs:XS K (.ref C) "__setattr__"=some (some (.builtin "object.__setattr__"))) (hp:Yj K C=true) (ht:YX K C name=some none) (hh:Ye K C=true)
  (hw:PySem.Within mA ns) (hsz:ns.length≤sizeLine)
  (h:∀h',ObjM h' x dx C (fun y=>if y=name then some v else mA y)→Heap.SameBut dx s.heap h'→Q () {s with heap:=h',toks:=s.toks+2}):
  wpAny (model prog w) A (setAttr (.ref x) name v) Q E s:=by
 obtain⟨od,J,hl⟩:=I.look
 refine PySem.W.set_plain X J hs (PySem.W.osa_open (s:={s with toks:=s.toks+1}) (r:=none) X J hp ht fun b=>?_)
 obtain⟨cd,hc,hd'⟩:=PySem.W.any_some hh
 have hx:s.heap.get? x=some ⟨.ref C,some dx, .plain,#[]⟩:=I.obj
 refine wpAny_bind (wpAny_pure (wpAny_bind (wpAny_bind (wpAny_loadPart hx (wpAny_bind (PySem.W.Looks.here (s:={s with toks:=s.toks+1}) (PySem.W.looks_clsIn X hc) ?_))))))
 rw[hd']
 refine wpAny_pure (a:=some dx) (wpAny_bind (wpAny_pure (wpAny_bind ?_)))
 refine wpAny_nsSet1 (s:={s with toks:=s.toks+1}) I.ns fun h' hn2 hs2=>?_
 obtain⟨oD,esD,epD,hoD,hdD,hcD⟩:=hn2.count (PySem.Within.cons name v hw)
 refine wpAny_bind (wpAny_lookBehind hoD (by rw[hdD];exact pastItsLine_dict (XZ hcD (by rw[YC];omega))) ?_)
 exact wpAny_pure (h _ ⟨(hs2.2 _ (Ne.symm I.ne)).trans I.obj,hn2,I.ne⟩ hs2)
theorem kdx{R:Result→Shared→Prop}{vs:List Value}{kw:List (Str×Value)}(X:K.In s.heap)(hm:Yf K C=true)
  (hi:XS K (.ref C) "__init__"=some (some (.ref f))) (hf:Yc K (.ref f)=some (.type "function"))
  (h:codeAny (model prog w) (A.under (.builtin "type.__call__" ⟨.ref C::vs,kw⟩)) (.call (.ref f) ⟨.ref (s.heap.objs.size+1)::vs,kw⟩) (PySem.W.InitBack (s.heap.objs.size+1) R)
   {s with heap:=(s.heap.push Yq).push (Yu C s.heap.objs.size)}):
  codeAny (model prog w) A (.call (.ref C) ⟨vs,kw⟩) R s:=by
 obtain⟨hh,g,d,t,os⟩:=s
 exact PySem.W.make_core (PySem.W.makes_of X hm) (PySem.W.looks_findIn X hi) (fun self=>PySem.W.bind_fn X self hf) (.inl rfl) h
end
noncomputable def putF(f:Str)(v:V):List (Str×V)→List (Str×V)
 |[]=>[(f,v)]
 |(g,x)::r=>if g=f then(g,v)::r else(g,x)::putF f v r
theorem kaf(f g:Str)(v:V):∀fs:List (Str×V),(putF f v fs).lookup g=if g=f then some v else fs.lookup g
 | []=>by
  show Yk g [(f,v)]=_
  by_cases h:g=f
  ·have hb:(g==f)=true:=beq_iff_eq.mpr h
   simp only[Yk,hb,if_pos h]
  ·have hb:(g==f)=false:=beq_eq_false_iff_ne.mpr h
   simp only[Yk,hb,if_neg h]
 | (k,x)::r=>by
  have ih:=kaf f g v r
  rw[show putF f v ((k,x)::r)=(if k=f then(k,v)::r else(k,x)::putF f v r) from rfl]
  by_cases hk:k=f
  ·rw[if_pos hk]
   by_cases h:g=k
   ·have hb:(g==k)=true:=beq_iff_eq.mpr h
    simp only[Yk,hb,if_pos (h.trans hk)]
   ·have hb:(g==k)=false:=beq_eq_false_iff_ne.mpr h
    simp only[Yk,hb,if_neg (fun e:g=f=>h (e.trans hk.symm))]
  ·rw[if_neg hk]
   by_cases h:g=k
   ·have hb:(g==k)=true:=beq_iff_eq.mpr h
    simp only[Yk,hb,if_neg (fun e:g=f=>hk (h.symm.trans e))]
   ·have hb:(g==k)=false:=beq_eq_false_iff_ne.mpr h
    simp only[Yk,hb]
    exact ih
theorem kca(f:Str)(v:V):∀fs:List (Str×V),f∈(putF f v fs).map (·.1)∧∀g,g∈fs.map (·.1)→g∈(putF f v fs).map (·.1)
 |[]=>⟨by simp[putF],fun g h=>by simp at h⟩
 | (k,x)::r=>by
  obtain⟨i1,i2⟩:=kca f v r
  rw[show putF f v ((k,x)::r)=(if k=f then(k,v)::r else(k,x)::putF f v r) from rfl]
  by_cases hk:k=f
  ·rw[if_pos hk]
   subst hk
   exact⟨by simp,fun g h=>by simpa using h⟩
  ·rw[if_neg hk]
   refine⟨?_,fun g h=>?_⟩
   ·rw[YD]
    exact Yb _ i1
   ·rw[YD] at h⊢
    rcases X1.mp h with e|e
    ·exact X1.mpr (.inl e)
    ·exact Yb _ (i2 g e)
theorem kb6(f:Str)(v:V):∀fs:List (Str×V),(putF f v fs).length≤fs.length+1
 |[]=>by simp[putF]
 |(k,x)::r=>by
  have ih:=kb6 f v r
  rw[show putF f v ((k,x)::r)=(if k=f then(k,v)::r else(k,x)::putF f v r) from rfl]
  by_cases hk:k=f
  ·rw[if_pos hk,YC,YC];omega
  ·rw[if_neg hk,YC,YC];omega
theorem RelO.some_of{v:V}{o:Option Value}(r:RelO (some v) o):∃u,o=some u∧RelV v u:=by
 cases o with
 |none=>exact(show False from r).elim
 |some u=>exact⟨u,rfl,r⟩
theorem ked{v:V}{u:Value}(r:RelV v u):PySem.W.handedIn u=true:=by
 cases v with
 |non=>cases(show u=Value.none from r);rfl
 |bl b=>cases(show u=Value.bool b from r);rfl
 |int i=>obtain⟨t,e⟩:=(show ∃t,u=Value.int i t from r);cases e;rfl
 |str x=>obtain⟨t,e⟩:=(show ∃t,u=Value.str x t from r);cases e;rfl
 |byt b=>obtain⟨t,e⟩:=(show ∃t,u=Value.bytes b t from r);cases e;rfl
 |flt b=>obtain⟨t,e⟩:=(show ∃t,u=Value.float b t from r);cases e;rfl
 |ref a=>cases(show u=Value.ref a from r);rfl
 |ty n=>cases(show u=Value.type n from r);rfl
section
variable {P:Program} {w:World} {H H':Hp} {h h':Heap} {a C dx:Addr} {fs fs':List (Str×V)}
theorem kde(hok:HOk P w H h)(e:H a=some (.ins C dx fs)):∃mA,ObjM h a dx C mA∧(∀f,RelO (fs.lookup f) (mA f))∧PySem.Within mA (fs.map (·.1))∧fs.length≤1000∧H dx=some (.own a):=by
 obtain⟨d,z,ne,ob,mA,n,r,q⟩:=(show ObjOk P w H h a (.ins C dx fs) from hok a _ e)
 exact⟨mA,⟨ob,n,ne⟩,r,q,z,d⟩
end
structure Cls (K:XQ) (C:Addr):Prop where
 pg:Yd K C Str.empty=true
 hd:Ye K C=true
 po:Yj K C=true
 sa:XS K (.ref C) "__setattr__"=some (some (.builtin "object.__setattr__"))
theorem Cls.get{K:XQ}{C:Addr}(c:Cls K C)(f:Str):Yd K C f=true:=c.pg
noncomputable def NoAttr(K:XQ)(C:Addr)(f:Str):Prop:=XS K (.ref C) f=some none
theorem NoAttr.taker{K:XQ}{C:Addr}{f:Str}(n:NoAttr K C f):YX K C f=some none:=by
 unfold YX
 rw[show XS K (.ref C) f=some none from n]
 rfl
section
variable {X:Cx} {pins:List (Addr×Obj)} {σ:St} {H:Hp} {s:Shared} {a C dx:Addr} {fs:List (Str×V)} {f:Str} {v:V} {A:Around} {E:Value→Shared→Prop}
theorem kdI{b:Bool}{Q:Value→Shared→Prop}(I:Inv X pins σ H s)(e:H a=some (.ins C dx fs))(c:Cls X.K C)(n:NoAttr X.K C f)(l:fs.lookup f=some v)
  (h:∀u s',Inv X pins σ H s'→RelV v u→Q u s'):wpAny (model X.prog X.w) A (getAttr (.ref a) f b) Q E s:=by
 obtain⟨mA,O,r,_,_,_⟩:=kde I.hok e
 obtain⟨u,hu,ru⟩:=RelO.some_of (v:=v) (o:=mA f) (by rw[←l];exact r f)
 exact get_map I.kIn O (c.get f) c.hd n hu (ked ru) (h u _ (I.tok _) ru)
theorem kdD{y:V}{u:Value}{Q:Unit→Shared→Prop}(I:Inv X pins σ H s)(e:H a=some (.ins C dx fs))(c:Cls X.K C)(n:NoAttr X.K C f)(hl:fs.length<1000)(ry:RelV y u)
  (h:∀s',Inv X pins σ (upd H a (.ins C dx (putF f y fs))) s'→Q () s'):wpAny (model X.prog X.w) A (setAttr (.ref a) f u) Q E s:=by
 obtain⟨mA,O,r,wi,_,ho⟩:=kde I.hok e
 have hz:(fs.map (·.1)).length≤sizeLine:=by rw[XU,sizeLine_eq];omega
 refine ke5 I.kIn O c.sa c.po n.taker c.hd wi hz fun h' O' sb=>h _ ?_
 have hd:∃o,h'.get? dx=some o:=let⟨o,_,_,e',_⟩:=O'.ns;⟨o,e'⟩
 refine I.write (x:=a) (e:=dx) (by rw[e];exact True.intro) (.inr ho) (fun b q hb z=>(sb.2 b hb).trans z) hd ?_
 refine⟨by rw[kak O.ne];exact ho,?_,O.ne,O'.obj,_,O'.ns,fun g=>?_,fun g hg=>?_⟩
 ·have:=kb6 f y fs;omega
 ·show RelO ((putF f y fs).lookup g) (if g=f then some u else mA g)
  rw[kaf]
  by_cases q:g=f
  ·rw[if_pos q,if_pos q];exact ry
  ·rw[if_neg q,if_neg q];exact r g
 ·by_cases q:g=f
  ·rw[q];exact(kca f y fs).1
  ·refine(kca f y fs).2 g (wi g fun z=>hg ?_)
   show(if g=f then some u else mA g)=none
   rw[if_neg q];exact z
theorem Inv.made(I:Inv X pins σ H s):Inv X pins σ (upd (upd H s.heap.objs.size (.own (s.heap.objs.size+1))) (s.heap.objs.size+1) (.ins C s.heap.objs.size []))
  {s with heap:=(s.heap.push Yq).push (Yu C s.heap.objs.size)}:=by
 have e1:(s.heap.push Yq).get? s.heap.objs.size=some Yq:=Heap.get?_push_size s.heap rfl
 have e2:((s.heap.push Yq).push (Yu C s.heap.objs.size)).get? (s.heap.objs.size+1)=some (Yu C s.heap.objs.size):=by
  have:=Heap.get?_push_size (s.heap.push Yq) (o:=Yu C s.heap.objs.size) rfl
  rwa [Heap.size_push] at this
 have e3:(s.heap.push Yq).Ns s.heap.objs.size (fun _=>none):=⟨Yq,#[],_,e1,rfl,(fun e he=>absurd he (by simp)),fun _=>rfl⟩
 have I1:=I.laid (a:=s.heap.objs.size) (o:=.own (s.heap.objs.size+1)) (h':=s.heap.push Yq) (t':=s.toks) (fun b u q=>Heap.get?_push_of_some _ q) (XR _) ⟨_,e1⟩
 refine I1.laid (a:=s.heap.objs.size+1) (o:=.ins C s.heap.objs.size []) (t':=s.toks) (fun b u q=>Heap.get?_push_of_some _ q) (Nat.le_of_eq (Heap.size_push _ _)) ?_
 have ne:s.heap.objs.size≠s.heap.objs.size+1:=X2 (YO _)
 refine⟨by rw[kak ne,kae],Yy _,ne,e2,fun _=>none,(Heap.Ns1.of_empty e3).at fun o q=>Heap.get?_push_of_some _ q,fun _=>True.intro,fun y hy=>absurd rfl hy⟩
theorem kfn{prog:Program}{w:World}{env:Env}{e:Expr}{f:Str}{pos:Pos}{s:Shared}{Q:Value→Shared→Prop}(hb:attributeBase e f env (eval e env)=eval e env)
  (h:wpAny (model prog w) A (eval e env) (fun o s₁=>wpAny (model prog w) A (getAttr o f true) Q E s₁) E s):wpAny (model prog w) A (eval (.Attribute e f pos) env) Q E s:=
 Attribute_any_ h (by rw[arm_eval_Attribute,hb])
end
noncomputable def tFld(K:XQ)(ta:TE)(f:Str):TE:=fun σ H Q=>ta σ H fun x H1=>∃a C dx fs v,x=.ref a∧H1 a=some (.ins C dx fs)∧Cls K C∧NoAttr K C f∧fs.lookup f=some v∧Q v H1
noncomputable def sFld(K:XQ)(ta tv:TE)(f:Str):TS:=fun D σ H=>tv σ H fun y H1=>ta σ H1 fun x H2=>∃a C dx fs,x=.ref a∧H2 a=some (.ins C dx fs)∧Cls K C∧NoAttr K C f∧fs.length<1000∧
 D.nx σ (upd H2 a (.ins C dx (putF f y fs)))
section
variable {X:Cx} {o e value:Expr} {f:Str} {pos pos' tpos:Pos} {ta tv:TE}
theorem kfz(he:PE X e ta)(hb:attributeBase e f X.env (eval e X.env)=eval e X.env):PE X (.Attribute e f pos) (tFld X.K ta f):=by
 intro pins s σ H Q I h
 refine kfn hb (thn (he pins s σ H _ I h) fun u s1 ⟨x,H1,I1,rx,a,C,dx,fs,v,ex,ea,c,n,l,q⟩=>?_)
 subst ex
 obtain rfl:u=Value.ref a:=rx
 exact kdI I1 ea c n l fun u' s2 I2 ru=>⟨v,H1,I2,ru,q⟩
theorem kaW(ha:PE X o ta)(hv:PE X value tv)(hs:swapsWith value (some (.Attribute o f pos')) pos.line X.env=pure false):PS X (.Assign [.Attribute o f pos'] value pos) (sFld X.K ta tv f):=by
 intro pins s σ H D I h
 refine plainObj_wpAny_Assign_Attribute (thn (hv pins s σ H _ I h) fun u s1 ⟨y,H1,I1,ry,q⟩=>thn (ha pins s1 σ H1 _ I1 q) fun ov s2 ⟨x,H2,I2,rx,a,C,dx,fs,ex,ea,c,n,l,q2⟩=>?_) hs
 subst ex
 obtain rfl:ov=Value.ref a:=rx
 exact kdD I2 ea c n l ry fun s3 I3=>⟨σ,_,I3,q2⟩
end
section
variable {X:Cx} {pins:List (Addr×Obj)} {σ:St} {H:Hp} {s:Shared} {A:Around} {E:Value→Shared→Prop} {Q:Value→Shared→Prop} {c:Value} {b:Bool}
inductive TyOf (K:XQ) (H:Hp):V→Value→Prop where
 |non:TyOf K H .non (.type "NoneType")
 |bl (x:Bool):TyOf K H (.bl x) (.type "bool")
 |int (i:Int):TyOf K H (.int i) (.type "int")
 |str (x:Str):TyOf K H (.str x) (.type "str")
 |flt (x:UInt64):TyOf K H (.flt x) (.type "float")
 |lst {a:Addr} {xs:List V} (e:H a=some (.lst xs)):TyOf K H (.ref a) (.type "list")
 |frz {a:Addr} {o:Obj} {xs:List V} (e:H a=some (.frz o (.lst xs))):TyOf K H (.ref a) (.type "list")
 |tup {a:Addr} {xs:List V} (e:H a=some (.tup xs)):TyOf K H (.ref a) (.type "tuple")
 |dK {a:Addr} {kvs:List (Key×V)} (e:H a=some (.dK kvs)):TyOf K H (.ref a) (.type "dict")
 |dT {a:Addr} {kvs:List (List Key×V)} (e:H a=some (.dT kvs)):TyOf K H (.ref a) (.type "dict")
 | ins {a C dx:Addr} {fs:List (Str×V)} (e:H a=some (.ins C dx fs)) (cl:Cls K C) (ha:XS K (.ref C) "__class__"=some (some (.builtin "object.__class__")))
   (hn:YG K (.builtin "object.__class__") "__get__"=some (some (.builtin "getset_descriptor.__get__"))) (htk:YY K (.builtin "object.__class__")=some true)
   (hm:XT K C (.type "object")=some true):TyOf K H (.ref a) (.ref C)
theorem kea{x:V}{u t:Value}(I:Inv X pins σ H s)(rx:RelV x u)(ty:TyOf X.K H x t)(e:XW X.K t c=some b)(h:∀tk,Q (.bool b) {s with toks:=tk}):
  wpAny (model X.prog X.w) A (call (.builtin "isinstance") [u,c]) Q E s:=by
 cases ty with
 |non=>cases(show u=Value.none from rx);exact Yg PySem.W.kitx_none I.kIn True.intro e (fun z=>nomatch z) h
 |bl y=>cases(show u=Value.bool y from rx);exact Yg PySem.W.kitx_bool I.kIn True.intro e (fun z=>nomatch z) h
 |int i=>obtain⟨t,q⟩:=(show ∃t,u=Value.int i t from rx);cases q;exact Yg PySem.W.kitx_int I.kIn True.intro e (fun z=>nomatch z) h
 |str y=>obtain⟨t,q⟩:=(show ∃t,u=Value.str y t from rx);cases q;exact Yg PySem.W.kitx_str I.kIn True.intro e (fun z=>nomatch z) h
 |flt y=>obtain⟨t,q⟩:=(show ∃t,u=Value.float y t from rx);cases q;exact Yg PySem.W.kitx_float I.kIn True.intro e (fun z=>nomatch z) h
 | @lst a xs ea=>
  cases(show u=Value.ref a from rx)
  obtain⟨_,_,n,_,h1⟩:=(show ObjOk X.prog X.w H s.heap a (.lst xs) from I.hok a _ ea)
  exact Yg PySem.W.kitx_list I.kIn ⟨_,h1,rfl⟩ e (fun z=>nomatch z) h
 | @frz a ob xs ea=>
  cases(show u=Value.ref a from rx)
  obtain⟨_,_,_,n,_,h1⟩:=(show ObjOk X.prog X.w H s.heap a (.frz ob (.lst xs)) from I.hok a _ ea)
  exact Yg PySem.W.kitx_list I.kIn ⟨_,h1,rfl⟩ e (fun z=>nomatch z) h
 | @tup a xs ea=>
  cases(show u=Value.ref a from rx)
  obtain⟨_,_,_,p⟩:=(show ObjOk X.prog X.w H s.heap a (.tup xs) from I.hok a _ ea)
  obtain⟨o,h1,h2,_⟩:=p
  exact Yg PySem.W.kitx_tuple I.kIn ⟨o,h1,h2⟩ e (fun z=>nomatch z) h
 | @dK a kvs ea=>
  cases(show u=Value.ref a from rx)
  obtain⟨_,_,vs,_,p⟩:=(show ObjOk X.prog X.w H s.heap a (.dK kvs) from I.hok a _ ea)
  obtain⟨o,es,ep,h1,h2,_⟩:=p
  exact Yg PySem.W.kitx_dict I.kIn ⟨o,h1,h2.1⟩ e (fun z=>nomatch z) h
 | @dT a kvs ea=>
  cases(show u=Value.ref a from rx)
  obtain⟨_,_,xs,_,o,es,ep,h1,h2,_⟩:=(show ObjOk X.prog X.w H s.heap a (.dT kvs) from I.hok a _ ea)
  exact Yg PySem.W.kitx_dict I.kIn ⟨o,h1,h2.1⟩ e (fun z=>nomatch z) h
 | @ins a C dx fs ea cl ha hn htk hm=>
  cases(show u=Value.ref a from rx)
  obtain⟨mA,O,_⟩:=kde I.hok ea
  obtain⟨od,J,_⟩:=O.look
  exact Yg (PySem.W.kitx_own (cl.get _) cl.hd ha hn htk hm) I.kIn J e (fun z=>nomatch z) h
end
end L2
namespace L2
open PySem PySem.Spec PyProof.Rows
structure Room (k:Nat) (A:Around):Prop where
 hd:A.handled=none
 dp:A.depth+3*k+5<recursionLimit
 un:A.units+16*k+200<cLine
theorem Room.mono{j k:Nat}{A:Around}(r:Room k A)(h:j≤k):Room j A:=⟨r.hd,by have:=r.dp;omega,by have:=r.un;omega⟩
theorem Room.deeper{k:Nat}{A:Around}(r:Room (k+1) A)(env:Env):Room k (A.deeper env):=
 ⟨r.hd,by have:=r.dp;show A.depth+1+3*k+5<_;omega,by have:=r.un;show A.units+3+16*k+200<_;omega⟩
theorem Room.in1{k:Nat}{A:Around}(r:Room (k+1) A):Room k A.in1:=
 ⟨r.hd,by have:=r.dp;show A.depth+3*k+5<_;omega,by have:=r.un;show A.units+1+16*k+200<_;omega⟩
theorem kdH{A:Around}{C:Addr}{us:List Value}{kw:List (Str×Value)}:(A.under (.builtin "type.__call__" ⟨.ref C::us,kw⟩)).depth=A.depth+1:=by
 first|rfl|simp[Around.under,Code.weight,Code.isCreation,Code.isGuard,Code.isCaller,Code.frames,Code.isFrame,guardIds]
theorem kdG{A:Around}{C:Addr}{us:List Value}{kw:List (Str×Value)}:(A.under (.builtin "type.__call__" ⟨.ref C::us,kw⟩)).units=A.units+1:=by
 first|rfl|simp[Around.under,Code.cUnits,Code.frames,Code.isFrame]
theorem Room.make{k:Nat}{A:Around}(r:Room (k+1) A)(C:Addr)(us:List Value)(kw:List (Str×Value)):Room k (A.under (.builtin "type.__call__" ⟨.ref C::us,kw⟩)):=
 ⟨r.hd,by have:=r.dp;rw[kdH];omega,by have:=r.un;rw[kdG];omega⟩
theorem Room.depth{k:Nat}{A:Around}(r:Room k A):A.depth<recursionLimit:=by have:=r.dp;omega
theorem Room.units{k:Nat}{A:Around}(r:Room k A):A.units+64<cLine:=by have:=r.un;omega
noncomputable def tNil:TA:=fun _ H Q=>Q [] H
noncomputable def tCons(ta:TE)(tr:TA):TA:=fun σ H Q=>ta σ H fun x H1=>tr σ H1 fun xs H2=>Q (x::xs) H2
section
variable {X:Cx} {e:Expr} {es:List Expr} {te:TE} {t:TA} {pos:Pos}
theorem kad:PA X [] tNil:=fun _ _ _ _ H Q I h=>Calls.spliced_nil ⟨[],H,I, .nil,h⟩
theorem kaa(ha:PE X e te)(hr:PA X es t)(hs:starEach (e::es) X.env=(false,eval e X.env)::starEach es X.env:=by rfl):PA X (e::es) (tCons te t):=by
 intro pos pins s σ H Q I h
 rw[hs]
 show wpAny _ _ (spliced ((false,eval e X.env)::backTo pos (starEach es X.env))) _ _ s
 refine Calls.spliced_cons (thn (ha pins s σ H _ I h) fun u s1 ⟨x,H1,I1,r1,q1⟩=>?_)
 exact thn (hr pos pins s1 σ H1 _ I1 q1) fun us s2 ⟨xs,H2,I2,r2,q2⟩=>⟨x::xs,H2,I2, .cons r1 r2,q2⟩
noncomputable def tTup(t:TA):TE:=fun σ H Q=>t σ H fun xs H1=>xs.length≤sizeLine∧∀p,H1 p=none→Q (.ref p) (upd H1 p (.tup xs))
noncomputable def tLst(t:TA):TE:=fun σ H Q=>t σ H fun xs H1=>xs.length≤sizeLine∧∀p,H1 p=none→Q (.ref p) (upd H1 p (.lst xs))
theorem ka1{x1}(h:PA X es t):PE X (.Tuple es x1 pos) (tTup t):=by
 intro pins s σ H Q I hq
 refine wpAny_Tuple_spliced (thn (h pos pins s σ H _ I hq) fun us s1 ⟨xs,H1,I1,r,z,q⟩=>⟨by rw[←r.length];exact z,?_⟩)
 have hf:H1 s1.heap.objs.size=none:=I1.hok.fresh (XR _)
 refine⟨.ref s1.heap.objs.size,upd H1 s1.heap.objs.size (.tup xs),I1.laid (t':=s1.toks) (fun b u e=>Heap.get?_push_of_some _ e) (XR _) ?_,rfl,q _ hf⟩
 exact⟨z,us,r,⟨_,Heap.get?_push_size _ rfl,rfl,_,rfl⟩⟩
theorem ka2(h:PA X es t):PE X (.List es pos) (tLst t):=by
 intro pins s σ H Q I hq
 refine wpAny_List_spliced (thn (h pos pins s σ H _ I hq) fun us s1 ⟨xs,H1,I1,r,z,q⟩=>⟨by rw[←r.length];exact z,?_⟩)
 have hf:H1 s1.heap.objs.size=none:=I1.hok.fresh (XR _)
 refine⟨.ref s1.heap.objs.size,upd H1 s1.heap.objs.size (.lst xs),I1.laid (t':=s1.toks) (fun b u e=>Heap.get?_push_of_some _ e) (XR _) ?_,rfl,q _ hf⟩
 exact⟨z,us,0,r,Heap.get?_push_size _ rfl⟩
end
noncomputable abbrev Sp:=List V→Hp→VK→XK→Prop
noncomputable abbrev CXT:=List Env→Hp→Shared→XK→Value→Shared→Prop
structure Env0 (P:Program) (w:World) (K:XQ) (mg:Str→Option Value) (base:Heap) (A:Around) (outer:List Env) (s:Shared) (H:Hp):Prop where
 frames:A.frames=some outer
 mod:Mod K mg base
 bs:∀b o,base.get? b=some o→s.heap.get? b=some o∧H b=none
 bsz:base.objs.size≤s.heap.objs.size
 funs:s.heap.FunFrames base outer
 frf:∀b∈frs outer,H b=none
 hok:HOk P w H s.heap
 bare:AllBare s.gens
noncomputable def CE(outer:List Env)(P:Program)(w:World)(H:Hp)(s:Shared)(Q:VK)(u:Value)(s':Shared):Prop:=
 ∃v H',s'.os=s.os∧AllBare s'.gens∧Un (frs outer) [] H H' s.heap s'.heap∧HOk P w H' s'.heap∧RelV v u∧Q v H'
noncomputable def CR(CX:CXT)(outer:List Env)(P:Program)(w:World)(H:Hp)(s:Shared)(Q:VK)(E:XK)(r:Result)(s':Shared):Prop:=
 match r with
 | .ok (.ret u)=>CE outer P w H s Q u s'
 | .ok _=>False
 | .error e=>CX outer H s E e s'
structure FnOk (P:Program) (w:World) (K:XQ) (mg:Str→Option Value) (base:Heap) (CX:CXT) (k:Nat) (f:Addr) (fd:FuncData) (ps:List Str) (sp:Sp):Prop where
 len:∀vs H Q E,sp vs H Q E→vs.length=ps.length
 run:∀(A:Around) (outer:List Env) (s:Shared) (H:Hp) (args:Args) (us:List Value) (vs:List V) (Q:VK) (E:XK),Room k A→Env0 P w K mg base A outer s H→BindsTo s fd args (ps.zip us)→Vals vs us→sp vs H Q E→
  codeAny (model P w) A (.call (.ref f) args) (CR CX outer P w H s Q E) s
theorem FnOk.mono{P:Program}{w:World}{K:XQ}{mg:Str→Option Value}{base:Heap}{CX:CXT}{j k:Nat}{f:Addr}{fd:FuncData}{ps:List Str}{sp:Sp}(F:FnOk P w K mg base CX j f fd ps sp)(h:j≤k):
  FnOk P w K mg base CX k f fd ps sp:=⟨F.len,fun A outer s H args us vs Q E hr=>F.run A outer s H args us vs Q E (hr.mono h)⟩
theorem FnOk.imp{P:Program}{w:World}{K:XQ}{mg:Str→Option Value}{base:Heap}{CX:CXT}{k:Nat}{f:Addr}{fd:FuncData}{ps:List Str}{sp sp':Sp}(F:FnOk P w K mg base CX k f fd ps sp)
  (h:∀vs H Q E,sp' vs H Q E→sp vs H Q E):FnOk P w K mg base CX k f fd ps sp':=
 ⟨fun vs H Q E q=>F.len vs H Q E (h _ _ _ _ q),fun A outer s H args us vs Q E hr he hb hv hs=>F.run A outer s H args us vs Q E hr he hb hv (h _ _ _ _ hs)⟩
theorem Env0.make{P:Program}{w:World}{K:XQ}{mg:Str→Option Value}{base:Heap}{A:Around}{outer:List Env}{s:Shared}{H:Hp}(e:Env0 P w K mg base A outer s H)(C:Addr)(us:List Value)(kw:List (Str×Value)):
  Env0 P w K mg base (A.under (.builtin "type.__call__" ⟨.ref C::us,kw⟩)) outer s H:=⟨by first|exact e.frames|(simpa[Around.under,Code.envs,Code.isFrame,pushEnvs] using e.frames),e.mod,e.bs,e.bsz,e.funs,e.frf,e.hok,e.bare⟩
theorem Env0.in1{P:Program}{w:World}{K:XQ}{mg:Str→Option Value}{base:Heap}{A:Around}{outer:List Env}{s:Shared}{H:Hp}(e:Env0 P w K mg base A outer s H):
  Env0 P w K mg base A.in1 outer s H:=⟨e.frames,e.mod,e.bs,e.bsz,e.funs,e.frf,e.hok,e.bare⟩
section
variable {X:Cx} {pins:List (Addr×Obj)} {σ:St} {H:Hp} {s s':Shared}
theorem Inv.env0(I:Inv X pins σ H s):Env0 X.prog X.w X.K X.mg X.base X.A X.stack s H:=
 ⟨I.ok.frames,I.ok.mod,I.bs,XZ I.ok.bsz I.sz,I.stack,I.stkFree,I.hok,I.bare⟩
theorem Inv.after{Q:VK}{u:Value}(I:Inv X pins σ H s)(h:CE X.stack X.prog X.w H s Q u s'):EP X pins σ Q u s':=by
 obtain⟨v,H',os,bare,un,hok,r,q⟩:=h
 obtain⟨hh,g,d,t,os'⟩:=s'
 obtain rfl:os'=s.os:=os
 exact⟨v,H',I.call (h':=hh) (g':=g) (d':=d) (t':=t) (ch:=[]) un hok bare (fun b z=>absurd z (by simp)),r,q⟩
end
noncomputable def tCall(sp:Sp)(dvs:List V)(E:XK)(t:TA):TE:=fun σ H Q=>t σ H fun vs H1=>sp (vs++dvs) H1 Q E
noncomputable def tMake(C:Addr)(sp:Sp)(dvs:List V)(E:XK)(t:TA):TE:=fun σ H Q=>t σ H fun vs H1=>∀x dx,H1 x=none→H1 dx=none→dx≠x→
 sp (.ref x::(vs++dvs)) (upd (upd H1 dx (.own x)) x (.ins C dx [])) (fun v H2=>v=.non∧Q (.ref x) H2) E
noncomputable def Binds(K:XQ)(fd:FuncData)(ps:List Str)(ds:List Value):Prop:=
 ∀(s:Shared) (us:List Value),K.In s.heap→(us++ds).length=ps.length→BindsTo s fd ⟨us,[]⟩ (ps.zip (us++ds))
theorem Binds.all{K:XQ}{fd:FuncData}{ps:List Str}(h:∀us:List Value,us.length=ps.length→bindArgs fd ⟨us,[]⟩=pure (ps.zip us)):Binds K fd ps []:=fun s us _ hl=>by
 rw[List.append_nil] at hl⊢
 exact .of_eq (h us hl)
noncomputable def kbH(CX:CXT)(X:Cx)(E:XK):Prop:=∀(pins:List (Addr×Obj)) (σ:St) (H:Hp) (s:Shared) (e:Value) (s':Shared),Inv X pins σ H s→CX X.stack H s E e s'→X.xe e s'
section
variable {X:Cx} {CX:CXT} {k:Nat} {f C:Addr} {fd:FuncData} {ps:List Str} {sp:Sp} {dvs:List V} {ds:List Value} {E:XK} {x m:Str} {p pos apos:Pos} {e o:Expr} {es:List Expr} {ta:TE} {t:TA}
theorem keS{pins:List (Addr×Obj)}{σ:St}{H:Hp}{s:Shared}{Q:VK}{us:List Value}{vs:List V}(F:FnOk X.prog X.w X.K X.mg X.base CX k f fd ps sp)(hr:Room k X.A)(hb:Binds X.K fd ps ds)(hd:Vals dvs ds)(hx:kbH CX X E)
  (I:Inv X pins σ H s) (r:Vals vs us) (h:sp (vs++dvs) H Q E):wpAny (model X.prog X.w) X.A (call (.ref f) us) (EP X pins σ Q) X.xe s:=by
 have r2:Vals (vs++dvs) (us++ds):=r.append hd
 have hl:(us++ds).length=ps.length:=by rw[←r2.length];exact F.len _ _ _ _ h
 refine wpAny_call (codeAny_mono (F.run X.A X.stack s H ⟨us,[]⟩ (us++ds) (vs++dvs) Q E hr I.env0 (hb s us I.kIn hl) r2 h) fun r s' hq=>?_)
 cases r with
 |error e=>exact hx pins σ H s e s' I hq
 |ok fl=>
  cases fl with
  |ret u=>exact I.after hq
  |next=>exact False.elim hq
  |brk=>exact False.elim hq
  |cont=>exact False.elim hq
theorem kax(F:FnOk X.prog X.w X.K X.mg X.base CX k f fd ps sp)(hr:Room k X.A)(hg:Gl X x)(hm:X.mg x=some (.ref f))(hk:X0 X.K (.ref f)=true)(hb:Binds X.K fd ps ds)(hd:Vals dvs ds)(hx:kbH CX X E)
  (ha:PA X (e::es) t) (hdb:(x==("__debug__" :Str))=false:=by decide) (he:starEach (e::es) X.env=(false,eval e X.env)::starEach es X.env:=by rfl) (hpl:(backTo pos (starEach es X.env)).any (·.1)=false:=by rfl):
  PE X (.Call (.Name x p) (e::es) [] pos) (tCall sp dvs E t):=by
 intro pins s σ H Q I h
 refine wpAny_Call_Name_kw (kb7 I hg hm ?_ hdb)
 refine YZ (h₀:=X.base) I.ok.mod.kin hk (thn (ha pos pins s σ H _ I h) fun us s1 ⟨vs,H1,I1,r,q⟩=>⟨I1.kIn,?_⟩) he hpl
 exact keS F hr hb hd hx I1 r q
structure Mk (K:XQ) (C f:Addr):Prop where
 makes:Yf K C=true
 init:XS K (.ref C) "__init__"=some (some (.ref f))
 fn:Yl K (.ref f)=true
 kp:X0 K (.ref C)=true
theorem kdp{pins:List (Addr×Obj)}{σ:St}{H:Hp}{s:Shared}{Q:VK}{us:List Value}{vs:List V}(M:Mk X.K C f)(F:FnOk X.prog X.w X.K X.mg X.base CX k f fd ps sp)(hr:Room (k+1) X.A)(hb:Binds X.K fd ps ds)(hd:Vals dvs ds)
  (hx:kbH CX X E) (I:Inv X pins σ H s) (r:Vals vs us)
  (h:∀x dx,H x=none→H dx=none→dx≠x→sp (.ref x::(vs++dvs)) (upd (upd H dx (.own x)) x (.ins C dx [])) (fun v H2=>v=.non∧Q (.ref x) H2) E):
  wpAny (model X.prog X.w) X.A (call (.ref C) us) (EP X pins σ Q) X.xe s:=by
 have hq:=h (s.heap.objs.size+1) s.heap.objs.size (I.hok.fresh (Nat.le_succ _)) (I.hok.fresh (XR _)) (X2 (YO _))
 have I2:=Inv.made (C:=C) I
 have r2:Vals (V.ref (s.heap.objs.size+1)::(vs++dvs)) (Value.ref (s.heap.objs.size+1)::(us++ds)):=.cons rfl (r.append hd)
 have hl:(Value.ref (s.heap.objs.size+1)::us++ds).length=ps.length:=by
  have e:=r2.length
  rw[F.len _ _ _ _ hq] at e
  exact e.symm
 refine wpAny_call (kdx (f:=f) I.kIn M.makes M.init (beq_iff_eq.mp M.fn) (codeAny_mono (F.run _ X.stack _ _ ⟨Value.ref (s.heap.objs.size+1)::us,[]⟩ (Value.ref (s.heap.objs.size+1)::(us++ds)) _ _ E (hr.make C us [])
  (I2.env0.make C us []) (hb _ (Value.ref (s.heap.objs.size+1)::us) I2.kIn hl) r2 hq) fun r s' hq'=>?_))
 cases r with
 |error e=>exact hx pins σ _ _ e s' I2 hq'
 | ok fl=>
  cases fl with
  |ret u=>
   obtain⟨v,H',I3,rv,ev,q3⟩:=I2.after hq'
   subst ev
   exact⟨rv,⟨V.ref (s.heap.objs.size+1),H',I3,rfl,q3⟩⟩
  |next=>exact False.elim hq'
  |brk=>exact False.elim hq'
  |cont=>exact False.elim hq'
theorem kbb(M:Mk X.K C f)(F:FnOk X.prog X.w X.K X.mg X.base CX k f fd ps sp)(hr:Room (k+1) X.A)(hg:Gl X x)(hm:X.mg x=some (.ref C))(hb:Binds X.K fd ps ds)(hd:Vals dvs ds)(hx:kbH CX X E)
  (ha:PA X (e::es) t) (hdb:(x==("__debug__" :Str))=false:=by decide) (he:starEach (e::es) X.env=(false,eval e X.env)::starEach es X.env:=by rfl) (hpl:(backTo pos (starEach es X.env)).any (·.1)=false:=by rfl):
  PE X (.Call (.Name x p) (e::es) [] pos) (tMake C sp dvs E t):=by
 intro pins s σ H Q I h
 refine wpAny_Call_Name_kw (kb7 I hg hm ?_ hdb)
 refine YZ (h₀:=X.base) I.ok.mod.kin M.kp (thn (ha pos pins s σ H _ I h) fun us s1 ⟨vs,H1,I1,r,q⟩=>⟨I1.kIn,?_⟩) he hpl
 exact kdp M F hr hb hd hx I1 r q
theorem kex(M:Mk X.K C f)(F:FnOk X.prog X.w X.K X.mg X.base CX k f fd ps sp)(hr:Room (k+1) X.A)(hg:Gl X x)(hm:X.mg x=some (.ref C))(hb:Binds X.K fd ps ds)(hd:Vals dvs ds)(hx:kbH CX X E)
  (hdb:(x==("__debug__" :Str))=false:=by decide):PE X (.Call (.Name x p) [] [] pos) (tMake C sp dvs E tNil):=by
 intro pins s σ H Q I h
 refine wpAny_Call_Name_kw (kb7 I hg hm ?_ hdb)
 exact PySem.W.callWith_K0 I.kIn M.kp (kdp (us:=[]) M F hr hb hd hx I .nil h)
end
noncomputable def PK(X:Cx)(kws:List Keyword)(t:TA):Prop:=
 ∀(pos:Pos) (pins:List (Addr×Obj)) (s:Shared) (σ:St) (H:Hp) (Q:List V→Hp→Prop),Inv X pins σ H s→t σ H Q→wpAny (model X.prog X.w) X.A (evalAll ((backToKw pos (keywordEach kws X.env)).map (·.2))) (AP X pins σ Q) X.xe s
section
variable {X:Cx} {CX:CXT} {k:Nat} {f C:Addr} {fd:FuncData} {ps ks:List Str} {sp:Sp} {E:XK} {x m:Str} {p pos apos kpos:Pos} {e o:Expr} {es:List Expr} {kws:List Keyword} {te ta:TE} {t tk:TA} {nm:Option Str}
theorem kfv:PK X [] tNil:=fun _ _ _ _ H Q I h=>wpAny_evalAll_nil ⟨[],H,I, .nil,h⟩
theorem kfb(ha:PE X e te)(hr:PK X kws t):PK X (⟨nm,e,kpos⟩::kws) (tCons te t):=by
 intro pos pins s σ H Q I h
 show wpAny _ _ (evalAll ((do let v ←eval e X.env;standAt pos;pure v)::(backToKw pos (keywordEach kws X.env)).map (·.2))) _ _ s
 refine wpAny_evalAll_cons (wpAny_bind (thn (ha pins s σ H _ I h) fun u s1 ⟨x,H1,I1,r1,q1⟩=>wpAny_bind (wpAny_standAt (wpAny_pure ?_))))
 exact thn (hr pos pins s1 σ H1 _ I1 q1) fun us s2 ⟨xs,H2,I2,r2,q2⟩=>⟨x::xs,H2,I2, .cons r1 r2,q2⟩
structure kdB (K:XQ) (fd:FuncData) (ps ks:List Str) (g:List Value→List Value→List Value) (gV:List V→List V→List V):Prop where
 to:∀(s:Shared) (us ws:List Value),K.In s.heap→(g us ws).length=ps.length→BindsTo s fd ⟨us,ks.zip ws⟩ (ps.zip (g us ws))
 rel:∀{vs:List V} {us:List Value} {zs:List V} {ws:List Value},Vals vs us→Vals zs ws→Vals (gV vs zs) (g us ws)
variable {g:List Value→List Value→List Value} {gV:List V→List V→List V}
end
structure kaA (N P:List Str) (sc:Scope):Prop where
 kind:sc.kind=.function
 co:sc.isCoroutine=false
 gen:sc.isGenerator=false
 nd:N.Nodup
 pre:N.take P.length=P
 par:∀x∈P,sc.names.lookup x=some .local∨sc.names.lookup x=some .cell
 nofree:∀y∈sc.names,y.2≠.free
theorem kc3{kindOf:Str→Option NameKind}{x:Str}:∀{binds:List (Str×Value)} {m:Str→Option Value},(∀v,(x,v)∉binds)→bindL kindOf binds m x=m x
 |[],_,_=>rfl
 | (n,v)::r,m,h=>by
  unfold bindL
  rw[kc3 fun w hw=>h w (Yb _ hw)]
  split
  ·have:x≠n:=by rintro rfl;exact h v Yi
   simp[this]
  ·rfl
theorem kc5{kindOf:Str→Option NameKind}{x:Str}:∀{binds:List (Str×Value)} {m:Str→Option Value},(∀v,(x,v)∉binds)→bindC kindOf binds m x=m x
 |[],_,_=>rfl
 | (n,v)::r,m,h=>by
  unfold bindC
  rw[kc5 fun w hw=>h w (Yb _ hw)]
  split
  ·rfl
  ·have:x≠n:=by rintro rfl;exact h v Yi
   simp[this]
theorem kc4{kindOf:Str→Option NameKind}{x:Str}{v:Value}:∀{P:List Str} {vs:List Value} {i:Nat} {m:Str→Option Value},P.Nodup→P[i]?=some x→vs[i]?=some v→kindOf x=some .local→
  bindL kindOf (P.zip vs) m x=some v
 |[],_,_,_,_,h,_,_=>by simp at h
 |_::_,[],_,_,_,_,h,_=>by simp at h
 |p::P,w::vs,0,m,nd,h1,h2,hk=>by
  simp at h1 h2;subst h1;subst h2
  show bindL kindOf ((p,w)::P.zip vs) m p=_
  unfold bindL
  rw[kc3 fun v hv=>(Yr.mp nd).1 (Y0 hv).1,if_pos hk]
  simp
 |p::P,w::vs,i+1,m,nd,h1,h2,hk=>by
  show bindL kindOf ((p,w)::P.zip vs) m x=_
  unfold bindL
  exact kc4 (i:=i) (Yr.mp nd).2 (by simpa using h1) (by simpa using h2) hk
theorem kc6{kindOf:Str→Option NameKind}{x:Str}{v:Value}:∀{P:List Str} {vs:List Value} {i:Nat} {m:Str→Option Value},P.Nodup→P[i]?=some x→vs[i]?=some v→kindOf x≠some .local→
  bindC kindOf (P.zip vs) m x=some v
 |[],_,_,_,_,h,_,_=>by simp at h
 |_::_,[],_,_,_,_,h,_=>by simp at h
 |p::P,w::vs,0,m,nd,h1,h2,hk=>by
  simp at h1 h2;subst h1;subst h2
  show bindC kindOf ((p,w)::P.zip vs) m p=_
  unfold bindC
  rw[kc5 fun v hv=>(Yr.mp nd).1 (Y0 hv).1,if_neg hk]
  simp
 |p::P,w::vs,i+1,m,nd,h1,h2,hk=>by
  show bindC kindOf ((p,w)::P.zip vs) m x=_
  unfold bindC
  exact kc6 (i:=i) (Yr.mp nd).2 (by simpa using h1) (by simpa using h2) hk
noncomputable def start(N:List Str)(vs:List V):St:=vs.map some++Yh (N.length-vs.length) none
noncomputable def cxOf(CX:CXT)(P:Program)(w:World)(K:XQ)(mg:Str→Option Value)(base:Heap)(N:List Str)(qual:Str)(scope:Scope)(f:Addr)(cd:Value)(A:Around)(outer:List Env)(s:Shared)(H:Hp)(E:XK):Cx where
 prog:=P
 w:=w
 K:=K
 mg:=mg
 base:=base
 A:=A.deeper (envOfC qual scope s.heap.objs.size f cd)
 N:=N
 s₀:=s
 H₀:=H
 env:=envOfC qual scope s.heap.objs.size f cd
 outer:=outer
 stack:=envOfC qual scope s.heap.objs.size f cd::outer
 ex:=[]
 calm:=true
 fn:=fun _=>true
 pn:=[]
 xe:=fun e s'=>wpAny (model P w) (A.deeper (envOfC qual scope s.heap.objs.size f cd)) (leaving (envOfC qual scope s.heap.objs.size f cd) e) (fun _ s''=>CX outer H s E e s'') (fun e' s''=>CX outer H s E e' s'') s'
theorem kbT{sc:Scope}{n:Nat}{x:Str}(h:sc.names.lookup x=some .cell):∃c,(cellsFrom n sc.names []).lookup x=some c:=by
 have q:=Za sc.names n [] (.inl h)
 exact Option.isSome_iff_exists.mp q
theorem keb{CX:CXT}{P:Program}{w:World}{K:XQ}{mg:Str→Option Value}{base:Heap}{N ps:List Str}{qual:Str}{scope:Scope}{f:Addr}{cd:Value}{A:Around}{outer:List Env}{s s1:Shared}{H:Hp}{E:XK}{us:List Value}{vs:List V}
  (S:kaA N ps scope) (hd:A.handled=none) (e0:Env0 P w K mg base A outer s H) (hl:vs.length=ps.length) (r:Vals vs us)
  (x:InCallC s s.heap.objs.size (bindL (envOfC qual scope s.heap.objs.size f cd).kindOf (ps.zip us) fun _=>none) (cellsFrom (s.heap.objs.size+1) scope.names []) (bindC (envOfC qual scope s.heap.objs.size f cd).kindOf (ps.zip us) fun _=>none) s1):
  Inv (cxOf CX P w K mg base N qual scope f cd A outer s H E) [] (start N vs) H s1:=by
 have hpl:ps.length≤N.length:=by have:=congrArg List.length S.pre;rw[YH] at this;omega
 obtain⟨h1,tk,rfl,hk⟩:=x.done
 have noA:∀b:Addr,b∉(cxOf CX P w K mg base N qual scope f cd A outer s H E).ex:=fun b z=>absurd (show b∈([]:List Addr) from z) (by simp)
 refine⟨⟨e0.mod,S.kind,rfl,rfl,XR _,fun y z c h1 h2=>?_,fun y hy=>?_,fun y c _ h=>?_,fun _=>hd,Around.frames_deeper e0.frames, .inr ⟨rfl,rfl⟩,fun b z=>absurd z (noA b),e0.bs,e0.bsz,fun b _ _=>noA b,fun b z=>absurd z (noA b),e0.funs,e0.frf⟩,
  rfl,e0.bare,Un.kept hk,⟨_,x.toInCall.ns,fun i y v h1 h2 h3=>?_⟩,fun y c h=>⟨_,x.cell y c h⟩,e0.hok.fresh (XR _),fun y c h=>?_,fun p hp=>absurd (show p∈([]:List (Addr×Obj)) from hp) (by simp),e0.hok.kept hk,?_⟩
 ·exact name_of_addr x.apart (PySem.mem_of_lookup h1) (PySem.mem_of_lookup h2)
 ·have hy:scope.names.lookup y=some .cell∨scope.names.lookup y=some .free:=hy
  rcases hy with hy|hy
  ·exact kbT hy
  ·exact absurd rfl (S.nofree _ (PySem.mem_of_lookup hy))
 ·exact Yo (x.above y c (PySem.mem_of_lookup h))
 ·have hi:i<vs.length:=by
   unfold start at h2
   by_cases hi:i<vs.length
   ·exact hi
   ·rw[YE (by simpa using hi)] at h2
    rw[Zb] at h2
    split at h2 <;> cases h2
  have ha:vs[i]?=some v:=by
   unfold start at h2
   rw[YI (by simpa using hi),Ys] at h2
   cases e:vs[i]? with
   |none=>rw[e] at h2;cases h2
   |some a=>rw[e] at h2;cases h2;rfl
  obtain⟨u,hu,rv⟩:=r.get ha
  have hp:ps[i]?=some y:=by
   rw[←S.pre,List.getElem?_take_of_lt (by omega)];exact h1
  have ndP:ps.Nodup:=by rw[←S.pre];exact S.nd.sublist (List.take_sublist _ _)
  refine⟨u,rv,?_⟩
  rcases S.par y (YF hp) with k|k
  ·exact .inl ⟨k,kc4 ndP hp hu k⟩
  ·obtain⟨c,e⟩:=kbT (n:=s.heap.objs.size+1) k
   refine .inr ⟨.inl k,c,e,?_⟩
   have q:=x.cell y c e
   rw[kc6 ndP hp hu (by show scope.names.lookup y≠_;rw[k];decide)] at q
   exact q
 ·exact e0.hok.fresh (Yo (x.above y c (PySem.mem_of_lookup h)))
 ·unfold start
  show _=N.length
  rw[Yz,XU,Zc]
  omega
theorem fn_of{CX:CXT}{P:Program}{w:World}{K:XQ}{mg:Str→Option Value}{base:Heap}{k:Nat}{f:Addr}{name qual:Str}{params:Arguments}{body:List Stmt}{scope:Scope}{dV kV doc pm cdv ct oc:Value}{an od:Option Addr}
  {osl:Array (Option Value)} {N ps:List Str} {sp:Sp} (lk:K.lookup f=some ⟨oc,od, .func (XX name qual params body scope dV kV doc pm an cdv ct),osl⟩) (hcd:Ya K cdv qual=true) (S:kaA N ps scope)
  (len:∀vs H Q E,sp vs H Q E→vs.length=ps.length)
  (hbody:∀(A:Around) (outer:List Env) (s:Shared) (H:Hp) (vs:List V) (Q:VK) (E:XK),Room k (A.deeper (envOfC qual scope s.heap.objs.size f cdv))→sp vs H Q E→
   ∃t,PSs (cxOf CX P w K mg base N qual scope f cdv A outer s H E) body t∧t {nx:=fun _ H'=>Q .non H',rt:=Q} (start N vs) H):
  FnOk P w K mg base CX (k+1) f (XX name qual params body scope dV kV doc pm an cdv ct) ps sp:=by
 refine⟨len,fun A outer s H args us vs Q E hr e0 hb r hsp=>?_⟩
 have hl:=len _ _ _ _ hsp
 have KX:K.In s.heap:=e0.mod.kin.keeps fun b o e=>(e0.bs b o e).1
 have lim:s.heap.NoLimit:=e0.mod.nolimit.keeps fun b o e=>(e0.bs b o e).1
 have hkind:∀y∈ps.zip us,scope.names.lookup y.1=some .local∨(scope.names.lookup y.1=some .cell∧((cellsFrom (s.heap.objs.size+1) scope.names []).lookup y.1).isSome=true):=fun⟨n,v⟩ hy=>by
  rcases S.par n (Y0 hy).1 with q|q
  ·exact .inl q
  ·exact .inr ⟨q,Za _ _ _ (.inl q)⟩
 refine codeAny_call_function hr.depth (KX _ _ lk) rfl S.co S.gen rfl (PySem.W.codeRec_of KX hcd) (hb _ _ _ _ ?_)
 refine wpAny_newFunctionEnv_cells S.kind hkind fun env he s1 x=>?_
 subst he
 refine⟨lim.keeps x.toInCall.keep,codeAny_func ?_⟩
 obtain⟨t,ht,hq⟩:=hbody A outer s H vs Q E (hr.deeper _) hsp
 have I:Inv (cxOf CX P w K mg base N qual scope f cdv A outer s H E) [] (start N vs) H s1:=keb S hr.hd e0 hl r x
 refine wpAny_mono (ht [] s1 (start N vs) H _ I hq) (fun fl s' hs=>?_) fun e s' hs=>hs
 have fin:∀{σ':St} {H':Hp} {v:V} {u:Value},Inv (cxOf CX P w K mg base N qual scope f cdv A outer s H E) [] σ' H' s'→RelV v u→Q v H'→CE outer P w H s Q u s':=
  fun {σ' H' v u} J rv q=>⟨v,H',J.os,J.bare,J.base,J.hok,rv,q⟩
 cases fl with
 |ret u=>
  obtain⟨v,σ',H',J,rv,q⟩:=hs
  exact fin J rv q
 |next=>
  obtain⟨σ',H',J,q⟩:=hs
  exact fin (v:=V.non) (u:=Value.none) J rfl q
 |brk=>
  obtain⟨_,_,_,q⟩:=hs
  exact False.elim q
 |cont=>
  obtain⟨_,_,_,q⟩:=hs
  exact False.elim q
end L2
namespace L2
open PySem PySem.Spec PyProof.Rows
section
variable {X:Cx} {x:Str} {p pos:Pos} {e:Expr} {es:List Expr} {t:TA} {id T:String} {r:List V→Hp→VK→Prop}
noncomputable def tCB(r:List V→Hp→VK→Prop)(t:TA):TE:=fun σ H Q=>t σ H fun vs H1=>r vs H1 Q
theorem kap(hc:CallR X (.builtin id) r)(hg:Gl X x)(hm:X.mg x=none)(hv:bootBuiltins x=some (.builtin id))(ha:PA X (e::es) t)(hn:x≠"__name__":=by decide)(hdb:(x==("__debug__" :Str))=false:=by decide)
  (he:starEach (e::es) X.env=(false,eval e X.env)::starEach es X.env:=by rfl) (hpl:(backTo pos (starEach es X.env)).any (·.1)=false:=by rfl):PE X (.Call (.Name x p) (e::es) [] pos) (tCB r t):=by
 intro pins s σ H Q I h
 refine wpAny_Call_Name_kw (kb8 I hg hm hv ?_ hn hdb)
 exact PyProof.Rows.callWith_builtin1 (thn (ha pos pins s σ H _ I h) fun us s1 ⟨vs,H1,I1,r1,q1⟩=>hc pins s1 σ H1 vs us Q I1 r1 q1) he hpl
theorem kbe(hc:CallR X (.type T) r)(hg:Gl X x)(hm:X.mg x=none)(hv:bootBuiltins x=some (.type T))(ha:PA X (e::es) t)(hn:x≠"__name__":=by decide)(hdb:(x==("__debug__" :Str))=false:=by decide)
  (he:starEach (e::es) X.env=(false,eval e X.env)::starEach es X.env:=by rfl) (hpl:(backTo pos (starEach es X.env)).any (·.1)=false:=by rfl):PE X (.Call (.Name x p) (e::es) [] pos) (tCB r t):=by
 intro pins s σ H Q I h
 refine wpAny_Call_Name_kw (kb8 I hg hm hv ?_ hn hdb)
 exact PyProof.Rows.callWith_type1 (thn (ha pos pins s σ H _ I h) fun us s1 ⟨vs,H1,I1,r1,q1⟩=>hc pins s1 σ H1 vs us Q I1 r1 q1) he hpl
end
end L2
namespace HT
open PySem PyProof.Rows
section
open PySem.SeqAt
open PySem.AutoSeq1 (wpAny_loadPart')
open PySem.MeetsSeq PySem.MeetsSeq2 PySem.MeetsSeq3
end
section
variable {prog:Program} {w:World} {A:Around} {E:Value→Shared→Prop} {s:Shared}
noncomputable def sIx(n d:Nat):Option Int→Nat
 |none=>d
 |some v=>if v<0 then(v+(n:Int)).toNat else min v.toNat n
end
end HT
namespace L2
open PySem PySem.Spec PyProof.Rows
noncomputable abbrev TO:=St→Hp→(Option Int→Hp→Prop)→Prop
noncomputable def PO(X:Cx)(e:Option Expr)(t:TO):Prop:=
 ∀(pins:List (Addr×Obj)) (s:Shared) (σ:St) (H:Hp) (Q:Option Int→Hp→Prop),Inv X pins σ H s→t σ H Q→
  wpAny (model X.prog X.w) X.A (evalPart e X.env) (fun u s'=>∃o H',Inv X pins σ H' s'∧IsPart u o∧Q o H') X.xe s
noncomputable def tPart(t:TE):TO:=fun σ H Q=>t σ H fun x H1=>∃i,x=.int i∧Q (some i) H1
section
variable {X:Cx} {e:Expr} {te:TE} {lo hi:Option Expr} {tl th:TO} {pos p2:Pos}
theorem kdX(h:PE X e te):PO X (some e) (tPart te):=by
 intro pins s σ H Q I hw
 rw[evalPart_some]
 refine thn (h pins s σ H _ I hw) fun u s1 ⟨x,H1,I1,r1,q1⟩=>?_
 obtain⟨i,rfl,q⟩:=q1
 obtain⟨t,rfl⟩:=r1
 exact⟨some i,H1,I1, .int i t,q⟩
noncomputable def SlR(X:Cx)(r:V→Option Int→Option Int→Hp→VK→Prop):Prop:=
 ∀(pins:List (Addr×Obj)) (s:Shared) (σ:St) (H:Hp) (x:V) (v vl vu:Value) (lo hi:Option Int) (sl:Addr) (Q:VK),Inv X pins σ H s→RelV x v→s.heap.IsSliceOf sl vl vu .none→IsPart vl lo→IsPart vu hi→r x lo hi H Q→
  ∃T id,typeLookup (.type T) "__getitem__"=pure (some (.builtin id))∧s.TypeIs v T∧wpAny (model X.prog X.w) X.A (getItem v (.ref sl)) (EP X pins σ Q) X.xe s
theorem SlR.or{r r':V→Option Int→Option Int→Hp→VK→Prop}(h:SlR X r)(h':SlR X r'):SlR X (fun x lo hi H Q=>r x lo hi H Q∨r' x lo hi H Q):=by
 intro pins s σ H x v vl vu lo hi sl Q I rx hs pl pu q
 rcases q with q|q
 ·exact h pins s σ H x v vl vu lo hi sl Q I rx hs pl pu q
 ·exact h' pins s σ H x v vl vu lo hi sl Q I rx hs pl pu q
noncomputable def tSl(r:V→Option Int→Option Int→Hp→VK→Prop)(te:TE)(tl th:TO):TE:=fun σ H Q=>te σ H fun x H1=>tl σ H1 fun l H2=>th σ H2 fun u H3=>r x l u H3 Q
theorem kev{r:V→Option Int→Option Int→Hp→VK→Prop}(hr:SlR X r)(he:PE X e te)(hl:PO X lo tl)(hu:PO X hi th):PE X (.Subscript e (.Slice lo hi none p2) pos) (tSl r te tl th):=by
 intro pins s σ H Q I h
 refine Subscript_ (thn (he pins s σ H _ I h) fun v s1 ⟨x,H1,I1,r1,q1⟩=>?_)
 refine wpAny_Slice (thn (hl pins s1 σ H1 _ I1 q1) fun vl s2 ⟨l,H2,I2,pl,q2⟩=>thn (hu pins s2 σ H2 _ I2 q2) fun vu s3 ⟨u,H3,I3,pu,q3⟩=>?_)
 rw[evalPart_none]
 refine wpAny_pure ?_
 have I4:Inv X pins σ H3 {s3 with heap:=s3.heap.push {cls:=.type "slice",data:=.fields #[vl,vu, .none]}}:=I3.kept (t':=s3.toks) fun b ob q=>Heap.get?_push_of_some _ q
 obtain⟨T,id,hT,ht,hg⟩:=hr pins {s3 with heap:=s3.heap.push {cls:=.type "slice",data:=.fields #[vl,vu, .none]}} σ H3 x v vl vu l u s3.heap.objs.size Q I4 r1 (Heap.IsSliceOf.new ..) pl pu q3
 show wpAny (model X.prog X.w) X.A (subscriptTail e (.Slice lo hi none p2) v (.ref s3.heap.objs.size)) (EP X pins σ Q) X.xe {s3 with heap:=s3.heap.push {cls:=.type "slice",data:=.fields #[vl,vu, .none]}}
 exact tail_any (ops:=[.ref s3.heap.objs.size,v]) ht hT hg (by with_unfolding_all rfl)
noncomputable def cutV(xs:List V)(lo hi:Option Int):List V:=(xs.drop (HT.sIx xs.length 0 lo)).take (HT.sIx xs.length xs.length hi-HT.sIx xs.length 0 lo)
theorem kdg(xs:List V)(lo hi:Option Int):(cutV xs lo hi).length≤xs.length:=by
 unfold cutV
 rw[YH,List.length_drop]
 omega
end
end L2
namespace L2
open PySem PySem.Spec PyProof.Rows
noncomputable def ixN(n:Nat)(i:Int):Option Nat:=if 0≤i then(if i<n then some i.toNat else none) else if -(n:Int)≤i then some (i+n).toNat else none
noncomputable def atI{α:Type}(xs:List α)(i:Int):Option α:=(ixN xs.length i).bind fun j=>xs[j]?
theorem kd9{n:Nat}{i:Int}{j:Nat}(h:ixN n i=some j):seqIndex? i n=some j∧j<n∧-(n:Int)≤i∧i<n:=by
 unfold ixN at h
 by_cases h0:0≤i
 ·rw[if_pos h0] at h
  by_cases h1:i<n
  ·rw[if_pos h1] at h
   have e:i.toNat=j:=Option.some.inj h
   exact⟨by rw[seqIndex_of h0 h1,e],by omega,by omega,h1⟩
  ·rw[if_neg h1] at h;cases h
 ·rw[if_neg h0] at h
  by_cases h1: -(n:Int)≤i
  ·rw[if_pos h1] at h
   have e:(i+n).toNat=j:=Option.some.inj h
   exact⟨by rw[seqIndex_neg (by omega) h1,e],by omega,h1,by omega⟩
  ·rw[if_neg h1] at h;cases h
theorem kem{α:Type}{xs:List α}{i:Int}{v: α}(h:atI xs i=some v):∃j,seqIndex? i xs.length=some j∧xs[j]?=some v∧j<xs.length∧-(xs.length:Int)≤i∧i<xs.length:=by
 unfold atI at h
 cases e:ixN xs.length i with
 |none=>rw[e] at h;cases h
 |some j=>
  rw[e] at h
  obtain⟨h1,h2,h3,h4⟩:=kd9 e
  exact⟨j,h1,h,h2,h3,h4⟩
theorem kcf{α:Type}{xs:List α}{j:Nat}{v: α}(h:xs[j]?=some v):atI xs (j:Int)=some v:=by
 have hj:j<xs.length:=(Yv.mp h).1
 have e:ixN xs.length (j:Int)=some j:=by
  unfold ixN
  rw[if_pos (by omega),if_pos (by omega)];simp
 unfold atI;rw[e];exact h
noncomputable def kfs(b:Expr):Prop:=∀o i,subscripted b false o i=operate [o,i] (getItem o i)
noncomputable def IxR(X:Cx)(r:R2):Prop:=
 ∀(value slice:Expr) (pins:List (Addr×Obj)) (s:Shared) (σ:St) (H:Hp) (x y:V) (v u:Value) (Q:VK),Inv X pins σ H s→RelV x v→RelV y u→r x y H Q→
  subscripted slice false v u=operate [v,u] (getItem v u)→wpAny (model X.prog X.w) X.A (subscriptTail value slice v u) (EP X pins σ Q) X.xe s
noncomputable def MtR(X:Cx)(id:String)(r:V→List V→Hp→VK→Prop):Prop:=
 ∀(pins:List (Addr×Obj)) (s:Shared) (σ:St) (H:Hp) (x:V) (xs:List V) (v:Value) (us:List Value) (Q:VK),Inv X pins σ H s→RelV x v→Vals xs us→r x xs H Q→
  wpAny (model X.prog X.w) X.A (call (.builtin id) (v::us)) (EP X pins σ Q) X.xe s
section
variable {X:Cx} {a b:Expr} {ta tb:TE} {pos:Pos}
theorem IxR.or{r r':R2}(h:IxR X r)(h':IxR X r'):IxR X (fun x y H Q=>r x y H Q∨r' x y H Q):=by
 intro value slice pins s σ H x y v u Q I rx ry q hs
 rcases q with q|q
 ·exact h value slice pins s σ H x y v u Q I rx ry q hs
 ·exact h' value slice pins s σ H x y v u Q I rx ry q hs
theorem MtR.or{id:String}{r r':V→List V→Hp→VK→Prop}(h:MtR X id r)(h':MtR X id r'):MtR X id (fun x xs H Q=>r x xs H Q∨r' x xs H Q):=by
 intro pins s σ H x xs v us Q I rx rs q
 rcases q with q|q
 ·exact h pins s σ H x xs v us Q I rx rs q
 ·exact h' pins s σ H x xs v us Q I rx rs q
theorem pe_ix{r:R2}(hr:IxR X r)(ha:PE X a ta)(hb:PE X b tb)(hs:kfs b):PE X (.Subscript a b pos) (tOp r ta tb):=by
 intro pins s σ H Q I h
 exact Subscript_ (binT ha hb I h fun v u s2 x y H2 I2 rx ry q=>hr a b pins s2 σ H2 x y v u Q I2 rx ry q (hs _ _))
noncomputable def rIxL(K:XQ):R2:=fun x y H Q=>∃p xs i v,x=.ref p∧y=.int i∧SqL K H p xs∧atI xs i=some v∧Q v H
noncomputable def rIxT(K:XQ):R2:=fun x y H Q=>∃p xs i v,x=.ref p∧y=.int i∧SqT K H p xs∧atI xs i=some v∧Q v H
theorem kam:IxR X (rIxL X.K):=by
 intro value slice pins s σ H x y v u Q I rx ry h hs
 obtain⟨p,xs,i,z,rfl,rfl,hq,he,q⟩:=h
 cases rx
 obtain⟨t,rfl⟩:=ry
 obtain⟨its,r,pl,hz⟩:=I.list hq
 obtain⟨j,h1,h2,h3,h4,h5⟩:=kem he
 obtain⟨w,ew,rw'⟩:=r.get h2
 have hl:=r.length
 have hn:=kcV
 have fin:EP X pins σ Q w s:=⟨z,H,I,rw',q⟩
 by_cases h0:0≤i
 ·have hj:i.toNat=j:=by
   rw[seqIndex_of h0 h5] at h1
   exact Option.some.inj h1
  exact item_listR pl.isList h0 (by omega) (by rw[hj];simpa using ew) fin hs
 ·have hj:(i+(its.toArray.size:Int)).toNat=j:=by
   rw[seqIndex_neg (by omega) h4] at h1
   rw[X5,←hl]
   exact Option.some.inj h1
  exact subscriptTail_builtinR (x:=w) pl.isList.typeIs slot_list_getitem.lookup
   (wpAny_getItem_list_neg (Q:=fun r s'=>r=w∧EP X pins σ Q r s') pl.isList (by omega) (by rw[X5] <;> omega) (by omega) (by rw[hj];simpa using ew) ⟨rfl,fin⟩) hs
theorem kaX:IxR X (rIxT X.K):=by
 intro value slice pins s σ H x y v u Q I rx ry h hs
 obtain⟨p,xs,i,z,rfl,rfl,hq,he,q⟩:=h
 cases rx
 obtain⟨t,rfl⟩:=ry
 obtain⟨its,r,pl,hz⟩:=I.tuple hq
 obtain⟨j,h1,h2,h3,h4,h5⟩:=kem he
 obtain⟨w,ew,rw'⟩:=r.get h2
 have hl:=r.length
 have hn:=kcV
 have fin:EP X pins σ Q w s:=⟨z,H,I,rw',q⟩
 exact subscriptTail_builtinR (x:=w) pl.typeIs slot_tuple_getitem.lookup
  (getItem_tuple (j:=j) (Q:=fun r s'=>r=w∧EP X pins σ Q r s') pl (by omega) (by omega) (by rw[X5,←hl];exact h1) (by simpa using ew) ⟨rfl,fin⟩) hs
theorem kdF(its:List Value)(n j:Nat)(u:Value):Obj.mapSeq (·.setIfInBounds j u) {cls:=.type "list",data:=.seq its.toArray n}= {cls:=.type "list",data:=.seq (its.set j u).toArray n}:=by
 simp[Obj.mapSeq]
theorem Inv.lst{pins:List (Addr×Obj)}{σ:St}{H:Hp}{s:Shared}{p:Addr}{xs:List V}(I:Inv X pins σ H s)(h:H p=some (.lst xs)):
  ∃(its:List Value) (n:Nat),Vals xs its∧s.heap.get? p=some {cls:=.type "list",data:=.seq its.toArray n}∧xs.length≤sizeLine:=by
 obtain⟨z,its,n,r,e⟩:=I.hok p _ h
 exact⟨its,n,r,e,z⟩
theorem Inv.lstUpd{pins:List (Addr×Obj)}{σ:St}{H:Hp}{s:Shared}{p:Addr}{xs ys:List V}{its its':List Value}{n n':Nat}{f:Obj→Obj}(I:Inv X pins σ H s)(h:H p=some (.lst xs))
  (ho:s.heap.get? p=some {cls:=.type "list",data:=.seq its.toArray n}) (hf:f {cls:=.type "list",data:=.seq its.toArray n}= {cls:=.type "list",data:=.seq its'.toArray n'}) (r:Vals ys its') (hz:ys.length≤sizeLine) (t:Nat):
  Inv X pins σ (upd H p (.lst ys)) {s with heap:=s.heap.update p f,toks:=t}:=by
 have e:(s.heap.update p f).get? p=some {cls:=.type "list",data:=.seq its'.toArray n'}:=by
  rw[Heap.get?_update_self f ho (by rw[hf] <;> rfl),hf]
 refine I.write (x:=p) (e:=p) (by rw[h];trivial) (.inl rfl) (fun b u hb q=>(Heap.get?_update_other _ _ (Ne.symm hb)).trans q) ⟨_,e⟩ ?_
 exact⟨hz,its',n',r,e⟩
noncomputable def rSetL:V→V→V→Hp→(Hp→Prop)→Prop:=fun o i v H Q=>∃p xs k j,o=.ref p∧i=.int k∧H p=some (.lst xs)∧ixN xs.length k=some j∧Q (upd H p (.lst (xs.set j v)))
theorem set_list:PSet X rSetL:=by
 intro pins s σ H o i v ov iv u Q I ro ri rv h
 obtain⟨p,xs,k,j,rfl,rfl,hp,hj,q⟩:=h
 cases ro
 obtain⟨t,rfl⟩:=ri
 obtain⟨its,n,r,ho,hz⟩:=I.lst hp
 obtain⟨h1,h2,h3,h4⟩:=kd9 hj
 have hl:=r.length
 have hn:=kcV
 have I':Inv X pins σ (upd H p (.lst (xs.set j v))) {s with heap:=s.heap.update p (Obj.mapSeq (·.setIfInBounds j u))}:=
  I.lstUpd hp ho (kdF its n j u) (r.set rv j) (by rw[List.length_set];exact hz) s.toks
 by_cases h0:0≤k
 ·have hk:k.toNat=j:=by
   rw[seqIndex_of h0 h4] at h1
   exact Option.some.inj h1
  exact PySem.W.ki_setAt ho h0 (by omega) (by rw[X5,←hl];exact h4) (by rw[hk];exact⟨_,I',q⟩)
 ·have hk:(k+(its.toArray.size:Int)).toNat=j:=by
   rw[seqIndex_neg (by omega) h3] at h1
   rw[X5,←hl]
   exact Option.some.inj h1
  exact PySem.W.ki_setBack ho (by omega) (by rw[X5,←hl];exact h3) (by omega) (by rw[hk];exact⟨_,I',q⟩)
theorem kcH(lo hi:Option Int)(n:Nat):(sliceBounds lo hi none n).1=((HT.sIx n 0 lo:Nat):Int)∧(sliceBounds lo hi none n).2.1=((HT.sIx n n hi:Nat):Int)∧(sliceBounds lo hi none n).2.2=1:=by
 refine⟨?_,?_,rfl⟩
 ·cases lo with
  |none=>simp[sliceBounds,HT.sIx]
  |some i=>
   simp only[sliceBounds,HT.sIx,Option.getD_none,show(1:Int) > 0 by decide,if_true]
   by_cases h:i<0
   ·simp only[h,if_true] <;> omega
   ·simp only[h,if_false] <;> omega
 ·cases hi with
  |none=>simp[sliceBounds,HT.sIx]
  |some i=>
   simp only[sliceBounds,HT.sIx,Option.getD_none,show(1:Int) > 0 by decide,if_true]
   by_cases h:i<0
   ·simp only[h,if_true] <;> omega
   ·simp only[h,if_false] <;> omega
theorem kcs(its:List Value)(lo hi:Option Int):slicePick its.toArray lo hi none=((its.drop (HT.sIx its.length 0 lo)).take (HT.sIx its.length its.length hi-HT.sIx its.length 0 lo)).toArray:=by
 obtain⟨h1,h2,h3⟩:=kcH lo hi its.toArray.size
 unfold slicePick
 rw[h1,h2,h3]
 simp only[sliceRange_one,pick_run,X5] <;> rfl
noncomputable def rSlL(K:XQ):V→Option Int→Option Int→Hp→VK→Prop:=fun x lo hi H Q=>∃a xs,x=.ref a∧SqL K H a xs∧∀p,H p=none→Q (.ref p) (upd H p (.lst (cutV xs lo hi)))
theorem ke4:SlR X (rSlL X.K):=by
 intro pins s σ H x v vl vu lo hi sl Q I rx hs pl pu h
 obtain⟨a,xs,rfl,hx,q⟩:=h
 cases rx
 obtain⟨its,r,ht,hz⟩:=I.list hx
 have hlen:=r.length
 refine⟨"list",_,slot_list_getitem.lookup,ht.isList.typeIs,?_⟩
 refine wpAny_getItem_list_slice ht.isList hs pl pu .none (by simp) ?_ (by rw[X5] <;> omega)
 rw[kcs,←hlen]
 refine⟨.ref s.heap.objs.size,_,I.laid (t':=s.toks) (o:=.lst (cutV xs lo hi)) (fun b ob q=>Heap.get?_push_of_some _ q) (XR _) ?_,rfl,q _ (I.hok.fresh (XR _))⟩
 exact⟨XZ (kdg xs lo hi) hz,_,0,(r.drop (HT.sIx xs.length 0 lo)).take (HT.sIx xs.length xs.length hi-HT.sIx xs.length 0 lo),Heap.get?_push_size _ rfl⟩
noncomputable def flatV:V→Bool
 | .non=>true
 | .bl _=>true
 | .int _=>true
 | .str _=>true
 |_=>false
noncomputable def eqV:V→V→Bool
 | .non, .non=>true
 | .bl a, .bl b=>a==b
 | .bl a, .int b=>(if a then 1 else 0)==b
 | .int a, .bl b=>a==(if b then 1 else 0)
 | .int a, .int b=>a==b
 | .str a, .str b=>a==b
 |_,_=>false
theorem kaQ:CallR X (.builtin "len") (fun xs H Q=>∃p ys,xs=[.ref p]∧(SqL X.K H p ys∨SqT X.K H p ys)∧Q (.int ys.length) H):=by
 intro pins s σ H xs us Q I r h
 obtain⟨p,ys,rfl,hq,q⟩:=h
 obtain⟨u,rfl,rx⟩:=vals1 r
 cases rx
 have hn:=kcV
 rcases hq with hq|hq
 ·obtain⟨its,r',pl,hz⟩:=I.list hq
  have hlen:=r'.length
  exact Calls.call_len_list pl.isList (by simp only[X5] <;> omega) ⟨.int ys.length,H,I.tok _,⟨s.toks+1,by rw[X5,hlen]⟩,q⟩
 ·obtain⟨its,r',pl,hz⟩:=I.tuple hq
  have hlen:=r'.length
  exact len_tuple pl (by simp only[X5] <;> omega) ⟨.int ys.length,H,I.tok _,⟨s.toks+1,by rw[X5,hlen]⟩,q⟩
theorem CallR.or{f:Value}{r r':List V→Hp→VK→Prop}(h:CallR X f r)(h':CallR X f r'):CallR X f (fun xs H Q=>r xs H Q∨r' xs H Q):=by
 intro pins s σ H xs us Q I rs q
 rcases q with q|q
 ·exact h pins s σ H xs us Q I rs q
 ·exact h' pins s σ H xs us Q I rs q
theorem kaU:CallR X (.type "list") (fun xs H Q=>∃p ys,xs=[.ref p]∧(SqL X.K H p ys∨SqT X.K H p ys)∧∀l,H l=none→Q (.ref l) (upd H l (.lst ys))):=by
 intro pins s σ H xs us Q I r h
 obtain⟨p,ys,rfl,hq,q⟩:=h
 obtain⟨u,rfl,rx⟩:=vals1 r
 cases rx
 have fin:∀(its:List Value),Vals ys its→ys.length≤sizeLine→∀(h':Heap) (c':Nat),(∀b o',s.heap.get? b=some o'→h'.get? b=some o')→
   h'.get? s.heap.objs.size=some {cls:=.type "list",dict:=none,data:=.seq its.toArray c',slots:=#[]}→EP X pins σ Q (.ref s.heap.objs.size) {s with heap:=h'}:=fun its r' hz h' c' kp e=>
  ⟨.ref s.heap.objs.size,_,I.laid (t':=s.toks) kp (XR _) (show ObjOk X.prog X.w _ h' _ (.lst ys) from⟨hz,its,c',r',e⟩),rfl,q _ (I.hok.fresh (XR _))⟩
 rcases hq with hq|hq
 ·obtain⟨its,r',pl,hz⟩:=I.list hq
  have hlen:=r'.length
  obtain⟨o,ho,hc,n,hd⟩:=pl.isList
  exact call_list_seq p (.inl rfl) ho hc hd (fun h' c' kp e=>fin its r' hz h' c' kp e) (by simp only[X5] <;> omega)
 ·obtain⟨its,r',pl,hz⟩:=I.tuple hq
  have hlen:=r'.length
  obtain⟨o,ho,hc,n,hd⟩:=pl
  exact call_list_seq p (.inr rfl) ho hc hd (fun h' c' kp e=>fin its r' hz h' c' kp e) (by simp only[X5] <;> omega)
noncomputable def tyV(K:XQ)(T:String)(x:V)(H:Hp):Prop:=match x with
 | .str _=>T="str"
 | .int _=>T="int"
 | .ref p=>(T="list"∧∃xs,SqL K H p xs)∨(T="tuple"∧∃o,K.lookup p=some o∧o.cls=.type "tuple"∧o.dict=none)∨
   (T="dict"∧((∃kvs,H p=some (.dK kvs))∨∃kvs,H p=some (.dT kvs)))∨(T="set"∧∃S n,H p=some (.set S n))
 |_=>False
theorem keO{pins:List (Addr×Obj)}{σ:St}{H:Hp}{s:Shared}{T:String}{x:V}{v:Value}(I:Inv X pins σ H s)(r:RelV x v)(ty:tyV X.K T x H):
  s.TypeIs v T∧∀a,v=.ref a→∃ob,s.heap.get? a=some ob∧ob.dict=none:=by
 cases x with
 |str z=>
  obtain⟨t,rfl⟩:=r
  cases(show T="str" from ty)
  exact⟨typeIs_str s z t,fun _ e=>nomatch e⟩
 |int i=>
  obtain⟨t,rfl⟩:=r
  cases(show T="int" from ty)
  exact⟨typeIs_int s i t,fun _ e=>nomatch e⟩
 | ref p=>
  cases r
  rcases ty with⟨rfl,xs,hq⟩|⟨rfl,o,hk,hc,hd⟩|⟨rfl,hk⟩|⟨rfl,S,n,hk⟩
  ·obtain⟨its,_,pl,_⟩:=I.list hq
   refine⟨pl.isList.typeIs,fun a e=>?_⟩
   cases e
   obtain⟨o,n,e,c,hd,_⟩:=pl
   exact⟨o,e,hd⟩
  ·refine⟨⟨o,I.kIn p o hk,hc⟩,fun a e=>?_⟩
   cases e
   exact⟨o,I.kIn _ o hk,hd⟩
  ·have z:∃o,s.heap.get? p=some o∧o.ExactDict:=by
    rcases hk with⟨kvs,hk⟩|⟨kvs,hk⟩
    ·obtain⟨_,_,_,_,o,_,_,e,ex,_⟩:=I.hok p _ hk
     exact⟨o,e,ex⟩
    ·obtain⟨_,_,_,_,o,_,_,e,ex,_⟩:=I.hok p _ hk
     exact⟨o,e,ex⟩
   obtain⟨o,e,ex⟩:=z
   refine⟨⟨o,e,ex.1⟩,fun a e2=>?_⟩
   cases e2
   exact⟨o,e,ex.2.1⟩
  ·obtain⟨o,_,_,_,e,ex,_⟩:=I.hok p _ hk
   refine⟨⟨o,e,ex.1⟩,fun a e2=>?_⟩
   cases e2
   exact⟨o,e,ex.2.1⟩
 |_=>exact False.elim ty
noncomputable def tBM0(K:XQ)(T:String)(r:V→List V→Hp→VK→Prop)(to:TE):TE:=fun σ H Q=>to σ H fun x H1=>tyV K T x H1∧r x [] H1 Q
noncomputable def tBM(K:XQ)(T:String)(r:V→List V→Hp→VK→Prop)(to:TE)(t:TA):TE:=fun σ H Q=>to σ H fun x H1=>tyV K T x H1∧t σ H1 fun xs H2=>r x xs H2 Q
variable {o e:Expr} {es:List Expr} {to:TE} {t:TA} {name:Str} {apos cpos:Pos} {T id:String} {r:V→List V→Hp→VK→Prop}
theorem kfA(pa:PlainAttrs T)(slot:Slot T name id)(hty:typeOf (.builtin id)=pure (.type "method_descriptor"))(hm:MtR X id r)(ho:PE X o to)
  (hbase:attributeBase o name X.env (eval o X.env)=eval o X.env:=by rfl) (hline:(apos.endLine==cpos.line)=true:=by rfl):PE X (.Call (.Attribute o name apos) [] [] cpos) (tBM0 X.K T r to):=by
 intro pins s σ H Q I h
 refine wpAny_Call_method0_late hbase hline (thn (ho pins s σ H _ I h) fun v s1 ⟨x,H1,I1,r1,ty,q1⟩=>?_)
 obtain⟨h1,h2⟩:=keO I1 r1 ty
 exact⟨T,id,pa,slot,hty,h1,h2,Calls.callWith_builtin rfl (PySem.evalArgs_none (hm pins s1 σ H1 x [] v [] Q I1 r1 .nil q1))⟩
theorem pe_bm(pa:PlainAttrs T)(slot:Slot T name id)(hty:typeOf (.builtin id)=pure (.type "method_descriptor"))(hm:MtR X id r)(ho:PE X o to)(ha:PA X (e::es) t)
  (hbase:attributeBase o name X.env (eval o X.env)=eval o X.env:=by rfl)
  (hfew:((backTo cpos (starEach (e::es) X.env)).all (fun x=>!x.1)&&(backToKw cpos (keywordEach [] X.env)).all (fun x=>x.1.isSome)
   &&decide ((e::es).length+([]:List Keyword).length+(if([]:List Keyword).isEmpty then 0 else 1)<30))=true:=by rfl)
  (hline:(apos.endLine==cpos.line)=true:=by rfl) (hs:starEach (e::es) X.env=(false,eval e X.env)::starEach es X.env:=by rfl) (hplain:(backTo cpos (starEach es X.env)).any (·.1)=false:=by rfl):
  PE X (.Call (.Attribute o name apos) (e::es) [] cpos) (tBM X.K T r to t):=by
 intro pins s σ H Q I h
 refine wpAny_Call_method_late hbase hfew hline rfl (thn (ho pins s σ H _ I h) fun v s1 ⟨x,H1,I1,r1,ty,q1⟩=>?_)
 obtain⟨h1,h2⟩:=keO I1 r1 ty
 refine⟨T,id,pa,slot,hty,h1,h2,?_⟩
 have hA:=ha cpos pins s1 σ H1 _ I1 q1
 rw[hs] at hA⊢
 refine Calls.callWith_builtin (by show(false||(backTo cpos (starEach es X.env)).any (·.1))=false;rw[hplain] <;> rfl) (Calls.evalArgs_plain ?_)
 exact thn hA fun us s2 ⟨vs,H2,I2,r2,q2⟩=>hm pins s2 σ H2 x vs v us Q I2 r1 r2 q2
end
end L2
namespace L2
open PySem PySem.Spec PyProof.Rows
noncomputable def MtM(X:Cx)(id:String)(r:V→List V→Hp→VK→Prop):Prop:=
 ∀(pins:List (Addr×Obj)) (s:Shared) (σ:St) (H:Hp) (x:V) (xs:List V) (v:Value) (us:List Value) (Q:VK),Inv X pins σ H s→RelV x v→Vals xs us→r x xs H Q→
  wpAny (model X.prog X.w) X.A (call (.builtin id) (v::us)) (EP X pins σ Q) X.xe s
theorem Vals.one:∀{x:V} {us:List Value},Vals [x] us→∃u,us=[u]∧RelV x u
 |_,_, .cons r .nil=>⟨_,rfl,r⟩
theorem Vals.two:∀{x y:V} {us:List Value},Vals [x,y] us→∃u v,us=[u,v]∧RelV x u∧RelV y v
 |_,_,_, .cons r (.cons q .nil)=>⟨_,_,rfl,r,q⟩
theorem Vals.zero:∀{us:List Value},Vals [] us→us=[]
 |_, .nil=>rfl
theorem Vals.reverse{xs:List V}{us:List Value}(h:Vals xs us):Vals xs.reverse us.reverse:=by
 induction h with
 |nil=>exact .nil
 |cons r t ih=>rw[YQ,YQ];exact Vals.append ih (.cons r .nil)
section
variable {X:Cx} {pins:List (Addr×Obj)} {σ:St} {H:Hp} {s:Shared} {l b:Addr} {xs ys zs:List V}
theorem Inv.lset{its its':List Value}{n:Nat}{f:Array Value→Array Value}{t':Nat}(I:Inv X pins σ H s)(hH:H l=some (.lst xs))
  (e:s.heap.get? l=some {cls:=.type "list",data:=.seq its.toArray n}) (hf:f its.toArray=its'.toArray) (hv:Vals ys its') (hz:ys.length≤sizeLine):
  Inv X pins σ (upd H l (.lst ys)) {s with heap:=s.heap.update l (Obj.mapSeq f),toks:=t'}:=by
 have q:=PySem.IsL.update e f
 rw[hf] at q
 refine I.write (x:=l) (e:=l) (by rw[hH];exact trivial) (.inl rfl) (fun b' u hb hu=>(Heap.get?_update_other s.heap (Obj.mapSeq f) (Ne.symm hb)).trans hu) ⟨_,q⟩ ?_
 exact⟨hz,its',_,hv,q⟩
theorem Inv.fresh(I:Inv X pins σ H s):H s.heap.objs.size=none:=I.hok.fresh (XR _)
theorem Inv.lstM(I:Inv X pins σ H s)(hH:H l=some (.lst xs)):xs.length≤sizeLine∧∃(its:List Value) (n:Nat),Vals xs its∧xs.length=its.length∧s.heap.get? l=some {cls:=.type "list",data:=.seq its.toArray n}:=by
 obtain⟨z,its,n,r,e⟩:=I.hok l _ hH
 exact⟨z,its,n,r,r.length,e⟩
end
section
variable {X:Cx}
noncomputable def ke8:V→List V→Hp→VK→Prop:=fun x vs H Q=>∃l xs y,x=.ref l∧vs=[y]∧H l=some (.lst xs)∧xs.length<sizeLine∧Q .non (upd H l (.lst (xs++[y])))
theorem kbq:MtM X "list.append" ke8:=by
 intro pins s σ H x vs v us Q I rx rv h
 obtain⟨l,xs,y,rfl,rfl,hH,hz,q⟩:=h
 cases rx
 obtain⟨u,rfl,ru⟩:=rv.one
 obtain⟨z,its,n,r,hl,e⟩:=I.lstM hH
 refine call_meets F.slot_list_append ⟨_,e,rfl⟩ F.entry_list_append (F.args_list_append_2 _ _) (PySem.list_append l its.toArray n u (by rw[X5];omega)) ⟨e,?_⟩
 refine⟨.non,_,I.lset (its':=its++[u]) hH e (by simp) (r.append (.cons ru .nil)) ?_,rfl,q⟩
 rw[Yz,YR]
 omega
noncomputable def ket:V→List V→Hp→VK→Prop:=fun x vs H Q=>∃l xs,x=.ref l∧vs=[]∧H l=some (.lst xs)∧Q .non (upd H l (.lst xs.reverse))
theorem kdE:MtM X "list.reverse" ket:=by
 intro pins s σ H x vs v us Q I rx rv h
 obtain⟨l,xs,rfl,rfl,hH,q⟩:=h
 cases rx
 have hus:=rv.zero
 subst hus
 obtain⟨z,its,n,r,hl,e⟩:=I.lstM hH
 refine call_meets F.slot_list_reverse ⟨_,e,rfl⟩ F.entry_list_reverse (F.args_list_reverse_1 _) (AutoSeq1.list_reverse_list_0 l its.toArray n (by rw[X5];omega)) ⟨e,?_⟩
 refine⟨.non,_,I.lset (its':=its.reverse) hH e (by simp) r.reverse ?_,rfl,q⟩
 rw[List.length_reverse]
 omega
end
section
variable {prog:Program} {w:World} {A:Around} {E:Value→Shared→Prop} {s:Shared}
set_option maxRecDepth 100000 in
end
section
variable {X:Cx}
end
end L2
namespace Att
open PySem PySem.W PySem.Calls PyProof.Rows
theorem kcb{P:Params}{h:Heap}:∀(ns:List Int) (vs:List Value),WellAll P h vs (ns.map WData.int)→IntsAre vs ns:=by
 intro ns
 induction ns with
 |nil=>
  intro vs w
  rw[List.map_nil] at w
  cases w
  exact .nil
 | cons n ns ih=>
  intro vs w
  rw[YD] at w
  cases w with
  |cons a b=>
   cases a
   exact .cons _ _ (ih _ b)
theorem kdT{l:OpenLaw}{n:Nat}(hn:l.most=some n){P:Params}{h:Heap}{args:List WData}{vals:List Value}
  (hpre:l.row.toRowW.claim.pre args=true) (hwl:WellAll P h vals args):
  ∃a vs ns,vals=[Value.ref a]∧args=[WData.list (ns.map WData.int)]∧h.get? a=some {cls:=.type "list",data:=.seq vs.toArray}∧IntsAre vs ns∧ns.length≤n:=by
 have hsh:WShape.hasAll [] args [.list .int]=true:=(pre_splitW hpre).1
 have hc:l.pre.holds [] {args:=args}=true:=(pre_splitW hpre).2
 obtain⟨d,r,rfl,h1,h2⟩:=hasAllW_cons hsh
 obtain rfl:=hasAllW_nil h2
 obtain⟨xs,rfl,h3⟩:=hasW_list h1
 obtain⟨ns,rfl⟩:=items_int h3
 have hlen:ns.length≤n:=by
  unfold OpenLaw.pre at hc
  have h4:(WTm.not (.lt (.lit (.int (n:Int))) (.len (.arg 0)))).holds [] {args:=[.list (ns.map .int)]}=true:=by
   have h4:=(holds_andW hc).1
   rw[hn] at h4
   exact h4
  have h5:=condW_of h4 (w_not (w_lt w_lit (w_len_list (w_arg rfl))))
  rw[XU] at h5
  refine Nat.le_of_not_lt fun q=>?_
  have q':(n:Int)<((ns.length:Nat):Int):=by omega
  first
   |(rw[decide_eq_true q'] at h5;exact absurd h5 (by decide))
   |(simp at h5;omega)
 cases hwl with
 |cons w1 w2=>
  cases w2
  cases w1 with
  |list ho hall=>exact⟨_,_,ns,rfl,rfl,ho,kcb ns _ hall,hlen⟩
theorem kdW(l:OpenLaw)(args:List WData):l.row.toRowW.claim.post args (.bool true) args=true:=
 postW_of (r:=l.row.toRowW) (X:=(true==true))
  (show WShape.has [] (.bool true) .bool=true by first|rfl|decide|simp[WShape.has,WShape.arms,WShape.armsAll])
  (show(WTm.eq .res (.lit (.bool true))).value [] {args:=args,res:=some (.bool true),after:=args}=some (.bool (true==true)) from w_eq_bool (w_res rfl) w_lit) rfl
theorem attach_call{l:OpenLaw}{n:Nat}{q:Program}{loose:List Str}{XP:(Str→Option Value)→Heap→Prop}{YP:World→Heap→Prop}{d:DefRec}
  (hn:l.most=some n) (hdf:d.params.defaults=[])
  (call:∀(w:World) (s₀ s₁:Shared) (mg mb:Str→Option Value) (fa:Addr) (o:Obj) (pm cd doc:Value) (a:Addr) (vs:List Value) (ns:List Int),
   Ground q loose [] XP w s₀ mg mb s₁.heap→YP w s₁.heap→
   s₁.heap.get? fa=some o→o.data=.func (docDef d.name d.params d.body d.scope pm cd doc)→s₁.heap.CodeRec cd d.name→mg d.name=some (.ref fa)→
   s₁.heap.get? a=some {cls:=.type "list",data:=.seq vs.toArray}→IntsAre vs ns→ns.length≤n→s₁.gens= #[]→
   codeAny (model l.prog w) callerA (.call (.ref fa) ⟨[.ref a],[]⟩) (fun r s'=>r=.ok (.ret (.bool true))∧OldK s₁.heap s'.heap∧s'.os=s₁.os∧AllBare s'.gens) s₁):
  WalkO q loose XP YP l.row.toRowW d [] (fun f vs=>PySem.call f vs):=by
 intro w s₀ s₁ mg mb G Y fa o pm cd doc dV kV ho hd hcd hD hmg hg args vals as hpre hlay hrd hwl hlo
 obtain rfl:dV=.none:=Dflts.none hD hdf
 obtain rfl:kV=.none:=Dflts.noKw hD
 obtain⟨a,vs,ns,rfl,rfl,hobj,hints,hlen⟩:=kdT hn hpre hwl
 refine enter_call (codeAny_mono (call w s₀ s₁ mg mb fa o pm cd doc a vs ns G Y ho (fd_plain hd) hcd hmg hobj hints hlen hg) fun r s' hq=>?_)
 obtain⟨rfl,h2,h3,h4⟩:=hq
 exact⟨.inl ⟨.bool true, .bool true,[],rfl,fun _=>rfl, .bool true,kdW l _,fun _=>⟨List.Pairwise.nil,fun _ hm=>(nomatch hm)⟩⟩,h2,h3,h4⟩
section
variable {prog:Program} {w:World} {A:Around} {E:Value→Shared→Prop} {s:Shared} {K:Frag}
end
end Att
namespace L2
open PySem PySem.Spec PyProof.Rows
theorem kcF:∀{vs:List Value} {ns:List Int},IntsAre vs ns→Vals (ns.map V.int) vs
 |_,_, .nil=>.nil
 |_,_, .cons n t h=>.cons ⟨t,rfl⟩ (kcF h)
noncomputable def Only(H:Hp):Prop:=∀b,H b=none∨∃o xs,H b=some (.frz o (.lst xs))
theorem keC{P:Program}{w:World}{K:XQ}{mg mb:Str→Option Value}{CX:CXT}{k:Nat}{fa a:Addr}{fd:FuncData}{x:Str}{sp:Sp}{s₁:Shared}{vs:List Value}{ns:List Int}
  (KX:K.In s₁.heap) (hns:s₁.heap.Ns mainGlobals mg) (hb:s₁.heap.Ns builtinsNs mb) (hbb:∀x:Str,x≠"__name__"→mb x=bootBuiltins x) (hlim:s₁.heap.NoLimit) (hg:s₁.gens= #[])
  (ha:s₁.heap.get? a=some {cls:=.type "list",data:=.seq vs.toArray}) (hi:IntsAre vs ns) (hl:ns.length≤sizeLine) (hr:Room k callerA)
  (F:∀base:Heap,K.In base→base.Ns mainGlobals mg→FnOk P w K mg base CX k fa fd [x] sp) (hbind:∀(s:Shared) (u:Value),BindsTo s fd ⟨[u],[]⟩ [(x,u)])
  (hsp:∀H:Hp,Only H→SqL K H a (ns.map V.int)→sp [.ref a] H (fun v _=>v=.bl true) fun _ _ _=>False)
  (hCX:∀H e s',CX [] H s₁ (fun _ _ _=>False) e s'→False):
  codeAny (model P w) callerA (.call (.ref fa) ⟨[.ref a],[]⟩) (fun r s'=>r=.ok (.ret (.bool true))∧OldK s₁.heap s'.heap∧s'.os=s₁.os∧AllBare s'.gens) s₁:=by
 have rv:=kcF hi
 have lenV:=hi.length
 have core:∀H:Hp,Only H→SqL K H a (ns.map V.int)→HOk P w H s₁.heap→(∀b,H b≠none→b=a)→(H a≠none→K.lookup a=none)→
   codeAny (model P w) callerA (.call (.ref fa) ⟨[.ref a],[]⟩) (fun r s'=>r=.ok (.ret (.bool true))∧OldK s₁.heap s'.heap∧s'.os=s₁.os∧AllBare s'.gens) s₁:=by
  intro H hO hS hok hA hK
  have base_of:∀{b:Addr} {o:Obj},s₁.heap.get? b=some o→H b=none→(hidT s₁.heap H).get? b=some o:=fun e n=>keE e n
  have noA:∀{b:Addr} {o:Obj} {es:Array DictEntry} {ep:Nat},s₁.heap.get? b=some o→o.data=.dict es ep→H b=none:=fun {b o es ep} e d=>by
   cases q:H b with
   |none=>rfl
   |some u=>
    have e':b=a:=hA b (by rw[q];simp)
    subst e'
    rw[ha] at e;cases e
    have d':Data.seq vs.toArray _=Data.dict es ep:=d
    cases d'
  have nsK:∀{b:Addr} {m:Str→Option Value},s₁.heap.Ns b m→(hidT s₁.heap H).Ns b m:=fun {b m} ⟨o,es,ep,e,d,r⟩=>⟨o,es,ep,base_of e (noA e d),d,r⟩
  have hKb:K.In (hidT s₁.heap H):=fun b o e=>base_of (KX b o e) (by
   cases q:H b with
   |none=>rfl
   |some u=>
    have e':b=a:=hA b (by rw[q];simp)
    subst e'
    rw[hK (by rw[q];simp)] at e;cases e)
  have hM:Mod K mg (hidT s₁.heap H):=⟨hKb,nsK hns,⟨mb,nsK hb,hbb⟩,let⟨mc,h1,h2⟩:=hlim;⟨mc,nsK h1,h2⟩⟩
  have e0:Env0 P w K mg (hidT s₁.heap H) callerA [] s₁ H:=⟨rfl,hM,fun b o e=>kfg e,Nat.le_of_eq (kec _ _),trivial,fun b hb=>absurd (show b∈([]:List Addr) from hb) (by simp),hok, .of_eq hg⟩
  refine codeAny_mono ((F _ hKb (nsK hns)).run callerA [] s₁ H ⟨[.ref a],[]⟩ [.ref a] [.ref a] _ _ hr e0 (hbind s₁ (.ref a)) (.cons rfl .nil) (hsp H hO hS)) fun r s' h=>?_
  cases r with
  |error e=>exact(hCX H e s' h).elim
  | ok fl=>
   cases fl with
   |next=>exact False.elim h
   |brk=>exact False.elim h
   |cont=>exact False.elim h
   | ret u=>
    obtain⟨v,H',os,bare,un,hok',r',q⟩:=h
    have q':v=.bl true:=q
    subst q'
    obtain rfl:u=Value.bool true:=r'
    refine⟨rfl,OldK.of_keep fun b o e=>?_,os,bare⟩
    cases q:H b with
    |none=>exact un.keep b o e q (by intro z;exact absurd (show b∈([]:List Addr) from z) (by simp)) (by simp)
    | some u=>
     rcases hO b with z|⟨ob,xs,z⟩
     ·rw[q] at z;cases z
     ·have z2:=un.frzs b ob _ z
      obtain⟨e1,_⟩:=hok b _ z
      obtain⟨e2,_⟩:=hok' b _ z2
      rw[e] at e1;cases e1
      exact e2
 cases hk:K.lookup a with
 |some o=>
  have e:=KX a o hk
  rw[ha] at e
  cases e
  refine core (fun _=>none) (fun _=>.inl rfl) (.inr ⟨_,vs.toArray,_,hk,rfl,rfl,rfl,by rw[X5,lenV];exact hl,by simpa using rv⟩) (fun b u z=>by have z':(none:Option HO)=some u:=z;cases z') (fun b z=>absurd rfl z) fun z=>absurd rfl z
 | none=>
  refine core (fun b=>if b=a then some (.frz {cls:=.type "list",data:=.seq vs.toArray} (.lst (ns.map V.int))) else none) (fun b=>?_) (.inl (.inr ⟨{cls:=.type "list",data:=.seq vs.toArray},if_pos rfl⟩)) (fun b u z=>?_) (fun b z=>?_) fun _=>hk
  ·by_cases hb:b=a
   ·exact .inr ⟨_,_,if_pos hb⟩
   ·exact .inl (if_neg hb)
  ·by_cases hb:b=a
   ·have z':=(if_pos hb).symm.trans z
    cases z'
    subst hb
    exact⟨ha,by rw[XU];exact hl,vs,_,rv,ha⟩
   ·have z':=(if_neg hb).symm.trans z
    cases z'
  ·by_cases hb:b=a
   ·exact hb
   ·exact absurd (if_neg hb) z
end L2
namespace L2
open PySem PySem.Spec PyProof.Rows
theorem walk_of{l:Y1}{n k:Nat}{q:Program}{loose:List Str}{XP:(Str→Option Value)→Heap→Prop}{YP:World→Heap→Prop}{d:DefRec}{K:Params→XQ}{CX:World→CXT}{sp:World→Sp}{x:Str}
  (hn:l.most=some n) (hn2:n≤sizeLine) (hdf:d.params.defaults=[]) (hr:Room k callerA)
  (hY:∀(w:World) (h:Heap),YP w h→(K w.params).In h)
  (F:∀(w:World) (mg:Str→Option Value) (fa:Addr) (h:Heap),(K w.params).In h→h.Ns mainGlobals mg→mg d.name=some (.ref fa)→
   ∃fd:FuncData,(∀(s:Shared) (u:Value),BindsTo s fd ⟨[u],[]⟩ [(x,u)])∧
    ∀base:Heap,(K w.params).In base→base.Ns mainGlobals mg→FnOk l.prog w (K w.params) mg base (CX w) k fa fd [x] (sp w))
  (hsp:∀(w:World) (H:Hp) (a:Addr) (ns:List Int),ns.length≤n→Only H→SqL (K w.params) H a (ns.map V.int)→sp w [.ref a] H (fun v _=>v=.bl true) fun _ _ _=>False)
  (hCX:∀(w:World) (H:Hp) (s:Shared) (e:Value) (s':Shared),CX w [] H s (fun _ _ _=>False) e s'→False):
  PySem.W.WalkO q loose XP YP l.row.toRowW d [] (fun f vs=>PySem.call f vs):=by
 refine Att.attach_call hn hdf fun w s₀ s₁ mg mb fa o pm cd doc a vs ns G Y ho hd hcd hmg hobj hints hlen hg=>?_
 have KX:=hY w _ Y
 obtain⟨fd,hb,hF⟩:=F w mg fa _ KX G.T.g hmg
 exact keC KX G.T.g G.T.b G.T.builtins G.T.nolimit hg hobj hints (XZ hlen hn2) hr hF hb (fun H hO hS=>hsp w H a ns hlen hO hS) fun H e s'=>hCX w H s₁ e s'
end L2
namespace L2
open PySem PySem.Spec PyProof.Rows
noncomputable def inClass(s:Stmt)(j:Nat):Stmt:=match s with
 | .ClassDef _ _ _ body _ _ _ _ _ _ _=>body.getD j (.Pass ⟨0,0,0,0⟩)
 |_=>.Pass ⟨0,0,0,0⟩
noncomputable def kau(s:Stmt):Arguments:=match s with
 | .FunctionDef _ a _ _ _ _ _ _ _ _=>a
 |_=>{posonlyargs:=[],args:=[],vararg:=none,kwonlyargs:=[],kw_defaults:=[],kwarg:=none,defaults:=[]}
noncomputable def kar(s:Stmt):List Stmt:=match s with
 | .FunctionDef _ _ b _ _ _ _ _ _ _=>b
 |_=>[]
noncomputable def kag(s:Stmt):Scope:=match s with
 | .FunctionDef _ _ _ _ _ _ sc _ _ _=>sc
 |_=>{kind:=.function,names:=[],isGenerator:=false,isCoroutine:=false}
noncomputable abbrev CX0:CXT:=fun _ _ _ _ _ _=>False
noncomputable abbrev E0:XK:=fun _ _ _=>False
theorem pass0{X:Cx}:kbH CX0 X E0:=fun _ _ _ _ _ _ _ h=>h.elim
structure Fun (K:XQ) (x qual:Str) (st:Stmt) (f:Addr) (fd:FuncData):Prop where
 ex:∃(oc:Value) (od:Option Addr) (kV doc pm:Value) (an:Option Addr) (cdv ct:Value) (osl:Array (Option Value)),
  fd=XX x qual (kau st) (kar st) (kag st) .none kV doc pm an cdv ct∧K.lookup f=some ⟨oc,od, .func fd,osl⟩∧Ya K cdv qual=true
 kp:X0 K (.ref f)=true
section
variable {P:Program} {w:World} {K:XQ} {mg:Str→Option Value} {base:Heap}
theorem Fun.ok{x qual:Str}{st:Stmt}{f:Addr}{fd:FuncData}{N ps:List Str}{k:Nat}{sp:Sp}(F:Fun K x qual st f fd)(S:kaA N ps (kag st))(len:∀vs H Q E,sp vs H Q E→vs.length=ps.length)
  (hbody:∀(cdv:Value) (A:Around) (outer:List Env) (s:Shared) (H:Hp) (vs:List V) (Q:VK) (E:XK),Room k (A.deeper (envOfC qual (kag st) s.heap.objs.size f cdv))→sp vs H Q E→
   ∃t,PSs (cxOf CX0 P w K mg base N qual (kag st) f cdv A outer s H E).nox (kar st) t∧t {nx:=fun _ H'=>Q .non H',rt:=Q} (start N vs) H):FnOk P w K mg base CX0 (k+1) f fd ps sp:=by
 obtain⟨oc,od,kV,doc,pm,an,cdv,ct,osl,rfl,lk,hcd⟩:=F.ex
 refine fn_of lk hcd S len fun A outer s H vs Q E hr hsp=>?_
 obtain⟨t,h,q⟩:=hbody cdv A outer s H vs Q E hr hsp
 exact⟨t,h.nox,q⟩
theorem Fun.binds{x qual:Str}{st:Stmt}{f:Addr}{fd:FuncData}{ps:List Str}(F:Fun K x qual st f fd)
  (h:∀(kV doc pm:Value) (an:Option Addr) (cdv ct:Value) (us:List Value),us.length=ps.length→bindArgs (XX x qual (kau st) (kar st) (kag st) .none kV doc pm an cdv ct) ⟨us,[]⟩=pure (ps.zip us)):Binds K fd ps []:=by
 obtain⟨oc,od,kV,doc,pm,an,cdv,ct,osl,rfl,lk,hcd⟩:=F.ex
 exact .all (h kV doc pm an cdv ct)
end
theorem kaR{n:Nat}(h:n≤1000):n<sizeLine:=YJ h (by decide)
section
variable {X:Cx}
theorem pv(i:Nat){x:Str}{pos:Pos}(hN:X.N[i]?=some x:=by rfl)(hv:Vis X.env.scope x:=by first|exact Or.inl rfl|exact Or.inr (Or.inl rfl)|exact Or.inr (Or.inr rfl))(hd:(x==("__debug__" :Str))=false:=by decide)
  (hcd:(x==("__classdict__" :Str))=false:=by decide):PE X (.Name x pos) (tVar i):=kfx hN hv hd hcd
end
theorem iteF{A B:Prop}(h:B):if false=true then A else B:=by
 rw[if_neg X4]
 exact h
theorem iteT{A B:Prop}(h:A):if true=true then A else B:=by
 rw[if_pos rfl]
 exact h
theorem ite2{c A B:Prop} [Decidable c] (h1:c→A) (h2:¬c→B):if c then A else B:=by
 by_cases h:c
 ·rw[if_pos h]
  exact h1 h
 ·rw[if_neg h]
  exact h2 h
end L2
set_option maxHeartbeats 4000000
namespace L3
end L3
namespace L2
open PySem PySem.Spec PyProof.Rows
section
variable {X:Cx}
theorem keH:∀{x:V},flatV x=true→eqV x x=true
 | .non,_=>rfl
 | .bl b,_=>by simp[eqV]
 | .int i,_=>by simp[eqV]
 | .str z,_=>by simp[eqV]
noncomputable def cV:V→Value
 | .ty n=>.type n
 | .ref a=>.ref a
 |_=>.none
theorem kan:CallR X (.builtin "isinstance") (fun xs H Q=>∃x c t b,xs=[x,c]∧((∃n,c=.ty n)∨∃a,c=.ref a)∧TyOf X.K H x t∧XW X.K t (cV c)=some b∧Q (.bl b) H):=by
 intro pins s σ H xs us Q I r h
 obtain⟨x,c,t,b,rfl,hc,ty,e,q⟩:=h
 obtain⟨u,w',rfl,r1,r2⟩:=vals2 r
 have ew:w'=cV c:=by
  rcases hc with⟨n,rfl⟩|⟨a,rfl⟩
  ·exact r2
  ·exact r2
 subst ew
 exact kea I r1 ty e fun tk=>⟨.bl b,H,I.tok tk,rfl,q⟩
theorem b_isi:bootBuiltins "isinstance"=some (.builtin "isinstance"):=by decide +kernel
theorem b_int:bootBuiltins "int"=some (.type "int"):=by decide +kernel
theorem kel:bootBuiltins "bool"=some (.type "bool"):=by decide +kernel
theorem kbu:bootBuiltins "list"=some (.type "list"):=by decide +kernel
theorem b_len:bootBuiltins "len"=some (.builtin "len"):=by decide +kernel
theorem kaG(K:XQ)(t:Value):XW K t t=some true:=by
 unfold XW
 rw[if_pos (by simp)]
theorem kbM(K:XQ):XW K (.type "int") (.type "bool")=some false:=by
 have e:(Value.type "int" ==Value.type "bool")=false:=by decide +kernel
 unfold XW PySem.W.kitCls PySem.W.subIn
 rw[e,if_neg X4]
 show(if PySem.W.kitMeta "bool"=true then _ else _)=_
 rw[if_pos (by decide +kernel)]
 show(fastBuiltinMro "int").map (·.contains (Value.type "bool"))=some false
 decide +kernel
noncomputable def tCut(t:TS):TS:=fun D σ H=>∃P:St→Hp→Prop,t {D with nx:=P} σ H∧∀σ' H',P σ' H'→D.nx σ' H'
theorem keV{st:Stmt}{t:TS}(h:PS X st t):PS X st (tCut t):=by
 intro pins s σ H D I hw
 obtain⟨P,h1,h2⟩:=hw
 refine thn (h pins s σ H {D with nx:=P} I h1) fun f s' q=>?_
 cases f with
 |next=>
  obtain⟨σ',H',I',q'⟩:=q
  exact⟨σ',H',I',h2 σ' H' q'⟩
 |brk=>exact q
 |cont=>exact q
 |ret u=>exact q
end
theorem keI(ns:List Int)(lo hi:Option Int):∃ms:List Int,cutV (ns.map V.int) lo hi=ms.map V.int∧ms.length≤ns.length:=by
 refine⟨(ns.drop (HT.sIx ns.length 0 lo)).take (HT.sIx ns.length ns.length hi-HT.sIx ns.length 0 lo),?_,?_⟩
 ·unfold cutV
  rw[XU,←List.map_drop,←List.map_take]
 ·rw[YH,List.length_drop]
  omega
end L2
namespace L2
open PySem PySem.Spec PyProof.Rows
theorem Inv.adopt{X:Cx}{pins:List (Addr×Obj)}{σ:St}{H:Hp}{s:Shared}{a:Addr}{o:HO}(I:Inv X pins σ H s)(f:FpOk X pins H a)(h0:X.s₀.heap.objs.size≤a)(new:ObjOk X.prog X.w (upd H a o) s.heap a o):Inv X pins σ (upd H a o) s:=by
 obtain⟨hn,hL,_,_,hC,hp⟩:=f
 have nt:∀b u,H b=some u→b≠a:=fun b u e=>kai e hn
 refine⟨I.ok,I.os,I.bare,⟨I.base.keep,I.base.slot,fun b ob e n hx=>?_,I.base.there,fun b xs e=>?_,fun b ob u e=>?_,fun b ps e=>?_⟩,I.loc,I.cell,?_,fun x c e=>?_,fun p hp'=>?_,fun b u e=>?_,I.len⟩
 ·rw[kak (X2 (X3 (Heap.lt_size e) h0))]
  exact I.base.free b ob e n hx
 ·have q:=I.base.tups b xs e
  rw[kak (nt _ _ q)]
  exact q
 ·have q:=I.base.frzs b ob u e
  rw[kak (nt _ _ q)]
  exact q
 ·obtain⟨m,q⟩:=I.base.tbls b ps e
  exact⟨m,by rw[kak (nt _ _ q)];exact q⟩
 ·rw[kak (Ne.symm hL)]
  exact I.free
 ·rw[kak (hC x c e)]
  exact I.freeC x c e
 ·obtain⟨e,n,r⟩:=I.pin p hp'
  exact⟨e,by rw[kak (hp p hp')];exact n,r⟩
 ·by_cases hb:b=a
  ·subst hb
   rw[kae] at e
   cases e
   exact new
  ·rw[kak hb] at e
   exact(I.hok b u e).stay (fun c v _ q=>q) (fun c q=>by rw[kak (nt _ _ q)];exact q) fun c xs q=>by rw[kak (nt _ _ q)];exact q
noncomputable def capσ(cap:List (Option Nat))(σ:St):St:=cap.map fun o=>match o with
 |some i=>(σ[i]?).getD none
 |none=>none
noncomputable def closL(cells:List (Str×Addr))(names:List (Str×NameKind)):List (Str×Addr)→List (Str×Addr):=fun acc=>names.foldl (fun acc p=>if p.2== .free then(p.1,(cells.lookup p.1).getD 0)::acc else acc) acc
theorem kcd{α β:Type}{f: α→β→Sem (ForInStep β)}{g: β→α→β}:∀(l:List α) (b: β),(∀x∈l,∀b,f x b=pure (.yield (g b x)))→forIn l b f=pure (l.foldl g b)
 |[],b,_=>by rw[Y2];rfl
 |x::l,b,h=>by
  rw[Y3,h x Yi]
  show forIn l (g b x) f=_
  rw[kcd l (g b x) fun y hy=>h y (Yb _ hy)]
  rfl
theorem kcD{scope:Scope}{env:Env}(h:∀x∈scope.names,x.2=.free→∃c,env.cells.lookup x.1=some c):closureFor scope env=pure (closL env.cells scope.names []):=by
 unfold closureFor
 dsimp only
 rw[kcd (g:=fun acc p=>if p.2== .free then(p.1,(env.cells.lookup p.1).getD 0)::acc else acc) scope.names [] fun x hx b=>?_]
 ·rfl
 ·obtain⟨n,k⟩:=x
  by_cases hk:k=.free
  ·subst hk
   obtain⟨c,ec⟩:=h _ hx rfl
   have ec':env.cells.lookup n=some c:=ec
   have e1:cellOf env n=pure c:=by unfold cellOf;rw[ec']
   simp only[beq_self_eq_true,if_true,e1,ec',Option.getD_some]
   rfl
  ·have:(k==NameKind.free)=false:=by simpa using hk
   simp only[this,Yt,if_false]
theorem kcq(cells:List (Str×Addr))(p:Str×NameKind)(r:List (Str×NameKind))(acc:List (Str×Addr)):closL cells (p::r) acc=closL cells r (if p.2== .free then(p.1,(cells.lookup p.1).getD 0)::acc else acc):=rfl
theorem kcE{cells:List (Str×Addr)}{x:Str}{c:Addr}:∀(names:List (Str×NameKind)) (acc:List (Str×Addr)),(closL cells names acc).lookup x=some c→(((x,NameKind.free)∈names∧c=(cells.lookup x).getD 0)∨acc.lookup x=some c)
 |[],acc,h=>.inr h
 | (n,k)::r,acc,h=>by
  rw[kcq] at h
  rcases kcE r _ h with⟨h1,h2⟩|h1
  ·exact .inl ⟨Yb _ h1,h2⟩
  ·by_cases hk:k=.free
   ·subst hk
    simp only[beq_self_eq_true,if_true] at h1
    rw[Yw] at h1
    by_cases hx:x=n
    ·subst hx
     simp only[beq_self_eq_true] at h1
     exact .inl ⟨Yi,(Option.some.inj h1).symm⟩
    ·have hb:(x==n)=false:=beq_eq_false_iff_ne.mpr hx
     rw[hb] at h1
     exact .inr h1
   ·have:(k==NameKind.free)=false:=by simpa using hk
    simp only[this,Yt,if_false] at h1
    exact .inr h1
theorem kce{cells:List (Str×Addr)}{x:Str}:∀(names:List (Str×NameKind)) (acc:List (Str×Addr)),((x,NameKind.free)∈names∨∃c,acc.lookup x=some c)→∃c,(closL cells names acc).lookup x=some c
 |[],acc,h=>by
  rcases h with h|h
  ·cases h
  ·exact h
 | (n,k)::r,acc,h=>by
  rw[kcq]
  refine kce r _ ?_
  by_cases hm:(x,NameKind.free)∈r
  ·exact .inl hm
  ·refine .inr ?_
   rcases h with h|⟨c,h⟩
   ·rcases X1.mp h with e|h
    ·cases e
     simp[Yw]
    ·exact absurd h hm
   ·split
    ·rw[Yw]
     by_cases hx:x=n
     ·subst hx
      simp
     ·have hb:(x==n)=false:=beq_eq_false_iff_ne.mpr hx
      rw[hb]
      exact⟨c,h⟩
    ·exact⟨c,h⟩
theorem kbh:∀(names:List (Str×NameKind)) (n:Nat) (acc acc':List (Str×Addr)),cellsFrom n names (acc++acc')=cellsFrom n names acc++acc'
 |[],_,_,_=>rfl
 |(m,k)::r,n,acc,acc'=>by
  unfold cellsFrom
  split
  ·exact kbh r (n+1) ((m,n)::acc) acc'
  ·exact kbh r n acc acc'
theorem ka5(names:List (Str×NameKind))(n:Nat)(acc:List (Str×Addr))(x:Str):(cellsFrom n names acc).lookup x=((cellsFrom n names []).lookup x).or (acc.lookup x):=by
 rw[←List.lookup_append,←kbh,List.nil_append]
theorem kbg{x:Str}:∀(names:List (Str×NameKind)) (n:Nat) (acc:List (Str×Addr)),(x,NameKind.cell)∉names→(cellsFrom n names acc).lookup x=acc.lookup x
 |[],_,_,_=>rfl
 | (m,k)::r,n,acc,h=>by
  unfold cellsFrom
  by_cases hk:k=.cell
  ·subst hk
   simp only[beq_self_eq_true,if_true]
   rw[kbg r _ _ fun z=>h (Yb _ z),Yw]
   have hx:x≠m:=fun e=>h (by rw[e];exact Yi)
   have hb:(x==m)=false:=beq_eq_false_iff_ne.mpr hx
   rw[hb]
  ·have:(k==NameKind.cell)=false:=by simpa using hk
   simp only[this,Yt,if_false]
   exact kbg r _ _ fun z=>h (Yb _ z)
noncomputable def relN(names ns:List (Str×NameKind)):List (Str×NameKind):=names.map fun(n,k)=>if(k== .free&&ns.lookup n==some .cell) then(n, .cell) else(n,k)
theorem kbB{scope:Scope}{env:Env}(hk:env.scope.kind=.function):(relabel scope env).names=relN scope.names env.scope.names:=by
 unfold relabel relN
 have e:(ScopeKind.function==ScopeKind.function)=true:=by decide
 simp only[hk,e,Bool.and_true]
 rfl
theorem kby{ns:List (Str×NameKind)}{x:Str}:∀(names:List (Str×NameKind)),(relN names ns).lookup x=(names.lookup x).map fun k=>if(k== .free&&ns.lookup x==some .cell) then .cell else k
 |[]=>rfl
 | (n,k)::r=>by
  have ih:=kby (ns:=ns) (x:=x) r
  show Yk x ((if(k== .free&&ns.lookup n==some .cell)=true then(n,NameKind.cell) else(n,k))::relN r ns)=_
  by_cases hx:x=n
  ·subst hx
   by_cases hc:(k== .free&&ns.lookup x==some .cell)=true
   ·rw[if_pos hc]
    simp only[Yw,beq_self_eq_true,Option.map_some]
    rw[if_pos hc]
   ·rw[if_neg hc]
    simp only[Yw,beq_self_eq_true,Option.map_some]
    rw[if_neg hc]
  ·have hb:(x==n)=false:=beq_eq_false_iff_ne.mpr hx
   by_cases hc:(k== .free&&ns.lookup n==some .cell)=true
   ·rw[if_pos hc]
    simp only[Yw,hb]
    exact ih
   ·rw[if_neg hc]
    simp only[Yw,hb]
    exact ih
theorem ke6{names ns:List (Str×NameKind)}{x:Str}(h:(relN names ns).lookup x=some .cell∨(relN names ns).lookup x=some .free):names.lookup x=some .cell∨names.lookup x=some .free:=by
 rw[kby] at h
 cases e:names.lookup x with
 |none=>rw[e] at h;simp at h
 |some k=>
  rw[e] at h
  cases k <;> simp_all
theorem kdV{names ns:List (Str×NameKind)}{x:Str}(h:names.lookup x=some .free):(relN names ns).lookup x=some .cell∨(relN names ns).lookup x=some .free:=by
 rw[kby,h]
 by_cases hc:ns.lookup x==some .cell
 ·left;simp[hc]
 ·right;simp[hc]
structure CompScope (X:Cx) (scope:Scope) (N:List Str) (cap:List (Option Nat)):Prop where
 kind:scope.kind=.function
 names:∀x∈scope.names,x.2=.local→scope.names.lookup x.1=some .local
 free:∀x∈scope.names,x.2=.free→X.env.scope.names.lookup x.1=some .cell∨X.env.scope.names.lookup x.1=some .free
 nd:N.Nodup
 len:cap.length=N.length
 cap:∀(j i:Nat) (x:Str),cap[j]?=some (some i)→N[j]?=some x→X.N[i]?=some x∧scope.names.lookup x=some .free∧(x,NameKind.cell)∉scope.names
noncomputable def kbN(X:Cx)(scope:Scope)(C:Addr):List (Str×Addr):=cellsFrom (C+1) scope.names (closL X.env.cells scope.names [])
noncomputable def cxC(X:Cx)(scope:Scope)(N:List Str)(fp:List Addr)(s:Shared)(H:Hp)(C:Addr):Cx:=
 {X with N:=N,s₀:=s,H₀:=H,env:=compEnvC scope (kbN X scope C) C X.env,outer:=X.stack,ex:=fp,fn:=fun x=>scope.names.lookup x==some .cell,pn:=[],xe:=fun _ _=>False}
theorem kcB{M:Model}{A:Around}{E:Value→Shared→Prop}{s:Shared}{scope:Scope}{globals:Addr}{cl:List (Str×Addr)}{qual:Str}{func:Option Addr}{code:Value}{outer:Env}{builtins:Addr}{Q:Env→Shared→Prop}
  (hQ:Q (newEnv scope s.heap.objs.size globals (cellsFrom (s.heap.objs.size+1) scope.names cl) qual func code (some outer) builtins) {s with heap:=pushCells (s.heap.push {cls:=.type "dict",data:=.dict #[]}) scope.names}):
  wpAny M A (newFunctionEnv scope globals cl [] qual func code (some outer) builtins) Q E s:=by
 simp only[newFunctionEnv,Option.isSome_some,if_true]
 refine wpAny_bind (wpAny_alloc ?_)
 refine wpAny_bind (wpAny_layCells _ (fun name kind cells=>by cases hkc:kind==NameKind.cell <;> simp[hkc]) _ _ _ _ ?_)
 rw[show({s with heap:=s.heap.push {cls:=.type "dict",data:=.dict #[]}}:Shared).heap.objs.size=s.heap.objs.size+1 from Heap.size_push ..]
 exact wpAny_bind (wpAny_pure (wpAny_pure hQ))
section
variable {X:Cx} {scope:Scope} {N:List Str} {cap:List (Option Nat)} {pins:List (Addr×Obj)} {σ:St} {H:Hp} {s:Shared}
theorem keP(I:Inv X pins σ H s){b:Addr}(hb:b∈frs X.stack):b<s.heap.objs.size:=by
 obtain⟨_,o,ho,_⟩:=I.stack.mem hb
 exact Heap.lt_size ho
theorem kc1(S:CompScope X scope N cap)(I:Inv X pins σ H s):closureFor scope X.env=pure (closL X.env.cells scope.names []):=
 kcD fun x hx hf=>I.ok.has x.1 (S.free x hx hf)
theorem ka6{C:Addr}{x:Str}{c:Addr}(S:CompScope X scope N cap)(I:Inv X pins σ H s)(h:(kbN X scope C).lookup x=some c):(cellsFrom (C+1) scope.names []).lookup x=some c∨X.env.cells.lookup x=some c:=by
 unfold kbN at h
 rw[ka5] at h
 cases e:(cellsFrom (C+1) scope.names []).lookup x with
 |some c'=>
  rw[e] at h
  exact .inl h
 | none=>
  rw[e] at h
  have h':(closL X.env.cells scope.names []).lookup x=some c:=h
  rcases kcE _ _ h' with⟨h1,h2⟩|h1
  ·obtain⟨c',ec⟩:=I.ok.has x (S.free _ h1 rfl)
   rw[ec] at h2
   rw[h2]
   exact .inr ec
  ·cases h1
theorem keD{fp:List Addr}{C D:Addr}{o:Obj}{s4:Shared}{m:Str→Option Value}(S:CompScope X scope N cap)(I:Inv X pins σ H s)(f:∀b∈fp,FpOk X pins H b)(hfp:∀b∈fp,b<s.heap.objs.size)
  (hk:∀b u,s.heap.get? b=some u→s4.heap.get? b=some u) (hns:s4.heap.Ns C m) (hC:s.heap.objs.size≤C) (hD:s.heap.objs.size≤D) (hDC:D≠C) (eD:s4.heap.get? D=some o) (hcell:∀v,o.data≠.cell v)
  (hnew:CellsOk s4.heap (C+1) (cellsFrom (C+1) scope.names [])) (hos:s4.os=s.os) (hg:s4.gens=s.gens):Inv (cxC X scope N fp s H C) [(D,o)] (capσ cap σ) H s4:=by
 have stkne:∀b∈fp,b∉frs X.stack:=fun b hb hz=>by
  obtain⟨_,h1,h2,_⟩:=f b hb
  rcases X1.mp (I.stkSub b hz) with e|e
  ·exact h1 e
  ·exact h2 e
 have nw:∀{x:Str} {c:Addr},(cellsFrom (C+1) scope.names []).lookup x=some c→s4.heap.IsCell c none∧Nat.lt C c:=fun {x c} h=>hnew.empty x c (PySem.mem_of_lookup h)
 have od:∀{x:Str} {c:Addr},X.env.cells.lookup x=some c→c<s.heap.objs.size:=fun {x c} h=>let⟨_,q⟩:=I.cell x c h;q.lt
 refine⟨⟨I.ok.mod,S.kind,I.ok.glob,I.ok.blt,hC,fun x y c h1 h2=>?_,fun x h=>?_,fun x c h1 h2=>?_,I.ok.hd,I.ok.frames, .inl rfl,fun b hb=>⟨?_,fun x c e=>?_⟩,I.bs,XZ I.ok.bsz I.sz,fun b ob e hb=>?_,stkne,I.stack,I.stkFree⟩,
  hos,by rw[hg];exact I.bare,Un.kept hk,⟨m,hns,fun j x v e1 e2 e3=>?_⟩,fun x c e=>?_,I.hok.fresh hC,fun x c e=>?_,fun p hp=>?_,I.hok.kept hk,?_⟩
 ·rcases ka6 S I h1 with q1|q1 <;> rcases ka6 S I h2 with q2|q2
  ·exact name_of_addr hnew.apart (PySem.mem_of_lookup q1) (PySem.mem_of_lookup q2)
  ·exact absurd (YJ hC (nw q1).2) (Nat.not_lt_of_lt (od q2))
  ·exact absurd (YJ hC (nw q2).2) (Nat.not_lt_of_lt (od q1))
  ·exact I.ok.inj x y c q1 q2
 ·have h':(relabel scope X.env).names.lookup x=some .cell∨(relabel scope X.env).names.lookup x=some .free:=h
  rw[kbB I.ok.kind] at h'
  show ∃c,(cellsFrom (C+1) scope.names (closL X.env.cells scope.names [])).lookup x=some c
  rw[ka5]
  rcases ke6 h' with q|q
  ·obtain⟨c,e⟩:=kbT (n:=C+1) q
   exact⟨c,by rw[e];rfl⟩
  ·obtain⟨c,e⟩:=kce (cells:=X.env.cells) scope.names [] (.inl (PySem.mem_of_lookup q))
   cases e2:(cellsFrom (C+1) scope.names []).lookup x with
   |some c'=>exact⟨c',rfl⟩
   |none=>exact⟨c,e⟩
 ·have h1':(scope.names.lookup x==some .cell)=true:=h1
  have q:scope.names.lookup x=some .cell:=by simpa using h1'
  obtain⟨c',e⟩:=kbT (n:=C+1) q
  have h2':(cellsFrom (C+1) scope.names (closL X.env.cells scope.names [])).lookup x=some c:=h2
  rw[ka5,e] at h2'
  have h3:c'=c:=Option.some.inj h2'
  rw[←h3]
  exact Yo (YJ hC (nw e).2)
 ·exact X2 (X3 (hfp b hb) hC)
 ·rcases ka6 S I e with q|q
  ·exact Yp (Nat.lt_trans (X3 (hfp b hb) hC) (nw q).2)
  ·exact(f b hb).2.2.2.2.1 x c q
 ·obtain⟨_,_,_,h4,_⟩:=f b hb
  rcases h4 with h4|h4
  ·exact I.ok.noex b ob e h4
  ·exact absurd (X3 (Heap.lt_size e) (XZ I.ok.bsz h4)) (Ym _)
 ·
  have e2':(cap.map fun o=>match o with|some i=>(σ[i]?).getD none|none=>none)[j]?=some (some v):=e2
  rw[Ys] at e2'
  cases ec:cap[j]? with
  |none=>rw[ec] at e2';cases e2'
  | some oi=>
   rw[ec] at e2'
   cases oi with
   |none=>cases e2'
   | some i=>
    have e4:(σ[i]?).getD none=some v:=Option.some.inj e2'
    have e5: σ[i]?=some (some v):=by
     cases q: σ[i]? with
     |none=>rw[q] at e4;cases e4
     |some w=>rw[q] at e4;exact congrArg some e4
    obtain⟨h1,hf,hnc⟩:=S.cap j i x ec e1
    have hm:=PySem.mem_of_lookup hf
    have h2:=S.free _ hm rfl
    obtain⟨mo,_,hl⟩:=I.loc
    obtain⟨u,ru,lk⟩:=hl i x v h1 e5 (.inr h2)
    have h3:(relabel scope X.env).names.lookup x=some .cell∨(relabel scope X.env).names.lookup x=some .free:=by
     rw[kbB I.ok.kind]
     exact kdV hf
    refine⟨u,ru, .inr ⟨h3,?_⟩⟩
    rcases lk with⟨k1,_⟩|⟨_,c,ec',z⟩
    ·have k1':X.env.scope.names.lookup x=some .local:=k1
     rcases h2 with h2|h2 <;> rw[h2] at k1' <;> cases k1'
    ·obtain⟨c',ec2⟩:=kce (cells:=X.env.cells) scope.names [] (.inl hm)
     have ec3:(kbN X scope C).lookup x=some c':=by
      unfold kbN
      rw[kbg _ _ _ hnc]
      exact ec2
     rcases kcE _ _ ec2 with⟨_,q2⟩|q2
     ·rw[ec'] at q2
      have q3:c'=c:=q2
      subst q3
      obtain⟨oc,ho,hd⟩:=z
      exact⟨c',ec3,oc,hk _ _ ho,hd⟩
     ·cases q2
 ·rcases ka6 S I e with q|q
  ·exact⟨none,(nw q).1⟩
  ·obtain⟨v,oc,ho,hd⟩:=I.cell x c q
   exact⟨v,oc,hk _ _ ho,hd⟩
 ·rcases ka6 S I e with q|q
  ·exact I.hok.fresh (XZ hC (Yo (nw q).2))
  ·exact I.freeC x c q
 ·have e:p=(D,o):=by simpa[cxC] using hp
  subst e
  exact⟨eD,I.hok.fresh hD,hDC,fun hz=>absurd (keP I hz) (Nat.not_lt.mpr hD),hcell⟩
 ·show(cap.map _).length=N.length
  rw[XU,S.len]
theorem comp_back{fp:List Addr}{C:Addr}{σ':St}{H':Hp}{s':Shared}(I:Inv X pins σ H s)(f:∀b∈fp,FpOk X pins H b)(J:Inv (cxC X scope N fp s H C) [] σ' H' s'):Inv X pins σ H' s':=
 I.call' (ch:=fp) J.os J.base J.hok J.bare fun b hb=>let⟨_,h1,_,h3,h4,h5⟩:=f b hb;⟨h3,h1,h4,h5⟩
end
noncomputable def PIf(X:Cx)(ifs:List Expr)(t:TT):Prop:=∀(pins:List (Addr×Obj)) (s:Shared) (σ:St) (H:Hp) (Q:Bool→Hp→Prop),Inv X pins σ H s→t σ H Q→
 wpAny (model X.prog X.w) X.A (forIn ifs true fun c r=>if r=true then do let ok ←isTrue c X.env (eval c X.env);pure (ForInStep.yield ok) else pure (ForInStep.yield r)) (TP X pins σ Q) X.xe s
noncomputable def tYes:TT:=fun _ H Q=>Q true H
theorem kdY{X:Cx}:PIf X [] tYes:=fun _ _ _ H _ I h=>wpAny_tests_nil ⟨H,I,h⟩
theorem kc2{prog:Program}{w:World}{A:Around}{R:Result→Shared→Prop}{s:Shared}{elt target iter:Expr}{ifs:List Expr}{scope:Scope}{pos:Pos}{it acc:Value}{env:Env}(I:Nat→Shared→Prop)
  (turn:∀n s,I n s→wpAny (model prog w) A (pyNext it) (fun r s₁=>match r with
   |none=>R (.ok .next) s₁
   | some v=>wpAny (model prog w) A (letOwnedTupleGo target it v) (fun _ s₁'=>wpAny (model prog w) A (assign target env v) (fun _ s₂=>
     wpAny (model prog w) A (forIn ifs true fun c r=>if r=true then do let ok ←isTrue c env (eval c env);pure (ForInStep.yield ok) else pure (ForInStep.yield r)) (fun ok s₂'=>
      if ok=true then wpAny (model prog w) A (eval elt env) (fun x s₃=>
       wpAny (model prog w) A (call (.builtin "list.append") [acc,x]) (fun _ s₄=>∃m,m<n∧I m s₄) (fun _ _=>False) s₃) (fun _ _=>False) s₂'
      else ∃m,m<n∧I m s₂') (fun _ _=>False) s₂) (fun _ _=>False) s₁') (fun _ _=>False) s₁) (fun _ _=>False) s)
  (n:Nat) (h:I n s):codeAny (model prog w) A (.compLoop (.ListComp elt [⟨target,iter,ifs,0⟩] scope pos) 0 it acc env) R s:=by
 refine codeAny_loop rfl I (fun n s hI=>?_) n h
 show wpAny _ _ ((compTurn (.ListComp elt [⟨target,iter,ifs,0⟩] scope pos) 0 it acc env).onRaise (fun x=>do noteFrame x env;theTreesLotGoes x)) _ _ s
 refine wpAny_noted ?_
 rw[compTurn_list]
 refine wpAny_bind (wpAny_standAt (wpAny_bind (wpAny_mono (turn n s hI) (fun r s₁ h₁=>?_) fun _ _ h'=>h'.elim)))
 cases r with
 |none=>exact wpAny_pure h₁
 | some v=>
  refine wpAny_bind (wpAny_mono h₁ (fun _ s₁' h₁'=>?_) fun _ _ h'=>h'.elim)
  refine wpAny_bind (wpAny_mono h₁' (fun _ s₂ h₂=>wpAny_bind (wpAny_mono h₂ (fun ok s₂' h₂'=>?_) fun _ _ h'=>h'.elim)) fun _ _ h'=>h'.elim)
  cases ok with
  |false=>exact wpAny_pure ⟨rfl,h₂'⟩
  |true=>
   exact wpAny_bind (wpAny_bind (wpAny_mono h₂' (fun x s₃ h₃=>wpAny_bind (wpAny_mono h₃ (fun _ s₄ h₄=>wpAny_pure (wpAny_pure ⟨rfl,h₄⟩)) fun _ _ h'=>h'.elim)) fun _ _ h'=>h'.elim))
noncomputable def tComp(wi:TI)(cap:List (Option Nat))(g:TG)(te:TE):TE:=fun σ H Q=>wi σ H fun J H1=>∃W:Nat→Nat→St→List V→Hp→Prop,(∃m,W 0 m (capσ cap σ) [] H1)∧∀i m σ' ys H',W i m σ' ys H'→
 (J.stop i H'∧∀D,H' D=none→Q (.ref D) (upd H' D (.lst ys)))∨(J.go i H'∧ys.length<sizeLine∧∃N:St→V→Hp→Prop,(∀σ2 y H4,N σ2 y H4→∃m',m'<m∧W (i+1) m' σ2 (ys++[y]) H4)∧
  ∀x H2,J.yld i H' x H2→g x σ' H2 fun σ2 H3=>te σ2 H3 (N σ2))
section
variable {X:Cx} {scope:Scope} {N:List Str} {cap:List (Option Nat)} {pins:List (Addr×Obj)} {σ:St} {H2:Hp} {s2:Shared} {tg elt iter:Expr} {ifs:List Expr} {pos:Pos} {g:TG} {tt:TT} {te:TE}
theorem kcp{fp:List Addr}{it:Addr}{tn:Nat→Heap→Prop}{J:It}{Q:VK}{RR:Value→Addr→Result→Shared→Prop}{E:Value→Shared→Prop}(S:CompScope X scope N cap)(hc:X.calm=true)
  (hg:∀fp s H C,PG (cxC X scope N fp s H C) tg g) (ht:∀fp s H C,PIf (cxC X scope N fp s H C) ifs tt) (he:∀fp s H C,PE (cxC X scope N fp s H C) elt te)
  (I2:Inv X pins σ H2 s2) (T:Turn X.prog X.w X.K tg J fp it tn) (st2:tn 0 s2.heap) (f2:∀b∈fp,FpOk X pins H2 b)
  (W:Nat→Nat→St→List V→Hp→Prop) {m0:Nat} (w0:W 0 m0 (capσ cap σ) [] H2)
  (turn:∀i m σ' ys H',W i m σ' ys H'→(J.stop i H'∧∀D,H' D=none→Q (.ref D) (upd H' D (.lst ys)))∨(J.go i H'∧ys.length<sizeLine∧∃(N:St→V→Hp→Prop) (N0:St→Hp→Prop),(∀σ2 y H4,N σ2 y H4→∃m',m'<m∧W (i+1) m' σ2 (ys++[y]) H4)∧(∀σ2 H4,N0 σ2 H4→∃m',m'<m∧W (i+1) m' σ2 ys H4)∧
   ∀x H2,J.yld i H' x H2→g x σ' H2 fun σ2 H3=>tt σ2 H3 fun b H4=>if b=true then te σ2 H4 (N σ2) else N0 σ2 H4))
  (hRR:∀(D C:Addr) (H':Hp) (s':Shared) (m:Str→Option Value),Inv X pins σ H' s'→FpOk X pins H' C→C≠D→s'.heap.Ns C m→Q (.ref D) H'→RR (.ref D) C (.ok .next) s'):
  wpAny (model X.prog X.w) X.A (newList []) (fun acc s₃=>wpAny (model X.prog X.w) X.A (newFunctionEnv scope X.env.globals (closL X.env.cells scope.names []) [] X.env.qual none .none (some X.env)) (fun cenv s₄=>
   codeAny (model X.prog X.w) X.A (.compStart (.ListComp elt [⟨tg,iter,ifs,0⟩] scope pos) 0 (.ref it) acc {cenv with scope:=relabel scope X.env}) (RR acc cenv.locals) s₄) E s₃) E s2:=by
 refine wpAny_newObj_type (kcB ?_)
 dsimp only
 generalize hP:s2.heap.push {cls:=.type "list",dict:=none,data:=.seq ([]:List Value).toArray}=P
 have hnew:CellsOk (pushCells (P.push {cls:=.type "dict",data:=.dict #[]}) scope.names) (P.objs.size+1) (cellsFrom (P.objs.size+1) scope.names []):=by
  have q:=cellsFrom_ok scope.names (P.push {cls:=.type "dict",data:=.dict #[]}) (P.objs.size+1) [] ⟨fun _ _ hm=>(nomatch hm),List.Pairwise.nil⟩ (by rw[Heap.size_push];exact XR _)
  rwa [Heap.size_push] at q
 have hns₁:(pushCells (P.push {cls:=.type "dict",data:=.dict #[]}) scope.names).Ns P.objs.size (fun _=>none):=(Heap.Ns.new P (.type "dict")).keeps (pushCells_keeps _ _)
 have keep₁:∀b o,P.get? b=some o→(pushCells (P.push {cls:=.type "dict",data:=.dict #[]}) scope.names).get? b=some o:=fun b o e=>pushCells_keeps _ _ b o (Heap.get?_push_of_some _ e)
 generalize pushCells (P.push {cls:=.type "dict",data:=.dict #[]}) scope.names=h₁ at hnew hns₁ keep₁⊢
 have hC:P.objs.size=s2.heap.objs.size+1:=by rw[←hP,Heap.size_push]
 have hDC:s2.heap.objs.size≠P.objs.size:=by rw[hC];exact X2 (YO _)
 have hCle:s2.heap.objs.size≤P.objs.size:=by rw[hC];exact Nat.le_succ _
 have hDle:s2.heap.objs.size≤s2.heap.objs.size:=XR _
 have old:∀b o,s2.heap.get? b=some o→h₁.get? b=some o:=fun b o e=>keep₁ b o (hP▸Heap.get?_push_of_some _ e)
 have hacc:h₁.get? s2.heap.objs.size=some {cls:=.type "list",data:=.seq ([]:List Value).toArray}:=keep₁ _ _ (hP▸Heap.get?_push_size _ rfl)
 have hfp:∀b∈fp,b<s2.heap.objs.size:=fun b hb=>let⟨_,e,_⟩:=T.obj 0 _ st2 b hb;Heap.lt_size e
 generalize hDd:s2.heap.objs.size=D at hacc hDC hDle⊢
 rw[hDd] at hCle hC
 generalize P.objs.size=C at hnew hns₁ hC hDC hCle⊢
 have dne:∀b∈fp,D≠b:=fun b hb=>Yp (hDd▸hfp b hb)
 have cne:∀b∈fp,b≠C:=fun b hb=>X2 (X3 (hDd▸hfp b hb) hCle)
 have stkne:∀b∈fp,b∉frs X.stack:=fun b hb hz=>by
  obtain⟨_,h1,h2,_⟩:=f2 b hb
  rcases X1.mp (I2.stkSub b hz) with e|e
  ·exact h1 e
  ·exact h2 e
 have dfs:D∉frs X.stack:=fun hz=>absurd (keP I2 hz) (by rw[hDd];exact Ym _)
 have dcell:∀x c,(kbN X scope C).lookup x=some c→c≠D:=fun x c e z=>by
  rcases ka6 S I2 e with e|e
  ·have q:Nat.lt C c:=(hnew.empty x c (PySem.mem_of_lookup e)).2
   rw[z] at q
   exact absurd (YJ hCle q) (Ym _)
  ·obtain⟨v,q⟩:=I2.cell x c e
   have:=q.lt
   rw[z,hDd] at this
   exact absurd this (Ym _)
 have bcell:∀b∈fp,∀x c,(kbN X scope C).lookup x=some c→c≠b:=fun b hb x c e=>by
  rcases ka6 S I2 e with e|e
  ·have q:Nat.lt C c:=(hnew.empty x c (PySem.mem_of_lookup e)).2
   exact Yp (Nat.lt_trans (X3 (hDd▸hfp b hb) hCle) q)
  ·exact(f2 b hb).2.2.2.2.1 x c e
 have stat:∀{o:Obj} {H':Hp},(∀b∈fp,H' b=none)→∀b∈fp,FpOk (cxC X scope N fp s2 H2 C) [(D,o)] H' b:=fun {o H'} hn b hb=>
  ⟨hn b hb,cne b hb,stkne b hb, .inl hb,bcell b hb,fun p hp=>by
   have e:p=(D,o):=by simpa[cxC] using hp
   subst e
   exact dne b hb⟩
 have loop:∀s₃:Shared,s₃= {s2 with heap:=h₁}→
   codeAny (model X.prog X.w) X.A (.compLoop (.ListComp elt [⟨tg,iter,ifs,0⟩] scope pos) 0 (.ref it) (.ref D) (compEnvC scope (kbN X scope C) C X.env)) (RR (.ref D) C) s₃:=by
  rintro s₃ rfl
  have I3:Inv (cxC X scope N fp s2 H2 C) [(D,_)] (capσ cap σ) H2 {s2 with heap:=h₁}:=
   keD S I2 f2 hfp old hns₁ (by rw[hDd];exact hCle) (by rw[hDd];exact XR _) hDC hacc (fun v z=>by cases z) hnew rfl rfl
  refine kc2 (fun n s'=>∃i σ' ys H' its k,Inv (cxC X scope N fp s2 H2 C) [] σ' H' s'∧tn i s'.heap∧(∀b∈fp,H' b=none)∧H' D=none∧s'.heap.get? D=some {cls:=.type "list",data:=.seq (its:List Value).toArray k}∧Vals ys its∧ys.length≤sizeLine∧W i n σ' ys H') ?_ m0
   ⟨0,_,[],H2,[],_,I3.pins_of (fun p hp=>nomatch hp),T.keep _ _ _ st2 (fun b hb o e=>old b o e),fun b hb=>(f2 b hb).1,I2.hok.fresh (by rw[hDd];exact XR _),hacc, .nil,Yy _,w0⟩
  rintro n s3 ⟨i,σ3,ys,H3,its,k,J3,st3,fr3,hD3,e3,r3,z3,w3⟩
  have J3':Inv (cxC X scope N fp s2 H2 C) [(D,{cls:=.type "list",data:=.seq its.toArray k})] σ3 H3 s3:=J3.pins_of fun p hp=>by
   have e:p=(D,{cls:=.type "list",data:=.seq its.toArray k}):=by simpa using hp
   subst e
   exact⟨e3,hD3,hDC,dfs,fun v z=>by cases z⟩
  rcases turn i n σ3 ys H3 w3 with⟨stop,qn⟩|⟨go,hlt,N',N0',hN,hN0,step⟩
  ·refine thn (T.done (cxC X scope N fp s2 H2 C) rfl rfl rfl hc i _ s3 σ3 H3 (fun _ _=>False) J3' (stat fr3) st3 stop) fun r s4 ⟨hr,I4⟩=>?_
   subst hr
   have e4:=(I4.pin (D,{cls:=.type "list",data:=.seq its.toArray k}) (by simp[cxC])).1
   have B:Inv X pins σ H3 s4:=comp_back I2 f2 (I4.pins_of fun p hp=>nomatch hp)
   obtain⟨m,hm,_⟩:=I4.loc
   have fD:FpOk X pins H3 D:=I2.fpOk (by rw[hDd];exact XR _) hD3
   have B':Inv X pins σ (upd H3 D (.lst ys)) s4:=B.adopt fD (by rw[←hDd];exact I2.sz) ⟨z3,its,k,r3,e4⟩
   refine hRR D C _ s4 m B' (I2.fpOk (by rw[hDd];exact hCle) ?_) hDC.symm hm (qn D hD3)
   rw[kak hDC.symm]
   exact I4.free
  ·refine thn (T.item (cxC X scope N fp s2 H2 C) rfl rfl rfl hc i _ s3 σ3 H3 (fun _ _=>False) J3' (stat fr3) st3 go) fun r s4 ⟨u,hr,h4⟩=>?_
   subst hr
   refine thn h4 fun _ s5 ⟨x,H5,I5,r5,y5,st5,fr5⟩=>?_
   have I5':=I5.pinned (stat fr5) (T.obj _ _ st5)
   refine thn (hg fp s2 H2 C _ s5 σ3 H5 x u _ I5' r5 (step x H5 y5)) fun _ s6 ⟨σ6,H6,I6,q6⟩=>?_
   refine thn (ht fp s2 H2 C _ s6 σ6 H6 _ I6 q6) fun ok s6' ⟨H6',I6',q6'⟩=>?_
   cases ok with
   | false=>
    have q6':N0' σ6 H6':=by simpa using q6'
    obtain⟨m',hm',w7⟩:=hN0 σ6 H6' q6'
    have p7:=I6'.pin (D,{cls:=.type "list",data:=.seq its.toArray k}) (by simp[cxC])
    have e7:s6'.heap.get? D=some {cls:=.type "list",data:=.seq its.toArray k}:=p7.1
    have pf:∀b∈fp,∀o,s5.heap.get? b=some o→s6'.heap.get? b=some o∧H6' b=none:=fun b hb o e=>
     let z:=I6'.pin (b,o) (X9 _ (X9 _ (kbs hb e)))
     ⟨z.1,z.2.1⟩
    refine⟨m',hm',i+1,σ6,ys,H6',its,_,I6'.pins_of (fun p hp=>nomatch hp),T.keep _ _ _ st5 (fun b hb o e=>(pf b hb o e).1),fun b hb=>?_,p7.2.1,e7,r3,z3,w7⟩
    obtain⟨o,e,_⟩:=T.obj _ _ st5 b hb
    exact(pf b hb o e).2
   |true=>
   have q6':te σ6 H6' (N' σ6):=by simpa using q6'
   refine thn (he fp s2 H2 C _ s6' σ6 H6' _ I6' q6') fun v s7 ⟨y,H7,I7,r7,q7⟩=>?_
   obtain⟨m',hm',w7⟩:=hN σ6 y H7 q7
   have p7:=I7.pin (D,{cls:=.type "list",data:=.seq its.toArray k}) (by simp[cxC])
   have e7:s7.heap.get? D=some {cls:=.type "list",data:=.seq its.toArray k}:=p7.1
   have hl7:=r3.length
   refine call_meets F.slot_list_append ⟨_,e7,rfl⟩ F.entry_list_append (F.args_list_append_2 _ _) (PySem.list_append D its.toArray k v (by rw[X5];omega)) ⟨e7,?_⟩
   have q8:=PySem.IsL.update e7 (·.push v)
   have ex8:its.toArray.push v=(its++[v]).toArray:=by simp
   rw[ex8] at q8
   have pf:∀b∈fp,∀o,s5.heap.get? b=some o→s7.heap.get? b=some o∧H7 b=none:=fun b hb o e=>
    let z:=I7.pin (b,o) (X9 _ (X9 _ (kbs hb e)))
    ⟨z.1,z.2.1⟩
   have I7':Inv (cxC X scope N fp s2 H2 C) [] σ6 H7 s7:=I7.pins_of fun p hp=>nomatch hp
   refine⟨m',hm',i+1,σ6,ys++[y],H7,its++[v],_,I7'.turned (it:=D) (fun b o hb e=>(Heap.get?_update_other _ _ (Ne.symm hb)).trans e) p7.2.1 hDC (.inr (by show s2.heap.objs.size≤D;rw[hDd];exact XR _)) dcell (fun p hp=>nomatch hp),
    T.keep _ _ _ st5 (fun b hb o e=>(Heap.get?_update_other _ _ (dne b hb)).trans (pf b hb o e).1),fun b hb=>?_,p7.2.1,q8,r3.append (.cons r7 .nil),by rw[Yz,YR];omega,w7⟩
   obtain⟨o,e,_⟩:=T.obj _ _ st5 b hb
   exact(pf b hb o e).2
 have st1:tn 0 h₁:=T.keep _ _ _ st2 (fun b hb o e=>old b o e)
 exact codeAny_compStart_list (loop _ rfl) (T.self X.A 0 _ _ _ st1 (loop _ rfl))
theorem kcZ{J:It}{Q:VK}{W:Nat→Nat→St→List V→Hp→Prop}(h:∀i m σ' ys H',W i m σ' ys H'→(J.stop i H'∧∀D,H' D=none→Q (.ref D) (upd H' D (.lst ys)))∨(J.go i H'∧ys.length<sizeLine∧∃N:St→V→Hp→Prop,(∀σ2 y H4,N σ2 y H4→∃m',m'<m∧W (i+1) m' σ2 (ys++[y]) H4)∧
   ∀x H2,J.yld i H' x H2→g x σ' H2 fun σ2 H3=>te σ2 H3 (N σ2))):∀i m σ' ys H',W i m σ' ys H'→(J.stop i H'∧∀D,H' D=none→Q (.ref D) (upd H' D (.lst ys)))∨(J.go i H'∧ys.length<sizeLine∧∃(N:St→V→Hp→Prop) (N0:St→Hp→Prop),(∀σ2 y H4,N σ2 y H4→∃m',m'<m∧W (i+1) m' σ2 (ys++[y]) H4)∧(∀σ2 H4,N0 σ2 H4→∃m',m'<m∧W (i+1) m' σ2 ys H4)∧
   ∀x H2,J.yld i H' x H2→g x σ' H2 fun σ2 H3=>tYes σ2 H3 fun b H4=>if b=true then te σ2 H4 (N σ2) else N0 σ2 H4):=by
 intro i m σ' ys H' w
 rcases h i m σ' ys H' w with h|⟨go,hl,N,hN,st⟩
 ·exact .inl h
 ·refine .inr ⟨go,hl,N,fun _ _=>False,hN,(fun _ _ z=>z.elim),fun x H2 y=>?_⟩
  have e:(fun(σ2:St) (H3:Hp)=>tYes σ2 H3 fun b H4=>if b=true then te σ2 H4 (N σ2) else False)=fun σ2 H3=>te σ2 H3 (N σ2):=by
   funext σ2 H3
   show(if true=true then te σ2 H3 (N σ2) else False)=te σ2 H3 (N σ2)
   rw[if_pos rfl]
  rw[e]
  exact st x H2 y
theorem kd2{wi:TI}(S:CompScope X scope N cap)(hc:X.calm=true)(hi:PI X tg iter wi)(hg:∀fp s H C,PG (cxC X scope N fp s H C) tg g)(he:∀fp s H C,PE (cxC X scope N fp s H C) elt te)
  (hs:∀x,foldedSetIterable iter X.env x=pure x:=by intro _;rfl):PE X (.ListComp elt [⟨tg,iter,[],0⟩] scope pos) (tComp wi cap g te):=by
 intro pins s σ H Q I h
 rw[eval_ListComp]
 refine wpAny_comprehension_free (use:=none) rfl hs (kc1 S I) S.kind S.names (thn (hi pins s σ H _ I h) fun v s1 h1=>thn h1 fun itv s2 h2=>?_)
 obtain⟨it,fp,tn,J,H2,e,I2,T,st2,f2,W,⟨m0,w0⟩,turn⟩:=h2
 subst e
 refine kcp (RR:=fun acc C=>compPost (model X.prog X.w) X.A X.xe none (EP X pins σ Q) acc C) S hc hg (fun _ _ _ _=>kdY) he I2 T st2 f2 W w0 (kcZ turn) fun D C H' s' m B fC hCD hm q=>?_
 obtain⟨c0,c1,c2,c3,c4,c5⟩:=fC
 exact⟨m,hm,fun h' hs'=>⟨.ref D,H',B.turned (t':=s'.toks) (fun b o hb e=>(hs'.2 b hb).trans e) c0 c1 c3 c4 c5,rfl,q⟩⟩
theorem kfa{wi:TI}{i:Nat}{y:Str}{py spos:Pos}(S:CompScope X scope N cap)(hc:X.calm=true)(hi:PI X tg iter wi)(hg:∀fp s H C,PG (cxC X scope N fp s H C) tg g)(he:∀fp s H C,PE (cxC X scope N fp s H C) elt te)
  (hA:PG X (.Name y py) (gName i)) (hsw:swapsWith (.ListComp elt [⟨tg,iter,[],0⟩] scope pos) (some (.Name y py)) spos.line X.env=pure true:=by rfl)
  (hs:∀x,foldedSetIterable iter X.env x=pure x:=by intro _;rfl):PS X (.Assign [.Name y py] (.ListComp elt [⟨tg,iter,[],0⟩] scope pos) spos) (tAsg (tComp wi cap g te) (gName i)):=by
 intro pins s σ H D I h
 rw[exec_Assign_Name_used _ _ _ _ hsw]
 refine wpAny_bind (wpAny_standAt (wpAny_bind ?_))
 show wpAny _ X.A (do let _ ←comprehension (.ListComp elt [⟨tg,iter,[],0⟩] scope pos) scope X.env _ (newList []) false (eval iter X.env) (some (assign (.Name y py) X.env))) _ _ s
 refine wpAny_bind (wpAny_mono (wpAny_comprehension_free (use:=some (assign (.Name y py) X.env)) (Q:=fun _ s'=>SP X pins D .next s') rfl hs (kc1 S I) S.kind S.names
  (thn (hi pins s σ H _ I h) fun v s1 h1=>thn h1 fun itv s2 h2=>?_)) (fun _ s' hq=>wpAny_pure (wpAny_pure hq)) fun _ _ e=>e)
 obtain⟨it,fp,tn,J,H2,e,I2,T,st2,f2,W,⟨m0,w0⟩,turn⟩:=h2
 subst e
 refine kcp (Q:=fun v H'=>gName i v σ H' D.nx) (RR:=fun acc C=>compPost (model X.prog X.w) X.A X.xe (some (assign (.Name y py) X.env)) (fun _ s'=>SP X pins D .next s') acc C) S hc hg (fun _ _ _ _=>kdY) he I2 T st2 f2 W w0 (kcZ (Q:=fun v H'=>gName i v σ H' D.nx) turn) fun D' C H' s' m B fC hCD hm q=>?_
 obtain⟨c0,c1,c2,c3,c4,c5⟩:=fC
 obtain⟨oC,es,ep,eC,dC,kC⟩:=hm
 have B':Inv X (pins++[(C,oC)]) σ H' s':=B.pins_of fun p hp=>by
  rcases YB.mp hp with hp|hp
  ·exact B.pin p (X9 _ hp)
  ·have e:p=(C,oC):=by simpa using hp
   subst e
   exact⟨eC,c0,c1,c2,fun v z=>by rw[dC] at z;cases z⟩
 refine thn (hA _ s' σ H' (.ref D') (.ref D') _ B' rfl q) fun _ s'' ⟨σ2,H3,I3,q3⟩=>?_
 obtain⟨e3,n3,_⟩:=I3.pin (C,oC) (X9 _ (X9 _ (by simp)))
 exact⟨m,⟨oC,es,ep,e3,dC,kC⟩,fun h' hs'=>⟨σ2,H3,I3.unpinned.turned (t':=s''.toks) (fun b o hb e=>(hs'.2 b hb).trans e) n3 c1 c3 c4 c5,q3⟩⟩
end
section
variable {g:TG} {te:TE} {σ:St} {H:Hp} {R:List V→Hp→Addr→Prop}
theorem kc0{K:XQ}{a:Addr}{xs:List V}(Pv:Nat→St→List V→Hp→Prop)(h0:Pv 0 σ [] H)(hz:xs.length≤sizeLine)(hl:∀i σ ys H,i≤xs.length→Pv i σ ys H→SqL K H a xs∧ys.length=i)
  (hs:∀i x σ ys H,xs[i]?=some x→Pv i σ ys H→g x σ H fun σ2 H2=>te σ2 H2 fun y H3=>Pv (i+1) σ2 (ys++[y]) H3) (hd:∀σ ys H,Pv xs.length σ ys H→∀D,H D=none→R ys H D):
  ∃ W:Nat→Nat→St→List V→Hp→Prop,(∃m,W 0 m σ [] H)∧∀i m σ' ys H',W i m σ' ys H'→
   ((Itl K a).stop i H'∧∀D,H' D=none→R ys H' D)∨((Itl K a).go i H'∧ys.length<sizeLine∧∃N:St→V→Hp→Prop,(∀σ2 y H4,N σ2 y H4→∃m',m'<m∧W (i+1) m' σ2 (ys++[y]) H4)∧
    ∀x H2,(Itl K a).yld i H' x H2→g x σ' H2 fun σ2 H3=>te σ2 H3 (N σ2)):=by
 refine⟨fun i m σ ys H=>m=xs.length-i∧i≤xs.length∧Pv i σ ys H,⟨xs.length,by simp,Yy _,h0⟩,?_⟩
 rintro i m σ ys H ⟨rfl,hi,p⟩
 obtain⟨q,el⟩:=hl i σ ys H hi p
 by_cases hlt:i<xs.length
 ·refine .inr ⟨⟨xs,xs[i],q,by simp[hlt]⟩,by omega,fun σ2 y H3=>Pv (i+1) σ2 (ys++[y]) H3,fun σ' y H' p'=>⟨xs.length-(i+1),by omega,rfl,hlt,p'⟩,fun x H' yl=>?_⟩
  obtain⟨e,yl⟩:=yl
  subst e
  exact hs i x σ ys _ (yl xs q) p
 ·have e:i=xs.length:=by omega
  subst e
  exact .inl ⟨⟨xs,q,XR _⟩,hd σ ys H p⟩
end
theorem CompScope.plain{X:Cx}{scope:Scope}{N:List Str}(kind:scope.kind=.function)(names:∀x∈scope.names,x.2=.local→scope.names.lookup x.1=some .local)(_:∀x∈scope.names,x.2≠.cell)(nf:∀x∈scope.names,x.2≠.free)(nd:N.Nodup):
  CompScope X scope N (Yh N.length none):=by
 refine⟨kind,names,fun x hx hf=>absurd hf (nf x hx),nd,by simp,fun j i x e _=>?_⟩
 rw[Zb] at e
 split at e
 ·cases e
 ·cases e
noncomputable def ke1(scope:Scope)(ns:List (Str×NameKind))(XN N:List Str)(cap:List (Option Nat)):Bool:=
 scope.kind== .function&&scope.names.all (fun x=>!(x.2== .local)||scope.names.lookup x.1==some .local)&&scope.names.all (fun x=>!(x.2== .free)||(ns.lookup x.1==some .cell||ns.lookup x.1==some .free))&&decide N.Nodup&&decide (cap.length=N.length) &&
  (cap.zip N).all fun p=>match p.1 with
   |none=>true
   |some i=>XN[i]? ==some p.2&&scope.names.lookup p.2==some .free&&scope.names.all fun y=>!(y.1==p.2&&y.2== .cell)
theorem CompScope.of{X:Cx}{scope:Scope}{N:List Str}{cap:List (Option Nat)}(ns:List (Str×NameKind))(XN:List Str)(hn:X.env.scope.names=ns)(hN:X.N=XN)(h:ke1 scope ns XN N cap=true):CompScope X scope N cap:=by
 unfold ke1 at h
 simp only[Bool.and_eq_true,decide_eq_true_eq,List.all_eq_true,Bool.or_eq_true,Bool.not_eq_true',beq_iff_eq,beq_eq_false_iff_ne] at h
 obtain⟨⟨⟨⟨⟨h1,h2⟩,h3⟩,h4⟩,h5⟩,h6⟩:=h
 refine⟨h1,fun x hx hl=>?_,fun x hx hf=>?_,h4,h5,fun j i x e1 e2=>?_⟩
 ·rcases h2 x hx with q|q
  ·exact absurd hl q
  ·exact q
 ·rw[hn]
  rcases h3 x hx with q|q
  ·exact absurd hf q
  ·exact q
 ·have hz:(cap.zip N)[j]?=some (some i,x):=by
   rw[List.getElem?_zip_eq_some]
   exact⟨e1,e2⟩
  have q:=h6 _ (YF hz)
  simp only[Bool.and_eq_true,beq_iff_eq,List.all_eq_true,Bool.not_eq_true',Bool.and_eq_false_iff,beq_eq_false_iff_ne] at q
  obtain⟨⟨q1,q2⟩,q3⟩:=q
  refine⟨by rw[hN];exact q1,q2,fun z=>?_⟩
  rcases q3 _ z with q|q
  ·exact q rfl
  ·exact q rfl
end L2
namespace L2
open PySem PySem.Spec PyProof.Rows
theorem Inv.turnedL{X:Cx}{pins:List (Addr×Obj)}{σ:St}{H:Hp}{s:Shared}{h':Heap}{t':Nat}{ch:List Addr}(I:Inv X pins σ H s)(k:∀b o,b∉ch→s.heap.get? b=some o→h'.get? b=some o)(hf:∀b∈ch,FpOk X pins H b):
  Inv X pins σ H {s with heap:=h',toks:=t'}:=by
 have nch:∀b u,H b=some u→b∉ch:=fun b u e z=>by
  have:=(hf b z).1
  rw[this] at e
  cases e
 refine I.step (g':=s.gens) (d':=s.drawn) (ch:=ch) (fun b hb=>let⟨_,h1,_,h3,h4,h5⟩:=hf b hb;⟨h3,h1,h4,h5⟩) (fun b o _ _ hc e _=>k b o hc e) (fun b o _ _ hc e _=>⟨o.slots,k b o hc e⟩) (fun _ _ _ _ n=>n)
  (fun b o hc e=>⟨o,k b o hc e⟩) (fun _ _ e=>e) (fun _ _ _ e=>e) (fun b ps e=>⟨#[],by rw[e];simp⟩) (fun m hm=>?_) (fun b u e=>?_) I.bare
 ·obtain⟨o,es,ep,ho,r⟩:=hm
  exact⟨o,es,ep,k _ o (fun z=>(hf _ z).2.1 rfl) ho,r⟩
 ·refine(I.hok b u e).stay (fun c v hc q=>k c v ?_ q) (fun _ q=>q) fun _ _ q=>q
  rcases hc with z|z
  ·rw[z];exact nch b u e
  ·exact nch c _ z
noncomputable def Ite(a:Addr):It:=⟨fun i H=>∃xs x,H a=some (.lst xs)∧xs[i]?=some x,fun i H x H'=>∃t y,H t=none∧x=.ref t∧H'=upd H t (.tup [.int i,y])∧∀xs,H a=some (.lst xs)→xs[i]?=some y,fun i H=>∃xs,H a=some (.lst xs)∧xs.length≤i⟩
theorem kdN{P:Program}{w:World}{K:XQ}{es:List Expr}{k:Nat}{pos:Pos}(a e it:Addr)(hne:e≠it):Turn P w K (.Tuple es k pos) (Ite a) [e,it] e (fun i h=>(∃old,IsEnum h e it ((i:Nat):Int) old)∧h.IsListIter it a i) where
 mem:=by simp
 obj:=fun i h st b hb=>by
  obtain⟨⟨old,he⟩,o,eo,c,d⟩:=st
  have hb':b=e∨b=it:=by simpa using hb
  rcases hb' with rfl|rfl
  ·exact⟨_,he,fun v z=>by
    have z':Data.fields _=Data.cell v:=z
    cases z'⟩
  ·exact⟨o,eo,fun v z=>by rw[d] at z;cases z⟩
 keep:=fun i h h' st k=>⟨let⟨old,he⟩:=st.1;⟨old,k e (by simp) _ he⟩,st.2.at fun o eo=>k it (by simp) o eo⟩
 item:=by
  intro X hP hw hK hc i pins s σ H E I hf st hg
  subst hP hw hK
  obtain⟨⟨old,he⟩,hit⟩:=st
  obtain⟨xs,x,hq,hx⟩:=hg
  obtain⟨its,n,r,ho,hz⟩:=I.lst hq
  obtain⟨u,hu,ru⟩:=r.get hx
  have hl:s.heap.IsList a its.toArray:=⟨_,ho,rfl,n,rfl⟩
  refine wpAny_pyNext_enum_item he hit hl (x:=u) (by simpa using hu) hne fun h1 heo hit1 ht1 hz1 hk1=>?_
  refine⟨.ref s.heap.objs.size,rfl,wpAny_letOwnedTupleGo_enum heo fun h2 he2 hs2=>?_⟩
  have hs2':Heap.SameBut e h1 h2:=hs2
  have el:e<s.heap.objs.size:=Heap.lt_size he
  have kk:∀b o,b∉[e,it]→s.heap.get? b=some o→h2.get? b=some o:=fun b o hb eo=>by
   have hb':b≠e∧b≠it:=by simpa using hb
   exact(hs2'.2 b hb'.1).trans (hk1 b o hb'.1 hb'.2 eo)
  have I1:Inv X pins σ H {s with heap:=h2,toks:=s.toks+1}:=I.turnedL (ch:=[e,it]) kk hf
  have fr:H s.heap.objs.size=none:=I.hok.fresh (XR _)
  have ft:FpOk X pins H s.heap.objs.size:=I.fpOk (XR _) fr
  have ht2:h2.get? s.heap.objs.size=some {cls:=.type "tuple",data:=.seq #[.int i s.toks,u]}:=(hs2'.2 _ (Yp el)).trans ht1
  have I2:Inv X pins σ (upd H s.heap.objs.size (.tup [.int i,x])) {s with heap:=h2,toks:=s.toks+1}:=
   I1.adopt ft I.sz ⟨by show 2≤sizeLine;decide,[.int i s.toks,u], .cons ⟨_,rfl⟩ (.cons ru .nil),_,ht2,rfl,_,rfl⟩
  have hit2:h2.IsListIter it a (i+1):=hit1.extBut hs2'.extBut (Ne.symm hne)
  refine⟨.ref s.heap.objs.size,_,I2,rfl,⟨s.heap.objs.size,x,fr,rfl,rfl,fun ys hy=>by rw[hq] at hy;cases hy;exact hx⟩,⟨⟨u,?_⟩,hit2⟩,fun b hb=>?_⟩
  ·have e1:((i+1:Nat):Int)=(i:Int)+1:=rfl
   rw[e1]
   exact he2
  ·have hbl:b<s.heap.objs.size:=by
    have hb':b=e∨b=it:=by simpa using hb
    rcases hb' with rfl|rfl
    ·exact el
    ·obtain⟨o,eo,_⟩:=hit
     exact Heap.lt_size eo
   rw[kak (X2 hbl)]
   exact(hf b hb).1
 done:=by
  intro X hP hw hK hc i pins s σ H E I hf st hg
  subst hP hw hK
  obtain⟨⟨old,he⟩,hit⟩:=st
  obtain⟨xs,hq,hx⟩:=hg
  obtain⟨its,n,r,ho,hz⟩:=I.lst hq
  have hl:s.heap.IsList a its.toArray:=⟨_,ho,rfl,n,rfl⟩
  have hlen:=r.length
  obtain⟨f0,f1,f2,f3,f4,f5⟩:=hf it (by simp)
  exact wpAny_pyNext_enum_end (I.ok.hd hc) he hit hl (by simp;omega) fun h' eb=>⟨rfl,I.turned (t':=s.toks) (fun b o hb e=>eb b o hb e) f0 f1 f3 f4 f5⟩
 self:=fun _ _ _ _ _ st h=>let⟨_,he⟩:=st.1;wpAny_pyIter_enum he h
section
variable {X:Cx}
noncomputable def iEnum(ta:TA):TI:=fun σ H R=>ta σ H fun vs H1=>∃a xs,vs=[.ref a]∧H1 a=some (.lst xs)∧R (Ite a) H1
theorem kfd{es:List Expr}{k:Nat}{tpos:Pos}{e:Expr}{ta:TA}{p pos:Pos}(hg:Gl X "enumerate")(hm:X.mg "enumerate"=none)(ha:PA X [e] ta)(he:starEach [e] X.env=(false,eval e X.env)::starEach [] X.env:=by rfl)
  (hpl:(backTo pos (starEach [] X.env)).any (·.1)=false:=by rfl):PI X (.Tuple es k tpos) (.Call (.Name "enumerate" p) [e] [] pos) (iEnum ta):=by
 intro pins s σ H R I h
 refine Call_ (kb8 I hg hm boot_enumerate (PyProof.Rows.callWith_type1 (thn (ha pos pins s σ H _ I h) fun us s1 ⟨vs,H1,I1,r1,q1⟩=>?_) he hpl))
 obtain⟨a,xs,rfl,hq,q⟩:=q1
 obtain⟨u,rfl,rx⟩:=vals1 r1
 cases rx
 obtain⟨its,n,r,ho,hz⟩:=I1.lst hq
 refine call_enumerate_1 ho fun h' he' hit' hsz hk=>wpAny_pyIter_enum he' ?_
 have I2:Inv X pins σ H1 {s1 with heap:=h'}:=I1.kept (t':=s1.toks) hk
 refine⟨s1.heap.objs.size+1,[s1.heap.objs.size+1,s1.heap.objs.size],_,_,H1,rfl,I2,kdN a (s1.heap.objs.size+1) s1.heap.objs.size (Nat.succ_ne_self _),⟨⟨_,he'⟩,hit'⟩,fun b hb=>?_,q⟩
 have hb':b=s1.heap.objs.size+1∨b=s1.heap.objs.size:=by simpa using hb
 have hle:s1.heap.objs.size≤b:=by rcases hb' with rfl|rfl <;> omega
 exact I1.fpOk hle (I1.hok.fresh hle)
end
theorem keG{a:Addr}{xs:List V}{g:TG}{tb:TS}{D:Ends}{σ:St}{H:Hp}(Pv:Nat→St→Hp→Prop)(h0:Pv 0 σ H)(hl:∀i σ H,i≤xs.length→Pv i σ H→H a=some (.lst xs))
  (hs:∀i y t σ H,xs[i]?=some y→Pv i σ H→H t=none→g (.ref t) σ (upd H t (.tup [.int (i:Nat),y])) fun σ2 H2=>tb {D with nx:=Pv (i+1),ct:=Pv (i+1),bk:=D.nx} σ2 H2) (hd:∀σ H,Pv xs.length σ H→D.nx σ H):
  ∃W:Nat→Nat→St→Hp→Prop,(∃m,W 0 m σ H)∧∀i m σ H,W i m σ H→
   ((Ite a).stop i H∧D.nx σ H)∨((Ite a).go i H∧∃N:St→Hp→Prop,(∀σ' H',N σ' H'→∃m',m'<m∧W (i+1) m' σ' H')∧∀x H',(Ite a).yld i H x H'→g x σ H' fun σ2 H2=>tb {D with nx:=N,ct:=N,bk:=D.nx} σ2 H2):=by
 refine⟨fun i m σ H=>m=xs.length-i∧i≤xs.length∧Pv i σ H,⟨xs.length,by simp,Yy _,h0⟩,?_⟩
 rintro i m σ H ⟨rfl,hi,p⟩
 have q:=hl i σ H hi p
 by_cases hlt:i<xs.length
 ·refine .inr ⟨⟨xs,xs[i],q,by simp[hlt]⟩,Pv (i+1),fun σ' H' p'=>⟨xs.length-(i+1),by omega,rfl,hlt,p'⟩,fun x H' y=>?_⟩
  obtain⟨t,y,hn,rfl,rfl,hy⟩:=y
  exact hs i y t σ _ (hy xs q) p hn
 ·have e:i=xs.length:=by omega
  subst e
  exact .inl ⟨⟨xs,q,XR _⟩,hd σ H p⟩
section
variable {X:Cx}
theorem kdz:∀{bs:List Bool} {us:List Value} {i:Nat} {v:Value},Vals (bs.map V.bl) us→us[i]?=some v→∃b,bs[i]?=some b∧v=.bool b
 |[],_,_,_, .nil,e=>by simp at e
 |b::bs,u::us,0,v, .cons r _,e=>by
  have e':u=v:=by simpa using e
  subst e'
  exact⟨b,rfl,r⟩
 |b::bs,u::us,i+1,v, .cons _ t,e=>by
  obtain⟨b',h1,h2⟩:=kdz (i:=i) (v:=v) t (by simpa using e)
  exact⟨b',by simpa using h1,h2⟩
theorem keK(hc:X.calm=true):CallR X (.builtin "all") (fun xs H Q=>∃(p:Addr) (bs:List Bool),xs=[.ref p]∧SqL X.K H p (bs.map V.bl)∧Q (.bl (bs.all id)) H):=by
 intro pins s σ H xs us Q I r h
 obtain⟨p,bs,rfl,hq,q⟩:=h
 obtain⟨u,rfl,rx⟩:=vals1 r
 cases rx
 obtain⟨its,r',pl,hz⟩:=I.list hq
 have hl:=pl.isList
 have hlt:p<s.heap.objs.size:=by obtain⟨_,e,_⟩:=hl;exact Heap.lt_size e
 have hlen:=r'.length
 refine call_all_walk (wpAny_pyIter_list hl ?_)
 refine⟨s.heap.objs.size,[s.heap.objs.size,p],[s.heap.objs.size],its.toArray.size,_,_,fun i=>(bs[i]?).getD true,rfl,Walks.list (A:=X.A.in1) (I.ok.hd hc) _ p (X2 hlt) its.toArray,
  ⟨⟨_,Heap.get?_push_size _ rfl,rfl,rfl⟩,hl.push _⟩,fun i v s' Q' E' hP hQ=>?_,fun h' tk hk=>?_⟩
 ·obtain⟨b,e,rfl⟩:=kdz (i:=i) (v:=v) r' (by simpa using hP)
  simp only[e,Option.getD_some] at hQ
  exact wpAny_truthy_bool hQ
 ·have e:((Yn its.toArray.size).all fun i=>(bs[i]?).getD true)=bs.all id:=by
   rw[X5,←hlen,XU]
   exact LSm.range_all bs
  rw[e]
  exact⟨.bl _,H,I.kept (LSm.kept_iter hk),rfl,q⟩
theorem b_all:bootBuiltins "all"=some (.builtin "all"):=by decide +kernel
noncomputable def ke7:V→List V→Hp→VK→Prop:=fun x vs H Q=>∃(l:Addr) (xs:List V) (k:Int) (y:V),x=.ref l∧vs=[.int k,y]∧H l=some (.lst xs)∧0≤k∧k≤xs.length∧xs.length<sizeLine∧Q .non (upd H l (.lst (xs.take k.toNat++y::xs.drop k.toNat)))
theorem kfl(its:List Value)(k:Nat)(u:Value):(its.toArray.extract 0 k).push u++its.toArray.extract k=(its.take k++u::its.drop k).toArray:=by
 apply Array.ext'
 simp
 exact List.take_of_length_le (by simp)
theorem kd6:MtM X "list.insert" ke7:=by
 intro pins s σ H x vs v us Q I rx rv h
 obtain⟨l,xs,k,y,rfl,rfl,hH,hk0,hk,hz,q⟩:=h
 cases rx
 obtain⟨uk,u,rfl,⟨t,rfl⟩,ru⟩:=rv.two
 obtain⟨z,its,n,r,hl,e⟩:=I.lstM hH
 have hn:=kcV
 have hfit:¬(!Builtin.List.listFitsIndex k)=true:=by
  unfold Builtin.List.listFitsIndex
  simp
  omega
 have hsz:its.toArray.size≤sizeLine:=by rw[X5];omega
 refine call_meets F.slot_list_insert ⟨_,e,rfl⟩ F.entry_list_insert (F.args_list_insert_3 _ _ _) (AutoSeq1.list_insert_list_int_val_1 l its.toArray n k t u hfit hsz) ⟨e,?_⟩
 refine⟨.non,_,I.lset (its':=its.take k.toNat++u::its.drop k.toNat) hH e ?_ ((r.take k.toNat).append (.cons ru (r.drop k.toNat))) ?_,rfl,q⟩
 ·have e1:(if k<0 then(k+(its.toArray.size:Int)).toNat else min k.toNat its.toArray.size)=k.toNat:=by
   rw[if_neg (by omega),Nat.min_eq_left (by simp;omega)]
  show(its.toArray.extract 0 (if k<0 then(k+(its.toArray.size:Int)).toNat else min k.toNat its.toArray.size)).push u++its.toArray.extract (if k<0 then(k+(its.toArray.size:Int)).toNat else min k.toNat its.toArray.size)=_
  rw[e1]
  exact kfl its k.toNat u
 ·simp
  omega
end
section
variable {X:Cx}
end
end L2
namespace L2
open PySem PySem.Spec PyProof.Rows
section
variable {prog:Program} {w:World} {A:Around} {E:Value→Shared→Prop} {s:Shared}
end
section
variable {X:Cx}
end
section
variable {X:Cx} {CX:CXT} {k:Nat} {f C:Addr} {fd:FuncData} {ps ks:List Str} {sp:Sp} {E:XK} {x:Str} {p pos:Pos} {e:Expr} {es:List Expr} {kws:List Keyword} {t tk:TA} {g:List Value→List Value→List Value} {gV:List V→List V→List V}
noncomputable def kft(C:Addr)(sp:Sp)(gV:List V→List V→List V)(E:XK)(t tk:TA):TE:=fun σ H Q=>t σ H fun vs H1=>tk σ H1 fun zs H2=>∀x dx,H2 x=none→H2 dx=none→dx≠x→
 sp (gV (.ref x::vs) zs) (upd (upd H2 dx (.own x)) x (.ins C dx [])) (fun v H3=>v=.non∧Q (.ref x) H3) E
theorem kdU{pins:List (Addr×Obj)}{σ:St}{H:Hp}{s:Shared}{Q:VK}{us ws:List Value}{vs zs:List V}(M:Mk X.K C f)(F:FnOk X.prog X.w X.K X.mg X.base CX k f fd ps sp)(hr:Room (k+1) X.A)(hb:kdB X.K fd ps ks g gV)
  (hx:kbH CX X E) (I:Inv X pins σ H s) (r:Vals vs us) (rz:Vals zs ws)
  (h:∀x dx,H x=none→H dx=none→dx≠x→sp (gV (.ref x::vs) zs) (upd (upd H dx (.own x)) x (.ins C dx [])) (fun v H2=>v=.non∧Q (.ref x) H2) E):
  wpAny (model X.prog X.w) X.A (call (.ref C) us (ks.zip ws)) (EP X pins σ Q) X.xe s:=by
 have hq:=h (s.heap.objs.size+1) s.heap.objs.size (I.hok.fresh (Nat.le_succ _)) (I.hok.fresh (XR _)) (X2 (YO _))
 have I2:=Inv.made (C:=C) I
 have r2:Vals (gV (V.ref (s.heap.objs.size+1)::vs) zs) (g (Value.ref (s.heap.objs.size+1)::us) ws):=hb.rel (.cons rfl r) rz
 have hl:(g (Value.ref (s.heap.objs.size+1)::us) ws).length=ps.length:=by
  rw[←r2.length]
  exact F.len _ _ _ _ hq
 refine wpAny_call (kdx (f:=f) I.kIn M.makes M.init (beq_iff_eq.mp M.fn) (codeAny_mono (F.run _ X.stack _ _ ⟨Value.ref (s.heap.objs.size+1)::us,ks.zip ws⟩ (g (Value.ref (s.heap.objs.size+1)::us) ws) _ _ E (hr.make C us (ks.zip ws))
  (I2.env0.make C us (ks.zip ws)) (hb.to _ (Value.ref (s.heap.objs.size+1)::us) ws I2.kIn hl) r2 hq) fun r s' hq'=>?_))
 cases r with
 |error e=>exact hx pins σ _ _ e s' I2 hq'
 | ok fl=>
  cases fl with
  |ret u=>
   obtain⟨v,H',I3,rv,ev,q3⟩:=I2.after hq'
   subst ev
   exact⟨rv,⟨V.ref (s.heap.objs.size+1),H',I3,rfl,q3⟩⟩
  |next=>exact False.elim hq'
  |brk=>exact False.elim hq'
  |cont=>exact False.elim hq'
theorem kew(M:Mk X.K C f)(F:FnOk X.prog X.w X.K X.mg X.base CX k f fd ps sp)(hr:Room (k+1) X.A)(hg:Gl X x)(hm:X.mg x=some (.ref C))(hb:kdB X.K fd ps ks g gV)(hx:kbH CX X E)
  (ha:PA X (e::es) t) (hkw:PK X kws tk) (hall:(backToKw pos (keywordEach kws X.env)).all (·.1.isSome)=true:=by rfl) (hks:(backToKw pos (keywordEach kws X.env)).filterMap (·.1)=ks:=by rfl)
  (hdb:(x==("__debug__" :Str))=false:=by decide) (he:starEach (e::es) X.env=(false,eval e X.env)::starEach es X.env:=by rfl)
  (hpl:((backTo pos (starEach (e::es) X.env)).any (·.1)||(backToKw pos (keywordEach kws X.env)).any (·.1.isNone))=false:=by rfl):
  PE X (.Call (.Name x p) (e::es) kws pos) (kft C sp gV E t tk):=by
 intro pins s σ H Q I h
 refine wpAny_Call_Name_kw (kb7 I hg hm ?_ hdb)
 refine PySem.W.callWith_KW (h₀:=X.base) I.ok.mod.kin M.kp hall (thn (ha pos pins s σ H _ I h) fun us s1 ⟨vs,H1,I1,r,q⟩=>?_) hpl he
 refine thn (hkw pos pins s1 σ H1 _ I1 q) fun ws s2 ⟨zs,H2,I2,rz,q2⟩=>⟨I2.kIn,?_⟩
 rw[hks]
 exact kdU M F hr hb hx I2 r rz q2
end
end L2
namespace L2
open PySem PySem.Spec PyProof.Rows
noncomputable def kbJ(K:XQ):List V→Hp→VK→Prop:=fun xs H Q=>∃p ys,xs=[.ref p]∧(SqL K H p ys∨SqT K H p ys)∧∀l,H l=none→Q (.ref l) (upd H l (.lst ys))
noncomputable def kbz(K:XQ):List V→Hp→VK→Prop:=fun xs H Q=>∃p ys,xs=[.ref p]∧(SqL K H p ys∨SqT K H p ys)∧Q (.int ys.length) H
noncomputable def rIsi(K:XQ):List V→Hp→VK→Prop:=fun xs H Q=>∃x c t b,xs=[x,c]∧((∃n,c=.ty n)∨∃a,c=.ref a)∧TyOf K H x t∧XW K t (cV c)=some b∧Q (.bl b) H
section
variable {X:Cx} {K:XQ} {pos:Pos}
theorem kaN{e:Expr}{ta:TE}{f:Str}(he:PE X e ta)(hb:attributeBase e f X.env (eval e X.env)=eval e X.env)(hK:X.K=K:=by rfl):PE X (.Attribute e f pos) (tFld K ta f):=by
 subst hK
 exact kfz he hb
theorem kdt{tg l:Expr}{tl:TE}(hl:PE X l tl)(hK:X.K=K:=by rfl):PI X tg l (iList K tl):=by
 subst hK
 exact kfc hl
theorem kd1{es:List Expr}{k:Nat}{t:TGs}{n:Nat}(hc:X.calm=true)(h:PGs X es t)(hK:X.K=K:=by rfl)
  (hn:(assignEach es X.env).length=n:=by rfl) (hst:(assignEach es X.env).findIdx? (·.1)=none:=by rfl):PG X (.Tuple es k pos) (gTup K n t):=by
 subst hK
 exact kfw hc h hn hst
end
end L2
namespace L2
open PySem PySem.Spec PyProof.Rows
inductive DEq (K:XQ) (H:Hp):Nat→V→V→Prop
 |flat {n:Nat} {x y:V} (fx:flatV x=true) (fy:flatV y=true) (e:eqV x y=true):DEq K H n x y
 |same {n:Nat} (a:Addr):DEq K H n (.ref a) (.ref a)
 |lst {n:Nat} {a b:Addr} {xs ys:List V} (ha:SqL K H a xs) (hb:SqL K H b ys) (hl:xs.length=ys.length) (h:∀(i:Nat) (x y:V),xs[i]?=some x→ys[i]?=some y→DEq K H n x y):DEq K H (n+1) (.ref a) (.ref b)
 |tup {n:Nat} {a b:Addr} {xs ys:List V} (ha:SqT K H a xs) (hb:SqT K H b ys) (hl:xs.length=ys.length) (h:∀(i:Nat) (x y:V),xs[i]?=some x→ys[i]?=some y→DEq K H n x y):DEq K H (n+1) (.ref a) (.ref b)
theorem DEq.self{K:XQ}{H:Hp}{n:Nat}{x:V}(h:flatV x=true):DEq K H n x x:=.flat h h (keH h)
theorem DEq.int{K:XQ}{H:Hp}{n:Nat}(i:Int):DEq K H n (.int i) (.int i):=.self rfl
theorem DEq.bl{K:XQ}{H:Hp}{n:Nat}(i:Bool):DEq K H n (.bl i) (.bl i):=.self rfl
theorem DEq.non{K:XQ}{H:Hp}{n:Nat}:DEq K H n .non .non:=.self rfl
theorem DEq.str{K:XQ}{H:Hp}{n:Nat}(i:Str):DEq K H n (.str i) (.str i):=.self rfl
section
variable {X:Cx}
end
noncomputable def Itz(a b:Addr):It:=⟨fun i H=>∃xs ys x y,H a=some (.lst xs)∧H b=some (.lst ys)∧xs[i]?=some x∧ys[i]?=some y,
 fun i H v H'=>∃t x y,H t=none∧v=.ref t∧H'=upd H t (.tup [x,y])∧(∀xs,H a=some (.lst xs)→xs[i]?=some x)∧∀ys,H b=some (.lst ys)→ys[i]?=some y,
 fun i H=>∃xs ys,H a=some (.lst xs)∧H b=some (.lst ys)∧(xs.length≤i∨ys.length≤i)⟩
theorem ker{P:Program}{w:World}{K:XQ}{es:List Expr}{k:Nat}{pos:Pos}(a b z TI TO i1 i2:Addr)(nd:[z,TI,TO,i1,i2].Nodup):
  Turn P w K (.Tuple es k pos) (Itz a b) [z,TI,TO,i1,i2] z (fun i h=>IsZip h z TI TO .none∧IsPair h TI (.ref i1) (.ref i2)∧(∃u v,IsPair h TO u v)∧h.IsListIter i1 a i∧h.IsListIter i2 b i) where
 mem:=by simp
 obj:=fun i h st b hb=>by
  obtain⟨hz,hI,⟨_,_,hO⟩,⟨o1,e1,_,d1⟩,⟨o2,e2,_,d2⟩⟩:=st
  simp only[X1,X8,or_false] at hb
  rcases hb with rfl|rfl|rfl|rfl|rfl
  ·exact⟨_,hz,fun v q=>by cases(show Data.fields _=Data.cell v from q)⟩
  ·exact⟨_,hI,fun v q=>by cases(show Data.seq _ _=Data.cell v from q)⟩
  ·exact⟨_,hO,fun v q=>by cases(show Data.seq _ _=Data.cell v from q)⟩
  ·exact⟨o1,e1,fun v q=>by rw[d1] at q;cases q⟩
  ·exact⟨o2,e2,fun v q=>by rw[d2] at q;cases q⟩
 keep:=fun i h h' st kk=>by
  obtain⟨hz,hI,⟨u,v,hO⟩,h1,h2⟩:=st
  exact⟨kk z (by simp) _ hz,kk TI (by simp) _ hI,⟨u,v,kk TO (by simp) _ hO⟩,h1.at fun o e=>kk i1 (by simp) o e,h2.at fun o e=>kk i2 (by simp) o e⟩
 item:=by
  intro X hP hw hK hc i pins s σ H E I hf st hg
  subst hP hw hK
  obtain⟨hz,hI,⟨u,v,hO⟩,h1,h2⟩:=st
  obtain⟨xs,ys,x,y,ha,hb,hx,hy⟩:=hg
  obtain⟨its1,n1,r1,ho1,_⟩:=I.lst ha
  obtain⟨its2,n2,r2,ho2,_⟩:=I.lst hb
  obtain⟨u1,g1,ru1⟩:=r1.get hx
  obtain⟨u2,g2,ru2⟩:=r2.get hy
  have L1:s.heap.IsList a its1.toArray:=⟨_,ho1,rfl,n1,rfl⟩
  have L2':s.heap.IsList b its2.toArray:=⟨_,ho2,rfl,n2,rfl⟩
  have off:∀{l:Addr} {zs:List V},H l=some (.lst zs)→l∉[z,TI,TO,i1,i2]:=fun {l zs} e m=>by
   have:=(hf l m).1
   rw[this] at e
   cases e
  have oa:=off ha
  have ob:=off hb
  have nd':=nd
  simp only[Yr,X1,X8,or_false,not_or,YK,and_true,not_false_eq_true] at nd' oa ob
  obtain⟨⟨nzI,nzO,nz1,nz2⟩,⟨nIO,nI1,nI2⟩,⟨nO1,nO2⟩,n12⟩:=nd'
  have D:ZipApart z TI TO i1 i2 a b:=⟨Ne.symm nzI,Ne.symm nzO,Ne.symm nz1,Ne.symm nz2,nIO,nI1,nI2,nO1,nO2,n12,oa.1,oa.2.2.1,oa.2.2.2.1,oa.2.2.2.2,ob.1,ob.2.2.1,ob.2.2.2.1,ob.2.2.2.2⟩
  refine wpAny_pyNext_zip_item D hz hI hO h1 h2 L1 L2' (x:=u1) (y:=u2) (by simpa using g1) (by simpa using g2) fun h' a1 a2 a3 a4 a5 a6 a7=>?_
  refine⟨.ref s.heap.objs.size,rfl,wpAny_letOwnedTupleGo_zip a1 fun h2' z2 s2=>?_⟩
  have s2':Heap.SameBut z h' h2':=s2
  have zl:z<s.heap.objs.size:=Heap.lt_size hz
  have kk:∀b o,b∉[z,TI,TO,i1,i2]→s.heap.get? b=some o→h2'.get? b=some o:=fun b o hb eo=>by
   simp only[X1,X8,or_false,not_or] at hb
   exact(s2'.2 b hb.1).trans (a7 b o hb.1 hb.2.2.1 hb.2.2.2.1 hb.2.2.2.2 eo)
  have I1:Inv X pins σ H {s with heap:=h2',toks:=s.toks}:=I.turnedL (ch:=[z,TI,TO,i1,i2]) kk hf
  have fr:H s.heap.objs.size=none:=I.hok.fresh (XR _)
  have ft:FpOk X pins H s.heap.objs.size:=I.fpOk (XR _) fr
  have t2:h2'.get? s.heap.objs.size=some {cls:=.type "tuple",data:=.seq #[u1,u2]}:=(s2'.2 _ (Yp zl)).trans a5
  have I2:Inv X pins σ (upd H s.heap.objs.size (.tup [x,y])) {s with heap:=h2',toks:=s.toks}:=
   I1.adopt ft I.sz ⟨by show 2≤sizeLine;decide,[u1,u2], .cons ru1 (.cons ru2 .nil),_,t2,rfl,_,rfl⟩
  have hI2:IsPair h2' TI (.ref i1) (.ref i2):=(s2'.2 _ (Ne.symm nzI)).trans (a7 TI _ (Ne.symm nzI) nIO nI1 nI2 hI)
  refine⟨.ref s.heap.objs.size,_,I2,rfl,⟨s.heap.objs.size,x,y,fr,rfl,rfl,fun ws e=>by rw[ha] at e;cases e;exact hx,fun ws e=>by rw[hb] at e;cases e;exact hy⟩,
   ⟨z2,hI2,⟨_,_,(s2'.2 _ (Ne.symm nzO)).trans a2⟩,a3.extBut s2'.extBut (Ne.symm nz1),a4.extBut s2'.extBut (Ne.symm nz2)⟩,fun b hb=>?_⟩
  have hbl:b<s.heap.objs.size:=by
   simp only[X1,X8,or_false] at hb
   rcases hb with rfl|rfl|rfl|rfl|rfl
   ·exact zl
   ·exact Heap.lt_size hI
   ·exact Heap.lt_size hO
   ·obtain⟨o,e,_⟩:=h1;exact Heap.lt_size e
   ·obtain⟨o,e,_⟩:=h2;exact Heap.lt_size e
  rw[kak (X2 hbl)]
  exact(hf b hb).1
 done:=by
  intro X hP hw hK hc i pins s σ H E I hf st hg
  subst hP hw hK
  obtain⟨hz,hI,⟨u,v,hO⟩,h1,h2⟩:=st
  obtain⟨xs,ys,ha,hb,hx⟩:=hg
  obtain⟨its1,n1,r1,ho1,_⟩:=I.lst ha
  obtain⟨its2,n2,r2,ho2,_⟩:=I.lst hb
  have L1:s.heap.IsList a its1.toArray:=⟨_,ho1,rfl,n1,rfl⟩
  have L2':s.heap.IsList b its2.toArray:=⟨_,ho2,rfl,n2,rfl⟩
  have hlen1:=r1.length
  have hlen2:=r2.length
  have off:∀{l:Addr} {zs:List V},H l=some (.lst zs)→l∉[z,TI,TO,i1,i2]:=fun {l zs} e m=>by
   have:=(hf l m).1
   rw[this] at e
   cases e
  have oa:=off ha
  have ob:=off hb
  have nd':=nd
  simp only[Yr,X1,X8,or_false,not_or,YK,and_true,not_false_eq_true] at nd' oa ob
  obtain⟨⟨nzI,nzO,nz1,nz2⟩,⟨nIO,nI1,nI2⟩,⟨nO1,nO2⟩,n12⟩:=nd'
  have D:ZipApart z TI TO i1 i2 a b:=⟨Ne.symm nzI,Ne.symm nzO,Ne.symm nz1,Ne.symm nz2,nIO,nI1,nI2,nO1,nO2,n12,oa.1,oa.2.2.1,oa.2.2.2.1,oa.2.2.2.2,ob.1,ob.2.2.1,ob.2.2.2.1,ob.2.2.2.2⟩
  refine wpAny_pyNext_zip_end (I.ok.hd hc) D hz hI hO h1 h2 L1 L2' ?_ fun h' hk=>⟨rfl,?_⟩
  ·rcases hx with hx|hx
   ·exact .inl (by simp;omega)
   ·exact .inr (by simp;omega)
  ·refine I.turnedL (t':=s.toks) (ch:=[z,TI,TO,i1,i2]) (fun b o hb e=>?_) hf
   simp only[X1,X8,or_false,not_or] at hb
   exact hk b o hb.1 hb.2.2.1 hb.2.2.2.1 hb.2.2.2.2 e
 self:=fun _ _ _ _ _ st h=>wpAny_pyIter_zip st.1 h
theorem kee(n:Nat):([n+4,n+2,n+3,n,n+1]:List Nat).Nodup:=by
 simp only[Yr,X1,X8,or_false,not_or,YK,and_true,not_false_eq_true]
 omega
theorem kef{n x:Nat}(h:x∈([n+4,n+2,n+3,n,n+1]:List Nat)):n≤x:=by
 simp only[X1,X8,or_false] at h
 omega
section
variable {X:Cx}
theorem kfK:bootBuiltins "zip"=some (.type "zip"):=by decide +kernel
end
theorem keJ{a b:Addr}{xs ys:List V}{g:TG}{te:TE}{σ:St}{H:Hp}{R:List V→Hp→Addr→Prop}(Pv:Nat→St→List V→Hp→Prop)(h0:Pv 0 σ [] H)(hz:min xs.length ys.length≤sizeLine)(hl:∀i σ zs H,i≤min xs.length ys.length→Pv i σ zs H→H a=some (.lst xs)∧H b=some (.lst ys)∧zs.length=i)
  (hs:∀i x y t σ zs H,xs[i]?=some x→ys[i]?=some y→Pv i σ zs H→H t=none→g (.ref t) σ (upd H t (.tup [x,y])) fun σ2 H2=>te σ2 H2 fun z H3=>Pv (i+1) σ2 (zs++[z]) H3) (hd:∀σ zs H,Pv (min xs.length ys.length) σ zs H→∀D,H D=none→R zs H D):
  ∃ W:Nat→Nat→St→List V→Hp→Prop,(∃m,W 0 m σ [] H)∧∀i m σ' zs H',W i m σ' zs H'→
   ((Itz a b).stop i H'∧∀D,H' D=none→R zs H' D)∨((Itz a b).go i H'∧zs.length<sizeLine∧∃N:St→V→Hp→Prop,(∀σ2 y H4,N σ2 y H4→∃m',m'<m∧W (i+1) m' σ2 (zs++[y]) H4)∧
    ∀x H2,(Itz a b).yld i H' x H2→g x σ' H2 fun σ2 H3=>te σ2 H3 (N σ2)):=by
 refine⟨fun i m σ zs H=>m=min xs.length ys.length-i∧i≤min xs.length ys.length∧Pv i σ zs H,⟨min xs.length ys.length,by simp,Yy _,h0⟩,?_⟩
 rintro i m σ zs H ⟨rfl,hi,p⟩
 obtain⟨q1,q2,el⟩:=hl i σ zs H hi p
 by_cases hlt:i<min xs.length ys.length
 ·refine .inr ⟨⟨xs,ys,xs[i]'(by omega),ys[i]'(by omega),q1,q2,by simp[show i<xs.length by omega],by simp[show i<ys.length by omega]⟩,by omega,fun σ2 y H3=>Pv (i+1) σ2 (zs++[y]) H3,fun σ' y H' p'=>⟨min xs.length ys.length-(i+1),by omega,rfl,hlt,p'⟩,fun x H' yl=>?_⟩
  obtain⟨t,x,y,hn,rfl,rfl,h1,h2⟩:=yl
  exact hs i x y t σ zs _ (h1 _ q1) (h2 _ q2) p hn
 ·have e:i=min xs.length ys.length:=by omega
  refine .inl ⟨⟨xs,ys,q1,q2,by omega⟩,?_⟩
  rw[e] at p
  exact hd σ zs H p
end L2
namespace L2
open PySem PySem.Spec PyProof.Rows
section
variable {g:TG} {tt:TT} {te:TE} {σ:St} {H:Hp} {R:List V→Hp→Addr→Prop}
end
section
variable {X:Cx}
end
end L2
namespace L2
open PySem PySem.Spec PyProof.Rows
structure BaseT (K:XQ) (C:Addr) (m:Str) (f:Addr):Prop where
 rd:PySem.W.readsIn K C (.type "type")=true
 ga:YG K (.ref C) "__getattribute__"=some (some (.builtin "type.__getattribute__"))
 fc:PySem.W.findCls K (.ref C) (.type "type") m=some (.val (.ref f))
section
variable {X:Cx} {CX:CXT} {k:Nat} {f C:Addr} {fd:FuncData} {ps:List Str} {sp:Sp} {dvs:List V} {ds:List Value} {E:XK} {x m:Str} {p pos apos:Pos} {e o:Expr} {es:List Expr} {ta:TE} {t:TA}
theorem kbZ{pl:Sem Bool}(B:BaseT X.K C m f)(F:FnOk X.prog X.w X.K X.mg X.base CX k f fd ps sp)(hr:Room k X.A)(hg:Gl X x)(hm:X.mg x=some (.ref C))(hk:X0 X.K (.ref f)=true)(hb:Binds X.K fd ps ds)(hd:Vals dvs ds)(hx:kbH CX X E)
  (ha:PA X (e::es) t) (hdb:(x==("__debug__" :Str))=false:=by decide)
  (hst:starEach (e::es) X.env=(false,eval e X.env)::starEach es X.env:=by rfl) (hpl:(backTo pos (starEach es X.env)).any (·.1)=false:=by rfl)
  (ht:eval (.Call (.Attribute (.Name x p) m apos) (e::es) [] pos) X.env=(do
   let ov ←eval (.Name x p) X.env
   standAt apos.atName
   let(f,first) ←holding [ov] (getMethod ov m pl)
   callWith pos f first (backTo pos (starEach (e::es) X.env)) (backToKw pos (keywordEach [] X.env))):=by rfl):
  PE X (.Call (.Attribute (.Name x p) m apos) (e::es) [] pos) (tCall sp dvs E t):=by
 intro pins s σ H Q I h
 refine PySem.W.methodCall_KW (pl:=pl) (thn (kbK (v:=.ref C) hg hm rfl hdb pins s σ H (fun y H1=>y=.ref C∧H1=H) I ⟨rfl,rfl⟩) fun u s1 ⟨y,H1,I1,ry,ey,eH⟩=>?_) ht
 subst ey eH
 obtain rfl:u=Value.ref C:=ry
 refine PySem.W.method_cls I1.kIn B.ga (PySem.W.cls_value I1.kIn B.rd B.fc rfl ?_)
 have I2:=I1.tok (s1.toks+1)
 refine YZ (h₀:=X.base) I.ok.mod.kin hk (thn (ha pos pins _ σ H1 _ I2 h) fun us s2 ⟨vs,H2,I3,r,q2⟩=>⟨I3.kIn,?_⟩) hst hpl
 exact keS F hr hb hd hx I3 r q2
end
theorem kdh:bootBuiltins "tuple"=some (.type "tuple"):=by decide +kernel
theorem kfj{n j:Nat}(h:j<n):ixN n (j:Int)=some j:=by
 unfold ixN
 rw[if_pos (by omega),if_pos (by omega)]
 simp
section
variable {X:Cx}
end
section
variable {X:Cx}
end
section
variable {g:TG} {te:TE} {σ:St} {H:Hp} {R:List V→Hp→Addr→Prop}
end
theorem b_str:bootBuiltins "str"=some (.type "str"):=by decide +kernel
end L2
namespace L2
open PySem PySem.Spec PyProof.Rows
inductive Src where
 |p (i:Nat)
 |k (j:Nat)
 |d (v:Value) (x:V)
noncomputable def Src.val(us ws:List Value):Src→Value
 | .p i=>us.getD i .none
 | .k j=>ws.getD j .none
 | .d v _=>v
noncomputable def Src.abs(vs zs:List V):Src→V
 | .p i=>vs.getD i .non
 | .k j=>zs.getD j .non
 | .d _ x=>x
noncomputable def Src.Ok:Src→Prop
 | .d v x=>RelV x v
 |_=>True
noncomputable def gk(nu nw:Nat)(ss:List Src)(us ws:List Value):List Value:=if us.length=nu∧ws.length=nw then ss.map (Src.val us ws) else []
noncomputable def gkV(nu nw:Nat)(ss:List Src)(vs zs:List V):List V:=if vs.length=nu∧zs.length=nw then ss.map (Src.abs vs zs) else []
theorem kbU:∀{vs:List V} {us:List Value} (i:Nat),Vals vs us→RelV (vs.getD i .non) (us.getD i .none)
 |_,_,i, .nil=>by
  show RelV (([]:List V).getD i .non) (([]:List Value).getD i .none)
  rw[List.getD_nil,List.getD_nil]
  rfl
 |_,_,0, .cons h _=>h
 |_::vs,_::us,i+1, .cons _ t=>kbU i t
theorem ke3{vs:List V}{us:List Value}{zs:List V}{ws:List Value}(h1:Vals vs us)(h2:Vals zs ws):∀(s:Src),s.Ok→RelV (s.abs vs zs) (s.val us ws)
 | .p i,_=>kbU i h1
 | .k j,_=>kbU j h2
 | .d v x,h=>h
theorem kdj{vs:List V}{us:List Value}{zs:List V}{ws:List Value}(h1:Vals vs us)(h2:Vals zs ws):∀(ss:List Src),(∀s∈ss,s.Ok)→Vals (ss.map (Src.abs vs zs)) (ss.map (Src.val us ws))
 |[],_=>.nil
 |s::ss,h=>.cons (ke3 h1 h2 s (h s Yi)) (kdj h1 h2 ss fun t ht=>h t (Yb _ ht))
theorem kfI{nu nw:Nat}{ss:List Src}(ho:∀s∈ss,s.Ok){vs:List V}{us:List Value}{zs:List V}{ws:List Value}(h1:Vals vs us)(h2:Vals zs ws):Vals (gkV nu nw ss vs zs) (gk nu nw ss us ws):=by
 have l1:=h1.length
 have l2:=h2.length
 unfold gk gkV
 rw[l1,l2]
 split
 ·exact kdj h1 h2 ss ho
 ·exact .nil
theorem kfJ{nu nw:Nat}{ss:List Src}{us ws:List Value}{n:Nat}(h:(gk nu nw ss us ws).length=n+1):us.length=nu∧ws.length=nw:=by
 unfold gk at h
 split at h
 ·assumption
 ·cases h
section
variable {X:Cx} {CX:CXT} {k:Nat} {f C:Addr} {fd:FuncData} {ps ks:List Str} {sp:Sp} {E:XK} {x:Str} {p pos:Pos} {kws:List Keyword} {tk:TA} {g:List Value→List Value→List Value} {gV:List V→List V→List V}
end
end L2
namespace L2
open PySem PySem.Spec PyProof.Rows
section
variable {X:Cx}
end
end L2
namespace L2
open PySem PySem.Spec PyProof.Rows
section
variable {X:Cx}
end
end L2
namespace Stb
open PySem PyProof.Rows
noncomputable def T(xs:Array Keyed)(i:Nat):Int:=match xs[i]? with
 |some p=>numOf p.2
 |none=>0
theorem T_at{xs ys:Array Keyed}{i j:Nat}(h:xs[i]?=ys[j]?):T xs i=T ys j:=by unfold T;rw[h]
noncomputable def Lx(xs:Array Keyed)(i j:Nat):Prop:=K xs i<K xs j∨(K xs i=K xs j∧T xs i<T xs j)
theorem Lx.trans{xs:Array Keyed}{i j k:Nat}(h:Lx xs i j)(h':Lx xs j k):Lx xs i k:=by unfold Lx at *;omega
theorem Lx.le{xs:Array Keyed}{i j:Nat}(h:Lx xs i j):K xs i≤K xs j:=by unfold Lx at *;omega
noncomputable def Up(xs:Array Keyed)(k:Nat):Prop:=∀i j,i<j→j<k→Lx xs i j
noncomputable def Dn(xs:Array Keyed)(k:Nat):Prop:=∀i j,i<j→j<k→Lx xs j i
noncomputable def Lat(a₀ xs:Array Keyed)(k:Nat):Prop:=∀i j,i<j→k≤j→j<a₀.size→T xs i<T xs j
theorem Lat.mono{a₀ xs:Array Keyed}{k k':Nat}(h:Lat a₀ xs k)(hk:k≤k'):Lat a₀ xs k':=fun i j h1 h2 h3=>h i j h1 (by omega) h3
theorem kdy{xs:Array Keyed}{src d:Nat}(hs:src<xs.size)(hd:d≤src)(k:Nat):
  ∃k',(K (bubble xs src d) k=K xs k'∧T (bubble xs src d) k=T xs k')∧k'=if k=src-d then src else if src-d<k∧k≤src then k-1 else k:=by
 refine⟨_,?_,rfl⟩
 have e:=getElem?_bubble hs d hd k
 have e':(bubble xs src d)[k]?=xs[if k=src-d then src else if src-d<k∧k≤src then k-1 else k]?:=by
  rw[e]
  split
  ·rfl
  ·split <;> rfl
 exact⟨K_congr e',T_at e'⟩
theorem kbj{xs:Array Keyed}{i j:Nat}(hj:j≤xs.size)(k:Nat):
  ∃k',(K (mirror xs i j ((j-i)/2)) k=K xs k'∧T (mirror xs i j ((j-i)/2)) k=T xs k')∧k'=if i≤k∧k<j then i+j-1-k else k:=by
 refine⟨_,?_,rfl⟩
 have e:=getElem?_mirror_all (i:=i) hj k
 have e':(mirror xs i j ((j-i)/2))[k]?=xs[if i≤k∧k<j then i+j-1-k else k]?:=by
  rw[e]
  split <;> rfl
 exact⟨K_congr e',T_at e'⟩
theorem kdd{a₀ xs:Array Keyed}{i j k:Nat}(hj:j≤xs.size)(hk:j≤k)(h:Lat a₀ xs k):Lat a₀ (mirror xs i j ((j-i)/2)) k:=by
 intro a b hab hkb hb
 obtain⟨a',⟨_,ea⟩,ha⟩:=kbj (i:=i) hj a
 obtain⟨b',⟨_,eb⟩,hb'⟩:=kbj (i:=i) hj b
 rw[ea,eb]
 rw[if_neg (by omega)] at hb'
 subst hb'
 refine h _ _ ?_ hkb hb
 rw[ha]
 split <;> omega
section
variable {prog:Program} {w:World} {A:Around} {E:Value→Shared→Prop} {s:Shared} {a₀:Array Keyed}
theorem asc{st:SortSt}{a nrem:Nat}{Q:AscSt→SortSt→Prop}(h0:IntKeys a₀)(hn:nrem≤a₀.size)(ha:1≤a)(han:a≤nrem)(hB:SBase a₀ st)(hs:Up (arrOf st) a)(hl:Lat a₀ (arrOf st) a)
  (h:∀n,a≤n→n≤nrem→Up (arrOf st) n→(n=nrem∨K (arrOf st) n<K (arrOf st) (n-1))→Q (none,n) st):wpS (model prog w) A E s (ascLoop a nrem) Q st:=by
 unfold ascLoop
 refine wpS_forRange (I:=fun x c st'=>st'=st∧c=(none,x)∧Up (arrOf st) x) ?turn ?over ⟨rfl,rfl,hs⟩
 case over=>
  rintro c st' ⟨rfl,rfl,u⟩
  rw[show max a nrem=nrem by omega] at u⊢
  exact h nrem han (XR _) u (.inl rfl)
 case turn=>
  rintro x c st' hax hxn ⟨rfl,rfl,u⟩
  dsimp only
  refine wpS_bind (wpS_ltK hB h0 (by omega) (by omega) ?_)
  by_cases c1:K (arrOf st') x<K (arrOf st') (x-1)
  ·simp only[c1,decide_true,if_true]
   exact wpS_pure (h x hax (by omega) u (.inr c1))
  ·simp only[c1,decide_false,Yt,if_false]
   refine wpS_pure ⟨rfl,rfl,fun i j hij hj=>?_⟩
   by_cases hjx:j<x
   ·exact u i j hij hjx
   ·have e:j=x:=by omega
    subst e
    have t1:=hl (j-1) j (by omega) hax (by omega)
    have l1:Lx (arrOf st') (j-1) j:=by unfold Lx;omega
    by_cases e2:i=j-1
    ·rw[e2];exact l1
    ·exact(u i (j-1) (by omega) (by omega)).trans l1
theorem tail{st:SortSt}{n nrem:Nat}{Q:Option Nat→SortSt→Prop}(h0:IntKeys a₀)(hn:nrem≤a₀.size)(h1:1≤n)(hnn:n≤nrem)(hB:SBase a₀ st)(hs:Dn (arrOf st) n)(hl:Lat a₀ (arrOf st) n)
  (h:∀m st',SBase a₀ st'→1≤m→m≤nrem→Up (arrOf st') m→Lat a₀ (arrOf st') m→Q (some m) st'):wpS (model prog w) A E s (tail3 n nrem) Q st:=by
 unfold tail3
 have sz:n≤(arrOf st).size:=by rw[hB.size];omega
 refine wpS_bind (wpS_reverse ?_)
 have hB2:SBase a₀ (setArr st (mirror (arrOf st) 0 n ((n-0)/2))):=hB.setArr (mirror_perm _ _ _ _)
 have hl2:Lat a₀ (mirror (arrOf st) 0 n ((n-0)/2)) n:=kdd sz (XR _) hl
 refine wpS_bind (asc h0 hn h1 hnn hB2 ?_ hl2 fun m hm1 hm2 hu _=>wpS_pure (h m _ hB2 (by omega) hm2 hu (hl2.mono hm1)))
 intro i j hij hj
 show Lx (mirror (arrOf st) 0 n ((n-0)/2)) i j
 obtain⟨i',⟨k1,t1⟩,e1⟩:=kbj (i:=0) sz i
 obtain⟨j',⟨k2,t2⟩,e2⟩:=kbj (i:=0) sz j
 rw[if_pos (by omega)] at e1 e2
 have:=hs j' i' (by omega) (by omega)
 unfold Lx at this⊢
 rw[k1,k2,t1,t2]
 exact this
structure Fl (a₀ xs:Array Keyed) (x neq:Nat):Prop where
 few:neq+1≤x
 hd:Dn xs (x-(neq+1))
 cr:∀i j,i<x-(neq+1)→x-(neq+1)≤j→j<x→K xs j<K xs i
 tl:∀i j,x-(neq+1)≤i→i<j→j<x→K xs i=K xs j∧T xs i<T xs j
 lat:Lat a₀ xs x
theorem Fl.turned{xs:Array Keyed}{x neq:Nat}(h:Fl a₀ xs x neq)(hx:x≤xs.size):Dn (mirror xs (x-(neq+1)) x ((x-(x-(neq+1)))/2)) x∧(∀i,i<x→K xs (x-1)≤K (mirror xs (x-(neq+1)) x ((x-(x-(neq+1)))/2)) i)∧Lat a₀ (mirror xs (x-(neq+1)) x ((x-(x-(neq+1)))/2)) x∧
  ∀k,x≤k→K (mirror xs (x-(neq+1)) x ((x-(x-(neq+1)))/2)) k=K xs k:=by
 have hf:=h.few
 refine⟨fun i j hij hj=>?_,fun i hi=>?_,kdd hx (XR _) h.lat,fun k hk=>?_⟩
 ·obtain⟨i',⟨k1,t1⟩,e1⟩:=kbj (i:=x-(neq+1)) hx i
  obtain⟨j',⟨k2,t2⟩,e2⟩:=kbj (i:=x-(neq+1)) hx j
  unfold Lx
  rw[k1,k2,t1,t2]
  by_cases c1:j<x-(neq+1)
  ·rw[if_neg (by omega)] at e1 e2
   subst e1 e2
   exact h.hd i' j' hij c1
  ·rw[if_pos (by omega)] at e2
   by_cases c2:i<x-(neq+1)
   ·rw[if_neg (by omega)] at e1
    subst e1
    exact .inl (h.cr i' j' c2 (by omega) (by omega))
   ·rw[if_pos (by omega)] at e1
    have:=h.tl j' i' (by omega) (by omega) (by omega)
    omega
 ·obtain⟨i',⟨k1,_⟩,e1⟩:=kbj (i:=x-(neq+1)) hx i
  rw[k1]
  by_cases c2:i<x-(neq+1)
  ·rw[if_neg (by omega)] at e1
   subst e1
   have:=h.cr i' (x-1) c2 (by omega) (by omega)
   omega
  ·rw[if_pos (by omega)] at e1
   by_cases c3:i'=x-1
   ·rw[c3];exact Int.le_refl _
   ·have:=h.tl i' (x-1) (by omega) (by omega) (by omega)
    omega
 ·obtain⟨k',⟨k1,_⟩,e1⟩:=kbj (i:=x-(neq+1)) hx k
  rw[if_neg (by omega)] at e1
  rw[k1,e1]
theorem Fl.plain{xs:Array Keyed}{x:Nat}(h:Fl a₀ xs x 0):Dn xs x∧(∀i,i<x→K xs (x-1)≤K xs i):=by
 have hf:=h.few
 refine⟨fun i j hij hj=>?_,fun i hi=>?_⟩
 ·by_cases c1:j<x-(0+1)
  ·exact h.hd i j hij c1
  ·exact .inl (h.cr i j (by omega) (by omega) hj)
 ·by_cases c3:i=x-1
  ·rw[c3];exact Int.le_refl _
  ·have:=h.cr i (x-1) (by omega) (by omega) (by omega)
   omega
theorem Fl.next{xs:Array Keyed}{x:Nat}(hd:Dn xs x)(hk:∀i,i<x→K xs x<K xs i)(hl:Lat a₀ xs x):Fl a₀ xs (x+1) 0:=
 ⟨by omega,fun i j h1 h2=>hd i j h1 (by omega),fun i j h1 h2 h3=>by
  have e:j=x:=by omega
  subst e
  exact hk i (by omega),fun i j h1 h2 h3=>by omega,hl.mono (by omega)⟩
theorem desc{st:SortSt}{n nrem:Nat}{Q:DescSt→SortSt→Prop}(h0:IntKeys a₀)(hn:nrem≤a₀.size)(hnn:n≤nrem)(hB:SBase a₀ st)(hs:Fl a₀ (arrOf st) n 0)
  (h:∀m neq st',SBase a₀ st'→n≤m→m≤nrem→Fl a₀ (arrOf st') m neq→Q (none,m,neq) st'):wpS (model prog w) A E s (descLoop n nrem) Q st:=by
 unfold descLoop
 refine wpS_forRange (I:=fun x c st'=>∃neq,c=(none,x,neq)∧SBase a₀ st'∧Fl a₀ (arrOf st') x neq) ?turn ?over ⟨0,rfl,hB,hs⟩
 case over=>
  rintro c st' ⟨neq,rfl,hB',f⟩
  rw[show max n nrem=nrem by omega] at f⊢
  exact h nrem neq st' hB' hnn (XR _) f
 case turn=>
  rintro x c st' hax hxn ⟨neq,rfl,hB',f⟩
  dsimp only
  have few:=f.few
  have sz:x≤(arrOf st').size:=by rw[hB'.size];omega
  refine wpS_bind (wpS_ltK hB' h0 (by omega) (by omega) ?_)
  by_cases c1:K (arrOf st') x<K (arrOf st') (x-1)
  ·simp only[c1,decide_true,if_true]
   by_cases c2:neq > 0
   ·rw[if_pos c2]
    obtain⟨d1,d2,d3,d4⟩:=f.turned sz
    refine wpS_bind (wpS_reverse (wpS_pure ⟨0,rfl,hB'.setArr (mirror_perm _ _ _ _),Fl.next d1 (fun i hi=>?_) d3⟩))
    have:=d2 i hi
    have e:=d4 x (XR _)
    show K (mirror (arrOf st') _ _ _) x<K (mirror (arrOf st') _ _ _) i
    omega
   ·rw[if_neg c2]
    have e:neq=0:=by omega
    subst e
    obtain⟨d1,d2⟩:=f.plain
    exact wpS_pure ⟨0,rfl,hB',Fl.next d1 (fun i hi=>by have:=d2 i hi;omega) f.lat⟩
  ·simp only[c1,decide_false,Yt,if_false]
   refine wpS_bind (wpS_ltK hB' h0 (by omega) (by omega) ?_)
   by_cases c2:K (arrOf st') (x-1)<K (arrOf st') x
   ·simp only[c2,decide_true,if_true]
    exact wpS_pure (h x neq st' hB' hax (by omega) f)
   ·simp only[c2,decide_false,Yt,if_false]
    have ek:K (arrOf st') x=K (arrOf st') (x-1):=by omega
    refine wpS_pure ⟨neq+1,rfl,hB',⟨by omega,?_,?_,?_,f.lat.mono (by omega)⟩⟩
    ·rw[show x+1-(neq+1+1)=x-(neq+1) by omega]
     exact f.hd
    ·rw[show x+1-(neq+1+1)=x-(neq+1) by omega]
     intro i j h1 h2 h3
     by_cases c3:j<x
     ·exact f.cr i j h1 h2 c3
     ·have e:j=x:=by omega
      subst e
      rw[ek]
      exact f.cr i (j-1) h1 (by omega) (by omega)
    ·rw[show x+1-(neq+1+1)=x-(neq+1) by omega]
     intro i j h1 h2 h3
     by_cases c3:j<x
     ·exact f.tl i j h1 h2 c3
     ·have e:j=x:=by omega
      subst e
      refine⟨?_,f.lat i j h2 (XR _) (by omega)⟩
      rw[ek]
      by_cases c4:i=j-1
      ·rw[c4]
      ·exact(f.tl i (j-1) h1 (by omega) (by omega)).1
theorem falls{st:SortSt}{n nrem:Nat}{Q:Option Nat→SortSt→Prop}(h0:IntKeys a₀)(hn:nrem≤a₀.size)(hnn:n+1≤nrem)(hB:SBase a₀ st)(hs:Fl a₀ (arrOf st) (n+1) 0)
  (h:∀m st',SBase a₀ st'→1≤m→m≤nrem→Up (arrOf st') m→Lat a₀ (arrOf st') m→Q (some m) st'):wpS (model prog w) A E s (descPart n nrem) Q st:=by
 unfold descPart
 refine wpS_bind (wpS_lift (wpAny_rule ⟨rfl,?_⟩))
 refine wpS_bind (desc h0 hn hnn hB hs fun m neq st' hB' hm1 hm2 f=>?_)
 dsimp only
 have sz:m≤(arrOf st').size:=by rw[hB'.size];omega
 by_cases c2:neq > 0
 ·rw[if_pos c2]
  obtain⟨d1,_,d3,_⟩:=f.turned sz
  exact wpS_bind (wpS_reverse (tail h0 hn (by omega) hm2 (hB'.setArr (mirror_perm _ _ _ _)) d1 d3 h))
 ·rw[if_neg c2]
  have e:neq=0:=by omega
  subst e
  exact tail h0 hn (by omega) hm2 hB' f.plain.1 f.lat h
theorem count{st:SortSt}{nrem:Nat}{Q:Option Nat→SortSt→Prop}(h0:IntKeys a₀)(hn:nrem≤a₀.size)(h1:1≤nrem)(hB:SBase a₀ st)(hl:Lat a₀ (arrOf st) 1)
  (h:∀m st',SBase a₀ st'→1≤m→m≤nrem→Up (arrOf st') m→Lat a₀ (arrOf st') m→Q (some m) st'):wpS (model prog w) A E s (countRun' 0 nrem) Q st:=by
 rw[countRun0_eq]
 refine wpS_bind (asc h0 hn (XR 1) h1 hB (fun i j hij hj=>by omega) hl fun n hn1 hn2 hu hor=>?_)
 dsimp only
 by_cases c1:n=nrem
 ·rw[if_pos (by simpa using c1)]
  exact wpS_pure (h n st hB hn1 hn2 hu (hl.mono hn1))
 ·rw [if_neg (by simpa using c1)]
  have lt:K (arrOf st) n<K (arrOf st) (n-1):=hor.resolve_left c1
  by_cases c2:n > 1
  ·rw [if_pos c2]
   refine wpS_bind (wpS_ltK hB h0 (by omega) (by omega) ?_)
   by_cases c3:K (arrOf st) 0<K (arrOf st) (n-1)
   ·simp only[c3,decide_true,if_true]
    exact wpS_pure (h n st hB hn1 hn2 hu (hl.mono hn1))
   ·simp only[c3,decide_false,Yt,if_false]
    have sz:n≤(arrOf st).size:=by rw[hB.size];omega
    have same:∀i,i<n→K (arrOf st) i=K (arrOf st) (n-1):=fun i hi=>by
     by_cases z:i=0
     ·subst z
      have:=(hu 0 (n-1) (by omega) (by omega)).le
      omega
     ·have a1:=(hu 0 i (by omega) hi).le
      by_cases z2:i=n-1
      ·rw[z2]
      ·have a2:=(hu i (n-1) (by omega) (by omega)).le
       omega
    refine wpS_bind (wpS_reverse (falls h0 hn (by omega) (hB.setArr (mirror_perm _ _ _ _)) (Fl.next (fun i j hij hj=>?_) (fun i hi=>?_) (kdd sz (XR _) (hl.mono hn1))) h))
    ·show Lx (mirror (arrOf st) 0 n ((n-0)/2)) j i
     obtain⟨i',⟨k1,t1⟩,e1⟩:=kbj (i:=0) sz i
     obtain⟨j',⟨k2,t2⟩,e2⟩:=kbj (i:=0) sz j
     rw[if_pos (by omega)] at e1 e2
     have:=hu j' i' (by omega) (by omega)
     unfold Lx at this⊢
     rw[k1,k2,t1,t2]
     exact this
    ·show K (mirror (arrOf st) 0 n ((n-0)/2)) n<K (mirror (arrOf st) 0 n ((n-0)/2)) i
     obtain⟨i',⟨k1,_⟩,e1⟩:=kbj (i:=0) sz i
     obtain⟨n',⟨k2,_⟩,e2⟩:=kbj (i:=0) sz n
     rw[if_pos (by omega)] at e1
     rw[if_neg (by omega)] at e2
     subst e2
     rw[k1,k2,same i' (by omega)]
     exact lt
  ·rw[if_neg c2]
   have e:n=1:=by omega
   subst e
   refine falls h0 hn (by omega) hB (Fl.next (fun i j hij hj=>by omega) (fun i hi=>?_) hl) h
   have z:i=0:=by omega
   subst z
   exact lt
theorem insert{st:SortSt}{n ok:Nat}{Q:Bool→SortSt→Prop}(h0:IntKeys a₀)(hn:n≤a₀.size)(h1:1≤ok)(hok:ok≤n)(hB:SBase a₀ st)(hs:Up (arrOf st) ok)(hl:Lat a₀ (arrOf st) ok)
  (h:∀st',SBase a₀ st'→Up (arrOf st') n→Q true st'):wpS (model prog w) A E s (binarySort' 0 n ok) Q st:=by
 rw[binarySort'_eq]
 simp only[Nat.zero_add]
 refine wpS_bind (wpS_mono (wpS_forRange (I:=fun k c st'=>c=(none,())∧SBase a₀ st'∧Up (arrOf st') (min k n)∧Lat a₀ (arrOf st') (min k n)) (Q:=fun c st'=>c=(none,())∧SBase a₀ st'∧Up (arrOf st') n) ?turn ?over ?begin) ?behind)
 case behind=>
  rintro c st' ⟨rfl,hB',hu⟩
  exact wpS_pure (h st' hB' hu)
 case begin=>
  rw[show max ok 1=ok by omega,show min ok n=ok by omega]
  exact⟨rfl,hB,hs,hl⟩
 case over=>
  rintro c st' ⟨hc,hB',hu,_⟩
  refine⟨hc,hB',?_⟩
  rwa [show min (max (max ok 1) n) n=n by omega] at hu
 case turn=>
  rintro k c st' hak hkn ⟨rfl,hB',hu,hla⟩
  rw[show min k n=k by omega] at hu hla
  have hk:k<a₀.size:=by omega
  refine wpS_bind (wpS_mono (wpS_forRange (I:=fun x c st''=>st''=st'∧∃l r,c=(none,l,r)∧l≤r∧r≤k∧r-l≤k-x∧(∀i,i<l→K (arrOf st') i≤K (arrOf st') k)∧(∀i,r≤i→i<k→K (arrOf st') k<K (arrOf st') i))
   (Q:=fun c st''=>st''=st'∧∃l r,c=(none,l,r)∧l≤k∧(∀i,i<l→K (arrOf st') i≤K (arrOf st') k)∧(∀i,l≤i→i<k→K (arrOf st') k<K (arrOf st') i)) ?turn2 ?over2 ?begin2) ?behind2)
  case begin2=>exact⟨rfl,0,k,rfl,by omega,by omega,by omega,fun i hi=>by omega,fun i a b=>by omega⟩
  case over2=>
   rintro c st'' ⟨rfl,l,r,rfl,hlr,hrk,hm,lo,hi⟩
   have e:l=r:=by omega
   subst e
   exact⟨rfl,l,l,rfl,hrk,lo,hi⟩
  case turn2=>
   rintro x c st'' _ hxk ⟨rfl,l,r,rfl,hlr,hrk,hm,lo,hi⟩
   dsimp only
   by_cases c1:l≥r
   ·rw[if_pos c1]
    have e:l=r:=by omega
    subst e
    exact wpS_pure ⟨rfl,l,l,rfl,hrk,lo,hi⟩
   ·rw[if_neg c1]
    refine wpS_bind (wpS_ltK hB' h0 hk (by omega) ?_)
    by_cases c2:K (arrOf st'') k<K (arrOf st'') ((l+r)/2)
    ·simp only[c2,decide_true,if_true]
     refine wpS_pure ⟨rfl,l,(l+r)/2,rfl,by omega,by omega,by omega,lo,fun i a b=>?_⟩
     by_cases z:i=(l+r)/2
     ·rw[z];exact c2
     ·exact Int.lt_of_lt_of_le c2 (hu _ _ (by omega) b).le
    ·simp only[c2,decide_false,Yt,if_false]
     refine wpS_pure ⟨rfl,(l+r)/2+1,r,rfl,by omega,by omega,by omega,fun i a=>?_,hi⟩
     by_cases z:i=(l+r)/2
     ·rw[z];omega
     ·exact Int.le_trans (hu i ((l+r)/2) (by omega) (by omega)).le (Int.not_lt.mp c2)
  case behind2=>
   rintro c st'' ⟨rfl,l,r,rfl,hlk,lo,hi⟩
   show wpS _ _ _ _ (do moveDown' k l;pure (ForInStep.yield (none,()))) _ _
   rw[moveDown'_eq]
   have hks:k<(arrOf st'').size:=by rw[hB'.size];exact hk
   refine wpS_bind (wpS_modify (wpS_pure ⟨rfl,hB'.setArr (bubble_perm _ _ _),?_,?_⟩))
   ·rw [show min (k+1) n=k+1 by omega]
    intro i j hij hj
    show Lx (bubble (arrOf st'') k (k-l)) i j
    obtain⟨i',⟨k1,t1⟩,e1⟩:=kdy hks (show k-l≤k by omega) i
    obtain⟨j',⟨k2,t2⟩,e2⟩:=kdy hks (show k-l≤k by omega) j
    rw[show k-(k-l)=l by omega] at e1 e2
    unfold Lx
    rw[k1,k2,t1,t2]
    by_cases z1:i=l
    ·rw[if_pos z1] at e1
     rw[if_neg (by omega),if_pos (by omega)] at e2
     subst e1
     exact .inl (hi j' (by omega) (by omega))
    ·rw[if_neg z1] at e1
     by_cases z2:j=l
     ·rw[if_pos z2] at e2
      rw[if_neg (by omega)] at e1
      subst e2
      have a1:=lo i' (by omega)
      have a2:=hla i' j' (by omega) (XR _) hk
      omega
     ·rw[if_neg z2] at e2
      refine hu i' j' ?_ ?_
      ·rw[e1,e2]
       repeat' split
       all_goals omega
      ·rw[e2]
       split <;> omega
   ·rw[show min (k+1) n=k+1 by omega]
    intro a b hab hkb hb
    show T (bubble (arrOf st'') k (k-l)) a<T (bubble (arrOf st'') k (k-l)) b
    obtain⟨a',⟨_,t1⟩,e1⟩:=kdy hks (show k-l≤k by omega) a
    obtain⟨b',⟨_,t2⟩,e2⟩:=kdy hks (show k-l≤k by omega) b
    rw[show k-(k-l)=l by omega] at e1 e2
    rw[if_neg (by omega),if_neg (by omega)] at e2
    subst e2
    rw[t1,t2]
    refine hla a' b' ?_ (by omega) hb
    rw[e1]
    repeat' split
    all_goals omega
noncomputable def Done(a₀:Array Keyed)(st:SortSt):Prop:=(arrOf st).Perm a₀∧failedOf st=none∧pendingOf st= #[(0,a₀.size,0)]∧Up (arrOf st) a₀.size
theorem done{st:SortSt}(hB:SBase a₀ st)(hu:Up (arrOf st) a₀.size):Done a₀ (setPending st ((pendingOf st).push (0,a₀.size,0))):=⟨hB.perm,hB.failed,by show(pendingOf st).push _=_;rw[hB.pend];rfl,hu⟩
theorem runs{st:SortSt}{Q:Unit→SortSt→Prop}(h0:IntKeys a₀)(hB:SBase a₀ st)(h2:2≤a₀.size)(h64:a₀.size<64)(hl:Lat a₀ (arrOf st) 1)
  (h:∀st',(arrOf st').Perm a₀→failedOf st'=none→Up (arrOf st') a₀.size→Q () st'):wpS (model prog w) A E s sortRuns' Q st:=by
 rw[sortRuns'_eq]
 refine wpS_bind (wpS_get ?_)
 dsimp only
 have mr:minRun' a₀.size a₀.size 0=a₀.size:=by
  obtain⟨f,hf⟩:∃f,a₀.size=f+1:=⟨a₀.size-1,by omega⟩
  have z:minRun' (f+1) a₀.size 0=a₀.size:=by rw[minRun'_succ,if_pos h64];rfl
  rwa [←hf] at z
 simp only[hB.size,mr]
 refine wpS_bind (wpS_mono (wpS_forRange (I:=fun x c st'=>(x=0∧c=(none,0)∧st'=st)∨(1≤x∧c=(none,a₀.size)∧Done a₀ st')) (Q:=fun c st'=>c=(none,a₀.size)∧Done a₀ st') ?turn ?over (.inl ⟨rfl,rfl,rfl⟩)) ?behind)
 case over=>
  rintro c st' (⟨hx,_,_⟩|⟨_,hc,hD⟩)
  ·omega
  ·exact⟨hc,hD⟩
 case turn=>
  rintro x c st' _ hx (⟨rfl,rfl,rfl⟩|⟨hx1,rfl,hD⟩)
  ·dsimp only
   rw[if_neg (by omega)]
   simp only[Nat.sub_zero,Nat.min_self,Nat.zero_add]
   refine wpS_bind (count h0 (XR _) (by omega) hB hl fun m st2 hB2 hm1 hm2 hu2 hl2=>?_)
   dsimp only
   by_cases c1:m<a₀.size
   ·rw[if_pos c1]
    refine wpS_bind (wpS_lift (wpAny_rule ⟨rfl,?_⟩))
    refine wpS_bind (insert h0 (XR _) hm1 hm2 hB2 hu2 hl2 fun st3 hB3 hu3=>?_)
    simp only[Bool.not_true,Yt,if_false]
    refine wpS_bind (wpS_get ?_)
    have hb:(pendingOf st3).back?=none:=by rw[hB3.pend];rfl
    rw[hb]
    dsimp only
    exact wpS_bind (wpS_modify (wpS_pure (.inr ⟨by omega,rfl,done hB3 hu3⟩)))
   ·rw[if_neg c1]
    have e:m=a₀.size:=by omega
    subst e
    refine wpS_bind (wpS_get ?_)
    have hb:(pendingOf st2).back?=none:=by rw[hB2.pend];rfl
    rw[hb]
    dsimp only
    exact wpS_bind (wpS_modify (wpS_pure (.inr ⟨by omega,rfl,done hB2 hu2⟩)))
  ·dsimp only
   rw[if_pos (XR _)]
   exact wpS_pure ⟨rfl,hD⟩
 case behind=>
  rintro c st' ⟨rfl,hD⟩
  dsimp only
  refine wpS_bind (wpS_mono (wpS_forRange (I:=fun _ c st''=>st''=st'∧c=(none,())) (Q:=fun c st''=>st''=st'∧c=(none,())) ?_ (fun _ _ z=>z) ⟨rfl,rfl⟩) ?_)
  ·rintro x c st'' _ _ ⟨rfl,rfl⟩
   refine wpS_bind (wpS_get ?_)
   rw[if_pos (by rw[hD.2.2.1];exact XR 1)]
   exact wpS_pure ⟨rfl,rfl⟩
  ·rintro c st'' ⟨rfl,rfl⟩
   exact wpS_pure (h _ hD.1 hD.2.1 hD.2.2.2)
end
end Stb
namespace Stb
open PySem PyProof.Rows
noncomputable def Rows(keys:Array Value)(vs:List Value)(out:Array Value):Prop:=∃xs:Array Keyed,xs.Perm (keys.zip vs.toArray)∧Up xs xs.size∧out=xs.map (·.2)
section
variable {prog:Program} {w:World} {A:Around} {E:Value→Shared→Prop} {s:Shared} {J:Shared→Prop} {n0:Nat} {a kS:Addr} {vs:List Value} {kz:List Int} {keys:Array Value} {e e1:Nat} {P:PySem.Fin→Shared→Prop}
end
section
variable {prog:Program} {w:World} {A:Around} {E:Value→Shared→Prop} {s:Shared} {J:Shared→Prop} {n0:Nat} {vs:List Value} {kz:List Int} {Q:Value→Shared→Prop}
end
end Stb
namespace L2
open PySem PySem.Spec PyProof.Rows
section
variable {X:Cx} {A:Around} {scope:Scope} {x:Str} {N:List Str} {cap:List (Option Nat)} {pins:List (Addr×Obj)} {σ:St} {H:Hp} {s s1:Shared} {qual:Str} {f c:Addr}
end
end L2
namespace L2
open PySem PySem.Spec PyProof.Rows
noncomputable def CodeO(c:Addr)(qual:Str):HO:=.ext fun h=>h.CodeRec (.ref c) qual
noncomputable def lamQ:Str:="falling_groups.<locals>.<lambda>"
noncomputable def TbAt(P:Addr)(H:Hp):Prop:=∃ps:Array Value,H P=some (.tbl ps)∧TriplesOk ps.toList∧∀pos c,codeAmong pos ps.toList=some c→∃c',c=.ref c'∧H c'=some (CodeO c' lamQ)
structure Grew (P:Addr) (H H':Hp):Prop where
 kp:∀b o,b≠P→H b=some o→H' b=some o
 tb:TbAt P H'
noncomputable def CodeK(K:XQ)(c P:Addr):Prop:=
 ∃o vs file tf flags tg inF text tt,K.lookup c=some o∧o.cls=.type "code"∧o.data=.fields vs∧vs[11]?=some (.ref P)∧vs.getD 11 .none=.ref P∧vs.getD 18 .none=.str file tf∧vs.getD 7 .none=.int flags tg∧vs.getD 9 .none=.bool inF∧vs.getD 10 .none=.int text tt∧c≠P
theorem CodeK.hd{K:XQ}{c P:Addr}{h:Heap}(x:CodeK K c P)(X:K.In h):PySem.W.CodeHd h c P:=by
 obtain⟨o,vs,file,tf,flags,tg,inF,text,tt,e,r⟩:=x
 exact⟨o,vs,file,tf,flags,tg,inF,text,tt,X _ _ e,r⟩
section
variable {X:Cx} {scope:Scope} {x:Str} {N:List Str} {cap:List (Option Nat)} {pins:List (Addr×Obj)} {σ:St} {H:Hp} {s:Shared} {c0 P:Addr} {params:Arguments} {body:Expr} {lpos:Pos}
end
end L2
namespace L2
open PySem PySem.Spec PyProof.Rows
section
variable {X:Cx} {scope:Scope} {x:Str} {N:List Str} {cap:List (Option Nat)} {pins:List (Addr×Obj)} {σ:St} {H:Hp} {s1:Shared} {f:Addr} {fo:Obj}
theorem Grew.seq{K:XQ}{P:Addr}{H H':Hp}{a:Addr}{xs:List V}(g:Grew P H H')(ha:a≠P)(h:SqL K H a xs):SqL K H' a xs:=by
 rcases h with(h|⟨o,h⟩)|h
 ·exact .inl (.inl (g.kp _ _ ha h))
 ·exact .inl (.inr ⟨o,g.kp _ _ ha h⟩)
 ·exact .inr h
end
end L2
namespace L2
open PySem PySem.W PyProof.Rows
section
variable {X:Cx}
end
end L2
namespace L2
open PySem PySem.W PyProof.Rows
section
variable {X:Cx} {pins:List (Addr×Obj)} {σ:St} {H:Hp} {s:Shared} {A:Around} {E:Value→Shared→Prop} {Q:Value→Shared→Prop}
theorem kfk{x:V}{u t:Value}{tp:Addr}{cs:List Value}{b:Bool}(I:Inv X pins σ H s)(rx:RelV x u)(ty:TyOf X.K H x t)(ht:IsTup s.heap tp cs.toArray)(e:PySem.W.kitAny X.K t cs=some b)
  (h:∀tk,Q (.bool b) {s with toks:=tk}) (hx:∀a,x=.ref a→(∃xs,H a=some (.lst xs))∨∃xs,H a=some (.tup xs)):wpAny (model X.prog X.w) A (call (.builtin "isinstance") [u, .ref tp]) Q E s:=by
 obtain⟨⟨oc,od,dt,sl⟩,ho,hc,n,hd⟩:=ht
 have hc':oc=.type "tuple":=hc
 have hd':dt=.seq cs.toArray n:=hd
 subst hc' hd'
 cases ty with
 |non=>
  cases(show u=Value.none from rx)
  exact kia_tup kitx_none I.kIn True.intro ho e (by intro z;cases z) h
 |bl y=>
  cases(show u=Value.bool y from rx)
  exact kia_tup kitx_bool I.kIn True.intro ho e (by intro z;cases z) h
 |int i=>
  obtain⟨t,q⟩:=(show ∃t,u=Value.int i t from rx)
  cases q
  exact kia_tup kitx_int I.kIn True.intro ho e (by intro z;cases z) h
 |str y=>
  obtain⟨t,q⟩:=(show ∃t,u=Value.str y t from rx)
  cases q
  exact kia_tup kitx_str I.kIn True.intro ho e (by intro z;cases z) h
 |flt y=>
  obtain⟨t,q⟩:=(show ∃t,u=Value.float y t from rx)
  cases q
  exact kia_tup kitx_float I.kIn True.intro ho e (by intro z;cases z) h
 | @lst a xs ea=>
  cases(show u=Value.ref a from rx)
  have ok:ObjOk X.prog X.w H s.heap a (.lst xs):=I.hok a _ ea
  obtain⟨_,_,m,_,h1⟩:=ok
  exact kia_tup kitx_list I.kIn ⟨_,h1,rfl⟩ ho e (by intro z;cases z) h
 | @tup a xs ea=>
  cases(show u=Value.ref a from rx)
  have ok:ObjOk X.prog X.w H s.heap a (.tup xs):=I.hok a _ ea
  obtain⟨_,_,_,o,h1,h2,_⟩:=ok
  exact kia_tup kitx_tuple I.kIn ⟨o,h1,h2⟩ ho e (by intro z;cases z) h
 | @frz a o xs ea=>rcases hx a rfl with⟨ys,z⟩|⟨ys,z⟩ <;> rw[ea] at z <;> cases z
 | @dK a o ea=>rcases hx a rfl with⟨ys,z⟩|⟨ys,z⟩ <;> rw[ea] at z <;> cases z
 | @dT a o ea=>rcases hx a rfl with⟨ys,z⟩|⟨ys,z⟩ <;> rw[ea] at z <;> cases z
 | @ins a C dx fs ea=>rcases hx a rfl with⟨ys,z⟩|⟨ys,z⟩ <;> rw[ea] at z <;> cases z
theorem ka4{K:XQ}{n m:String}(e:(Value.type n==Value.type m)=false)(hk:kitMeta m=true)(hf:(fastBuiltinMro n).map (·.contains (Value.type m))=some false):kitOne K (.type n) (.type m)=some false:=by
 unfold kitOne kitCls subIn
 rw[e,if_neg X4]
 show(if kitMeta m=true then _ else _)=_
 rw[if_pos hk]
 exact hf
theorem kdA{K:XQ}{t c c':Value}(h1:kitOne K t c=some false)(h2:kitOne K t c'=some false):kitAny K t [c,c']=some false:=by simp only[kitAny,h1,h2]
theorem any_t{K:XQ}{t c c':Value}(h1:kitOne K t c=some true):kitAny K t [c,c']=some true:=by simp only[kitAny,h1]
theorem kfL{K:XQ}{t c c':Value}(h1:kitOne K t c=some false)(h2:kitOne K t c'=some true):kitAny K t [c,c']=some true:=by simp only[kitAny,h1,h2]
noncomputable def isSeq:Value→Bool
 | .type n=>n== "list" ||n== "tuple"
 |_=>false
noncomputable def keT(K:XQ):List V→Hp→VK→Prop:=fun xs H Q=>∃(x:V) (tp:Addr) (t:Value),xs=[x, .ref tp]∧SqT K H tp [.ty "list", .ty "tuple"]∧TyOf K H x t∧(t=.type "NoneType"∨t=.type "bool"∨t=.type "int"∨t=.type "str"∨t=.type "list"∨t=.type "tuple")∧
  (∀a,x=.ref a→(∃xs,H a=some (.lst xs))∨∃xs,H a=some (.tup xs))∧Q (.bl (isSeq t)) H
theorem kdJ:CallR X (.builtin "isinstance") (keT X.K):=by
 intro pins s σ H xs us Q I r h
 obtain⟨x,tp,t,rfl,ht,ty,hor,hx,q⟩:=h
 obtain⟨u,w',rfl,r1,r2⟩:=vals2 r
 cases(show w'=Value.ref tp from r2)
 obtain⟨its,rv,pl,hz⟩:=I.tuple ht
 obtain⟨u1,u2,rfl,ra,rb⟩:=vals2 rv
 cases(show u1=Value.type "list" from ra)
 cases(show u2=Value.type "tuple" from rb)
 refine kfk I r1 ty pl (b:=isSeq t) ?_ (fun tk=>⟨.bl _,H,I.tok tk,rfl,q⟩) hx
 rcases hor with rfl|rfl|rfl|rfl|rfl|rfl
 ·exact kdA (ka4 (by decide +kernel) (by decide +kernel) (by decide +kernel)) (ka4 (by decide +kernel) (by decide +kernel) (by decide +kernel))
 ·exact kdA (ka4 (by decide +kernel) (by decide +kernel) (by decide +kernel)) (ka4 (by decide +kernel) (by decide +kernel) (by decide +kernel))
 ·exact kdA (ka4 (by decide +kernel) (by decide +kernel) (by decide +kernel)) (ka4 (by decide +kernel) (by decide +kernel) (by decide +kernel))
 ·exact kdA (ka4 (by decide +kernel) (by decide +kernel) (by decide +kernel)) (ka4 (by decide +kernel) (by decide +kernel) (by decide +kernel))
 ·exact any_t (kaG _ _)
 ·exact kfL (ka4 (by decide +kernel) (by decide +kernel) (by decide +kernel)) (kaG _ _)
end
end L2
namespace L2
open PySem PySem.W PyProof.Rows
section
variable {X:Cx}
end
end L2
namespace L2
open PySem PySem.Spec PyProof.Rows
section
variable {prog:Program} {w:World} {A:Around} {E:Value→Shared→Prop} {s:Shared}
theorem nextT{q t:Addr}{k:Nat}{vs:Array Value}{v:Value}{Q:Value→Shared→Prop}(J:IsTupIter s.heap q t k)(T:IsTup s.heap t vs)(e:vs[k]?=some v)
  (K:∀g,IsTupIter g q t (k+1)→Heap.SameBut q s.heap g→Q v {s with heap:=g}):wpAny (model prog w) A (Builtin.SmallTypes.nextOf (.ref q)) Q E s:=by
 obtain⟨c,hc,c1,c2⟩:=id J
 obtain⟨u,hu,_,nu,du⟩:=T
 unfold Builtin.SmallTypes.nextOf
 refine wpAny_bind (wpAny_callSpecial?_slot (name:=Str.ofString "__next__") J.typeIs slot_tupleiter_next (wpAny_call_entry slot_tupleiter_next J.typeIs entry_tupleiter_next ?_ (args_tupleiter_next _)))
 show wpAny _ _ (field (.ref q) 0 >>= _) _ _ s
 refine wpAny_bind (wpAny_field hc c2 (x:=.ref t) rfl ?_)
 show wpAny _ _ (if(Value.ref t==Value.none)=true then _ else _) _ _ s
 rw[if_neg (show ¬(Value.ref t==Value.none)=true from X4)]
 show wpAny _ _ (field (.ref q) 1 >>= _) _ _ s
 refine wpAny_bind (wpAny_field hc c2 (x:=.int k 0) rfl (?_:wpAny _ _ (seqItems? (.ref t) >>= _) _ _ s))
 refine wpAny_bind (wpAny_seqItems hu du ?_)
 simp only[Int.toNat_natCast,e]
 refine wpAny_bind (wpAny_setField hc c2 (by simp) (wpAny_pure ⟨v,rfl,wpAny_pure (K _ ⟨_,Heap.get?_update_self _ hc (Obj.isFreed_of_fields (Obj.data_mapFields c2 _)),(Obj.cls_mapFields ..).trans c1,?_⟩ (Heap.SameBut.update ..))⟩))
 rw[Obj.data_mapFields c2]
 simp[rawInt]
theorem kcT{q t:Addr}{k:Nat}{vs:Array Value}{Q:Value→Shared→Prop}(n:A.handled=none)(J:IsTupIter s.heap q t k)(T:IsTup s.heap t vs)(e:vs[k]?=none)
  (K:∀g x,Heap.ExtBut q s.heap g→(∃o,g.get? x=some o∧o.cls=.type "StopIteration")→E (.ref x) {s with heap:=g}):wpAny (model prog w) A (Builtin.SmallTypes.nextOf (.ref q)) Q E s:=by
 obtain⟨c,hc,c1,c2⟩:=id J
 obtain⟨u,hu,_,nu,du⟩:=T
 unfold Builtin.SmallTypes.nextOf
 refine wpAny_bind (wpAny_callSpecial?_slot (name:=Str.ofString "__next__") J.typeIs slot_tupleiter_next (wpAny_call_entry slot_tupleiter_next J.typeIs entry_tupleiter_next ?_ (args_tupleiter_next _)))
 show wpAny _ _ (field (.ref q) 0 >>= _) _ _ s
 refine wpAny_bind (wpAny_field hc c2 (x:=.ref t) rfl ?_)
 show wpAny _ _ (if(Value.ref t==Value.none)=true then _ else _) _ _ s
 rw[if_neg (show ¬(Value.ref t==Value.none)=true from X4)]
 show wpAny _ _ (field (.ref q) 1 >>= _) _ _ s
 refine wpAny_bind (wpAny_field hc c2 (x:=.int k 0) rfl (?_:wpAny _ _ (seqItems? (.ref t) >>= _) _ _ s))
 refine wpAny_bind (wpAny_seqItems hu du ?_)
 simp only[Int.toNat_natCast,e]
 refine wpAny_bind (wpAny_rule (wpAny_bind (wpAny_setField hc c2 (by simp) (?_:wpAny _ _ (newExc (.type "StopIteration") [] >>= _) _ _ _))))
 refine wpAny_bind ?_
 simp only[newExc,newTuple]
 refine wpAny_bind (wpAny_newObj_type (wpAny_bind (m:=firstArgMember _ _) (wpAny_of_eq (a:=Value.none) (by first|rfl|(simp only[firstArgMember];rfl)) (wpAny_newObj_type ?_ (by size_fits)))) (by size_fits))
 simp only[raiseNew]
 refine wpAny_bind (wpAny_handled ?_)
 first|rw[n]|rw[show A.in1.handled=none from n]
 exact wpAny_bind (wpAny_pure (wpAny_throw (K _ _ (((Heap.SameBut.update ..).extBut.push _).push _) ⟨_,Heap.get?_push_size _ rfl,rfl⟩)))
theorem zipT{Z P O a b t u:Addr}{j k:Nat}{vs ws:Array Value}{x y c e:Value}{Q:Value→Shared→Prop}(D:ZipApart Z P O a b t u)(Hz:IsZip s.heap Z P O .none)(Hi:IsPair s.heap P (.ref a) (.ref b))(Ho:IsPair s.heap O c e)
  (J:IsTupIter s.heap a t j) (L:IsTupIter s.heap b u k) (T:IsTup s.heap t vs) (U:IsTup s.heap u ws) (hx:vs[j]?=some x) (hy:ws[k]?=some y)
  (K:∀g,IsZip g Z P O (rawInt s.heap.objs.size)→IsPair g O x y→IsTupIter g a t (j+1)→IsTupIter g b u (k+1)→IsPair g s.heap.objs.size x y→
   (∀n o,n≠Z→n≠O→n≠a→n≠b→s.heap.get? n=some o→g.get? n=some o)→Q (.ref s.heap.objs.size) {s with heap:=g}):
  wpAny (model prog w) A (Builtin.«zip.__next__» ⟨[.ref Z],[]⟩) (fun f s'=>∃v,f=.done (.ret v)∧Q v s') E s:=by
 show wpAny _ _ (field (.ref Z) 2 >>= _) _ _ _
 refine wpAny_bind (wpAny_field Hz rfl (x:=.bool false) rfl (?_:wpAny _ _ (field (.ref Z) 3 >>= _) _ _ _))
 refine wpAny_bind (wpAny_field Hz rfl (x:=.ref P) rfl (wpAny_bind (wpAny_seqItems Hi rfl ?_)))
 show wpAny _ _ (Builtin.SmallTypes.ownedTupleIsFree (.ref Z) >>= _) _ _ _
 refine wpAny_bind ?_
 unfold Builtin.SmallTypes.ownedTupleIsFree
 refine wpAny_bind (wpAny_field Hz rfl (x:=.none) rfl (wpAny_pure ?_))
 simp only[if_true]
 refine wpAny_bind (wpAny_rule (wpAny_bind (wpAny_field Hz rfl (x:=.ref O) rfl (wpAny_bind (wpAny_setField_rec Hz (by simp) fun g1 (Z1:IsZip g1 Z P O .ellipsis) r1=>?_)))))
 refine wpAny_bind ?_
 simp only[Y5,List.zipIdx_nil,Y3,Y2]
 refine wpAny_bind (wpAny_bind (wpAny_onRaise (?_:wpAny _ _ (Builtin.SmallTypes.nextOf (.ref a) >>= _) _ _ _)))
 refine wpAny_bind (nextT (J.extBut r1.extBut D.i1z) (T.extBut r1.extBut D.l1z) hx fun g2 J2 r2=>wpAny_pure ?_)
 have O2:IsPair g2 O c e:=r2.extBut _ _ D.TOi1 (r1.extBut _ _ D.TOz Ho)
 refine wpAny_bind (wpAny_seqItems O2 rfl (wpAny_bind (wpAny_updateSeq_pair O2 fun g3 (O3:IsPair g3 O x e) r3=>wpAny_bind (wpAny_letGo (wpAny_pure ?_)))))
 refine wpAny_bind (wpAny_bind (wpAny_onRaise (?_:wpAny _ _ (Builtin.SmallTypes.nextOf (.ref b) >>= _) _ _ _)))
 refine wpAny_bind (nextT (((L.extBut r1.extBut D.i2z).extBut r2.extBut D.i12.symm).extBut r3.extBut D.TOi2.symm) (((U.extBut r1.extBut D.l2z).extBut r2.extBut D.l2i1).extBut r3.extBut D.l2TO) hy fun g4 L4 r4=>wpAny_pure ?_)
 have O4:IsPair g4 O x e:=r4.extBut _ _ D.TOi2 O3
 refine wpAny_bind (wpAny_seqItems O4 rfl (wpAny_bind (wpAny_updateSeq_pair O4 fun g5 (O5:IsPair g5 O x y) r5=>wpAny_bind (wpAny_letGo (wpAny_pure (wpAny_pure ?_))))))
 refine wpAny_bind (wpAny_seqItems O5 rfl (wpAny_bind (wpAny_newTuple ?_)))
 have sz:g5.objs.size=s.heap.objs.size:=by rw[r5.1,r4.1,r3.1,r2.1,r1.1]
 have Z5:IsZip g5 Z P O .ellipsis:=r5.extBut _ _ D.TOz.symm (r4.extBut _ _ D.i2z.symm (r3.extBut _ _ D.TOz.symm (r2.extBut _ _ D.i1z.symm Z1)))
 have k5:∀n o,n≠Z→n≠O→n≠a→n≠b→s.heap.get? n=some o→g5.get? n=some o:=fun n o m1 m2 m3 m4 m5=>r5.extBut _ _ m2 (r4.extBut _ _ m4 (r3.extBut _ _ m2 (r2.extBut _ _ m3 (r1.extBut _ _ m1 m5))))
 have J5:IsTupIter g5 a t (j+1):=((J2.extBut r3.extBut D.TOi1.symm).extBut r4.extBut D.i12).extBut r5.extBut D.TOi1.symm
 have L5:IsTupIter g5 b u (k+1):=L4.extBut r5.extBut D.TOi2.symm
 have zl:Z<g5.objs.size:=Heap.lt_size Z5
 show wpAny _ _ (Builtin.SmallTypes.ownedTupleHandOut (.ref Z) (.ref g5.objs.size) >>= _) _ _ _
 refine wpAny_bind ?_
 unfold Builtin.SmallTypes.ownedTupleHandOut
 have Z6:IsZip (g5.push {cls:=.type "tuple",data:=.seq #[x,y]}) Z P O .ellipsis:=Heap.get?_push_of_some _ Z5
 refine wpAny_bind (wpAny_setField_rec Z6 (by simp) fun g7 (Z7:IsZip g7 Z P O (rawInt g5.objs.size)) r7=>?_)
 refine wpAny_setField_rec Z7 (by simp) fun g8 (Z8:IsZip g8 Z P O (rawInt g5.objs.size)) r8=>?_
 have up:∀n o,n≠Z→g5.get? n=some o→g8.get? n=some o:=fun n o m1 m2=>r8.extBut _ _ m1 (r7.extBut _ _ m1 (Heap.get?_push_of_some _ m2))
 have T8:IsPair g8 g5.objs.size x y:=r8.extBut _ _ (Yp zl) (r7.extBut _ _ (Yp zl) (Heap.get?_push_size _ rfl))
 rw[sz] at Z8 T8
 refine wpAny_pure ⟨_,rfl,(?_:Q (.ref g5.objs.size) _)⟩
 rw[sz]
 obtain⟨q1,w1,v1⟩:=J5
 obtain⟨q2,w2,v2⟩:=L5
 exact K g8 Z8 (up _ _ D.TOz O5) ⟨q1,up _ _ D.i1z w1,v1⟩ ⟨q2,up _ _ D.i2z w2,v2⟩ T8 fun n o m1 m2 m3 m4 m5=>up n o m1 (k5 n o m1 m2 m3 m4 m5)
theorem keq{Z P O a b t u:Addr}{j k:Nat}{vs ws:Array Value}{c e:Value}{Q:Fin→Shared→Prop}(n0:A.handled=none)(D:ZipApart Z P O a b t u)(Hz:IsZip s.heap Z P O .none)(Hi:IsPair s.heap P (.ref a) (.ref b))(Ho:IsPair s.heap O c e)
  (J:IsTupIter s.heap a t j) (L:IsTupIter s.heap b u k) (T:IsTup s.heap t vs) (U:IsTup s.heap u ws) (hxy:vs[j]?=none∨ws[k]?=none)
  (K:∀g x,(∀n o,n≠Z→n≠O→n≠a→n≠b→s.heap.get? n=some o→g.get? n=some o)→(∃o,g.get? x=some o∧o.cls=.type "StopIteration")→E (.ref x) {s with heap:=g}):
  wpAny (model prog w) A (Builtin.«zip.__next__» ⟨[.ref Z],[]⟩) Q E s:=by
 show wpAny _ _ (field (.ref Z) 2 >>= _) _ _ _
 refine wpAny_bind (wpAny_field Hz rfl (x:=.bool false) rfl (?_:wpAny _ _ (field (.ref Z) 3 >>= _) _ _ _))
 refine wpAny_bind (wpAny_field Hz rfl (x:=.ref P) rfl (wpAny_bind (wpAny_seqItems Hi rfl ?_)))
 show wpAny _ _ (Builtin.SmallTypes.ownedTupleIsFree (.ref Z) >>= _) _ _ _
 refine wpAny_bind ?_
 unfold Builtin.SmallTypes.ownedTupleIsFree
 refine wpAny_bind (wpAny_field Hz rfl (x:=.none) rfl (wpAny_pure ?_))
 simp only[if_true]
 refine wpAny_bind (wpAny_rule (wpAny_bind (wpAny_field Hz rfl (x:=.ref O) rfl (wpAny_bind (wpAny_setField_rec Hz (by simp) fun g1 (Z1:IsZip g1 Z P O .ellipsis) r1=>?_)))))
 refine wpAny_bind ?_
 simp only[Y5,List.zipIdx_nil,Y3,Y2]
 refine wpAny_bind (wpAny_bind (wpAny_onRaise (?_:wpAny _ _ (Builtin.SmallTypes.nextOf (.ref a) >>= _) _ _ _)))
 have noZ:∀{g:Heap} {x:Addr} {o:Obj},IsZip g Z P O .ellipsis→g.get? x=some o→o.cls=.type "StopIteration"→x≠Z:=fun hz ho hc z=>by
  subst z
  rw[hz] at ho
  cases ho
  simp at hc
 cases hx:vs[j]? with
 |none=>
  refine wpAny_bind (kcT n0 (J.extBut r1.extBut D.i1z) (T.extBut r1.extBut D.l1z) hx fun g2 x r2 ⟨o,ho,hc⟩=>?_)
  have Z2:IsZip g2 Z P O .ellipsis:=r2 _ _ D.i1z.symm Z1
  exact wpAny_setField_rec Z2 (by simp) fun g3 _ r3=>K g3 x (fun n o m1 _ m3 _ m5=>r3.extBut _ _ m1 (r2 _ _ m3 (r1.extBut _ _ m1 m5))) ⟨o,r3.extBut _ _ (noZ Z2 ho hc) ho,hc⟩
 |some x=>
  have hy:ws[k]?=none:=hxy.resolve_left (by rw[hx];simp)
  refine wpAny_bind (nextT (J.extBut r1.extBut D.i1z) (T.extBut r1.extBut D.l1z) hx fun g2 J2 r2=>wpAny_pure ?_)
  have O2:IsPair g2 O c e:=r2.extBut _ _ D.TOi1 (r1.extBut _ _ D.TOz Ho)
  refine wpAny_bind (wpAny_seqItems O2 rfl (wpAny_bind (wpAny_updateSeq_pair O2 fun g3 O3 r3=>wpAny_bind (wpAny_letGo (wpAny_pure ?_)))))
  refine wpAny_bind (wpAny_bind (wpAny_onRaise (?_:wpAny _ _ (Builtin.SmallTypes.nextOf (.ref b) >>= _) _ _ _)))
  refine wpAny_bind (kcT n0 (((L.extBut r1.extBut D.i2z).extBut r2.extBut D.i12.symm).extBut r3.extBut D.TOi2.symm) (((U.extBut r1.extBut D.l2z).extBut r2.extBut D.l2i1).extBut r3.extBut D.l2TO) hy fun g4 x' r4 ⟨o,ho,hc⟩=>?_)
  have Z4:IsZip g4 Z P O .ellipsis:=r4 _ _ D.i2z.symm (r3.extBut _ _ D.TOz.symm (r2.extBut _ _ D.i1z.symm Z1))
  exact wpAny_setField_rec Z4 (by simp) fun g5 _ r5=>K g5 x' (fun n o m1 m2 m3 m4 m5=>r5.extBut _ _ m1 (r4 _ _ m4 (r3.extBut _ _ m2 (r2.extBut _ _ m3 (r1.extBut _ _ m1 m5))))) ⟨o,r5.extBut _ _ (noZ Z4 ho hc) ho,hc⟩
theorem kdc{Z P O a b t u:Addr}{j k:Nat}{vs ws:Array Value}{x y c e:Value}{Q:Option Value→Shared→Prop}(D:ZipApart Z P O a b t u)(Hz:IsZip s.heap Z P O .none)(Hi:IsPair s.heap P (.ref a) (.ref b))(Ho:IsPair s.heap O c e)
  (J:IsTupIter s.heap a t j) (L:IsTupIter s.heap b u k) (T:IsTup s.heap t vs) (U:IsTup s.heap u ws) (hx:vs[j]?=some x) (hy:ws[k]?=some y)
  (K:∀g,IsZip g Z P O (rawInt s.heap.objs.size)→IsPair g O x y→IsTupIter g a t (j+1)→IsTupIter g b u (k+1)→IsPair g s.heap.objs.size x y→
   (∀n o,n≠Z→n≠O→n≠a→n≠b→s.heap.get? n=some o→g.get? n=some o)→Q (some (.ref s.heap.objs.size)) {s with heap:=g}):wpAny (model prog w) A (pyNext (.ref Z)) Q E s:=by
 have ty:s.TypeIs (.ref Z) "zip":=⟨_,Hz,rfl⟩
 unfold pyNext
 exact wpAny_bind (wpAny_attempt (wpAny_callSpecial?_slot (name:=Str.ofString "__next__") ty F.slot_zip_next (wpAny_call_entry F.slot_zip_next ty F.entry_zip_next (zipT D Hz Hi Ho J L T U hx hy fun g q1 q2 q3 q4 q5 q6=>wpAny_pure (K g q1 q2 q3 q4 q5 q6)) (F.args_zip_next_1 _))))
theorem kbY{Z P O a b t u:Addr}{j k:Nat}{vs ws:Array Value}{c e:Value}{Q:Option Value→Shared→Prop}(n0:A.handled=none)(D:ZipApart Z P O a b t u)(Hz:IsZip s.heap Z P O .none)(Hi:IsPair s.heap P (.ref a) (.ref b))(Ho:IsPair s.heap O c e)
  (J:IsTupIter s.heap a t j) (L:IsTupIter s.heap b u k) (T:IsTup s.heap t vs) (U:IsTup s.heap u ws) (hxy:vs[j]?=none∨ws[k]?=none)
  (K:∀g,(∀n o,n≠Z→n≠O→n≠a→n≠b→s.heap.get? n=some o→g.get? n=some o)→Q none {s with heap:=g}):wpAny (model prog w) A (pyNext (.ref Z)) Q E s:=by
 have ty:s.TypeIs (.ref Z) "zip":=⟨_,Hz,rfl⟩
 unfold pyNext
 refine wpAny_bind (wpAny_attempt (wpAny_callSpecial?_slot (name:=Str.ofString "__next__") ty F.slot_zip_next (wpAny_call_entry F.slot_zip_next ty F.entry_zip_next (keq n0 D Hz Hi Ho J L T U hxy fun g x hk ⟨o,ho,hc⟩=>?_) (F.args_zip_next_1 _))))
 exact wpAny_bind (wpAny_isInstance (T:="StopIteration") (b:=true) ⟨o,ho,hc⟩ isSubtype_stop (wpAny_pure (K _ hk)))
end
end L2
namespace L2
open PySem PySem.Spec PyProof.Rows
noncomputable abbrev zT1(h:Heap)(t:Addr):Heap:=h.push {cls:=.type "tuple_iterator",data:=.fields #[.ref t, .int 0 0]}
noncomputable abbrev zT3(h:Heap)(t u:Addr):Heap:=(zT1 (zT1 h t) u).push {cls:=.type "tuple",data:=.seq #[.ref h.objs.size, .ref (zT1 h t).objs.size]}
noncomputable abbrev zT4(h:Heap)(t u:Addr):Heap:=(zT3 h t u).push {cls:=.type "tuple",data:=.seq #[.none, .none]}
noncomputable abbrev zT5(h:Heap)(t u:Addr):Heap:=(zT4 h t u).push {cls:=.type "zip",data:=.fields #[.none, .bool false, .bool false, .ref (zT1 (zT1 h t) u).objs.size, .ref (zT3 h t u).objs.size]}
theorem kep(t u:Addr)(vs ws:Array Value):Meets (Builtin.«zip.__new__» ⟨[.type "zip", .ref t, .ref u],[]⟩) (fun _ R s=>IsTup s.heap t vs∧IsTup s.heap u ws∧R (.ok (.ret (.ref (zT4 s.heap t u).objs.size))) {s with heap:=zT5 s.heap t u}):=
 .of_wp fun prog w A R s h=>by
  obtain⟨hp,g,d,tk,os⟩:=s
  obtain⟨T,U,h⟩:=h
  have hsub:=PySem.sub_zip
  have T':IsTup (Shared.heap ⟨hp,g,d,tk,os⟩) t vs:=T
  have U':IsTup (Shared.heap ⟨hp.push {cls:=.type "tuple_iterator",data:=.fields #[.ref t, .int 0 0]},g,d,tk,os⟩) u ws:=IsTup.push U _
  wp_walk using iter_tuple T',iter_tuple U'
  exact⟨_,rfl,h⟩
section
variable {prog:Program} {w:World} {A:Around} {E:Value→Shared→Prop} {s:Shared}
theorem kek{t u:Addr}{vs ws:Array Value}{Q:Value→Shared→Prop}(T:IsTup s.heap t vs)(U:IsTup s.heap u ws)
  (K:∀g,IsZip g (s.heap.objs.size+4) (s.heap.objs.size+2) (s.heap.objs.size+3) .none→IsPair g (s.heap.objs.size+2) (.ref s.heap.objs.size) (.ref (s.heap.objs.size+1))→IsPair g (s.heap.objs.size+3) .none .none→IsTupIter g s.heap.objs.size t 0→IsTupIter g (s.heap.objs.size+1) u 0→
   (∀n o,s.heap.get? n=some o→g.get? n=some o)→Q (.ref (s.heap.objs.size+4)) {s with heap:=g}):wpAny (model prog w) A (call (.type "zip") [.ref t, .ref u]) Q E s:=by
 refine callType_new F.called_zip (by decide) (F.typeCall_zip_2 _ _) (F.newCall_zip_2 _ _) (fun o=>F.args_object_init_3 o _ _) F.entry_zip_new (kep t u vs ws) ⟨T,U,?_⟩
 have y1:(zT1 s.heap t).objs.size=s.heap.objs.size+1:=Heap.size_push ..
 have y2:(zT1 (zT1 s.heap t) u).objs.size=s.heap.objs.size+2:=by rw[Heap.size_push,y1]
 have y3:(zT3 s.heap t u).objs.size=s.heap.objs.size+3:=by rw[Heap.size_push,y2]
 have y4:(zT4 s.heap t u).objs.size=s.heap.objs.size+4:=by rw[Heap.size_push,y3]
 have w5:(zT5 s.heap t u).get? (zT4 s.heap t u).objs.size=some _:=Heap.get?_push_size _ rfl
 have w4:(zT5 s.heap t u).get? (zT3 s.heap t u).objs.size=some _:=Heap.get?_push_of_some _ (Heap.get?_push_size _ rfl)
 have up:∀{n:Addr} {o:Obj},(zT1 (zT1 s.heap t) u).get? n=some o→(zT5 s.heap t u).get? n=some o:=fun q=>Heap.get?_push_of_some _ (Heap.get?_push_of_some _ (Heap.get?_push_of_some _ q))
 have w3:(zT5 s.heap t u).get? (zT1 (zT1 s.heap t) u).objs.size=some _:=Heap.get?_push_of_some _ (Heap.get?_push_of_some _ (Heap.get?_push_size _ rfl))
 have w2:(zT5 s.heap t u).get? (zT1 s.heap t).objs.size=some _:=up (Heap.get?_push_size _ rfl)
 have w1:(zT5 s.heap t u).get? s.heap.objs.size=some _:=up (Heap.get?_push_of_some _ (Heap.get?_push_size _ rfl))
 show _∧_
 rw[y2,y3,y4] at w5
 rw[y1,y2] at w3
 rw[y3] at w4
 rw[y1] at w2
 rw[y4]
 exact⟨⟨_,w5,rfl⟩,K _ w5 w3 w4 ⟨_,w1,rfl,rfl⟩ ⟨_,w2,rfl,rfl⟩ fun n o q=>up (Heap.get?_push_of_some _ (Heap.get?_push_of_some _ q))⟩
end
section
variable {X:Cx}
noncomputable def Itzt(a b:Addr):It:=⟨fun i H=>∃xs ys x y,H a=some (.tup xs)∧H b=some (.tup ys)∧xs[i]?=some x∧ys[i]?=some y,
 fun i H v H'=>∃t x y,H t=none∧v=.ref t∧H'=upd H t (.tup [x,y])∧(∀xs,H a=some (.tup xs)→xs[i]?=some x)∧∀ys,H b=some (.tup ys)→ys[i]?=some y,
 fun i H=>∃xs ys,H a=some (.tup xs)∧H b=some (.tup ys)∧(xs.length≤i∨ys.length≤i)⟩
theorem kdL{P:Program}{w:World}{K:XQ}{es:List Expr}{k:Nat}{pos:Pos}(a b z TI TO i1 i2:Addr)(nd:[z,TI,TO,i1,i2].Nodup):
  Turn P w K (.Tuple es k pos) (Itzt a b) [z,TI,TO,i1,i2] z (fun i h=>IsZip h z TI TO .none∧IsPair h TI (.ref i1) (.ref i2)∧(∃u v,IsPair h TO u v)∧IsTupIter h i1 a i∧IsTupIter h i2 b i) where
 mem:=by simp
 obj:=fun i h st b hb=>by
  obtain⟨hz,hI,⟨_,_,hO⟩,⟨o1,e1,_,d1⟩,⟨o2,e2,_,d2⟩⟩:=st
  simp only[X1,X8,or_false] at hb
  rcases hb with rfl|rfl|rfl|rfl|rfl
  ·exact⟨_,hz,fun v q=>by cases(show Data.fields _=Data.cell v from q)⟩
  ·exact⟨_,hI,fun v q=>by cases(show Data.seq _ _=Data.cell v from q)⟩
  ·exact⟨_,hO,fun v q=>by cases(show Data.seq _ _=Data.cell v from q)⟩
  ·exact⟨o1,e1,fun v q=>by rw[d1] at q;cases q⟩
  ·exact⟨o2,e2,fun v q=>by rw[d2] at q;cases q⟩
 keep:=fun i h h' st kk=>by
  obtain⟨hz,hI,⟨u,v,hO⟩,h1,h2⟩:=st
  exact⟨kk z (by simp) _ hz,kk TI (by simp) _ hI,⟨u,v,kk TO (by simp) _ hO⟩,(let⟨o,e,q⟩:=h1;⟨o,kk i1 (by simp) o e,q⟩),(let⟨o,e,q⟩:=h2;⟨o,kk i2 (by simp) o e,q⟩)⟩
 item:=by
  intro X hP hw hK hc i pins s σ H E I hf st hg
  subst hP hw hK
  obtain⟨hz,hI,⟨u,v,hO⟩,h1,h2⟩:=st
  obtain⟨xs,ys,x,y,ha,hb,hx,hy⟩:=hg
  obtain⟨its1,r1,L1,_⟩:=I.tuple (SqT.of ha)
  obtain⟨its2,r2,L2',_⟩:=I.tuple (SqT.of hb)
  obtain⟨u1,g1,ru1⟩:=r1.get hx
  obtain⟨u2,g2,ru2⟩:=r2.get hy
  have off:∀{l:Addr} {zs:List V},H l=some (.tup zs)→l∉[z,TI,TO,i1,i2]:=fun {l zs} e m=>by
   have:=(hf l m).1
   rw[this] at e
   cases e
  have oa:=off ha
  have ob:=off hb
  have nd':=nd
  simp only[Yr,X1,X8,or_false,not_or,YK,and_true,not_false_eq_true] at nd' oa ob
  obtain⟨⟨nzI,nzO,nz1,nz2⟩,⟨nIO,nI1,nI2⟩,⟨nO1,nO2⟩,n12⟩:=nd'
  have D:ZipApart z TI TO i1 i2 a b:=⟨Ne.symm nzI,Ne.symm nzO,Ne.symm nz1,Ne.symm nz2,nIO,nI1,nI2,nO1,nO2,n12,oa.1,oa.2.2.1,oa.2.2.2.1,oa.2.2.2.2,ob.1,ob.2.2.1,ob.2.2.2.1,ob.2.2.2.2⟩
  refine kdc D hz hI hO h1 h2 L1 L2' (x:=u1) (y:=u2) (by simpa using g1) (by simpa using g2) fun h' a1 a2 a3 a4 a5 a7=>?_
  refine⟨.ref s.heap.objs.size,rfl,wpAny_letOwnedTupleGo_zip a1 fun h2' z2 s2=>?_⟩
  have s2':Heap.SameBut z h' h2':=s2
  have zl:z<s.heap.objs.size:=Heap.lt_size hz
  have kk:∀b o,b∉[z,TI,TO,i1,i2]→s.heap.get? b=some o→h2'.get? b=some o:=fun b o hb eo=>by
   simp only[X1,X8,or_false,not_or] at hb
   exact(s2'.2 b hb.1).trans (a7 b o hb.1 hb.2.2.1 hb.2.2.2.1 hb.2.2.2.2 eo)
  have I1:Inv X pins σ H {s with heap:=h2',toks:=s.toks}:=I.turnedL (ch:=[z,TI,TO,i1,i2]) kk hf
  have fr:H s.heap.objs.size=none:=I.hok.fresh (XR _)
  have ft:FpOk X pins H s.heap.objs.size:=I.fpOk (XR _) fr
  have t2:h2'.get? s.heap.objs.size=some {cls:=.type "tuple",data:=.seq #[u1,u2]}:=(s2'.2 _ (Yp zl)).trans a5
  have I2:Inv X pins σ (upd H s.heap.objs.size (.tup [x,y])) {s with heap:=h2',toks:=s.toks}:=
   I1.adopt ft I.sz ⟨by show 2≤sizeLine;decide,[u1,u2], .cons ru1 (.cons ru2 .nil),_,t2,rfl,_,rfl⟩
  have hI2:IsPair h2' TI (.ref i1) (.ref i2):=(s2'.2 _ (Ne.symm nzI)).trans (a7 TI _ (Ne.symm nzI) nIO nI1 nI2 hI)
  refine⟨.ref s.heap.objs.size,_,I2,rfl,⟨s.heap.objs.size,x,y,fr,rfl,rfl,fun ws e=>by rw[ha] at e;cases e;exact hx,fun ws e=>by rw[hb] at e;cases e;exact hy⟩,
   ⟨z2,hI2,⟨_,_,(s2'.2 _ (Ne.symm nzO)).trans a2⟩,a3.extBut s2'.extBut (Ne.symm nz1),a4.extBut s2'.extBut (Ne.symm nz2)⟩,fun b hb=>?_⟩
  have hbl:b<s.heap.objs.size:=by
   simp only[X1,X8,or_false] at hb
   rcases hb with rfl|rfl|rfl|rfl|rfl
   ·exact zl
   ·exact Heap.lt_size hI
   ·exact Heap.lt_size hO
   ·obtain⟨o,e,_⟩:=h1;exact Heap.lt_size e
   ·obtain⟨o,e,_⟩:=h2;exact Heap.lt_size e
  rw[kak (X2 hbl)]
  exact(hf b hb).1
 done:=by
  intro X hP hw hK hc i pins s σ H E I hf st hg
  subst hP hw hK
  obtain⟨hz,hI,⟨u,v,hO⟩,h1,h2⟩:=st
  obtain⟨xs,ys,ha,hb,hx⟩:=hg
  obtain⟨its1,r1,L1,_⟩:=I.tuple (SqT.of ha)
  obtain⟨its2,r2,L2',_⟩:=I.tuple (SqT.of hb)
  have hlen1:=r1.length
  have hlen2:=r2.length
  have off:∀{l:Addr} {zs:List V},H l=some (.tup zs)→l∉[z,TI,TO,i1,i2]:=fun {l zs} e m=>by
   have:=(hf l m).1
   rw[this] at e
   cases e
  have oa:=off ha
  have ob:=off hb
  have nd':=nd
  simp only[Yr,X1,X8,or_false,not_or,YK,and_true,not_false_eq_true] at nd' oa ob
  obtain⟨⟨nzI,nzO,nz1,nz2⟩,⟨nIO,nI1,nI2⟩,⟨nO1,nO2⟩,n12⟩:=nd'
  have D:ZipApart z TI TO i1 i2 a b:=⟨Ne.symm nzI,Ne.symm nzO,Ne.symm nz1,Ne.symm nz2,nIO,nI1,nI2,nO1,nO2,n12,oa.1,oa.2.2.1,oa.2.2.2.1,oa.2.2.2.2,ob.1,ob.2.2.1,ob.2.2.2.1,ob.2.2.2.2⟩
  refine kbY (I.ok.hd hc) D hz hI hO h1 h2 L1 L2' ?_ fun h' hk=>⟨rfl,?_⟩
  ·rcases hx with hx|hx
   ·exact .inl (by simp;omega)
   ·exact .inr (by simp;omega)
  ·refine I.turnedL (t':=s.toks) (ch:=[z,TI,TO,i1,i2]) (fun b o hb e=>?_) hf
   simp only[X1,X8,or_false,not_or] at hb
   exact hk b o hb.1 hb.2.2.1 hb.2.2.2.1 hb.2.2.2.2 e
 self:=fun _ _ _ _ _ st h=>wpAny_pyIter_zip st.1 h
end
theorem kej{a b:Addr}{xs ys:List V}{g:TG}{te:TE}{σ:St}{H:Hp}{R:List V→Hp→Addr→Prop}(Pv:Nat→St→List V→Hp→Prop)(h0:Pv 0 σ [] H)(hz:min xs.length ys.length≤sizeLine)(hl:∀i σ zs H,i≤min xs.length ys.length→Pv i σ zs H→H a=some (.tup xs)∧H b=some (.tup ys)∧zs.length=i)
  (hs:∀i x y t σ zs H,xs[i]?=some x→ys[i]?=some y→Pv i σ zs H→H t=none→g (.ref t) σ (upd H t (.tup [x,y])) fun σ2 H2=>te σ2 H2 fun z H3=>Pv (i+1) σ2 (zs++[z]) H3) (hd:∀σ zs H,Pv (min xs.length ys.length) σ zs H→∀D,H D=none→R zs H D):
  ∃ W:Nat→Nat→St→List V→Hp→Prop,(∃m,W 0 m σ [] H)∧∀i m σ' zs H',W i m σ' zs H'→
   ((Itzt a b).stop i H'∧∀D,H' D=none→R zs H' D)∨((Itzt a b).go i H'∧zs.length<sizeLine∧∃N:St→V→Hp→Prop,(∀σ2 y H4,N σ2 y H4→∃m',m'<m∧W (i+1) m' σ2 (zs++[y]) H4)∧
    ∀x H2,(Itzt a b).yld i H' x H2→g x σ' H2 fun σ2 H3=>te σ2 H3 (N σ2)):=by
 refine⟨fun i m σ zs H=>m=min xs.length ys.length-i∧i≤min xs.length ys.length∧Pv i σ zs H,⟨min xs.length ys.length,by simp,Yy _,h0⟩,?_⟩
 rintro i m σ zs H ⟨rfl,hi,p⟩
 obtain⟨q1,q2,el⟩:=hl i σ zs H hi p
 by_cases hlt:i<min xs.length ys.length
 ·refine .inr ⟨⟨xs,ys,xs[i]'(by omega),ys[i]'(by omega),q1,q2,by simp[show i<xs.length by omega],by simp[show i<ys.length by omega]⟩,by omega,fun σ2 y H3=>Pv (i+1) σ2 (zs++[y]) H3,fun σ' y H' p'=>⟨min xs.length ys.length-(i+1),by omega,rfl,hlt,p'⟩,fun x H' yl=>?_⟩
  obtain⟨t,x,y,hn,rfl,rfl,h1,h2⟩:=yl
  exact hs i x y t σ zs _ (h1 _ q1) (h2 _ q2) p hn
 ·have e:i=min xs.length ys.length:=by omega
  refine .inl ⟨⟨xs,ys,q1,q2,by omega⟩,?_⟩
  rw[e] at p
  exact hd σ zs H p
end L2
namespace L2
open PySem PySem.Spec PyProof.Rows
section
variable {X:Cx}
noncomputable def iZipG(ta:TA):TI:=fun σ H R=>ta σ H fun vs H1=>(∃a b xs ys,vs=[.ref a, .ref b]∧H1 a=some (.lst xs)∧H1 b=some (.lst ys)∧R (Itz a b) H1)∨(∃a b xs ys,vs=[.ref a, .ref b]∧H1 a=some (.tup xs)∧H1 b=some (.tup ys)∧R (Itzt a b) H1)
theorem keu{es:List Expr}{k:Nat}{tpos:Pos}{e1 e2:Expr}{ta:TA}{p pos:Pos}(hg:Gl X "zip")(hm:X.mg "zip"=none)(ha:PA X [e1,e2] ta)(he:starEach [e1,e2] X.env=(false,eval e1 X.env)::starEach [e2] X.env:=by rfl)
  (hpl:(backTo pos (starEach [e2] X.env)).any (·.1)=false:=by rfl):PI X (.Tuple es k tpos) (.Call (.Name "zip" p) [e1,e2] [] pos) (iZipG ta):=by
 intro pins s σ H R I h
 refine Call_ (kb8 I hg hm kfK (PyProof.Rows.callWith_type1 (thn (ha pos pins s σ H _ I h) fun us s1 ⟨vs,H1,I1,r1,q1⟩=>?_) he hpl))
 rcases q1 with⟨a,b,xs,ys,rfl,qa,qb,q⟩|⟨a,b,xs,ys,rfl,qa,qb,q⟩
 ·cases r1 with
  | cons ra rr=>
   cases rr with
   |cons rb rr=>
    cases rr
    cases ra
    cases rb
    obtain⟨its1,n1,_,ho1,_⟩:=I1.lst qa
    obtain⟨its2,n2,_,ho2,_⟩:=I1.lst qb
    refine call_zip_2 (xs:=its1.toArray) (ys:=its2.toArray) ⟨_,ho1,rfl,n1,rfl⟩ ⟨_,ho2,rfl,n2,rfl⟩ fun h' b1 b2 b3 b4 b5 _ hk=>wpAny_pyIter_zip b1 ?_
    have I2:Inv X pins σ H1 {s1 with heap:=h'}:=I1.kept (t':=s1.toks) hk
    refine⟨s1.heap.objs.size+4,[s1.heap.objs.size+4,s1.heap.objs.size+2,s1.heap.objs.size+3,s1.heap.objs.size,s1.heap.objs.size+1],_,_,H1,rfl,I2,ker a b _ _ _ _ _ (kee _),⟨b1,b2,⟨_,_,b3⟩,b4,b5⟩,fun x hx=>?_,q⟩
    have hle:s1.heap.objs.size≤x:=kef hx
    exact I1.fpOk hle (I1.hok.fresh hle)
 ·cases r1 with
  | cons ra rr=>
   cases rr with
   |cons rb rr=>
    cases rr
    cases ra
    cases rb
    obtain⟨its1,_,L1,_⟩:=I1.tuple (SqT.of qa)
    obtain⟨its2,_,L2',_⟩:=I1.tuple (SqT.of qb)
    refine kek L1 L2' fun h' b1 b2 b3 b4 b5 hk=>wpAny_pyIter_zip b1 ?_
    have I2:Inv X pins σ H1 {s1 with heap:=h'}:=I1.kept (t':=s1.toks) hk
    refine⟨s1.heap.objs.size+4,[s1.heap.objs.size+4,s1.heap.objs.size+2,s1.heap.objs.size+3,s1.heap.objs.size,s1.heap.objs.size+1],_,_,H1,rfl,I2,kdL a b _ _ _ _ _ (kee _),⟨b1,b2,⟨_,_,b3⟩,b4,b5⟩,fun x hx=>?_,q⟩
    have hle:s1.heap.objs.size≤x:=kef hx
    exact I1.fpOk hle (I1.hok.fresh hle)
end
end L2
namespace L2
open PySem PySem.Spec PyProof.Rows
noncomputable def nxo:HO→Bool
 | .ext _=>false
 |_=>true
noncomputable def NX(H:Hp)(p:Addr):Prop:=∀φ,H p≠some (.ext φ)
theorem nx{H:Hp}{p:Addr}{o:HO}(h:H p=some o)(n:nxo o=true:=by rfl):NX H p:=fun φ z=>by
 rw[h] at z
 cases z
 cases n
theorem nx0{H:Hp}{p:Addr}(h:H p=none):NX H p:=fun φ z=>by
 rw[h] at z
 cases z
theorem kbL{H:Hp}{p q:Addr}{o:HO}(h:NX H p)(n:nxo o=true:=by rfl):NX (upd H q o) p:=fun φ z=>by
 by_cases e:p=q
 ·subst e
  rw[kae] at z
  cases z
  cases n
 ·rw[kak e] at z
  exact h φ z
noncomputable abbrev Ev(H H':Hp)(b:Addr)(o:HO):Prop:=match o with
 | .tbl _=>(∃ps,H' b=some (.tbl ps))∧(TbAt b H→TbAt b H')
 |o=>H' b=some o
theorem ev_eq{H H':Hp}{b:Addr}{o:HO}(e:H' b=some o)(t:TbAt b H→TbAt b H'):Ev H H' b o:=by
 cases o <;> first|exact e|exact⟨⟨_,e⟩,t⟩
theorem kfm{H H':Hp}{b:Addr}{o:HO}(e:Ev H H' b o):∃o',H' b=some o':=by
 cases o <;> first|exact⟨_,e⟩|exact⟨_,e.1.choose_spec⟩
theorem kbF{H H1 H2:Hp}{b:Addr}{o:HO}(e:Ev H H1 b o)(k:∀o,H1 b=some o→Ev H1 H2 b o):Ev H H2 b o:=by
 cases o with
 |tbl ps=>
  obtain⟨⟨ps1,e1⟩,t1⟩:=e
  obtain⟨e2,t2⟩:=(show Ev H1 H2 b (.tbl ps1) from k _ e1)
  exact⟨e2,fun h=>t2 (t1 h)⟩
 |_=>exact k _ e
theorem kcG{b p:Addr}{H:Hp}{o:HO}(h:TbAt b H)(n:b≠p)(hx:NX H p):TbAt b (upd H p o):=by
 obtain⟨ps,e,t,hor⟩:=h
 refine⟨ps,by rw[kak n];exact e,t,fun pos d ed=>?_⟩
 obtain⟨c,rfl,z2⟩:=hor pos d ed
 have hc:c≠p:=fun e=>by
  subst e
  exact hx _ z2
 exact⟨c,rfl,by rw[kak hc];exact z2⟩
noncomputable def Same(H H':Hp):Prop:=∀b o,H b=some o→Ev H H' b o
theorem Same.refl(H:Hp):Same H H:=fun _ _ h=>ev_eq h fun t=>t
theorem Same.trans{H H1 H2:Hp}(a:Same H H1)(b:Same H1 H2):Same H H2:=fun c o h=>kbF (a c o h) fun o' e=>b c o' e
theorem Same.free{H H':Hp}(e:Same H H'){l:Addr}(h:H' l=Option.none):H l=Option.none:=by
 cases q:H l with
 |none=>rfl
 |some o=>
  obtain⟨o',e'⟩:=kfm (e l o q)
  rw[e'] at h
  cases h
theorem Same.seq{K:XQ}{H H':Hp}{a:Addr}{xs:List V}(e:Same H H')(h:SqL K H a xs):SqL K H' a xs:=by
 rcases h with(h|⟨o,h⟩)|h
 ·exact .inl (.inl (e _ _ h))
 ·exact .inl (.inr ⟨o,e _ _ h⟩)
 ·exact .inr h
theorem Same.tb{H H':Hp}(s:Same H H'){b:Addr}(h:TbAt b H):TbAt b H':=by
 obtain⟨ps,e,r⟩:=id h
 exact(show Ev H H' b (.tbl ps) from s b _ e).2 h
theorem Grew.same{P:Addr}{H H':Hp}(g:Grew P H H')(TB:TbAt P H):Same H H':=fun b o e=>by
 obtain⟨ps,eP,ht,hor⟩:=TB
 by_cases h:b=P
 ·subst h
  rw[eP] at e
  cases e
  obtain⟨qs,e1,_⟩:=id g.tb
  exact⟨⟨qs,e1⟩,fun _=>g.tb⟩
 ·refine ev_eq (g.kp b o h e) fun t=>?_
  obtain⟨qs,e1,t1,h1⟩:=t
  refine⟨qs,g.kp b _ h e1,t1,fun pos d ed=>?_⟩
  obtain⟨c,rfl,z⟩:=h1 pos d ed
  exact⟨c,rfl,g.kp c _ (ne_of z eP (by intro z;cases z)) z⟩
end L2
namespace L2
open PySem PySem.Spec PyProof.Rows
end L2
namespace L2
open PySem PySem.Spec PyProof.Rows
theorem nd1(x:Str):([x]:List Str).Nodup:=by simp
noncomputable def But(x:Addr)(H H':Hp):Prop:=∀b o,b≠x→H b=some o→Ev H H' b o
theorem But.trans{x:Addr}{H H1 H2:Hp}(a:But x H H1)(b:But x H1 H2):But x H H2:=fun c o n h=>kbF (a c o n h) fun o' e=>b c o' n e
theorem But.same{x:Addr}{H H1 H2:Hp}(a:But x H H1)(b:Same H1 H2):But x H H2:=fun c o n h=>kbF (a c o n h) fun o' e=>b c o' e
theorem But.of_same{x:Addr}{H H1:Hp}(b:Same H H1):But x H H1:=fun c o _ h=>b c o h
theorem But.refl{x:Addr}{H:Hp}:But x H H:=fun b o _ h=>Same.refl H b o h
theorem kao{x:Addr}{H:Hp}{o:HO}(hx:NX H x:=by first|exact nx kae|exact nx (by assumption)|exact nx0 (by assumption)|exact kbL (nx kae) rfl|exact kbL (nx (by assumption)) rfl):But x H (upd H x o):=fun b u n e=>ev_eq (by rw[kak n];exact e) fun t=>kcG t n hx
theorem kaj{H:Hp}{p:Addr}{o:HO}(hp:H p=none):Same H (upd H p o):=fun b u e=>ev_eq (by rw[kak (kai e hp)];exact e) fun t=>kcG t (kai e hp) (nx0 hp)
theorem kay{H H':Hp}{p:Addr}{o:HO}(hp:H p=none)(s:Same H H')(hx:NX H' p:=by first|exact nx (by assumption)|exact nx kae|exact kbL (nx (by assumption)) rfl|exact kbL (nx kae) rfl|exact kbL (nx0 (by assumption)) rfl|exact kbL (kbL (nx (by assumption)) rfl) rfl):Same H (upd H' p o):=fun b u e=>
 kbF (s b u e) fun u' e'=>ev_eq (by rw[kak (kai e hp)];exact e') fun t=>kcG t (kai e hp) hx
theorem kcn{H:Hp}{x dx C:Addr}(hx:H x=none)(nd:H dx=none):Same H (upd (upd H dx (.own x)) x (.ins C dx [])):=fun b u e=>by
 have n1:=kai e hx
 have n2:=kai e nd
 exact ev_eq (by rw[kak n1,kak n2];exact e) fun t=>kcG (kcG t n2 (nx0 nd)) n1 (kbL (nx0 hx) rfl)
theorem kbf{H H':Hp}{x dx C:Addr}(hx:H x=none)(nd:H dx=none)(k:But x (upd (upd H dx (.own x)) x (.ins C dx [])) H'):Same H H':=fun b o e=>kbF (kcn (C:=C) hx nd b o e) fun o' e'=>k b o' (kai e hx) e'
theorem kal{f:Str}{v:V}:∀{fs:List (Str×V)} {n:Nat},fs.length≤n→(putF f v fs).length≤n+1
 |[],n,_=>by
  show 1≤n+1
  omega
 | (g,x)::r,n,h=>by
  show(if g=f then(g,v)::r else(g,x)::putF f v r).length≤n+1
  have h':r.length+1≤n:=h
  split
  ·show r.length+1≤n+1
   omega
  ·show(putF f v r).length+1≤n+1
   have:=kal (f:=f) (v:=v) (fs:=r) (n:=n-1) (by omega)
   omega
theorem few{fs:List (Str×V)}(h:fs.length≤20):fs.length<1000:=by omega
theorem kck{ns:List Addr}{i:Nat}{x:V}(h:(ns.map V.ref)[i]?=some x):∃z,ns[i]?=some z∧x=V.ref z:=by
 rw[Ys] at h
 cases e:ns[i]? with
 |none=>rw[e] at h;cases h
 |some z=>rw[e] at h;exact⟨z,rfl,(Option.some.inj h).symm⟩
theorem keZ{α:Type}{g: α→V}{ns:List α}{i:Nat}{x:V}(h:(ns.map g)[i]?=some x):∃z,ns[i]?=some z∧x=g z:=by
 rw[Ys] at h
 cases e:ns[i]? with
 |none=>rw[e] at h;cases h
 |some z=>rw[e] at h;exact⟨z,rfl,(Option.some.inj h).symm⟩
theorem at_lt{α:Type}{xs:List α}{i:Nat}{x: α}(h:xs[i]?=some x):i<xs.length:=(Yv.mp h).1
theorem at_of{α:Type}{xs:List α}{i:Nat}(h:i<xs.length):∃x,xs[i]?=some x:=⟨xs[i],by simp[h]⟩
inductive P2 {α β:Type} (R: α→β→Prop):List α→List β→Prop
 |nil:P2 R [] []
 |cons {a: α} {b: β} {as:List α} {bs:List β} (h:R a b) (t:P2 R as bs):P2 R (a::as) (b::bs)
section
variable {α β:Type} {R R': α→β→Prop} {as as':List α} {bs bs':List β}
theorem P2.of(hl:as.length=bs.length)(h:∀(i:Nat) (a: α) (b: β),as[i]?=some a→bs[i]?=some b→R a b):P2 R as bs:=by
 induction as generalizing bs with
 |nil=>
  cases bs with
  |nil=>exact .nil
  |cons b bs=>cases hl
 |cons a as ih=>
  cases bs with
  |nil=>cases hl
  |cons b bs=>exact .cons (h 0 a b rfl rfl) (ih (by simpa using hl) fun i x y e1 e2=>h (i+1) x y (by simpa using e1) (by simpa using e2))
theorem P2.len(h:P2 R as bs):as.length=bs.length:=by
 induction h with
 |nil=>rfl
 |cons r t ih=>simp[ih]
theorem P2.get(h:P2 R as bs){i:Nat}{a: α}{b: β}(e1:as[i]?=some a)(e2:bs[i]?=some b):R a b:=by
 induction h generalizing i with
 |nil=>simp at e1
 | cons r t ih=>
  cases i with
  |zero=>
   simp at e1 e2
   subst e1 e2
   exact r
  |succ i=>exact ih (by simpa using e1) (by simpa using e2)
theorem P2.at(h:P2 R as bs){i:Nat}{a: α}(e1:as[i]?=some a):∃b,bs[i]?=some b∧R a b:=by
 obtain⟨b,e2⟩:=at_of (xs:=bs) (i:=i) (by rw[←h.len];exact at_lt e1)
 exact⟨b,e2,h.get e1 e2⟩
theorem P2.mono(h:P2 R as bs)(k:∀a b,R a b→R' a b):P2 R' as bs:=by
 induction h with
 |nil=>exact .nil
 |cons r t ih=>exact .cons (k _ _ r) ih
theorem P2.append(h:P2 R as bs)(h':P2 R as' bs'):P2 R (as++as') (bs++bs'):=by
 induction h with
 |nil=>exact h'
 |cons r t ih=>exact .cons r ih
theorem P2.snoc(h:P2 R as bs){a: α}{b: β}(r:R a b):P2 R (as++[a]) (bs++[b]):=h.append (.cons r .nil)
theorem P2.take(h:P2 R as bs)(k:Nat):P2 R (as.take k) (bs.take k):=by
 induction h generalizing k with
 |nil=>simpa using P2.nil
 |cons r t ih=>
  cases k with
  |zero=>exact .nil
  |succ k=>exact .cons r (ih k)
theorem P2.drop(h:P2 R as bs)(k:Nat):P2 R (as.drop k) (bs.drop k):=by
 induction h generalizing k with
 |nil=>simpa using P2.nil
 |cons r t ih=>
  cases k with
  |zero=>exact .cons r t
  |succ k=>exact ih k
theorem P2.reverse(h:P2 R as bs):P2 R as.reverse bs.reverse:=by
 induction h with
 |nil=>exact .nil
 |cons r t ih=>
  rw[YQ,YQ]
  exact ih.append (.cons r .nil)
end
noncomputable def oV:Option Int→V
 |none=>.non
 |some z=>.int z
noncomputable def spLaw(K:XQ):Sp:=fun vs H Q _=>∃(a:Addr) (ns:List Int),vs=[.ref a]∧SqL K H a (ns.map V.int)∧ns.length≤63∧∀H',Q (.bl true) H'
structure TxtB (mg:Str→Option Value):Prop where
 range:mg "range"=none
 len:mg "len"=none
 min:mg "min"=none
 max:mg "max"=none
 isi:mg "isinstance"=none
 bool:mg "bool"=none
 int:mg "int"=none
 list:mg "list"=none
 sum:mg "sum"=none
 enum:mg "enumerate"=none
 any:mg "any"=none
 all:mg "all"=none
 rev:mg "reversed"=none
 zip:mg "zip"=none
 abs:mg "abs"=none
 sorted:mg "sorted"=none
 tuple:mg "tuple"=none
 str:mg "str"=none
structure FunD (K:XQ) (x qual:Str) (st:Stmt) (f:Addr) (fd:FuncData):Prop where
 ex:∃(oc:Value) (od:Option Addr) (dV kV doc pm:Value) (an:Option Addr) (cdv ct:Value) (osl:Array (Option Value)),
  fd=XX x qual (kau st) (kar st) (kag st) dV kV doc pm an cdv ct∧K.lookup f=some ⟨oc,od, .func fd,osl⟩∧Ya K cdv qual=true
 kp:X0 K (.ref f)=true
theorem FunD.ok{P:Program}{w:World}{K:XQ}{mg:Str→Option Value}{base:Heap}{x qual:Str}{st:Stmt}{f:Addr}{fd:FuncData}{N ps:List Str}{k:Nat}{sp:Sp}(F:FunD K x qual st f fd)(S:kaA N ps (kag st))(len:∀vs H Q E,sp vs H Q E→vs.length=ps.length)
  (hbody:∀(cdv:Value) (A:Around) (outer:List Env) (s:Shared) (H:Hp) (vs:List V) (Q:VK) (E:XK),Room k (A.deeper (PyProof.Rows.envOfC qual (kag st) s.heap.objs.size f cdv))→sp vs H Q E→
   ∃t,PSs (cxOf CX0 P w K mg base N qual (kag st) f cdv A outer s H E).nox (kar st) t∧t {nx:=fun _ H'=>Q .non H',rt:=Q} (start N vs) H):FnOk P w K mg base CX0 (k+1) f fd ps sp:=by
 obtain⟨oc,od,dV,kV,doc,pm,an,cdv,ct,osl,rfl,lk,hcd⟩:=F.ex
 refine fn_of lk hcd S len fun A outer s H vs Q E hr hsp=>?_
 obtain⟨t,h,q⟩:=hbody cdv A outer s H vs Q E hr hsp
 exact⟨t,h.nox,q⟩
theorem kbd{K:XQ}{x qual:Str}{st:Stmt}{f:Addr}{oc:Value}{od an:Option Addr}{osl:Array (Option Value)}{dV kV doc pm cdv ct:Value}(l:K.lookup f=some ⟨oc,od, .func (XX x qual (kau st) (kar st) (kag st) dV kV doc pm an cdv ct),osl⟩)
  (c:Ya K cdv qual=true) (k:X0 K (.ref f)=true):FunD K x qual st f (XX x qual (kau st) (kar st) (kag st) dV kV doc pm an cdv ct):=⟨⟨oc,od,dV,kV,doc,pm,an,cdv,ct,osl,rfl,l,c⟩,k⟩
structure Dn (K:XQ) (mg:Str→Option Value) (x:Str) (st:Stmt) (ps:List Str) (f:Addr) (fd:FuncData):Prop where
 F:FunD K x x st f fd
 b:Binds K fd ps []
 m:mg x=some (.ref f)
structure Isi (K:XQ) (C:Addr):Prop where
 ha:XS K (.ref C) "__class__"=some (some (.builtin "object.__class__"))
 hn:YG K (.builtin "object.__class__") "__get__"=some (some (.builtin "getset_descriptor.__get__"))
 ht:YY K (.builtin "object.__class__")=some true
 hm:XT K C (.type "object")=some true
theorem kaz{K:XQ}{A B:Addr}{b:Bool}(mA:XT K A (.ref B)=some b)(ob:XT K B (.type "object")=some true)(ty:Yc K (.ref B)=some (.type "type"))(ne:A≠B):XW K (.ref A) (.ref B)=some b:=by
 have e:(Value.ref A==Value.ref B)=false:=beq_eq_false_iff_ne.mpr fun z=>ne (by injection z)
 obtain⟨cd,a,_⟩:=Option.bind_eq_some_iff.mp ob
 unfold XW PySem.W.kitCls PySem.W.subIn
 rw[e,if_neg X4]
 show(if((PySem.W.clsIn K B).isSome&&Yc K (.ref B)==some (.type "type"))=true then XT K A (.ref B) else none)=some b
 rw[a,ty,mA,if_pos (by simp)]
theorem kaT{K:XQ}{A B:Addr}(h:XT K A (.ref B)=some false)(hA:XT K A (.ref A)=some true):A≠B:=fun e=>by
 rw[←e,hA] at h
 cases h
structure ClsT (K:XQ) (mg:Str→Option Value) (nm:Str) (C:Addr):Prop where
 cl:Cls K C
 m:mg nm=some (.ref C)
 isi:Isi K C
 self:XT K C (.ref C)=some true
 ty:Yc K (.ref C)=some (.type "type")
 makes:Yf K C=true
 kp:X0 K (.ref C)=true
structure MthT (K:XQ) (C:Addr) (m qual:Str) (st:Stmt) (ps:List Str) (f:Addr) (fd:FuncData):Prop where
 at_:XS K (.ref C) m=some (some (.ref f))
 fn:Yl K (.ref f)=true
 F:FunD K m qual st f fd
 b:Binds K fd ps []
theorem MthT.mk'{K:XQ}{mg:Str→Option Value}{C:Addr}{nm qual:Str}{st:Stmt}{ps:List Str}{f:Addr}{fd:FuncData}(h:MthT K C "__init__" qual st ps f fd)(c:ClsT K mg nm C):Mk K C f:=⟨c.makes,h.at_,h.fn,c.kp⟩
end L2
namespace War
structure Row where
 kd:Int
 pr:Int
 mn:Int
 ex:Option Int
structure Row.Ok (r:Row):Prop where
 pr0:0≤r.pr
 pr1:r.pr≤1000000000000
 mn0:0≤r.mn
 mn1:r.mn≤60
 ex0:∀z,r.ex=some z→0≤z∧z≤1000000000000
noncomputable def own(rs:List Row):List Int:=(rs.zipIdx.map fun p=>Yh p.1.mn.toNat (p.2:Int)).flatten
theorem kdu:∀(rs:List Row) (k:Nat),(∀r∈rs,r.Ok)→((rs.zipIdx k).map fun p=>Yh p.1.mn.toNat (p.2:Int)).flatten.length≤60*rs.length
 |[],_,_=>by simp
 |r::rs,k,h=>by
  have h1:=kdu rs (k+1) fun x hx=>h x (Yb _ hx)
  have h2:=(h r Yi).mn1
  rw[Y5,YD,Y7,Yz,Zc,YC]
  show r.mn.toNat+_≤_
  omega
theorem kfe(rs:List Row)(h:∀r∈rs,r.Ok):(own rs).length≤60*rs.length:=kdu rs 0 h
theorem take_snoc{α:Type}{rs:List α}{i:Nat}{r: α}(h:rs[i]?=some r):rs.take (i+1)=rs.take i++[r]:=by
 rw[List.take_add_one,h]
 rfl
end War
namespace Kin
noncomputable def Good(ps:List (Option Nat)):Prop:=∀(i k:Nat),ps[i]?=some (some k)→k<i
noncomputable def anc(ps:List (Option Nat)):Nat→Nat→List Nat
 |0,_=>[]
 |f+1,i=>i::(match ps[i]? with|some (some k)=>anc ps f k|_=>[])
noncomputable def up(ps:List (Option Nat))(i:Nat):List Nat:=anc ps (i+1) i
noncomputable def rest(ps:List (Option Nat)):Option Nat→List Nat
 |none=>[]
 |some k=>up ps k
noncomputable def left:Option Nat→Nat
 |none=>0
 |some k=>k+1
theorem keF:Good []:=fun i k e=>by simp at e
theorem kcX{ps:List (Option Nat)}(g:Good ps){o:Option Nat}(h:∀k,o=some k→k<ps.length):Good (ps++[o]):=by
 intro i k e
 rcases Nat.lt_trichotomy i ps.length with hi|hi|hi
 ·rw[YI hi] at e
  exact g i k e
 ·subst hi
  rw[YE (XR _)] at e
  simp at e
  exact h k e
 ·rw[YE (by omega)] at e
  have:(i-ps.length)≠0:=by omega
  cases q:i-ps.length with
  |zero=>omega
  |succ n=>rw[q] at e;simp at e
end Kin
namespace Kin
end Kin
namespace Deal
noncomputable def pre(ws:List Int)(k:Nat):Int:=(ws.take k).sum
noncomputable def part(c:Int)(ws:List Int)(j:Nat):Int:=c*pre ws (j+1)/ws.sum-c*pre ws j/ws.sum
noncomputable def dl(c:Int)(ws:List Int):List Int:=if ws.sum=0 then ws.map (fun _=>0) else(Yn ws.length).map (part c ws)
noncomputable def Nn(ws:List Int):Prop:=∀w∈ws,0≤w
end Deal
namespace Vs
open Kin Deal
structure Mks where
 kind:Option Nat
 needs:Int
 most:Option Int
 member:Bool
 once:Bool
 lone:Bool
inductive Srt
 |off (a:Int)
 |share (s:Int) (b:Bool)
 |cheap (n:Int)
 |bund (n p:Int)
 |carr
structure Vch where
 so:Srt
 ms:Mks
structure Stnd where
 ow:List Nat
 pr:List Int
 cg:Int
 mkd:List Bool
noncomputable def qs(pr:List Int)(is:List Nat):List Int:=is.map fun i=>pr.getD i 0
noncomputable def bef(q:List Int)(a b:Nat):Prop:=q.getD b 0<q.getD a 0∨(q.getD a 0=q.getD b 0∧a<b)
noncomputable def Fall(q:List Int)(r:List Nat):Prop:=r.Perm (Yn q.length)∧r.Pairwise (bef q)
theorem keL{q:List Int}{a b:Nat}(h:bef q a b)(h':bef q b a):False:=by
 unfold bef at h h'
 omega
theorem kcK{R:Nat→Nat→Prop}(asym:∀a b,R a b→R b a→False):∀{l l':List Nat},l.Perm l'→l.Pairwise R→l'.Pairwise R→l=l'
 |[],l',p,_,_=>(List.nil_perm.mp p).symm
 | a ::l,l',p,h,h'=>by
  cases l' with
  |nil=>exact absurd p.length_eq (by simp)
  | cons b l'=>
   have hab:a=b:=by
    rcases Classical.em (a=b) with e|e
    ·exact e
    ·have ha:a∈b::l':=p.mem_iff.mp Yi
     have hb:b∈a::l:=p.mem_iff.mpr Yi
     rcases X1.mp ha with e1|ha
     ·exact absurd e1 e
     ·rcases X1.mp hb with e2|hb
      ·exact absurd e2.symm e
      ·exact(asym a b ((YS.mp h).1 b hb) ((YS.mp h').1 a ha)).elim
   subst hab
   congr 1
   exact kcK asym (YT.cons_inv p) (YS.mp h).2 (YS.mp h').2
theorem kdf{q:List Int}{r r':List Nat}(h:Fall q r)(h':Fall q r'):r=r':=
 kcK (fun _ _ a b=>keL a b) (h.1.trans h'.1.symm) h.2 h'.2
end Vs
namespace Vs
open Kin Deal
noncomputable def Le2(xs ys:List Int):Prop:=xs.length=ys.length∧∀(j:Nat) (v w:Int),xs[j]?=some v→ys[j]?=some w→0≤v∧v≤w
theorem Le2.nil:Le2 [] []:=⟨rfl,fun j v w e=>by simp at e⟩
theorem Le2.self{xs:List Int}(h:Nn xs):Le2 xs xs:=⟨rfl,fun j v w e1 e2=>by
 rw[e1] at e2
 cases e2
 exact⟨h v (YF e1),Int.le_refl _⟩⟩
theorem Le2.trans{xs ys zs:List Int}(h:Le2 xs ys)(h':Le2 ys zs):Le2 xs zs:=⟨h.1.trans h'.1,fun j v w e1 e2=>by
 have hj:j<xs.length:=(Yv.mp e1).1
 have e3:ys[j]?=some (ys[j]'(by rw[←h.1];exact hj)):=by simp[show j<ys.length by rw[←h.1];exact hj]
 have a:=h.2 j v _ e1 e3
 have b:=h'.2 j _ w e3 e2
 omega⟩
theorem Le2.append{xs ys xs' ys':List Int}(h:Le2 xs ys)(h':Le2 xs' ys'):Le2 (xs++xs') (ys++ys'):=by
 refine⟨by simp[h.1,h'.1],fun j v w e1 e2=>?_⟩
 have hl:=h.1
 rcases Nat.lt_or_ge j xs.length with hj|hj
 ·rw[YI hj] at e1
  rw[YI (by omega)] at e2
  exact h.2 j v w e1 e2
 ·rw[YE hj] at e1
  rw[YE (by omega),←hl] at e2
  exact h'.2 _ v w e1 e2
theorem Le2.sum:∀{xs ys:List Int},Le2 xs ys→0≤xs.sum∧xs.sum≤ys.sum
 |[],[],_=>by simp
 |[],_::_,h=>by have:=h.1;simp at this
 |_::_,[],h=>by have:=h.1;simp at this
 |x::xs,y::ys,h=>by
  have h0:=h.2 0 x y rfl rfl
  have h1:Le2 xs ys:=⟨by simpa using h.1,fun j v w e1 e2=>h.2 (j+1) v w (by simpa using e1) (by simpa using e2)⟩
  have h2:=Le2.sum h1
  simp
  omega
noncomputable def leQ(q:List Int)(a b:Nat):Bool:=decide (q.getD b 0<q.getD a 0∨(q.getD a 0=q.getD b 0∧a≤b))
noncomputable def ordQ(q:List Int):List Nat:=(Yn q.length).mergeSort (leQ q)
theorem kcN(q:List Int):(ordQ q).Perm (Yn q.length):=List.mergeSort_perm _ _
theorem kd3(q:List Int):Fall q (ordQ q):=by
 refine⟨kcN q,?_⟩
 have h1:(ordQ q).Pairwise (fun a b=>leQ q a b=true):=List.pairwise_mergeSort (le:=leQ q) (fun a b c h h'=>by simp only[leQ,decide_eq_true_eq] at *;omega) (fun a b=>by simp only[leQ,Bool.or_eq_true,decide_eq_true_eq];omega) _
 have h2:(ordQ q).Nodup:=(kcN q).nodup_iff.mpr List.nodup_range
 refine(h1.and h2).imp fun {a b} h=>?_
 have h3:=h.1
 have h4:a≠b:=h.2
 simp only[leQ,decide_eq_true_eq] at h3
 unfold bef
 omega
noncomputable def SrtOk:Srt→Prop
 | .off a=>0≤a∧a≤1000000000000
 | .share s _=>1≤s∧s≤1000
 | .cheap n=>2≤n∧n≤20
 | .bund n p=>2≤n∧n≤20∧0≤p∧p≤1000000000000
 | .carr=>True
noncomputable def cap(most:Option Int)(w:List Int)(f:Int):List Int×Int:=match most with
 |none=>(w,f)
 |some m=>if m<w.sum+f then(dl (min m w.sum) w,min f m) else(w,f)
end Vs
namespace Vs
open Kin Deal
structure Sel (q:List Int) (row left:List Nat):Prop where
 pm:(row++left).Perm (Yn q.length)
 inc:left.Pairwise (· < ·)
 pw:row.Pairwise (bef q)
 cr:∀r∈row,∀l∈left,bef q r l
theorem Sel.start(q:List Int):Sel q [] (Yn q.length):=⟨YT.refl _,List.pairwise_lt_range, .nil,fun r hr=>by simp at hr⟩
theorem Sel.lt{q:List Int}{row left:List Nat}(h:Sel q row left){i:Nat}(hi:i∈left):i<q.length:=by
 have:=h.pm.mem_iff.mp (X9 row hi)
 simpa using this
theorem Sel.len{q:List Int}{row left:List Nat}(h:Sel q row left):row.length+left.length=q.length:=by
 have:=h.pm.length_eq
 simpa using this
theorem Sel.fin{q:List Int}{row:List Nat}(h:Sel q row []):row=ordQ q:=by
 refine kdf ⟨?_,h.pw⟩ (kd3 q)
 have:=h.pm
 rwa [List.append_nil] at this
noncomputable def TopI(q:List Int)(left:List Nat)(i top:Nat):Prop:=(∃k,left[k]?=some top∧(k<i∨k=0))∧∀y∈left.take i,y=top∨bef q top y
theorem TopI.start{q:List Int}{left:List Nat}{t:Nat}(h:left[0]?=some t):TopI q left 0 t:=⟨⟨0,h, .inr rfl⟩,fun y hy=>by simp at hy⟩
theorem TopI.more{q:List Int}{left:List Nat}{i top x:Nat}(inc:left.Pairwise (· < ·))(h:TopI q left i top)(hx:left[i]?=some x):TopI q left (i+1) (if q.getD top 0<q.getD x 0 then x else top):=by
 obtain⟨⟨k,ek,hk⟩,hy⟩:=h
 have et:left.take (i+1)=left.take i++[x]:=by rw[List.take_add_one,hx];rfl
 split
 ·rename_i hlt
  refine⟨⟨i,hx, .inl (by omega)⟩,fun y hm=>?_⟩
  rw[et] at hm
  rcases YB.mp hm with h1|h1
  ·refine .inr (.inl ?_)
   rcases hy y h1 with rfl|h2
   ·exact hlt
   ·unfold bef at h2
    omega
  ·exact .inl (by simpa using h1)
 ·rename_i hge
  refine⟨⟨k,ek,by omega⟩,fun y hm=>?_⟩
  rw[et] at hm
  rcases YB.mp hm with h1|h1
  ·exact hy y h1
  ·have e:y=x:=by simpa using h1
   subst e
   by_cases hki:k=i
   ·subst hki
    rw[ek] at hx
    exact .inl (Option.some.inj hx).symm
   ·have hlt:top<y:=by
     obtain⟨l1,q1⟩:=Yv.mp ek
     obtain⟨l2,q2⟩:=Yv.mp hx
     have:=List.pairwise_iff_getElem.mp inc k i l1 l2 (by omega)
     rwa [q1,q2] at this
    refine .inr ?_
    unfold bef
    omega
theorem Sel.step{q:List Int}{row left:List Nat}{top:Nat}(h:Sel q row left)(ht:TopI q left left.length top):Sel q (row++[top]) (left.erase top)∧top∈left:=by
 obtain⟨⟨k,ek,_⟩,hy⟩:=ht
 have hm:=YF ek
 rw[Y8] at hy
 have nd:left.Nodup:=h.inc.imp fun hlt=>X2 hlt
 refine⟨⟨?_,h.inc.sublist (List.erase_sublist),?_,?_⟩,hm⟩
 ·refine YT.trans ?_ h.pm
  rw[List.append_assoc]
  exact YT.append_left row (List.perm_cons_erase hm).symm
 ·exact List.pairwise_append.mpr ⟨h.pw,List.pairwise_singleton _ _,fun r hr t ht=>by
   have e:t=top:=by simpa using ht
   subst e
   exact h.cr r hr t hm⟩
 ·intro r hr l hl
  have hl':=(nd.mem_erase_iff).mp hl
  rcases YB.mp hr with h1|h1
  ·exact h.cr r h1 l hl'.2
  ·have e:r=top:=by simpa using h1
   subst e
   rcases hy l hl'.2 with h2|h2
   ·exact absurd h2 hl'.1
   ·exact h2
end Vs
namespace Vs
open Kin Deal
end Vs
namespace Vs
open Kin Deal
end Vs
namespace Vs
open Kin Deal
end Vs
namespace Vs
open Kin Deal
section
variable {p:Nat→Bool} {n:Nat} {w:List Int}
end
end Vs
namespace Vs
open Kin Deal
noncomputable def ins:List (Nat×List Nat)→Nat→Nat→List (Nat×List Nat)
 |[],o,a=>[(o,[a])]
 |(l,g)::G,o,a=>if l=o then(l,g++[a])::G else(l,g)::ins G o a
section
variable {f:Nat→Nat} {is:List Nat} {D:List Nat→List Int}
end
end Vs
namespace Vs
open Kin Deal
end Vs
namespace Vs
open Kin Deal
structure Later (S S':Stnd):Prop where
 ow:S'.ow=S.ow
 pr:Le2 S'.pr S.pr
 cg:0≤S'.cg∧S'.cg≤S.cg
 mg:∀l,S.mkd.getD l false=true→S'.mkd.getD l false=true
theorem Later.refl{S:Stnd}(hn:Nn S.pr)(hc:0≤S.cg):Later S S:=⟨rfl,Le2.self hn,⟨hc,Int.le_refl _⟩,fun _ h=>h⟩
theorem Later.trans{S S' S'':Stnd}(h:Later S S')(h':Later S' S''):Later S S'':=⟨h'.ow.trans h.ow,h'.pr.trans h.pr,⟨h'.cg.1,Int.le_trans h'.cg.2 h.cg.2⟩,fun l e=>h'.mg l (h.mg l e)⟩
end Vs
namespace Vs
open PySem L2
noncomputable def top(i:Nat):Stmt:=PySem.Challenge.pw_voucherstack_k18_tills_kept.main.body.getD i (.Pass ⟨0,0,0,0⟩)
noncomputable abbrev kbl:Stmt:=top 11
noncomputable abbrev kbx:Stmt:=top 12
noncomputable abbrev kbo:Stmt:=top 13
noncomputable abbrev kbn:Stmt:=top 14
noncomputable abbrev ka8:Stmt:=top 15
noncomputable abbrev kbm:Stmt:=top 16
noncomputable abbrev ka7:Stmt:=top 17
noncomputable abbrev kbw:Stmt:=top 18
noncomputable abbrev kbv:Stmt:=top 19
noncomputable abbrev ka9:Stmt:=top 20
noncomputable abbrev kbk:Stmt:=top 21
noncomputable abbrev s_law:Stmt:=top 22
noncomputable abbrev kaC:Stmt:=inClass (top 1) 0
noncomputable abbrev kaK:Stmt:=inClass (top 3) 0
noncomputable abbrev kaB:Stmt:=inClass (top 4) 0
noncomputable abbrev kaS:Stmt:=inClass (top 5) 0
noncomputable abbrev kaJ:Stmt:=inClass (top 6) 0
noncomputable abbrev kav:Stmt:=inClass (top 7) 0
noncomputable abbrev kaF:Stmt:=inClass (top 8) 0
noncomputable abbrev kaw:Stmt:=inClass (top 9) 0
set_option genInjectivity false
set_option genSizeOf false
structure D where
 Qg:Addr
 Qh:FuncData
 Qi:Addr
 Qj:FuncData
 qw:Addr
 qx:FuncData
 Qk:Addr
 Ql:FuncData
 Qm:Addr
 Qn:FuncData
 Qo:Addr
 Qp:FuncData
 Qq:Addr
 Qr:FuncData
 Qs:Addr
 Qt:FuncData
 Qu:Addr
 Qv:FuncData
 Qw:Addr
 Qx:FuncData
 Qy:Addr
 Qz:FuncData
 f_law:Addr
 QA:FuncData
 qc:Addr
 QB:Addr
 qB:FuncData
 tok0_Till_init:Nat
 qd:Addr
 QC:Addr
 qt:FuncData
 tok1_Marks_init:Nat
 qq:Addr
 qQ:Addr
 qR:FuncData
 c_Off:Addr
 QD:Addr
 qS:FuncData
 qe:Addr
 QE:Addr
 qC:FuncData
 qg:Addr
 QF:Addr
 qT:FuncData
 qf:Addr
 QG:Addr
 qU:FuncData
 qh:Addr
 QH:Addr
 qV:FuncData
structure Wld (K:XQ) (mg:Str→Option Value) (d:D):Prop where
 B:TxtB mg
 qi:Dn K mg "_law_mixed" kbl ["_law_cell_here","_law_k"] d.Qg d.Qh
 qD:Dn K mg "_law_cell" kbx ["_law_script","_law_k"] d.Qi d.Qj
 qj:Dn K mg "_law_alike" kbo ["_law_found","_law_due"] d.qw d.qx
 ql:Dn K mg "_law_coins" kbn ["_law_drawn","_law_great"] d.Qk d.Ql
 qE:Dn K mg "_law_parents" ka8 ["_law_cell_here"] d.Qm d.Qn
 qF:Dn K mg "_law_marks" kbm ["_law_cell_here","_law_kinds","_law_great"] d.Qo d.Qp
 qG:Dn K mg "_law_voucher" ka7 ["_law_cell_here","_law_kinds","_law_great"] d.Qq d.Qr
 qH:Dn K mg "_law_made" kbw ["_law_told_here"] d.Qs d.Qt
 qI:Dn K mg "_law_told" kbv ["_law_voucher_here"] d.Qu d.Qv
 qo:Dn K mg "_law_is_till" ka9 ["_law_till","_law_parents_here","_law_vouchers","_law_rules_here","_law_due_back"] d.Qw d.Qx
 qJ:Dn K mg "_law_rules" kbk ["_law_cell_here","_law_many"] d.Qy d.Qz
 d_law:Dn K mg "law" s_law ["_law_script"] d.f_law d.QA
 qc:ClsT K mg "Till" d.qc
 QI:NoAttr K d.qc "parents"
 qW:NoAttr K d.qc "vouchers"
 QJ:NoAttr K d.qc "rules"
 QK:NoAttr K d.qc "back"
 qu:MthT K d.qc "__init__" "Till.__init__" kaC ["self","parents","vouchers","rules","back"] d.QB d.qB
 b1_Till_init:Binds K d.qB ["self","parents","vouchers","rules","back"] [.str "again" d.tok0_Till_init]
 qd:ClsT K mg "Marks" d.qd
 QL:NoAttr K d.qd "kind"
 QM:NoAttr K d.qd "needs"
 QN:NoAttr K d.qd "most"
 QO:NoAttr K d.qd "member"
 QP:NoAttr K d.qd "once"
 QQ:NoAttr K d.qd "lone"
 qK:MthT K d.qd "__init__" "Marks.__init__" kaK ["self","kind","needs","most","member","once","lone"] d.QC d.qt
 b1_Marks_init:Binds K d.qt ["self","kind","needs","most","member","once","lone"] [.bool false]
 b2_Marks_init:Binds K d.qt ["self","kind","needs","most","member","once","lone"] [.bool false, .bool false]
 b3_Marks_init:Binds K d.qt ["self","kind","needs","most","member","once","lone"] [.bool false, .bool false, .bool false]
 b4_Marks_init:Binds K d.qt ["self","kind","needs","most","member","once","lone"] [.none, .bool false, .bool false, .bool false]
 b5_Marks_init:Binds K d.qt ["self","kind","needs","most","member","once","lone"] [.int 0 d.tok1_Marks_init, .none, .bool false, .bool false, .bool false]
 b6_Marks_init:Binds K d.qt ["self","kind","needs","most","member","once","lone"] [.none, .int 0 d.tok1_Marks_init, .none, .bool false, .bool false, .bool false]
 qq:ClsT K mg "Voucher" d.qq
 qm:MthT K d.qq "__init__" "Voucher.__init__" kaB ["self","marks"] d.qQ d.qR
 b1_Voucher_init:Binds K d.qR ["self","marks"] [.none]
 g_Off:mg "Off"=some (.ref d.c_Off)
 c_Off:ClsT K mg "Off" d.c_Off
 QR:NoAttr K d.c_Off "amount"
 QS:NoAttr K d.c_Off "marks"
 qL:MthT K d.c_Off "__init__" "Off.__init__" kaS ["self","amount","marks"] d.QD d.qS
 b1_Off_init:Binds K d.qS ["self","amount","marks"] [.none]
 Q2:mg "Share"=some (.ref d.qe)
 qe:ClsT K mg "Share" d.qe
 QT:NoAttr K d.qe "share"
 QU:NoAttr K d.qe "by_line"
 QV:NoAttr K d.qe "marks"
 qX:MthT K d.qe "__init__" "Share.__init__" kaJ ["self","share","by_line","marks"] d.QE d.qC
 b1_Share_init:Binds K d.qC ["self","share","by_line","marks"] [.none]
 b2_Share_init:Binds K d.qC ["self","share","by_line","marks"] [.bool false, .none]
 Q3:mg "Cheapest"=some (.ref d.qg)
 qg:ClsT K mg "Cheapest" d.qg
 QW:NoAttr K d.qg "many"
 QX:NoAttr K d.qg "marks"
 qY:MthT K d.qg "__init__" "Cheapest.__init__" kav ["self","many","marks"] d.QF d.qT
 b1_Cheapest_init:Binds K d.qT ["self","many","marks"] [.none]
 Q4:mg "Bundle"=some (.ref d.qf)
 qf:ClsT K mg "Bundle" d.qf
 QY:NoAttr K d.qf "many"
 QZ:NoAttr K d.qf "price"
 Q0:NoAttr K d.qf "marks"
 qZ:MthT K d.qf "__init__" "Bundle.__init__" kaF ["self","many","price","marks"] d.QG d.qU
 b1_Bundle_init:Binds K d.qU ["self","many","price","marks"] [.none]
 Q5:mg "Carriage"=some (.ref d.qh)
 qh:ClsT K mg "Carriage" d.qh
 q9:NoAttr K d.qh "marks"
 Qa:MthT K d.qh "__init__" "Carriage.__init__" kaw ["self","marks"] d.QH d.qV
 b1_Carriage_init:Binds K d.qV ["self","marks"] [.none]
 kb_Till_3_back:kdB K d.qB ["self","parents","vouchers","rules","back"] ["back"] (gk 4 1 [.p 0, .p 1, .p 2, .p 3, .k 0]) (gkV 4 1 [.p 0, .p 1, .p 2, .p 3, .k 0])
 qy:BaseT K d.qq "__init__" d.qQ
 Q6:XW K (.ref d.qe) (.ref d.c_Off)=some false
 Q7:XW K (.ref d.qg) (.ref d.c_Off)=some false
 Q8:XW K (.ref d.qf) (.ref d.c_Off)=some false
 Q9:XW K (.ref d.qh) (.ref d.c_Off)=some false
 Xa:XW K (.ref d.c_Off) (.ref d.qe)=some false
 Xb:XW K (.ref d.qg) (.ref d.qe)=some false
 Xc:XW K (.ref d.qf) (.ref d.qe)=some false
 Xd:XW K (.ref d.qh) (.ref d.qe)=some false
 Xe:XW K (.ref d.c_Off) (.ref d.qg)=some false
 Xf:XW K (.ref d.qe) (.ref d.qg)=some false
 Xg:XW K (.ref d.qf) (.ref d.qg)=some false
 Xh:XW K (.ref d.qh) (.ref d.qg)=some false
 Xi:XW K (.ref d.c_Off) (.ref d.qf)=some false
 Xj:XW K (.ref d.qe) (.ref d.qf)=some false
 Xk:XW K (.ref d.qg) (.ref d.qf)=some false
 Xl:XW K (.ref d.qh) (.ref d.qf)=some false
 Xm:XW K (.ref d.c_Off) (.ref d.qh)=some false
 Xn:XW K (.ref d.qe) (.ref d.qh)=some false
 Xo:XW K (.ref d.qg) (.ref d.qh)=some false
 Xp:XW K (.ref d.qf) (.ref d.qh)=some false
end Vs
namespace Vs
open PySem L2 War Kin Deal
noncomputable def LineAt(C:Addr)(H:Hp)(x:Addr)(r:Row):Prop:=∃(dx:Addr) (fs:List (Str×V)),H x=some (.ins C dx fs)∧fs.lookup ("kind" :Str)=some (.int r.kd)∧fs.lookup ("price" :Str)=some (.int r.pr)∧fs.lookup ("many" :Str)=some (.int r.mn)∧fs.lookup ("special" :Str)=some (oV r.ex)
noncomputable abbrev Lines(C:Addr)(H:Hp)(ls:List Addr)(rs:List Row):Prop:=P2 (LineAt C H) ls rs
noncomputable def BaskAt(C:Addr)(H:Hp)(b l:Addr)(cg:Int)(m:Bool):Prop:=∃(dx:Addr) (fs:List (Str×V)),H b=some (.ins C dx fs)∧fs.lookup ("lines" :Str)=some (.ref l)∧fs.lookup ("carriage" :Str)=some (.int cg)∧fs.lookup ("member" :Str)=some (.bl m)
noncomputable def StandAt(C:Addr)(H:Hp)(x o p mk:Addr)(cg:Int):Prop:=∃(dx:Addr) (fs:List (Str×V)),H x=some (.ins C dx fs)∧fs.lookup ("owners" :Str)=some (.ref o)∧fs.lookup ("prices" :Str)=some (.ref p)∧fs.lookup ("carriage" :Str)=some (.int cg)∧fs.lookup ("marked" :Str)=some (.ref mk)∧fs.lookup ("whole" :Str)=none
section
variable {C:Addr} {H H':Hp}
theorem LineAt.same{x:Addr}{r:Row}(s:Same H H'):LineAt C H x r→LineAt C H' x r:=fun⟨dx,fs,h,q⟩=>⟨dx,fs,s _ _ h,q⟩
theorem Lines.same{ls:List Addr}{rs:List Row}(s:Same H H')(h:Lines C H ls rs):Lines C H' ls rs:=h.mono fun _ _ q=>q.same s
theorem BaskAt.same{b l:Addr}{cg:Int}{m:Bool}(s:Same H H'):BaskAt C H b l cg m→BaskAt C H' b l cg m:=fun⟨dx,fs,h,q⟩=>⟨dx,fs,s _ _ h,q⟩
theorem StandAt.same{x o p mk:Addr}{cg:Int}(s:Same H H'):StandAt C H x o p mk cg→StandAt C H' x o p mk cg:=fun⟨dx,fs,h,q⟩=>⟨dx,fs,s _ _ h,q⟩
end
section
variable {H:Hp} {hd:Addr} {xs:List V} {o:HO}
theorem BaskAt.set{C b l:Addr}{cg:Int}{m:Bool}(h:H hd=some (.lst xs)):BaskAt C H b l cg m→BaskAt C (upd H hd o) b l cg m:=fun⟨dx,fs,e,q⟩=>⟨dx,fs,by rw[kak (ne_of e h (by intro z;cases z))];exact e,q⟩
theorem StandAt.set{C x a b c:Addr}{cg:Int}(h:H hd=some (.lst xs)):StandAt C H x a b c cg→StandAt C (upd H hd o) x a b c cg:=fun⟨dx,fs,e,q⟩=>⟨dx,fs,by rw[kak (ne_of e h (by intro z;cases z))];exact e,q⟩
theorem LineAt.set{C x:Addr}{r:Row}(h:H hd=some (.lst xs)):LineAt C H x r→LineAt C (upd H hd o) x r:=fun⟨dx,fs,e,q⟩=>⟨dx,fs,by rw[kak (ne_of e h (by intro z;cases z))];exact e,q⟩
theorem Lines.set{C:Addr}{ls:List Addr}{rs:List Row}(h:H hd=some (.lst xs))(L:Lines C H ls rs):Lines C (upd H hd o) ls rs:=L.mono fun _ _ q=>q.set h
end
structure Bask where
 rs:List Row
 cg:Int
 m:Bool
inductive BaskIs (CL CB:Addr) (H:Hp) (b:Addr) (B:Bask):Prop
 |ct (l:Addr) (ls:List Addr) (_:BaskAt CB H b l B.cg B.m) (_:H l=some (.lst (ls.map V.ref))) (_:Lines CL H ls B.rs):BaskIs CL CB H b B
theorem BaskIs.same{CL CB:Addr}{H H':Hp}{b:Addr}{B:Bask}(s:Same H H'):BaskIs CL CB H b B→BaskIs CL CB H' b B:=fun⟨l,ls,h1,h2,h3⟩=>⟨l,ls,h1.same s,s _ _ h2,h3.same s⟩
noncomputable def iV(k:Nat):V:=.int (k:Int)
inductive StndIs (CS:Addr) (H:Hp) (x:Addr) (S:Stnd):Prop
 |ct (o p mk:Addr) (_:StandAt CS H x o p mk S.cg) (_:H o=some (.lst (S.ow.map iV))) (_:H p=some (.lst (S.pr.map V.int))) (_:H mk=some (.lst (S.mkd.map V.bl))):StndIs CS H x S
theorem StndIs.same{CS:Addr}{H H':Hp}{x:Addr}{S:Stnd}(s:Same H H'):StndIs CS H x S→StndIs CS H' x S:=fun⟨o,p,mk,h1,h2,h3,h4⟩=>⟨o,p,mk,h1.same s,s _ _ h2,s _ _ h3,s _ _ h4⟩
noncomputable def ownN(rs:List Row):List Nat:=(rs.zipIdx.map fun p=>Yh p.1.mn.toNat p.2).flatten
theorem keA(rs:List Row):(own rs).map V.int=(ownN rs).map iV:=by
 unfold own ownN
 generalize rs.zipIdx=l
 induction l with
 |nil=>rfl
 |cons p l ih=>
  rw[YD,Y7,Yx,ih,YD,Y7,Yx]
  congr 1
  simp[iV]
theorem kff(rs:List Row){l:Nat}(h:l∈ownN rs):l<rs.length:=by
 unfold ownN at h
 obtain⟨xs,h1,h2⟩:=List.mem_flatten.mp h
 obtain⟨p,h3,rfl⟩:=List.mem_map.mp h1
 have e:l=p.2:=(List.mem_replicate.mp h2).2
 have q:=List.mem_zipIdx h3
 omega
theorem keB(rs:List Row)(h:∀r∈rs,r.Ok):(ownN rs).length≤60*rs.length:=by
 have e:(ownN rs).length=(own rs).length:=by
  have:=congrArg List.length (keA rs)
  simpa using this.symm
 rw[e]
 exact kfe rs h
noncomputable def pV:Option Nat→V
 |none=>.non
 |some k=>.int (k:Int)
theorem eq_int(a b:Nat):decide (V.int (a:Int)=V.int (b:Int))=decide (a=b):=by
 by_cases h:a=b
 ·subst h;simp
 ·have:¬(V.int (a:Int)=V.int (b:Int)):=by
   intro e
   injection e with e
   omega
  simp[h,this]
structure S3 (H0:Hp) (x C dx:Addr) (fs:List (Str×V)) (o p mk:Addr) (a b c:List V) (H:Hp):Prop where
 bt:But x H0 H
 ob:H x=some (.ins C dx fs)
 ho:H o=some (.lst a)
 hp:H p=some (.lst b)
 hm:H mk=some (.lst c)
section
variable {H0 H H':Hp} {x C dx o p mk:Addr} {fs:List (Str×V)} {a b c d:List V}
theorem S3.same(h:S3 H0 x C dx fs o p mk a b c H)(s:Same H H'):S3 H0 x C dx fs o p mk a b c H':=⟨h.bt.same s,s _ _ h.ob,s _ _ h.ho,s _ _ h.hp,s _ _ h.hm⟩
end
end Vs
namespace Vs
open PySem L2 War Kin Deal
noncomputable def MksIs(C:Addr)(H:Hp)(x:Addr)(M:Mks):Prop:=∃(dx:Addr) (fs:List (Str×V)),H x=some (.ins C dx fs)∧fs.lookup ("kind" :Str)=some (pV M.kind)∧fs.lookup ("needs" :Str)=some (.int M.needs)∧fs.lookup ("most" :Str)=some (oV M.most)∧fs.lookup ("member" :Str)=some (.bl M.member)∧fs.lookup ("once" :Str)=some (.bl M.once)∧fs.lookup ("lone" :Str)=some (.bl M.lone)
theorem MksIs.same{C:Addr}{H H':Hp}{x:Addr}{M:Mks}(s:Same H H'):MksIs C H x M→MksIs C H' x M:=fun⟨dx,fs,h,q⟩=>⟨dx,fs,s _ _ h,q⟩
noncomputable def SrtIs(fs:List (Str×V)):Srt→Prop
 | .off a=>fs.lookup ("amount" :Str)=some (.int a)
 | .share s b=>fs.lookup ("share" :Str)=some (.int s)∧fs.lookup ("by_line" :Str)=some (.bl b)
 | .cheap n=>fs.lookup ("many" :Str)=some (.int n)
 | .bund n p=>fs.lookup ("many" :Str)=some (.int n)∧fs.lookup ("price" :Str)=some (.int p)
 | .carr=>True
noncomputable def clsOf(d:D):Srt→Addr
 | .off _=>d.c_Off
 | .share _ _=>d.qe
 | .cheap _=>d.qg
 | .bund _ _=>d.qf
 | .carr=>d.qh
noncomputable def here:Srt→Bool
 | .off _=>true
 | .share _ _=>true
 | .cheap _=>true
 | .bund _ _=>true
 | .carr=>true
noncomputable def kfp:Srt→Bool
 | .off _=>true
 | .share _ _=>false
 | .cheap _=>false
 | .bund _ _=>false
 | .carr=>false
noncomputable def ken:Srt→Bool
 | .off _=>false
 | .share _ _=>true
 | .cheap _=>false
 | .bund _ _=>false
 | .carr=>false
noncomputable def kc7:Srt→Bool
 | .off _=>false
 | .share _ _=>false
 | .cheap _=>true
 | .bund _ _=>false
 | .carr=>false
noncomputable def kdK:Srt→Bool
 | .off _=>false
 | .share _ _=>false
 | .cheap _=>false
 | .bund _ _=>true
 | .carr=>false
noncomputable def kc8:Srt→Bool
 | .off _=>false
 | .share _ _=>false
 | .cheap _=>false
 | .bund _ _=>false
 | .carr=>true
noncomputable def Tbs(_:D)(_:Hp):Prop:=True
theorem Tbs.same{d:D}{H H':Hp}(_:Same H H')(h:Tbs d H):Tbs d H':=h
inductive VchIs (d:D) (H:Hp) (v:Addr) (V:Vch):Prop
 |ct (mA dx:Addr) (fs:List (Str×L2.V)) (_:H v=some (.ins (clsOf d V.so) dx fs)) (_:fs.lookup ("marks" :Str)=some (.ref mA)) (_:SrtIs fs V.so) (_:MksIs d.qd H mA V.ms) (_:here V.so=true) (_:Tbs d H):VchIs d H v V
theorem VchIs.same{d:D}{H H':Hp}{v:Addr}{V:Vch}(s:Same H H'):VchIs d H v V→VchIs d H' v V:=fun⟨mA,dx,fs,h1,h2,h3,h4,h5,h6⟩=>⟨mA,dx,fs,s _ _ h1,h2,h3,h4.same s,h5,h6.same s⟩
structure Wf (ps:List (Option Nat)) (B:Bask) (S:Stnd):Prop where
 good:Good ps
 pl:ps.length≤20
 kd:∀r∈B.rs,0≤r.kd∧r.kd<(ps.length:Int)
 ok:∀r∈B.rs,r.Ok
 nl:B.rs.length≤12
 bc:0≤B.cg∧B.cg≤1000000000000
 ow:S.ow=ownN B.rs
 lp:S.pr.length=S.ow.length
 lm:S.mkd.length=B.rs.length
 pr:∀z∈S.pr,0≤z∧z≤1000000000000
 cg:0≤S.cg∧S.cg≤1000000000000
 n64:S.ow.length<64
theorem Wf.np{ps:List (Option Nat)}{B:Bask}{S:Stnd}(W:Wf ps B S):S.ow.length≤720:=by
 have:=keB B.rs W.ok
 have:=W.nl
 rw[W.ow]
 omega
theorem Wf.line{ps:List (Option Nat)}{B:Bask}{S:Stnd}(W:Wf ps B S){i l:Nat}(h:S.ow[i]?=some l):l<B.rs.length:=by
 have hm:=YF h
 rw[W.ow] at hm
 exact kff _ hm
structure MksOk (ps:List (Option Nat)) (M:Mks):Prop where
 kind:∀k,M.kind=some k→k<ps.length
 needs:0≤M.needs∧M.needs≤1000000000000
 most:∀m,M.most=some m→0≤m∧m≤1000000000000
noncomputable def mks0:Mks:=⟨none,0,none,false,false,false⟩
noncomputable def kc9:Srt→List V
 | .off a=>[.int a]
 | .share s b=>[.int s, .bl b]
 | .cheap n=>[.int n]
 | .bund n p=>[.int n, .int p]
 | .carr=>[]
noncomputable def Mrk(CM:Addr)(H:Hp)(mv:V)(H':Hp)(mA:Addr):Prop:=mv=.ref mA∨(mv=.non∧H mA=none∧MksIs CM H' mA mks0)
theorem MksIs.but{C x mA:Addr}{H H':Hp}{M:Mks}(n:mA≠x)(b:But x H H'):MksIs C H mA M→MksIs C H' mA M:=fun⟨dx,fs,h,q⟩=>⟨dx,fs,b _ _ n h,q⟩
theorem Mrk.but{CM x mA:Addr}{H H1 H2:Hp}{mv:V}{o:HO}(hx:H x=some o)(b:But x H1 H2):Mrk CM H mv H1 mA→Mrk CM H mv H2 mA
 | .inl e=>.inl e
 | .inr ⟨e,f,h⟩=>.inr ⟨e,f,h.but (kai hx f).symm b⟩
inductive kcr (C:Addr) (vs:List V) (H:Hp) (Q:VK) (E_:XK):Prop
 |ct (x dx:Addr) (M:Mks) (_:vs=[.ref x,pV M.kind, .int M.needs,oV M.most, .bl M.member, .bl M.once, .bl M.lone]) (_:H x=some (.ins C dx [])) (_:∀H',But x H H'→MksIs C H' x M→Q .non H'):kcr C vs H Q E_
inductive kci (K:XQ) (CM:Addr) (vs:List V) (H:Hp) (Q:VK) (E_:XK):Prop
 |ct (x C dx:Addr) (fs:List (Str×V)) (mv:V) (_:vs=[.ref x,mv]) (_:H x=some (.ins C dx fs)) (_:Cls K C) (_:NoAttr K C "marks") (_:fs.length≤5) (_:(mv=.non∨∃mA,mv=.ref mA)) (_:∀(H':Hp) (mA:Addr),But x H H'→Mrk CM H mv H' mA→H' x=some (.ins C dx (putF "marks" (.ref mA) fs))→Q .non H'):kci K CM vs H Q E_
inductive kbA (C CM:Addr) (is:Srt→Prop) (vs:List V) (H:Hp) (Q:VK) (E_:XK):Prop
 |ct (x dx:Addr) (so:Srt) (mv:V) (_:is so) (_:vs=.ref x::(kc9 so++[mv])) (_:H x=some (.ins C dx [])) (_:(mv=.non∨∃mA,mv=.ref mA)) (_:∀(H':Hp) (mA:Addr) (fs:List (Str×V)),But x H H'→Mrk CM H mv H' mA→H' x=some (.ins C dx fs)→fs.lookup ("marks" :Str)=some (.ref mA)→SrtIs fs so→Q .non H'):kbA C CM is vs H Q E_
theorem kdw{C:Addr}{H:Hp}{M:Mks}{R:Addr→Hp→Prop}{E:XK}(k:∀(H':Hp) (x:Addr),Same H H'→H x=none→MksIs C H' x M→R x H'):
  ∀x dx,H x=none→H dx=none→dx≠x→kcr C [.ref x,pV M.kind, .int M.needs,oV M.most, .bl M.member, .bl M.once, .bl M.lone] (upd (upd H dx (.own x)) x (.ins C dx [])) (fun v H2=>v=.non∧R x H2) E:=
 fun x dx nx nd _=>⟨x,dx,M,rfl,kae,fun H' b l=>⟨rfl,k H' x (kbf nx nd b) nx l⟩⟩
theorem kcU{d:D}{H:Hp}{so:Srt}{mA:Addr}{M:Mks}{is:Srt→Prop}{R:Addr→Hp→Prop}{E:XK}(hi:is so)(hh:here so=true)(hM:MksIs d.qd H mA M)(k:∀(H':Hp) (x:Addr),Same H H'→H x=none→VchIs d H' x ⟨so,M⟩→R x H')(htb:Tbs d H:=by assumption):
  ∀x dx,H x=none→H dx=none→dx≠x→kbA (clsOf d so) d.qd is (.ref x::(kc9 so++[.ref mA])) (upd (upd H dx (.own x)) x (.ins (clsOf d so) dx [])) (fun v H2=>v=.non∧R x H2) E:=
 fun x dx nx nd _=>⟨x,dx,so, .ref mA,hi,rfl,kae, .inr ⟨mA,rfl⟩,fun H' mA' fs b hm h1 h2 h3=>by
  have e:mA'=mA:=by
   rcases hm with e|⟨e,_⟩
   ·injection e with e
    exact e.symm
   ·cases e
  subst e
  exact⟨rfl,k H' x (kbf nx nd b) nx ⟨mA',dx,fs,h1,h2,h3,hM.same (kbf nx nd b),hh,htb.same (kbf nx nd b)⟩⟩⟩
theorem kfi{K:XQ}{d:D}{H:Hp}{mA:Addr}{M:Mks}{R:Addr→Hp→Prop}{E:XK}(_:Cls K d.qh)(_:NoAttr K d.qh "marks")(hM:MksIs d.qd H mA M)(k:∀(H':Hp) (x:Addr),Same H H'→H x=none→VchIs d H' x ⟨.carr,M⟩→R x H')(htb:Tbs d H:=by assumption):
  ∀x dx,H x=none→H dx=none→dx≠x→kbA d.qh d.qd (fun so=>so=.carr) [.ref x, .ref mA] (upd (upd H dx (.own x)) x (.ins d.qh dx [])) (fun v H2=>v=.non∧R x H2) E:=kcU (so:=.carr) (is:=fun so=>so=.carr) rfl rfl hM k htb
end Vs
namespace Vs
open PySem L2 War Kin Deal
theorem sN{t u:TS}{D:Ends}{σ:St}{H:Hp}(h:∀N:St→Hp→Prop,(∀σ' H',u D σ' H'→N σ' H')→t {D with nx:=N} σ H):tSeq t u D σ H:=h (u D) fun _ _ q=>q
theorem cl_of{K:XQ}{mg:Str→Option Value}{d:D}(W:Wld K mg d):∀{so:Srt},here so=true→Cls K (clsOf d so)
 | .off _,h=>W.c_Off.cl
 | .share _ _,h=>W.qe.cl
 | .cheap _,h=>W.qg.cl
 | .bund _ _,h=>W.qf.cl
 | .carr,h=>W.qh.cl
theorem na_of{K:XQ}{mg:Str→Option Value}{d:D}(W:Wld K mg d):∀{so:Srt},here so=true→NoAttr K (clsOf d so) "marks"
 | .off _,h=>W.QS
 | .share _ _,h=>W.QV
 | .cheap _,h=>W.QX
 | .bund _ _,h=>W.Q0
 | .carr,h=>W.q9
theorem kfH{K:XQ}{mg:Str→Option Value}{d:D}(W:Wld K mg d):∀{so:Srt},here so=true→Isi K (clsOf d so)
 | .off _,h=>W.c_Off.isi
 | .share _ _,h=>W.qe.isi
 | .cheap _,h=>W.qg.isi
 | .bund _ _,h=>W.qf.isi
 | .carr,h=>W.qh.isi
theorem kb9{K:XQ}{mg:Str→Option Value}{d:D}(W:Wld K mg d):∀{so:Srt},here so=true→XW K (.ref (clsOf d so)) (.ref d.c_Off)=some (kfp so)
 | .off _,h=>kaG _ _
 | .share _ _,h=>W.Q6
 | .cheap _,h=>W.Q7
 | .bund _ _,h=>W.Q8
 | .carr,h=>W.Q9
theorem kbE{K:XQ}{mg:Str→Option Value}{d:D}(W:Wld K mg d):∀{so:Srt},here so=true→XW K (.ref (clsOf d so)) (.ref d.qe)=some (ken so)
 | .off _,h=>W.Xa
 | .share _ _,h=>kaG _ _
 | .cheap _,h=>W.Xb
 | .bund _ _,h=>W.Xc
 | .carr,h=>W.Xd
theorem kbr{K:XQ}{mg:Str→Option Value}{d:D}(W:Wld K mg d):∀{so:Srt},here so=true→XW K (.ref (clsOf d so)) (.ref d.qg)=some (kc7 so)
 | .off _,h=>W.Xe
 | .share _ _,h=>W.Xf
 | .cheap _,h=>kaG _ _
 | .bund _ _,h=>W.Xg
 | .carr,h=>W.Xh
theorem kco{K:XQ}{mg:Str→Option Value}{d:D}(W:Wld K mg d):∀{so:Srt},here so=true→XW K (.ref (clsOf d so)) (.ref d.qf)=some (kdK so)
 | .off _,h=>W.Xi
 | .share _ _,h=>W.Xj
 | .cheap _,h=>W.Xk
 | .bund _ _,h=>kaG _ _
 | .carr,h=>W.Xl
theorem kcW{K:XQ}{mg:Str→Option Value}{d:D}(W:Wld K mg d):∀{so:Srt},here so=true→XW K (.ref (clsOf d so)) (.ref d.qh)=some (kc8 so)
 | .off _,h=>W.Xm
 | .share _ _,h=>W.Xn
 | .cheap _,h=>W.Xo
 | .bund _ _,h=>W.Xp
 | .carr,h=>kaG _ _
theorem kfh{d:D}{H:Hp}{so:Srt}{is:Srt→Prop}{R:Addr→Hp→Prop}{E:XK}(hi:is so)(hh:here so=true)(k:∀(H':Hp) (x:Addr),Same H H'→H x=none→VchIs d H' x ⟨so,mks0⟩→R x H')(htb:Tbs d H):
  ∀x dx,H x=none→H dx=none→dx≠x→kbA (clsOf d so) d.qd is (.ref x::(kc9 so++[.non])) (upd (upd H dx (.own x)) x (.ins (clsOf d so) dx [])) (fun v H2=>v=.non∧R x H2) E:=
 fun x dx nx nd _=>⟨x,dx,so, .non,hi,rfl,kae, .inl rfl,fun H' mA' fs b hm h1 h2 h3=>by
  rcases hm with e|⟨_,_,hM⟩
  ·cases e
  ·exact⟨rfl,k H' x (kbf nx nd b) nx ⟨mA',dx,fs,h1,h2,h3,hM,hh,htb.same (kbf nx nd b)⟩⟩⟩
theorem ka3{H H':Hp}{p:Addr}{o:HO}(h:upd H p o=H')(f:H p=none):Same H H'∧H' p=some o:=by
 subst h
 exact⟨kaj f,kae⟩
structure Rul where
 w:Str
 a:Nat
 b:Nat
structure TillD where
 ps:List (Option Nat)
 vs:List Vch
 rs:List Rul
 bk:Str
noncomputable def RulIs(H:Hp)(a:Addr)(r:Rul):Prop:=H a=some (.tup [.str r.w,iV r.a,iV r.b])
noncomputable def TillAt(d:D)(H:Hp)(t p vl rl:Addr)(T:TillD):Prop:=∃(dx:Addr) (fs:List (Str×V)) (va ra:List Addr),H t=some (.ins d.qc dx fs)∧fs.lookup ("parents" :Str)=some (.ref p)∧fs.lookup ("vouchers" :Str)=some (.ref vl)∧fs.lookup ("rules" :Str)=some (.ref rl)∧fs.lookup ("back" :Str)=some (.str T.bk)∧
 H p=some (.lst (T.ps.map pV))∧H vl=some (.lst (va.map V.ref))∧P2 (fun a V=>VchIs d H a V) va T.vs∧H rl=some (.lst (ra.map V.ref))∧P2 (fun a r=>RulIs H a r) ra T.rs
theorem TillAt.same{d:D}{H H':Hp}{t p vl rl:Addr}{T:TillD}(s:Same H H'):TillAt d H t p vl rl T→TillAt d H' t p vl rl T:=fun⟨dx,fs,va,ra,h1,h2,h3,h4,h5,h6,h7,h8,h9,h10⟩=>
 ⟨dx,fs,va,ra,s _ _ h1,h2,h3,h4,h5,s _ _ h6,s _ _ h7,h8.mono fun a V h=>h.same s,s _ _ h9,h10.mono fun a r h=>s _ _ h⟩
theorem VchIs.butL{d:D}{H H':Hp}{q v:Addr}{V:Vch}{xs:List L2.V}(b:But q H H')(hq:H q=some (.lst xs))(tb:Tbs d H'):VchIs d H v V→VchIs d H' v V:=fun⟨mA,dv,fv,h1,h2,h3,⟨dm,fm,h4,h5⟩,h6,_⟩=>
 ⟨mA,dv,fv,b _ _ (ne_of h1 hq (by intro z;cases z)) h1,h2,h3,⟨dm,fm,b _ _ (ne_of h4 hq (by intro z;cases z)) h4,h5⟩,h6,tb⟩
theorem TillAt.but{d:D}{H H':Hp}{q t p vl rl:Addr}{T:TillD}{xs:List V}(b:But q H H')(hq:H q=some (.lst xs))(tb:Tbs d H')(np:p≠q)(nv:vl≠q)(nr:rl≠q):TillAt d H t p vl rl T→TillAt d H' t p vl rl T:=fun⟨dx,fs,va,ra,h1,h2,h3,h4,h5,h6,h7,h8,h9,h10⟩=>
 ⟨dx,fs,va,ra,b _ _ (ne_of h1 hq (by intro z;cases z)) h1,h2,h3,h4,h5,b _ _ np h6,b _ _ nv h7,h8.mono fun a V h=>h.butL b hq tb,b _ _ nr h9,h10.mono fun a r h=>b _ _ (ne_of (show H a=some (.tup _) from h) hq (by intro z;cases z)) h⟩
theorem kcY(a b:Nat):decide (iV a=iV b)=decide (a=b):=by
 by_cases h:a=b
 ·subst h;simp
 ·have n:¬(iV a=iV b):=fun e=>h (by have:=V.int.inj e;omega)
  rw[decide_eq_false h,decide_eq_false n]
theorem eq_str(a b:Str):decide (V.str a=V.str b)=decide (a=b):=by
 by_cases h:a=b
 ·subst h;simp
 ·have n:¬(V.str a=V.str b):=fun e=>h (V.str.inj e)
  rw[decide_eq_false h,decide_eq_false n]
section
variable {P:Program} {w:World} {K:XQ} {mg:Str→Option Value} {base:Heap} {d:D}
theorem kcw:kaA ["self","kind","needs","most","member","once","lone"] ["self","kind","needs","most","member","once","lone"] (kag kaK):=⟨rfl,rfl,rfl,by decide +kernel,rfl,by decide +kernel,by decide +kernel⟩
theorem kbD(W:Wld K mg d):FnOk P w K mg base CX0 1 d.QC d.qt ["self","kind","needs","most","member","once","lone"] (kcr d.qd):=by
 refine FunD.ok W.qK.F kcw (fun vs H Q E h=>?_) (fun cdv A outer s H vs Q E hr h=>?_)
 ·obtain⟨x,dx,M,rfl,_⟩:=h
  rfl
 ·obtain⟨x,dx,M,rfl,hx,k⟩:=h
  refine⟨_,kac (kaW (pv 0) (pv 1) rfl)
   (kac (kaW (pv 0) (pv 2) rfl)
   (kac (kaW (pv 0) (pv 3) rfl)
   (kac (kaW (pv 0) (pv 4) rfl)
   (kac (kaW (pv 0) (pv 5) rfl)
   (kah (kaW (pv 0) (pv 6) rfl)))))),?_⟩
  refine⟨_,rfl,_,rfl,x,d.qd,dx,[],rfl,hx,W.qd.cl,W.QL,by decide,?_⟩
  refine⟨_,rfl,_,rfl,x,d.qd,dx,_,rfl,kae,W.qd.cl,W.QM,few (XZ (kal (n:=0) (XR _)) (by decide)),?_⟩
  refine⟨_,rfl,_,rfl,x,d.qd,dx,_,rfl,kae,W.qd.cl,W.QN,few (XZ (kal (kal (n:=0) (XR _))) (by decide)),?_⟩
  refine⟨_,rfl,_,rfl,x,d.qd,dx,_,rfl,kae,W.qd.cl,W.QO,few (XZ (kal (kal (kal (n:=0) (XR _)))) (by decide)),?_⟩
  refine⟨_,rfl,_,rfl,x,d.qd,dx,_,rfl,kae,W.qd.cl,W.QP,few (XZ (kal (kal (kal (kal (n:=0) (XR _))))) (by decide)),?_⟩
  refine⟨_,rfl,_,rfl,x,d.qd,dx,_,rfl,kae,W.qd.cl,W.QQ,few (XZ (kal (kal (kal (kal (kal (n:=0) (XR _)))))) (by decide)),?_⟩
  refine k _ (But.trans (But.trans (But.trans (But.trans (But.trans kao kao) kao) kao) kao) kao) ⟨dx,_,kae,?_,?_,?_,?_,?_,?_⟩ <;> (repeat (first|rw[kaf,if_pos rfl]|rw[kaf,if_neg (by decide +kernel)]))
theorem kbX:kaA ["self","marks"] ["self","marks"] (kag kaB):=⟨rfl,rfl,rfl,by decide +kernel,rfl,by decide +kernel,by decide +kernel⟩
theorem kaP(W:Wld K mg d):FnOk P w K mg base CX0 3 d.qQ d.qR ["self","marks"] (kci K d.qd):=by
 refine FunD.ok W.qm.F kbX (fun vs H Q E h=>?_) (fun cdv A outer s H vs Q E hr h=>?_)
 ·obtain⟨x,C,dx,fs,mv,rfl,_⟩:=h
  rfl
 ·obtain⟨x,C,dx,fs,mv,rfl,hx,hC,hN,hl,hm,k⟩:=h
  have Qb:=kbD (P:=P) (w:=w) (base:=base) W
  refine⟨_,kah (kaW (pv 0) (kez (kaM kd4 (pv 1) kbi (kaI _)) (kex (W.qK.mk' W.qd) Qb hr rfl W.qd.m W.b6_Marks_init (show Vals [.non, .int 0, .non, .bl false, .bl false, .bl false] [.none, .int 0 d.tok1_Marks_init, .none, .bool false, .bool false, .bool false] from(.cons rfl (.cons ⟨_,rfl⟩ (.cons rfl (.cons rfl (.cons rfl (.cons rfl .nil))))))) pass0) (pv 1)) rfl),?_⟩
  rcases hm with rfl|⟨mA,rfl⟩
  ·refine⟨_,rfl,rfl,_,rfl,iteT ?_⟩
   refine kdw (M:=mks0) fun H1 mA s1 f1 hM=>?_
   refine⟨_,rfl,x,C,dx,fs,rfl,s1 _ _ hx,hC,hN,by omega,?_⟩
   have hne:mA≠x:=(kai hx f1).symm
   refine k _ mA ((But.of_same s1).trans (kao (nx (s1 _ _ hx)))) (.inr ⟨rfl,f1,?_⟩) kae
   exact hM.but hne (kao (nx (s1 _ _ hx)))
  ·refine⟨_,rfl,rfl,_,rfl,iteF ?_⟩
   refine⟨_,rfl,_,rfl,x,C,dx,fs,rfl,hx,hC,hN,by omega,?_⟩
   exact k _ mA kao (.inl rfl) kae
theorem kdb:kaA ["self","amount","marks"] ["self","amount","marks"] (kag kaS):=⟨rfl,rfl,rfl,by decide +kernel,rfl,by decide +kernel,by decide +kernel⟩
theorem kb5(W:Wld K mg d):FnOk P w K mg base CX0 4 d.QD d.qS ["self","amount","marks"] (kbA d.c_Off d.qd (fun so=>∃(a:Int),so=.off a)):=by
 refine FunD.ok W.qL.F kdb (fun vs H Q E h=>?_) (fun cdv A outer s H vs Q E hr h=>?_)
 ·obtain⟨x,dx,so,mv,⟨a,rfl⟩,rfl,_⟩:=h
  rfl
 ·obtain⟨x,dx,so,mv,⟨a,rfl⟩,rfl,hx,hm,k⟩:=h
  have qr:=kaP (P:=P) (w:=w) (base:=base) W
  refine⟨_,kac (kaY (kbZ W.qy qr hr rfl W.qq.m W.qm.F.kp W.qm.b .nil pass0 (kaa (pv 0) (kaa (pv 2) kad))))
   (kah (kaW (pv 0) (pv 1) rfl)),?_⟩
  refine⟨_,rfl,_,rfl,x,d.c_Off,dx,[],mv,rfl,hx,W.c_Off.cl,W.QS,by decide,hm,fun H1 mA b1 hM h1=>?_⟩
  refine⟨_,rfl,_,rfl,x,d.c_Off,dx,_,rfl,h1,W.c_Off.cl,W.QR,few (XZ (kal (n:=0) (XR _)) (by decide)),?_⟩
  refine k _ mA _ (b1.trans kao) ?_ kae ?_ ?_
  ·exact hM.but hx kao
  ·(repeat (first|rw[kaf,if_pos rfl]|rw[kaf,if_neg (by decide +kernel)]))
  ·show Yk _ _=_
   (repeat (first|rw[kaf,if_pos rfl]|rw[kaf,if_neg (by decide +kernel)]))
theorem kcv:kaA ["self","share","by_line","marks"] ["self","share","by_line","marks"] (kag kaJ):=⟨rfl,rfl,rfl,by decide +kernel,rfl,by decide +kernel,by decide +kernel⟩
theorem kcA(W:Wld K mg d):FnOk P w K mg base CX0 4 d.QE d.qC ["self","share","by_line","marks"] (kbA d.qe d.qd (fun so=>∃(sh:Int) (bb:Bool),so=.share sh bb)):=by
 refine FunD.ok W.qX.F kcv (fun vs H Q E h=>?_) (fun cdv A outer s H vs Q E hr h=>?_)
 ·obtain⟨x,dx,so,mv,⟨sh,bb,rfl⟩,rfl,_⟩:=h
  rfl
 ·obtain⟨x,dx,so,mv,⟨sh,bb,rfl⟩,rfl,hx,hm,k⟩:=h
  have qr:=kaP (P:=P) (w:=w) (base:=base) W
  refine⟨_,kac (kaY (kbZ W.qy qr hr rfl W.qq.m W.qm.F.kp W.qm.b .nil pass0 (kaa (pv 0) (kaa (pv 3) kad))))
   (kac (kaW (pv 0) (pv 1) rfl)
   (kah (kaW (pv 0) (pv 2) rfl))),?_⟩
  refine⟨_,rfl,_,rfl,x,d.qe,dx,[],mv,rfl,hx,W.qe.cl,W.QV,by decide,hm,fun H1 mA b1 hM h1=>?_⟩
  refine⟨_,rfl,_,rfl,x,d.qe,dx,_,rfl,h1,W.qe.cl,W.QT,few (XZ (kal (n:=0) (XR _)) (by decide)),?_⟩
  refine⟨_,rfl,_,rfl,x,d.qe,dx,_,rfl,kae,W.qe.cl,W.QU,few (XZ (kal (kal (n:=0) (XR _))) (by decide)),?_⟩
  refine k _ mA _ ((b1.trans kao).trans kao) ?_ kae ?_ ?_
  ·exact hM.but hx (But.trans kao kao)
  ·(repeat (first|rw[kaf,if_pos rfl]|rw[kaf,if_neg (by decide +kernel)]))
  ·exact⟨by(repeat (first|rw[kaf,if_pos rfl]|rw[kaf,if_neg (by decide +kernel)])),by(repeat (first|rw[kaf,if_pos rfl]|rw[kaf,if_neg (by decide +kernel)]))⟩
theorem kbO:kaA ["self","many","marks"] ["self","many","marks"] (kag kav):=⟨rfl,rfl,rfl,by decide +kernel,rfl,by decide +kernel,by decide +kernel⟩
theorem kbQ(W:Wld K mg d):FnOk P w K mg base CX0 4 d.QF d.qT ["self","many","marks"] (kbA d.qg d.qd (fun so=>∃(n:Int),so=.cheap n)):=by
 refine FunD.ok W.qY.F kbO (fun vs H Q E h=>?_) (fun cdv A outer s H vs Q E hr h=>?_)
 ·obtain⟨x,dx,so,mv,⟨n,rfl⟩,rfl,_⟩:=h
  rfl
 ·obtain⟨x,dx,so,mv,⟨n,rfl⟩,rfl,hx,hm,k⟩:=h
  have qr:=kaP (P:=P) (w:=w) (base:=base) W
  refine⟨_,kac (kaY (kbZ W.qy qr hr rfl W.qq.m W.qm.F.kp W.qm.b .nil pass0 (kaa (pv 0) (kaa (pv 2) kad))))
   (kah (kaW (pv 0) (pv 1) rfl)),?_⟩
  refine⟨_,rfl,_,rfl,x,d.qg,dx,[],mv,rfl,hx,W.qg.cl,W.QX,by decide,hm,fun H1 mA b1 hM h1=>?_⟩
  refine⟨_,rfl,_,rfl,x,d.qg,dx,_,rfl,h1,W.qg.cl,W.QW,few (XZ (kal (n:=0) (XR _)) (by decide)),?_⟩
  refine k _ mA _ (b1.trans kao) ?_ kae ?_ ?_
  ·exact hM.but hx kao
  ·(repeat (first|rw[kaf,if_pos rfl]|rw[kaf,if_neg (by decide +kernel)]))
  ·show Yk _ _=_
   (repeat (first|rw[kaf,if_pos rfl]|rw[kaf,if_neg (by decide +kernel)]))
theorem kcg:kaA ["self","many","price","marks"] ["self","many","price","marks"] (kag kaF):=⟨rfl,rfl,rfl,by decide +kernel,rfl,by decide +kernel,by decide +kernel⟩
theorem kch(W:Wld K mg d):FnOk P w K mg base CX0 4 d.QG d.qU ["self","many","price","marks"] (kbA d.qf d.qd (fun so=>∃(n:Int) (pp:Int),so=.bund n pp)):=by
 refine FunD.ok W.qZ.F kcg (fun vs H Q E h=>?_) (fun cdv A outer s H vs Q E hr h=>?_)
 ·obtain⟨x,dx,so,mv,⟨n,pp,rfl⟩,rfl,_⟩:=h
  rfl
 ·obtain⟨x,dx,so,mv,⟨n,pp,rfl⟩,rfl,hx,hm,k⟩:=h
  have qr:=kaP (P:=P) (w:=w) (base:=base) W
  refine⟨_,kac (kaY (kbZ W.qy qr hr rfl W.qq.m W.qm.F.kp W.qm.b .nil pass0 (kaa (pv 0) (kaa (pv 3) kad))))
   (kac (kaW (pv 0) (pv 1) rfl)
   (kah (kaW (pv 0) (pv 2) rfl))),?_⟩
  refine⟨_,rfl,_,rfl,x,d.qf,dx,[],mv,rfl,hx,W.qf.cl,W.Q0,by decide,hm,fun H1 mA b1 hM h1=>?_⟩
  refine⟨_,rfl,_,rfl,x,d.qf,dx,_,rfl,h1,W.qf.cl,W.QY,few (XZ (kal (n:=0) (XR _)) (by decide)),?_⟩
  refine⟨_,rfl,_,rfl,x,d.qf,dx,_,rfl,kae,W.qf.cl,W.QZ,few (XZ (kal (kal (n:=0) (XR _))) (by decide)),?_⟩
  refine k _ mA _ ((b1.trans kao).trans kao) ?_ kae ?_ ?_
  ·exact hM.but hx (But.trans kao kao)
  ·(repeat (first|rw[kaf,if_pos rfl]|rw[kaf,if_neg (by decide +kernel)]))
  ·exact⟨by(repeat (first|rw[kaf,if_pos rfl]|rw[kaf,if_neg (by decide +kernel)])),by(repeat (first|rw[kaf,if_pos rfl]|rw[kaf,if_neg (by decide +kernel)]))⟩
theorem kbP:kaA ["self","marks"] ["self","marks"] (kag kaw):=⟨rfl,rfl,rfl,by decide +kernel,rfl,by decide +kernel,by decide +kernel⟩
theorem kbR(W:Wld K mg d):FnOk P w K mg base CX0 4 d.QH d.qV ["self","marks"] (kbA d.qh d.qd (fun so=>so=.carr)):=by
 refine FunD.ok W.Qa.F kbP (fun vs H Q E h=>?_) (fun cdv A outer s H vs Q E hr h=>?_)
 ·obtain⟨x,dx,so,mv,rfl,rfl,_⟩:=h
  rfl
 ·obtain⟨x,dx,so,mv,rfl,rfl,hx,hm,k⟩:=h
  have qr:=kaP (P:=P) (w:=w) (base:=base) W
  refine⟨_,kah (kaY (kbZ W.qy qr hr rfl W.qq.m W.qm.F.kp W.qm.b .nil pass0 (kaa (pv 0) (kaa (pv 1) kad)))),?_⟩
  refine⟨_,rfl,_,rfl,x,d.qh,dx,[],mv,rfl,hx,W.qh.cl,W.q9,by decide,hm,fun H1 mA b1 hM h1=>?_⟩
  refine k _ mA _ b1 hM h1 ?_ trivial
  (repeat (first|rw[kaf,if_pos rfl]|rw[kaf,if_neg (by decide +kernel)]))
inductive kda (d:D) (vs:List V) (H:Hp) (Q:VK) (E_:XK):Prop
 |ct (H0:Hp) (x dx p vl rl:Addr) (ps vs' rs:List V) (bk:Str) (_:vs=[.ref x, .ref p, .ref vl, .ref rl, .str bk]) (_:H0 x=none) (_:Same H0 H) (_:H x=some (.ins d.qc dx [])) (_:H0 p=some (.lst ps)) (_:H0 vl=some (.lst vs')) (_:H0 rl=some (.lst rs)) (_:∀(H':Hp) (p' vl' rl':Addr) (fs:List (Str×V)),Same H0 H'→H0 p'=none→H0 vl'=none→H0 rl'=none→H' p'=some (.lst ps)→H' vl'=some (.lst vs')→H' rl'=some (.lst rs)→H' x=some (.ins d.qc dx fs)→fs.lookup ("parents" :Str)=some (.ref p')→fs.lookup ("vouchers" :Str)=some (.ref vl')→fs.lookup ("rules" :Str)=some (.ref rl')→fs.lookup ("back" :Str)=some (.str bk)→Q .non H'):kda d vs H Q E_
theorem kcJ:kaA ["self","parents","vouchers","rules","back"] ["self","parents","vouchers","rules","back"] (kag kaC):=⟨rfl,rfl,rfl,by decide +kernel,rfl,by decide +kernel,by decide +kernel⟩
theorem kcS(W:Wld K mg d):FnOk P w K mg base CX0 1 d.QB d.qB ["self","parents","vouchers","rules","back"] (kda d):=by
 refine FunD.ok W.qu.F kcJ (fun vs H Q E h=>?_) (fun cdv A outer s H vs Q E hr h=>?_)
 ·obtain⟨H0,x,dx,p,vl,rl,ps,vs',rs,bk,rfl,_⟩:=h
  rfl
 ·obtain⟨H0,x,dx,p,vl,rl,ps,vs',rs,bk,rfl,fx,s0,hx,hp,hvl,hrl,k⟩:=h
  refine⟨_,kac (kaW (pv 0) (kbe (r:=kbJ K) kaU (by rfl) W.B.list kbu (kaa (pv 1) kad)) rfl)
   (kac (kaW (pv 0) (kbe (r:=kbJ K) kaU (by rfl) W.B.list kbu (kaa (pv 2) kad)) rfl)
   (kac (kaW (pv 0) (kbe (r:=kbJ K) kaU (by rfl) W.B.list kbu (kaa (pv 3) kad)) rfl)
   (kah (kaW (pv 0) (pv 4) rfl)))),?_⟩
  try refine sN fun _ Y4=>?_
  refine⟨_,rfl,p,_,rfl, .inl (SqL.of (s0 _ _ hp)),fun p' hp'=>?_⟩
  have n1:=kaj (o:=.lst ps) hp'
  have fp:=s0.free hp'
  have np:p'≠x:=(kai hx hp').symm
  have e1:(upd H p' (.lst ps)) p'=some (.lst ps):=kae
  have s1:=s0.trans n1
  have hx1:=n1 _ _ hx
  clear n1
  generalize upd H p' (.lst ps)=H1 at *
  try apply Y4
  try refine sN fun _ Y4=>?_
  refine⟨_,rfl,x,d.qc,dx,[],rfl,hx1,W.qc.cl,W.QI,by decide,?_⟩
  have s2:Same H0 (upd H1 x (.ins d.qc dx (putF "parents" (.ref p') []))):=kay fx s1 (nx hx1)
  have e2:(upd H1 x (.ins d.qc dx (putF "parents" (.ref p') []))) p'=some (.lst ps):=by rw[kak np];exact e1
  have hx2:(upd H1 x (.ins d.qc dx (putF "parents" (.ref p') []))) x=some (.ins d.qc dx (putF "parents" (.ref p') [])):=kae
  generalize upd H1 x (.ins d.qc dx (putF "parents" (.ref p') []))=H2 at *
  try apply Y4
  try refine sN fun _ Y4=>?_
  refine⟨_,rfl,vl,_,rfl, .inl (SqL.of (s2 _ _ hvl)),fun v' hv'=>?_⟩
  have n3:=kaj (o:=.lst vs') hv'
  have fv:=s2.free hv'
  have nv:v'≠x:=(kai hx2 hv').symm
  have s3:=s2.trans n3
  have e3:=n3 _ _ e2
  have ev3:(upd H2 v' (.lst vs')) v'=some (.lst vs'):=kae
  have hx3:=n3 _ _ hx2
  clear n3
  generalize upd H2 v' (.lst vs')=H3 at *
  try apply Y4
  try refine sN fun _ Y4=>?_
  refine⟨_,rfl,x,d.qc,dx,_,rfl,hx3,W.qc.cl,W.qW,few (XZ (kal (n:=0) (XR _)) (by decide)),?_⟩
  have s4:Same H0 (upd H3 x (.ins d.qc dx (putF "vouchers" (.ref v') (putF "parents" (.ref p') [])))):=kay fx s3 (nx hx3)
  have e4:(upd H3 x (.ins d.qc dx (putF "vouchers" (.ref v') (putF "parents" (.ref p') [])))) p'=some (.lst ps):=by rw[kak np];exact e3
  have ev4:(upd H3 x (.ins d.qc dx (putF "vouchers" (.ref v') (putF "parents" (.ref p') [])))) v'=some (.lst vs'):=by rw[kak nv];exact ev3
  have hx4:(upd H3 x (.ins d.qc dx (putF "vouchers" (.ref v') (putF "parents" (.ref p') [])))) x=some (.ins d.qc dx (putF "vouchers" (.ref v') (putF "parents" (.ref p') []))):=kae
  generalize upd H3 x (.ins d.qc dx (putF "vouchers" (.ref v') (putF "parents" (.ref p') [])))=H4 at *
  try apply Y4
  try refine sN fun _ Y4=>?_
  refine⟨_,rfl,rl,_,rfl, .inl (SqL.of (s4 _ _ hrl)),fun r' hr'=>?_⟩
  have n5:=kaj (o:=.lst rs) hr'
  have fr:=s4.free hr'
  have nr:r'≠x:=(kai hx4 hr').symm
  have s5:=s4.trans n5
  have e5:=n5 _ _ e4
  have ev5:=n5 _ _ ev4
  have er5:(upd H4 r' (.lst rs)) r'=some (.lst rs):=kae
  have hx5:=n5 _ _ hx4
  clear n5
  generalize upd H4 r' (.lst rs)=H5 at *
  try apply Y4
  try refine sN fun _ Y4=>?_
  refine⟨_,rfl,x,d.qc,dx,_,rfl,hx5,W.qc.cl,W.QJ,few (XZ (kal (kal (n:=0) (XR _))) (by decide)),?_⟩
  have s6:Same H0 (upd H5 x (.ins d.qc dx (putF "rules" (.ref r') (putF "vouchers" (.ref v') (putF "parents" (.ref p') []))))):=kay fx s5 (nx hx5)
  have hx6:(upd H5 x (.ins d.qc dx (putF "rules" (.ref r') (putF "vouchers" (.ref v') (putF "parents" (.ref p') []))))) x=some (.ins d.qc dx (putF "rules" (.ref r') (putF "vouchers" (.ref v') (putF "parents" (.ref p') [])))):=kae
  try apply Y4
  try refine sN fun _ Y4=>?_
  refine⟨_,rfl,_,rfl,x,d.qc,dx,_,rfl,hx6,W.qc.cl,W.QK,few (XZ (kal (kal (kal (n:=0) (XR _)))) (by decide)),?_⟩
  try apply Y4
  refine k _ p' v' r' _ (kay fx s6 (nx hx6)) fp fv fr ?_ ?_ ?_ kae ?_ ?_ ?_ ?_
  ·rw[kak np,kak np];exact e5
  ·rw[kak nv,kak nv];exact ev5
  ·rw[kak nr,kak nr];exact er5
  ·(repeat (first|rw[kaf,if_pos rfl]|rw[kaf,if_neg (by decide +kernel)]))
  ·(repeat (first|rw[kaf,if_pos rfl]|rw[kaf,if_neg (by decide +kernel)]))
  ·(repeat (first|rw[kaf,if_pos rfl]|rw[kaf,if_neg (by decide +kernel)]))
  ·(repeat (first|rw[kaf,if_pos rfl]|rw[kaf,if_neg (by decide +kernel)]))
theorem kcC{d:D}{H:Hp}{p vl rl:Addr}{T:TillD}{va ra:List Addr}{R:Addr→Hp→Prop}{E:XK}(hp:H p=some (.lst (T.ps.map pV)))(hvl:H vl=some (.lst (va.map V.ref)))(hv:P2 (fun a V=>VchIs d H a V) va T.vs)(hrl:H rl=some (.lst (ra.map V.ref)))(hr:P2 (fun a r=>RulIs H a r) ra T.rs)
  (k:∀(H':Hp) (x p' vl' rl':Addr),Same H H'→H x=none→H p'=none→H vl'=none→H rl'=none→TillAt d H' x p' vl' rl' T→R x H'):
  ∀x dx,H x=none→H dx=none→dx≠x→kda d [.ref x, .ref p, .ref vl, .ref rl, .str T.bk] (upd (upd H dx (.own x)) x (.ins d.qc dx [])) (fun v H2=>v=.non∧R x H2) E:=
 fun x dx nx nd _=>⟨H,x,dx,p,vl,rl,_,_,_,_,rfl,nx,kcn nx nd,kae,hp,hvl,hrl,fun H' p' vl' rl' fs s f1 f2 f3 h1 h2 h3 hx l1 l2 l3 l4=>⟨rfl,k H' x p' vl' rl' s nx f1 f2 f3 ⟨dx,fs,va,ra,hx,l1,l2,l3,l4,h1,h2,hv.mono fun a V h=>h.same s,h3,hr.mono fun a r h=>s _ _ h⟩⟩⟩
inductive kdQ (vs:List V) (H:Hp) (Q:VK) (E_:XK):Prop
 |ct (c k:Int) (_:vs=[.int c, .int k]) (_:0≤k) (_:k≤1000) (_:∀z:Int,0≤z→z<998244353→Q (.int z) H):kdQ vs H Q E_
theorem Q1:kaA ["_law_cell_here","_law_k","_law_once"] ["_law_cell_here","_law_k"] (kag kbl):=⟨rfl,rfl,rfl,by decide +kernel,rfl,by decide +kernel,by decide +kernel⟩
theorem kaZ(W:Wld K mg d):FnOk P w K mg base CX0 1 d.Qg d.Qh ["_law_cell_here","_law_k"] kdQ:=by
 refine FunD.ok W.qi.F Q1 (fun vs H Q E h=>?_) (fun cdv A outer s H vs Q E hr h=>?_)
 ·obtain⟨c,k,rfl,_⟩:=h
  rfl
 ·obtain⟨c,k,rfl,k0,k1,kk⟩:=h
  refine⟨_,kac (kaH (i:=2) Q1.nd rfl (Or.inl rfl) (pe_op kaq (pe_op kcO (pe_op kbp (pe_op kbp (pe_op kaq (pv 0) kab) (pe_op kcO kab (pv 1))) kab) kab) kab))
   (kah (kas (pe_op kaq (pe_op kcO (pv 2) (pe_op kbp (pe_op kbp (pe_op kaq (pv 2) kab) (pv 1)) kab)) kab))),?_⟩
  refine⟨_,rfl,_,_,rfl,rfl,(by show(0:Int)<1000000007;decide),_,rfl,_,_,rfl,rfl, .inl ⟨by decide,by decide⟩,_,_,rfl,rfl,_,_,rfl,rfl,_,_,rfl,rfl, .inr ⟨by decide,by decide⟩,_,_,rfl,rfl,(by show(0:Int)<2147483647;decide),?_⟩
  generalize ho:(c%1000000007+7*k+1)*48271%2147483647=o
  refine⟨_,rfl,_,rfl,_,_,rfl,rfl,(by show(0:Int)<1009;decide),_,rfl,_,_,rfl,rfl,_,_,rfl,rfl,_,_,rfl,rfl, .inl ⟨by omega,by omega⟩,_,_,rfl,rfl,(by show(0:Int)<998244353;decide),?_⟩
  generalize o*(o%1009+k+3)=q
  exact kk _ (by omega) (by omega)
inductive keR (K:XQ) (vs:List V) (H:Hp) (Q:VK) (E_:XK):Prop
 |ct (a:Addr) (ns:List Int) (n:Nat) (_:vs=[.ref a,iV n]) (_:SqL K H a (ns.map V.int)) (_:∀z:Int,Q (.int z) H):keR K vs H Q E_
theorem kcI:kaA ["_law_script","_law_k"] ["_law_script","_law_k"] (kag kbx):=⟨rfl,rfl,rfl,by decide +kernel,rfl,by decide +kernel,by decide +kernel⟩
theorem kcR(W:Wld K mg d):FnOk P w K mg base CX0 1 d.Qi d.Qj ["_law_script","_law_k"] (keR K):=by
 refine FunD.ok W.qD.F kcI (fun vs H Q E h=>?_) (fun cdv A outer s H vs Q E hr h=>?_)
 ·obtain⟨a,ns,n,rfl,_⟩:=h
  rfl
 ·obtain⟨a,ns,n,rfl,hS,kk⟩:=h
  refine⟨_,kac (ps_if (kaM op_lt (pv 1) (kap (r:=kbz K) kaQ (by rfl) W.B.len b_len (kaa (pv 0) kad)) (kaI _)) (kah (kas (pe_ix (r:=rIxL K) kam (pv 0) (pv 1) (fun _ _=>rfl)))) (kat))
   (kah (kas kab)),?_⟩
  refine⟨_,rfl,_,rfl,a,_,rfl, .inl hS,_,_,rfl,rfl,_,rfl,ite2 (fun h=>?_) (fun _=>kk 0)⟩
  have hn:n<ns.length:=by
   have:(n:Int)<((ns.map V.int).length:Nat):=by simpa using h
   rw[XU] at this
   omega
  obtain⟨z,ez⟩:=at_of hn
  exact⟨_,rfl,_,rfl,a,_,_,_,rfl,rfl,hS,kcf (v:=.int z) (by rw[Ys,ez];rfl),kk z⟩
noncomputable def Alk:Nat→Hp→V→V→Prop
 |0,_,_,_=>False
 |n+1,H,v,w=>(v=w∧(v=.non∨(∃z,v=.bl z)∨(∃z,v=.int z)∨∃z,v=.str z))∨∃(a b:Addr) (xs ys:List V),v=.ref a∧w=.ref b∧((H a=some (.lst xs)∧H b=some (.lst ys))∨(H a=some (.tup xs)∧H b=some (.tup ys)))∧xs.length=ys.length∧xs.length≤100∧∀(i:Nat) (x y:V),xs[i]?=some x→ys[i]?=some y→Alk n H x y
theorem Alk.same:∀{n:Nat} {H H':Hp} {v w:V},Same H H'→Alk n H v w→Alk n H' v w
 |0,_,_,_,_,_,h=>h
 | n+1,H,H',v,w,s,h=>by
  rcases h with h|⟨a,b,xs,ys,h1,h2,h3,h4,h5,h6⟩
  ·exact .inl h
  ·refine .inr ⟨a,b,xs,ys,h1,h2,?_,h4,h5,fun i x y e1 e2=>Alk.same s (h6 i x y e1 e2)⟩
   rcases h3 with⟨g1,g2⟩|⟨g1,g2⟩
   ·exact .inl ⟨s _ _ g1,s _ _ g2⟩
   ·exact .inr ⟨s _ _ g1,s _ _ g2⟩
inductive kbI (n:Nat) (vs:List V) (H:Hp) (Q:VK) (E_:XK):Prop
 |ct (v w:V) (_:vs=[v,w]) (_:Alk n H v w) (_:∀H',Same H H'→Q (.bl true) H'):kbI n vs H Q E_
theorem kdo{vs:List V}{H:Hp}{Q:VK}{E:XK}(h:kbI 0 vs H Q E):False:=by
 obtain⟨_,_,_,h,_⟩:=h
 exact h
theorem kcu:kaA ["_law_found","_law_due"] ["_law_found","_law_due"] (kag kbo):=⟨rfl,rfl,rfl,by decide +kernel,rfl,by decide +kernel,by decide +kernel⟩
theorem kbV(W:Wld K mg d)(n:Nat)(G_rec:FnOk P w K mg base CX0 (0+n) d.qw d.qx ["_law_found","_law_due"] (kbI n)):FnOk P w K mg base CX0 (0+n+1) d.qw d.qx ["_law_found","_law_due"] (kbI (n+1)):=by
 refine FunD.ok W.qj.F kcu (fun vs H Q E h=>?_) (fun cdv A outer s H vs Q E hr h=>?_)
 ·obtain⟨v,w,rfl,_⟩:=h
  rfl
 ·obtain⟨v,w,rfl,hv,k⟩:=h
  refine⟨_,kac (ps_if (ka0 (kap (r:=keT K) kdJ (by rfl) W.B.isi b_isi (kaa (pv 1) (kaa (ka1 (kaa (kaV (v:=.ty "list") (by rfl) W.B.list kbu rfl) (kaa (kaV (v:=.ty "tuple") (by rfl) W.B.tuple kdh rfl) kad))) kad)))) (kac (ps_if (PW.pt (pw_or (kaM op_ne (kap (r:=rIsi K) kan (by rfl) W.B.isi b_isi (kaa (pv 0) (kaa (kaV (v:=.ty "list") (by rfl) W.B.list kbu rfl) kad))) (kap (r:=rIsi K) kan (by rfl) W.B.isi b_isi (kaa (pv 1) (kaa (kaV (v:=.ty "list") (by rfl) W.B.list kbu rfl) kad))) (kaI _)) (keU (kaM op_ne (kap (r:=rIsi K) kan (by rfl) W.B.isi b_isi (kaa (pv 0) (kaa (kaV (v:=.ty "tuple") (by rfl) W.B.tuple kdh rfl) kad))) (kap (r:=rIsi K) kan (by rfl) W.B.isi b_isi (kaa (pv 1) (kaa (kaV (v:=.ty "tuple") (by rfl) W.B.tuple kdh rfl) kad))) (kaI _))))) (kah (kas pe_bl)) (kat))
   (kah (kas (kcm (kbc op_eq (kap (r:=kbz K) kaQ (by rfl) W.B.len b_len (kaa (pv 0) kad)) (kap (r:=kbz K) kaQ (by rfl) W.B.len b_len (kaa (pv 1) kad)) (kaI _)) (kcM (kap (keK rfl) (by rfl) W.B.all b_all (kaa (kd2 (N:=["_law_one","_law_other"]) (CompScope.plain rfl (by decide +kernel) (by decide +kernel) (by decide +kernel) (show(["_law_one","_law_other"]:List Str).Nodup by decide +kernel)) rfl (keu rfl W.B.zip (kaa (pv 0) (kaa (pv 1) kad))) (fun _ _ _ _=>kd1 (K:=K) (n:=2) rfl (kbS (kba (i:=0) (show(["_law_one","_law_other"]:List Str).Nodup by decide +kernel) rfl (Or.inl rfl)) (kbS (kba (i:=1) (show(["_law_one","_law_other"]:List Str).Nodup by decide +kernel) rfl (Or.inl rfl)) kd0))) (fun _ _ _ _=>(kax G_rec hr rfl W.qj.m W.qj.F.kp W.qj.b .nil pass0 (kaa (pv 0) (kaa (pv 1) kad))))) kad))))))) (kat))
   (kac (ps_if (kaM kd4 (pv 1) kbi (kaI _)) (kah (kas (kbc kd4 (pv 0) kbi (kaI _)))) (kat))
   (kac (ps_if (ka0 (kap (r:=rIsi K) kan (by rfl) W.B.isi b_isi (kaa (pv 1) (kaa (kaV (v:=.ty "bool") (by rfl) W.B.bool kel rfl) kad)))) (kah (kas (kcm (kap (r:=rIsi K) kan (by rfl) W.B.isi b_isi (kaa (pv 0) (kaa (kaV (v:=.ty "bool") (by rfl) W.B.bool kel rfl) kad))) (kcM (kbc op_eq (pv 0) (pv 1) (kaI _)))))) (kat))
   (kac (ps_if (ka0 (kap (r:=rIsi K) kan (by rfl) W.B.isi b_isi (kaa (pv 1) (kaa (kaV (v:=.ty "str") (by rfl) W.B.str b_str rfl) kad)))) (kah (kas (kcm (kap (r:=rIsi K) kan (by rfl) W.B.isi b_isi (kaa (pv 0) (kaa (kaV (v:=.ty "str") (by rfl) W.B.str b_str rfl) kad))) (kcM (kbc op_eq (pv 0) (pv 1) (kaI _)))))) (kat))
   (kah (kas (kcm (kap (r:=rIsi K) kan (by rfl) W.B.isi b_isi (kaa (pv 0) (kaa (kaV (v:=.ty "int") (by rfl) W.B.int b_int rfl) kad))) (kcm (kfy (kap (r:=rIsi K) kan (by rfl) W.B.isi b_isi (kaa (pv 0) (kaa (kaV (v:=.ty "bool") (by rfl) W.B.bool kel rfl) kad)))) (kcM (kbc op_eq (pv 0) (pv 1) (kaI _)))))))))),?_⟩
  rcases hv with⟨rfl,hv⟩|⟨a,b,xs,ys,rfl,rfl,hab,hlen,h100,hall⟩
  ·rcases hv with rfl|⟨z,rfl⟩|⟨z,rfl⟩|⟨z,rfl⟩
   ·refine⟨_,rfl,(by show 2≤sizeLine;decide),fun tp htp=>⟨_,tp,_,rfl,SqT.of kae,TyOf.non, .inl rfl,(fun a e=>by cases e),_,rfl,?_⟩⟩
    have k1:=k _ (kaj (o:=.tup [.ty "list", .ty "tuple"]) htp)
    rw[show isSeq (.type "NoneType")=false by decide +kernel]
    refine iteF ⟨_,rfl,rfl,_,rfl,?_⟩
    show if decide (V.non=V.non)=true then _ else _
    rw[show decide (V.non=V.non)=true by simp]
    refine iteT ⟨_,rfl,rfl,?_⟩
    show Q (.bl (decide (V.non=V.non))) _
    rw[show decide (V.non=V.non)=true by simp]
    exact k1
   ·refine⟨_,rfl,(by show 2≤sizeLine;decide),fun tp htp=>⟨_,tp,_,rfl,SqT.of kae,TyOf.bl _, .inr (.inl rfl),(fun a e=>by cases e),_,rfl,?_⟩⟩
    have k1:=k _ (kaj (o:=.tup [.ty "list", .ty "tuple"]) htp)
    rw[show isSeq (.type "bool")=false by decide +kernel]
    refine iteF ⟨_,rfl,rfl,_,rfl,?_⟩
    show if decide (V.bl z=V.non)=true then _ else _
    rw[show decide (V.bl z=V.non)=false by simp]
    refine iteF ⟨_,rfl,_,_,_,_,rfl, .inl ⟨_,rfl⟩,TyOf.bl _,kaG _ _,_,rfl,iteT ?_⟩
    refine⟨_,rfl,_,_,_,_,rfl, .inl ⟨_,rfl⟩,TyOf.bl _,kaG _ _,_,rfl,iteT ⟨_,rfl,_,rfl,rfl,?_⟩⟩
    show Q (.bl (decide (V.bl z=V.bl z))) _
    rw[show decide (V.bl z=V.bl z)=true by simp]
    exact k1
   ·refine⟨_,rfl,(by show 2≤sizeLine;decide),fun tp htp=>⟨_,tp,_,rfl,SqT.of kae,TyOf.int _, .inr (.inr (.inl rfl)),(fun a e=>by cases e),_,rfl,?_⟩⟩
    have k1:=k _ (kaj (o:=.tup [.ty "list", .ty "tuple"]) htp)
    rw[show isSeq (.type "int")=false by decide +kernel]
    refine iteF ⟨_,rfl,rfl,_,rfl,?_⟩
    show if decide (V.int z=V.non)=true then _ else _
    rw[show decide (V.int z=V.non)=false by simp]
    refine iteF ⟨_,rfl,_,_,_,_,rfl, .inl ⟨_,rfl⟩,TyOf.int _,kbM _,_,rfl,iteF ?_⟩
    refine⟨_,rfl,_,_,_,_,rfl, .inl ⟨_,rfl⟩,TyOf.int _,ka4 (by decide +kernel) (by decide +kernel) (by decide +kernel),_,rfl,iteF ?_⟩
    refine⟨_,rfl,_,_,_,_,rfl, .inl ⟨_,rfl⟩,TyOf.int _,kaG _ _,_,rfl,iteT ⟨_,rfl,_,_,_,_,rfl, .inl ⟨_,rfl⟩,TyOf.int _,kbM _,_,rfl,?_⟩⟩
    refine⟨_,rfl,iteT ⟨_,rfl,_,rfl,rfl,?_⟩⟩
    show Q (.bl (decide (V.int z=V.int z))) _
    rw[show decide (V.int z=V.int z)=true by simp]
    exact k1
   ·refine⟨_,rfl,(by show 2≤sizeLine;decide),fun tp htp=>⟨_,tp,_,rfl,SqT.of kae,TyOf.str _, .inr (.inr (.inr (.inl rfl))),(fun a e=>by cases e),_,rfl,?_⟩⟩
    have k1:=k _ (kaj (o:=.tup [.ty "list", .ty "tuple"]) htp)
    rw[show isSeq (.type "str")=false by decide +kernel]
    refine iteF ⟨_,rfl,rfl,_,rfl,?_⟩
    show if decide (V.str z=V.non)=true then _ else _
    rw[show decide (V.str z=V.non)=false by simp]
    refine iteF ⟨_,rfl,_,_,_,_,rfl, .inl ⟨_,rfl⟩,TyOf.str _,ka4 (by decide +kernel) (by decide +kernel) (by decide +kernel),_,rfl,iteF ?_⟩
    refine⟨_,rfl,_,_,_,_,rfl, .inl ⟨_,rfl⟩,TyOf.str _,kaG _ _,_,rfl,iteT ?_⟩
    refine⟨_,rfl,_,_,_,_,rfl, .inl ⟨_,rfl⟩,TyOf.str _,kaG _ _,_,rfl,iteT ⟨_,rfl,_,rfl,rfl,?_⟩⟩
    show Q (.bl (decide (V.str z=V.str z))) _
    rw[show decide (V.str z=V.str z)=true by simp]
    exact k1
  ·rcases hab with⟨ha,hb⟩|⟨ha,hb⟩
   ·refine⟨_,rfl,(by show 2≤sizeLine;decide),fun tp htp=>?_⟩
    have n1:=kaj (o:=.tup [.ty "list", .ty "tuple"]) htp
    have e1:(upd H tp (.tup [.ty "list", .ty "tuple"])) tp=some (.tup [.ty "list", .ty "tuple"]):=kae
    generalize upd H tp (.tup [.ty "list", .ty "tuple"])=H1 at *
    have ha1:=n1 _ _ ha
    have hb1:=n1 _ _ hb
    refine⟨_,tp,_,rfl,SqT.of e1,TyOf.lst hb1, .inr (.inr (.inr (.inr (.inl rfl)))),(fun c e=>by cases e;exact .inl ⟨_,hb1⟩),_,rfl,?_⟩
    rw[show isSeq (.type "list")=true by decide +kernel]
    refine iteT ⟨_,rfl,_,_,_,_,rfl, .inl ⟨_,rfl⟩,TyOf.lst ha1,kaG _ _,_,rfl,_,_,_,_,rfl, .inl ⟨_,rfl⟩,TyOf.lst hb1,kaG _ _,rfl,_,rfl,iteF ?_⟩
    refine⟨_,rfl,_,_,_,_,rfl, .inl ⟨_,rfl⟩,TyOf.lst ha1,ka4 (by decide +kernel) (by decide +kernel) (by decide +kernel),_,rfl,_,_,_,_,rfl, .inl ⟨_,rfl⟩,TyOf.lst hb1,ka4 (by decide +kernel) (by decide +kernel) (by decide +kernel),rfl,_,rfl,iteF ?_⟩
    refine⟨_,rfl,a,_,rfl, .inl (SqL.of ha1),_,rfl,b,_,rfl, .inl (SqL.of hb1),rfl,_,rfl,?_⟩
    rw[hlen,show decide (V.int ((ys.length:Nat):Int)=V.int ((ys.length:Nat):Int))=true by simp]
    have em:min xs.length ys.length=ys.length:=by rw[hlen,Nat.min_self]
    refine iteT ⟨_,rfl,_,rfl, .inl ⟨a,b,xs,ys,rfl,ha1,hb1,keJ (xs:=xs) (ys:=ys) (fun i σ ws H'=>Same H1 H'∧ws=(Yh i true).map V.bl∧∃v0 v1:Option V,σ=[v0,v1])
     ⟨Same.refl _,rfl,none,none,rfl⟩ (by rw[em];exact Yo (kaR (by omega))) (fun i σ ws H' hi h=>⟨h.1 _ _ ha1,h.1 _ _ hb1,by rw[h.2.1];simp⟩) ?_ ?_⟩⟩
    ·rintro i y1 y2 t σ ws H' hy1 hy2 ⟨s1,rfl,v0,v1,rfl⟩ ht
     have n2:=kaj (o:=.tup [y1,y2]) ht
     refine⟨t,_,rfl,SqT.of kae,rfl,_,_,rfl,_,_,rfl,rfl,_,rfl,_,rfl,y1,y2,rfl,Alk.same ((n1.trans s1).trans n2) (hall i y1 y2 hy1 hy2),fun H2 s2=>⟨(s1.trans n2).trans s2,?_,_,_,rfl⟩⟩
     rw[List.replicate_succ',Yx]
     rfl
    ·rintro σ ws H' ⟨s1,rfl,v0,v1,rfl⟩ D hD
     rw[em]
     refine⟨D,Yh ys.length true,rfl,SqL.of kae,?_⟩
     rw[show(Yh ys.length true).all id=true by simp]
     exact k _ ((n1.trans s1).trans (kaj hD))
   ·refine⟨_,rfl,(by show 2≤sizeLine;decide),fun tp htp=>?_⟩
    have n1:=kaj (o:=.tup [.ty "list", .ty "tuple"]) htp
    have e1:(upd H tp (.tup [.ty "list", .ty "tuple"])) tp=some (.tup [.ty "list", .ty "tuple"]):=kae
    generalize upd H tp (.tup [.ty "list", .ty "tuple"])=H1 at *
    have ha1:=n1 _ _ ha
    have hb1:=n1 _ _ hb
    refine⟨_,tp,_,rfl,SqT.of e1,TyOf.tup hb1, .inr (.inr (.inr (.inr (.inr rfl)))),(fun c e=>by cases e;exact .inr ⟨_,hb1⟩),_,rfl,?_⟩
    rw[show isSeq (.type "tuple")=true by decide +kernel]
    refine iteT ⟨_,rfl,_,_,_,_,rfl, .inl ⟨_,rfl⟩,TyOf.tup ha1,ka4 (by decide +kernel) (by decide +kernel) (by decide +kernel),_,rfl,_,_,_,_,rfl, .inl ⟨_,rfl⟩,TyOf.tup hb1,ka4 (by decide +kernel) (by decide +kernel) (by decide +kernel),rfl,_,rfl,iteF ?_⟩
    refine⟨_,rfl,_,_,_,_,rfl, .inl ⟨_,rfl⟩,TyOf.tup ha1,kaG _ _,_,rfl,_,_,_,_,rfl, .inl ⟨_,rfl⟩,TyOf.tup hb1,kaG _ _,rfl,_,rfl,iteF ?_⟩
    refine⟨_,rfl,a,_,rfl, .inr (SqT.of ha1),_,rfl,b,_,rfl, .inr (SqT.of hb1),rfl,_,rfl,?_⟩
    rw[hlen,show decide (V.int ((ys.length:Nat):Int)=V.int ((ys.length:Nat):Int))=true by simp]
    have em:min xs.length ys.length=ys.length:=by rw[hlen,Nat.min_self]
    refine iteT ⟨_,rfl,_,rfl, .inr ⟨a,b,xs,ys,rfl,ha1,hb1,kej (xs:=xs) (ys:=ys) (fun i σ ws H'=>Same H1 H'∧ws=(Yh i true).map V.bl∧∃v0 v1:Option V,σ=[v0,v1])
     ⟨Same.refl _,rfl,none,none,rfl⟩ (by rw[em];exact Yo (kaR (by omega))) (fun i σ ws H' hi h=>⟨h.1 _ _ ha1,h.1 _ _ hb1,by rw[h.2.1];simp⟩) ?_ ?_⟩⟩
    ·rintro i y1 y2 t σ ws H' hy1 hy2 ⟨s1,rfl,v0,v1,rfl⟩ ht
     have n2:=kaj (o:=.tup [y1,y2]) ht
     refine⟨t,_,rfl,SqT.of kae,rfl,_,_,rfl,_,_,rfl,rfl,_,rfl,_,rfl,y1,y2,rfl,Alk.same ((n1.trans s1).trans n2) (hall i y1 y2 hy1 hy2),fun H2 s2=>⟨(s1.trans n2).trans s2,?_,_,_,rfl⟩⟩
     rw[List.replicate_succ',Yx]
     rfl
    ·rintro σ ws H' ⟨s1,rfl,v0,v1,rfl⟩ D hD
     rw[em]
     refine⟨D,Yh ys.length true,rfl,SqL.of kae,?_⟩
     rw[show(Yh ys.length true).all id=true by simp]
     exact k _ ((n1.trans s1).trans (kaj hD))
theorem kbt(W:Wld K mg d):∀n:Nat,FnOk P w K mg base CX0 (0+n) d.qw d.qx ["_law_found","_law_due"] (kbI n)
 |0=>⟨fun _ _ _ _ h=>(kdo h).elim,fun _ _ _ _ _ _ _ _ _ _ _ _ _ h=>(kdo h).elim⟩
 |n+1=>kbV W n (kbt W n)
theorem kcz(W:Wld K mg d):FnOk P w K mg base CX0 5 d.qw d.qx ["_law_found","_law_due"] (kbI 5):=kbt W 5
theorem at4N{a b c e:V}{i:Int}(h0:0≤i)(h4:i<4):∃v,atI [a,b,c,e] i=some v∧(v=a∨v=b∨v=c∨v=e):=by
 obtain⟨n,rfl⟩:=Int.eq_ofNat_of_zero_le h0
 have hn:n<4:=by omega
 match n,hn with
 |0,_=>exact⟨a,rfl, .inl rfl⟩
 |1,_=>exact⟨b,rfl, .inr (.inl rfl)⟩
 |2,_=>exact⟨c,rfl, .inr (.inr (.inl rfl))⟩
 |3,_=>exact⟨e,rfl, .inr (.inr (.inr rfl))⟩
theorem at3N{a b c:V}{i:Int}(h0:0≤i)(h3:i<3):∃v,atI [a,b,c] i=some v∧(v=a∨v=b∨v=c):=by
 obtain⟨n,rfl⟩:=Int.eq_ofNat_of_zero_le h0
 have hn:n<3:=by omega
 match n,hn with
 |0,_=>exact⟨a,rfl, .inl rfl⟩
 |1,_=>exact⟨b,rfl, .inr (.inl rfl)⟩
 |2,_=>exact⟨c,rfl, .inr (.inr rfl)⟩
inductive kdS (vs:List V) (H:Hp) (Q:VK) (E_:XK):Prop
 |ct (z:Int) (g:Bool) (_:vs=[.int z, .bl g]) (_:∀(H':Hp) (c:Int),Same H H'→0≤c→c≤1000000000000→Q (.int c) H'):kdS vs H Q E_
theorem kct:kaA ["_law_drawn","_law_great"] ["_law_drawn","_law_great"] (kag kbn):=⟨rfl,rfl,rfl,by decide +kernel,rfl,by decide +kernel,by decide +kernel⟩
theorem kbC(W:Wld K mg d):FnOk P w K mg base CX0 1 d.Qk d.Ql ["_law_drawn","_law_great"] kdS:=by
 refine FunD.ok W.ql.F kct (fun vs H Q E h=>?_) (fun cdv A outer s H vs Q E hr h=>?_)
 ·obtain⟨z,g,rfl,_⟩:=h
  rfl
 ·obtain⟨z,g,rfl,kk⟩:=h
  refine⟨_,kac (ps_if (ka0 (pv 1)) (kah (kas (pe_ix (r:=rIxL K) kam (ka2 (kaa (pe_op kaq (pe_op kcO (pv 0) kab) kab) (kaa (pe_op keY (pe_op kfB kab kab) (pe_op kaq (pe_op kaE (pv 0) kab) kab)) (kaa (pe_op kaq (pe_op kaE (pv 0) kab) kab) (kaa kab kad))))) (pe_op kaq (pv 0) kab) (fun _ _=>rfl)))) (kat))
   (kah (kas (pe_ix (r:=rIxL K) kam (ka2 (kaa (pe_op kaq (pe_op kaE (pv 0) kab) kab) (kaa (pe_op kaq (pe_op kaE (pv 0) kab) kab) (kaa (pe_op kaq (pe_op kaE (pv 0) kab) kab) (kaa kab kad))))) (pe_op kaq (pv 0) kab) (fun _ _=>rfl)))),?_⟩
  refine⟨_,rfl,g,rfl,?_⟩
  cases g with
  |true=>
   refine iteT ⟨_,rfl,_,_,rfl,rfl, .inr ⟨by decide,by decide⟩,_,_,rfl,rfl,(by show(0:Int)<1000000000001;decide),_,_,rfl,rfl,⟨by decide,by decide,by decide⟩,_,rfl,_,_,rfl,rfl,⟨by decide,by decide⟩,_,_,rfl,rfl,(by show(0:Int)<3;decide),_,_,rfl,rfl,_,rfl,_,_,rfl,rfl,⟨by decide,by decide⟩,_,_,rfl,rfl,(by show(0:Int)<9;decide),(by show 4≤sizeLine;decide),fun p hp=>?_⟩
   have e10:(10:Int) ^ (12:Int).toNat=1000000000000:=by decide
   obtain⟨v,e,hv⟩:=at4N (a:=.int (z*1000003%1000000000001)) (b:=.int ((10:Int) ^ (12:Int).toNat-z/4%3)) (c:=.int (z/4%9)) (e:=.int 0) (i:=z%4) (by omega) (by omega)
   refine⟨_,rfl,_,_,rfl,rfl,(by show(0:Int)<4;decide),p,_,_,v,rfl,rfl,SqL.of kae,e,?_⟩
   rcases hv with rfl|rfl|rfl|rfl
   ·exact kk _ _ (kaj hp) (by omega) (by omega)
   ·exact kk _ _ (kaj hp) (by rw[e10];omega) (by rw[e10];omega)
   ·exact kk _ _ (kaj hp) (by omega) (by omega)
   ·exact kk _ _ (kaj hp) (by omega) (by omega)
  |false=>
   refine iteF ⟨_,rfl,_,_,rfl,rfl,⟨by decide,by decide⟩,_,_,rfl,rfl,(by show(0:Int)<7;decide),_,rfl,_,_,rfl,rfl,⟨by decide,by decide⟩,_,_,rfl,rfl,(by show(0:Int)<40;decide),_,rfl,_,_,rfl,rfl,⟨by decide,by decide⟩,_,_,rfl,rfl,(by show(0:Int)<300;decide),(by show 4≤sizeLine;decide),fun p hp=>?_⟩
   obtain⟨v,e,hv⟩:=at4N (a:=.int (z/4%7)) (b:=.int (z/4%40)) (c:=.int (z/4%300)) (e:=.int 0) (i:=z%4) (by omega) (by omega)
   refine⟨_,rfl,_,_,rfl,rfl,(by show(0:Int)<4;decide),p,_,_,v,rfl,rfl,SqL.of kae,e,?_⟩
   rcases hv with rfl|rfl|rfl|rfl
   ·exact kk _ _ (kaj hp) (by omega) (by omega)
   ·exact kk _ _ (kaj hp) (by omega) (by omega)
   ·exact kk _ _ (kaj hp) (by omega) (by omega)
   ·exact kk _ _ (kaj hp) (by omega) (by omega)
inductive keQ (vs:List V) (H:Hp) (Q:VK) (E_:XK):Prop
 |ct (c:Int) (_:vs=[.int c]) (_:∀(H':Hp) (p:Addr) (ps:List (Option Nat)),Same H H'→H p=none→H' p=some (.lst (ps.map pV))→Good ps→ps.length≤20→0<ps.length→Q (.ref p) H'):keQ vs H Q E_
theorem qM:kaA ["_law_cell_here","_law_parents_here","_law_k","_law_drawn"] ["_law_cell_here"] (kag ka8):=⟨rfl,rfl,rfl,by decide +kernel,rfl,by decide +kernel,by decide +kernel⟩
theorem kb3(W:Wld K mg d):FnOk P w K mg base CX0 2 d.Qm d.Qn ["_law_cell_here"] keQ:=by
 refine FunD.ok W.qE.F qM (fun vs H Q E h=>?_) (fun cdv A outer s H vs Q E hr h=>?_)
 ·obtain⟨c,rfl,_⟩:=h
  rfl
 ·obtain⟨c,rfl,kk⟩:=h
  have qp:=kaZ (P:=P) (w:=w) (base:=base) W
  refine⟨_,kac (kaH (i:=1) qM.nd rfl (Or.inl rfl) (ka2 (kaa kbi kad)))
   (kac (kdr PassesOwn.never rfl (kdZ rfl W.B.range (kaa kab (kaa (pe_op kbp kab (pe_op kaq (kax qp hr rfl W.qi.m W.qi.F.kp W.qi.b .nil pass0 (kaa (pv 0) (kaa kab kad))) kab)) kad))) (kba (i:=2) qM.nd rfl (Or.inl rfl))
   (kac (kaH (i:=3) qM.nd rfl (Or.inl rfl) (kax qp hr rfl W.qi.m W.qi.F.kp W.qi.b .nil pass0 (kaa (pv 0) (kaa (pe_op kbp kab (pv 2)) kad))))
   (kah (kaY (pe_bm YA YL YM kbq (pv 1) (kaa (pe_ix (r:=rIxL K) kam (ka2 (kaa kbi (kaa (pe_op kaq (pe_op kaE (pv 3) kab) (pv 2)) (kaa (pe_op kaq (pe_op kaE (pv 3) kab) (pv 2)) kad)))) (pe_op kaq (pv 3) kab) (fun _ _=>rfl)) kad))))))
   (kah (kas (pv 1)))),?_⟩
  refine⟨(by show 1≤sizeLine;decide),fun p hp=>?_⟩
  have s1:=kaj (o:=.lst [V.non]) hp
  have hp1:(upd H p (.lst [V.non])) p=some (.lst (([none]:List (Option Nat)).map pV)):=kae
  generalize upd H p (.lst [V.non])=H1 at *
  refine⟨_,rfl,c,1,rfl,by decide,by decide,fun m m0 m1=>⟨_,_,rfl,rfl,(by show(0:Int)<6;decide),_,_,rfl,rfl,_,_,rfl,⟨by decide,by decide,by omega,by omega⟩,?_⟩⟩
  refine kcc (fun i σ H'=>Same H H'∧∃(ps:List (Option Nat)) (v2 v3:Option V),σ=[some (.int c),some (.ref p),v2,v3]∧H' p=some (.lst (ps.map pV))∧ps.length=i+1∧Good ps)
   ⟨s1,[none],none,none,rfl,hp1,rfl,kcX keF (fun k e=>by cases e)⟩ ?_ ?_
  ·rintro i σ H' hi ⟨s2,ps,v2,v3,rfl,hp2,hl,hg⟩
   have hi6:i<6:=by omega
   refine⟨_,rfl,_,rfl,_,_,rfl,rfl,c,1+(1+(i:Int)),rfl,by omega,by omega,fun d d0 d1=>?_⟩
   refine⟨_,rfl, .inl ⟨rfl,_,SqL.of hp2⟩,_,rfl,_,_,rfl,rfl,⟨by decide,by decide⟩,_,rfl,_,_,rfl,rfl,(by show(0:Int)<1+(i:Int);omega),_,rfl,_,_,rfl,rfl,⟨by decide,by decide⟩,_,rfl,_,_,rfl,rfl,(by show(0:Int)<1+(i:Int);omega),(by show 3≤sizeLine;decide),fun q hq=>?_⟩
   have hm0:0≤d/3%(1+(i:Int)):=Int.emod_nonneg _ (by omega)
   have hm1:d/3%(1+(i:Int))<1+(i:Int):=Int.emod_lt_of_pos _ (by omega)
   obtain⟨n,en⟩:=Int.eq_ofNat_of_zero_le hm0
   have n3:=kaj (o:=.lst [V.non,V.int (d/3%(1+(i:Int))),V.int (d/3%(1+(i:Int)))]) hq
   have hp3:=n3 _ _ hp2
   have s3:=s2.trans n3
   obtain⟨v,ev,hv⟩:=at3N (a:=.non) (b:=.int (d/3%(1+(i:Int)))) (c:=.int (d/3%(1+(i:Int)))) (i:=d%3) (by omega) (by omega)
   obtain⟨o,eo,ho⟩:∃o:Option Nat,v=pV o∧∀k,o=some k→k<ps.length:=by
    rcases hv with rfl|rfl|rfl
    ·exact⟨none,rfl,fun k e=>by cases e⟩
    ·exact⟨some n,by rw[en];rfl,fun k e=>by cases e;omega⟩
    ·exact⟨some n,by rw[en];rfl,fun k e=>by cases e;omega⟩
   subst eo
   refine⟨_,rfl,_,_,rfl,rfl,(by show(0:Int)<3;decide),q,_,_,_,rfl,rfl,SqL.of kae,ev,?_⟩
   generalize upd H' q (.lst [V.non,V.int (d/3%(1+(i:Int))),V.int (d/3%(1+(i:Int)))])=H3 at *
   refine⟨p,_,_,rfl,rfl,hp3,kaR (by rw[XU];omega),?_⟩
   refine⟨kay hp s3 (nx hp3),ps++[o],_,_,rfl,?_,by simp[hl],kcX hg ho⟩
   rw[kae]
   simp
  ·rintro σ H' ⟨s2,ps,v2,v3,rfl,hp2,hl,hg⟩
   exact⟨_,rfl,kk H' p ps s2 hp hp2 hg (by omega) (by omega)⟩
noncomputable def mkT(M:Mks):List V:=[pV M.kind, .int M.needs,oV M.most, .bl M.member, .bl M.once, .bl M.lone]
inductive kdm (vs:List V) (H:Hp) (Q:VK) (E_:XK):Prop
 |ct (c:Int) (ps:List (Option Nat)) (g:Bool) (_:vs=[.int c,iV ps.length, .bl g]) (_:0<ps.length) (_:∀(H':Hp) (t:Addr) (M:Mks),Same H H'→H t=none→H' t=some (.tup (mkT M))→MksOk ps M→Q (.ref t) H'):kdm vs H Q E_
theorem qv:kaA ["_law_cell_here","_law_kinds","_law_great","_law_drawn","_law_kind","_law_needs","_law_most","_law_other"] ["_law_cell_here","_law_kinds","_law_great"] (kag kbm):=⟨rfl,rfl,rfl,by decide +kernel,rfl,by decide +kernel,by decide +kernel⟩
theorem kcy(W:Wld K mg d):FnOk P w K mg base CX0 2 d.Qo d.Qp ["_law_cell_here","_law_kinds","_law_great"] kdm:=by
 refine FunD.ok W.qF.F qv (fun vs H Q E h=>?_) (fun cdv A outer s H vs Q E hr h=>?_)
 ·obtain⟨c,ps,g,rfl,_⟩:=h
  rfl
 ·obtain⟨c,ps,g,rfl,hl0,kk⟩:=h
  have qp:=kaZ (P:=P) (w:=w) (base:=base) W
  have qz:=kbC (P:=P) (w:=w) (base:=base) W
  refine⟨_,kac (kaH (i:=3) qv.nd rfl (Or.inl rfl) (kax qp hr rfl W.qi.m W.qi.F.kp W.qi.b .nil pass0 (kaa (pv 0) (kaa kab kad))))
   (kac (kaH (i:=4) qv.nd rfl (Or.inl rfl) (pe_ix (r:=rIxL K) kam (ka2 (kaa kbi (kaa kbi (kaa (pe_op kaq (pe_op kaE (pv 3) kab) (pv 1)) kad)))) (pe_op kaq (pv 3) kab) (fun _ _=>rfl)))
   (kac (kaH (i:=5) qv.nd rfl (Or.inl rfl) (pe_ix (r:=rIxL K) kam (ka2 (kaa kab (kaa kab (kaa (kax qz hr rfl W.ql.m W.ql.F.kp W.ql.b .nil pass0 (kaa (pe_op kaE (pv 3) kab) (kaa (pv 2) kad))) kad)))) (pe_op kaq (pe_op kaE (pv 3) kab) kab) (fun _ _=>rfl)))
   (kac (kaH (i:=6) qv.nd rfl (Or.inl rfl) (pe_ix (r:=rIxL K) kam (ka2 (kaa kbi (kaa kbi (kaa kbi (kaa (kax qz hr rfl W.ql.m W.ql.F.kp W.ql.b .nil pass0 (kaa (pe_op kaE (pv 3) kab) (kaa (pv 2) kad))) kad))))) (pe_op kaq (pe_op kaE (pv 3) kab) kab) (fun _ _=>rfl)))
   (kac (kaH (i:=7) qv.nd rfl (Or.inl rfl) (kax qp hr rfl W.qi.m W.qi.F.kp W.qi.b .nil pass0 (kaa (pv 0) (kaa kab kad))))
   (kah (kas (ka1 (kaa (pv 4) (kaa (pv 5) (kaa (pv 6) (kaa (kbc op_eq (pe_op kaq (pv 7) kab) kab (kaI _)) (kaa (kbc op_eq (pe_op kaq (pe_op kaE (pv 7) kab) kab) kab (kaI _)) (kaa (kbc op_eq (pe_op kaq (pe_op kaE (pv 7) kab) kab) kab (kaI _)) kad))))))))))))),?_⟩
  refine⟨_,rfl,c,11,rfl,by decide,by decide,fun d d0 d1=>?_⟩
  have hm0:0≤d/3%(ps.length:Int):=Int.emod_nonneg _ (by omega)
  have hm1:d/3%(ps.length:Int)<(ps.length:Int):=Int.emod_lt_of_pos _ (by omega)
  refine⟨_,rfl,_,_,rfl,rfl,⟨by decide,by decide⟩,_,rfl,_,_,rfl,rfl,(by show(0:Int)<(ps.length:Int);omega),(by show 3≤sizeLine;decide),fun l1 hl1=>?_⟩
  obtain⟨v1,e1,hv1⟩:=at3N (a:=.non) (b:=.non) (c:=.int (d/3%(ps.length:Int))) (i:=d%3) (by omega) (by omega)
  obtain⟨kd,rfl,hkd⟩:∃kd:Option Nat,v1=pV kd∧∀k,kd=some k→k<ps.length:=by
   rcases hv1 with rfl|rfl|rfl
   ·exact⟨none,rfl,fun k e=>by cases e⟩
   ·exact⟨none,rfl,fun k e=>by cases e⟩
   ·exact⟨some (d/3%(ps.length:Int)).toNat,by show V.int _=V.int _;rw[Int.toNat_of_nonneg hm0],fun k e=>by cases e;omega⟩
  refine⟨_,rfl,_,_,rfl,rfl,(by show(0:Int)<3;decide),l1,_,_,_,rfl,rfl,SqL.of kae,e1,?_⟩
  have s1:=kaj (o:=.lst [V.non,V.non,V.int (d/3%(ps.length:Int))]) hl1
  generalize upd H l1 (.lst [V.non,V.non,V.int (d/3%(ps.length:Int))])=H1 at *
  refine⟨_,rfl,_,_,rfl,rfl,⟨by decide,by decide⟩,_,rfl,_,g,rfl,fun H2 c2 s2 c20 c21=>⟨(by show 3≤sizeLine;decide),fun l2 hl2=>?_⟩⟩
  obtain⟨v2,e2,hv2⟩:=at3N (a:=.int 0) (b:=.int 0) (c:=.int c2) (i:=d/9%3) (by omega) (by omega)
  obtain⟨nd,rfl,hnd⟩:∃nd:Int,v2=.int nd∧0≤nd∧nd≤1000000000000:=by
   rcases hv2 with rfl|rfl|rfl
   ·exact⟨0,rfl,by decide,by decide⟩
   ·exact⟨0,rfl,by decide,by decide⟩
   ·exact⟨c2,rfl,c20,c21⟩
  refine⟨_,rfl,_,_,rfl,rfl,⟨by decide,by decide⟩,_,_,rfl,rfl,(by show(0:Int)<3;decide),l2,_,_,_,rfl,rfl,SqL.of kae,e2,?_⟩
  have s3:=(s1.trans s2).trans (kaj (o:=.lst [V.int 0,V.int 0,V.int c2]) hl2)
  generalize upd H2 l2 (.lst [V.int 0,V.int 0,V.int c2])=H3 at *
  refine⟨_,rfl,_,_,rfl,rfl,⟨by decide,by decide⟩,_,rfl,_,g,rfl,fun H4 c4 s4 c40 c41=>⟨(by show 4≤sizeLine;decide),fun l4 hl4=>?_⟩⟩
  obtain⟨v4,e4,hv4⟩:=at4N (a:=.non) (b:=.non) (c:=.non) (e:=.int c4) (i:=d/27%4) (by omega) (by omega)
  obtain⟨mo,rfl,hmo⟩:∃mo:Option Int,v4=oV mo∧∀m,mo=some m→0≤m∧m≤1000000000000:=by
   rcases hv4 with rfl|rfl|rfl|rfl
   ·exact⟨none,rfl,fun m e=>by cases e⟩
   ·exact⟨none,rfl,fun m e=>by cases e⟩
   ·exact⟨none,rfl,fun m e=>by cases e⟩
   ·exact⟨some c4,rfl,fun m e=>by cases e;exact⟨c40,c41⟩⟩
  refine⟨_,rfl,_,_,rfl,rfl,⟨by decide,by decide⟩,_,_,rfl,rfl,(by show(0:Int)<4;decide),l4,_,_,_,rfl,rfl,SqL.of kae,e4,?_⟩
  have s5:=(s3.trans s4).trans (kaj (o:=.lst [V.non,V.non,V.non,V.int c4]) hl4)
  generalize upd H4 l4 (.lst [V.non,V.non,V.non,V.int c4])=H5 at *
  refine⟨_,rfl,c,12,rfl,by decide,by decide,fun o o0 o1=>?_⟩
  refine⟨_,rfl,_,rfl,_,rfl,_,rfl,_,_,rfl,rfl,(by show(0:Int)<7;decide),rfl,_,rfl,_,_,rfl,rfl,⟨by decide,by decide⟩,_,_,rfl,rfl,(by show(0:Int)<4;decide),rfl,_,rfl,_,_,rfl,rfl,⟨by decide,by decide⟩,_,_,rfl,rfl,(by show(0:Int)<4;decide),rfl,(by show 6≤sizeLine;decide),fun t ht=>?_⟩
  have fin:∀b1 b2 b3:Bool,Q (.ref t) (upd H5 t (.tup (mkT ⟨kd,nd,mo,b1,b2,b3⟩))):=fun b1 b2 b3=>kk (upd H5 t (.tup (mkT ⟨kd,nd,mo,b1,b2,b3⟩))) t ⟨kd,nd,mo,b1,b2,b3⟩ (s5.trans (kaj ht)) (s5.free ht) kae ⟨hkd,hnd,hmo⟩
  exact fin _ _ _
noncomputable def srtT:Srt→List V
 | .off a=>[.str "off", .int a]
 | .share s b=>[.str "share", .int s, .bl b]
 | .cheap n=>[.str "cheapest", .int n]
 | .bund n p=>[.str "bundle", .int n, .int p]
 | .carr=>[.str "carriage"]
noncomputable def VchT(H:Hp)(t:Addr)(V:Vch):Prop:=∃mt,H t=some (.tup (srtT V.so++[.ref mt]))∧H mt=some (.tup (mkT V.ms))
theorem VchT.same{H H':Hp}{t:Addr}{V:Vch}(s:Same H H'):VchT H t V→VchT H' t V:=fun⟨mt,h1,h2⟩=>⟨mt,s _ _ h1,s _ _ h2⟩
theorem VchT.put{H:Hp}{t l:Addr}{V:Vch}{xs ys:List L2.V}(hl:H l=some (.lst xs)):VchT H t V→VchT (upd H l (.lst ys)) t V:=fun⟨mt,h1,h2⟩=>
 ⟨mt,by rw[kak (ne_of h1 hl (by intro z;cases z))];exact h1,by rw[kak (ne_of h2 hl (by intro z;cases z))];exact h2⟩
theorem P2.put{α β:Type}{R: α→β→Prop}{a: α}{b: β}(r:R a b):∀{as:List α} {bs:List β} (i:Nat),P2 R as bs→P2 R (as.set i a) (bs.set i b)
 |_,_,_, .nil=>.nil
 |_,_,0, .cons _ t=>.cons r t
 |_,_,i+1, .cons q t=>.cons q (P2.put r i t)
theorem kfo{ss:List Str}{i:Int}(h0:0≤i)(h:i<((ss.length:Nat):Int)):∃z,z∈ss∧atI (ss.map V.str) i=some (.str z):=by
 obtain⟨n,rfl⟩:=Int.eq_ofNat_of_zero_le h0
 obtain⟨z,ez⟩:=at_of (xs:=ss) (i:=n) (by omega)
 exact⟨z,YF ez,kcf (by rw[Ys,ez];rfl)⟩
theorem RulIs.put{H:Hp}{a l:Addr}{r:Rul}{xs ys:List L2.V}(hl:H l=some (.lst xs))(h:RulIs H a r):RulIs (upd H l (.lst ys)) a r:=by
 have h':H a=some (.tup [.str r.w,iV r.a,iV r.b]):=h
 show(upd H l (.lst ys)) a=_
 rw[kak (ne_of h' hl (by intro z;cases z))]
 exact h'
inductive kdk (vs:List V) (H:Hp) (Q:VK) (E_:XK):Prop
 |ct (c:Int) (ps:List (Option Nat)) (g:Bool) (_:vs=[.int c,iV ps.length, .bl g]) (_:0<ps.length) (_:∀(H':Hp) (t mt:Addr) (so:Srt) (M:Mks),Same H H'→H t=none→H' t=some (.tup (srtT so++[.ref mt]))→H' mt=some (.tup (mkT M))→SrtOk so→MksOk ps M→Q (.ref t) H'):kdk vs H Q E_
theorem qN:kaA ["_law_cell_here","_law_kinds","_law_great","_law_drawn","_law_marks_here","_law_rest"] ["_law_cell_here","_law_kinds","_law_great"] (kag ka7):=⟨rfl,rfl,rfl,by decide +kernel,rfl,by decide +kernel,by decide +kernel⟩
theorem kb0(W:Wld K mg d):FnOk P w K mg base CX0 3 d.Qq d.Qr ["_law_cell_here","_law_kinds","_law_great"] kdk:=by
 refine FunD.ok W.qG.F qN (fun vs H Q E h=>?_) (fun cdv A outer s H vs Q E hr h=>?_)
 ·obtain⟨c,ps,g,rfl,_⟩:=h
  rfl
 ·obtain⟨c,ps,g,rfl,hl0,kk⟩:=h
  have qp:=kaZ (P:=P) (w:=w) (base:=base) W
  have Xq:=kcy (P:=P) (w:=w) (base:=base) W
  have qz:=kbC (P:=P) (w:=w) (base:=base) W
  have hr1:Room 1 _:=hr.mono (by decide)
  refine⟨_,kac (kaH (i:=3) qN.nd rfl (Or.inl rfl) (kax qp hr1 rfl W.qi.m W.qi.F.kp W.qi.b .nil pass0 (kaa (pv 0) (kaa kab kad))))
   (kac (kaH (i:=4) qN.nd rfl (Or.inl rfl) (kax Xq hr rfl W.qF.m W.qF.F.kp W.qF.b .nil pass0 (kaa (pv 0) (kaa (pv 1) (kaa (pv 2) kad)))))
   (kac (kaH (i:=5) qN.nd rfl (Or.inl rfl) (pe_op kaE (pv 3) kab))
   (kac (ps_if (kaM op_lt (pe_op kaq (pv 3) kab) kab (kaI _)) (kah (kas (ka1 (kaa kaO (kaa (kax qz hr1 rfl W.ql.m W.ql.F.kp W.ql.b .nil pass0 (kaa (pv 5) (kaa (pv 2) kad))) (kaa (pv 4) kad)))))) (kat))
   (kac (ps_if (kaM op_eq (pe_op kaq (pv 3) kab) kab (kaI _)) (kah (kas (ka1 (kaa kaO (kaa (pe_ix (r:=rIxL K) kam (ka2 (kaa kab (kaa kab (kaa (pe_op kbp kab (pe_op kaq (pe_op kaE (pv 5) kab) kab)) kad)))) (pe_op kaq (pv 5) kab) (fun _ _=>rfl)) (kaa (kbc op_eq (pe_op kaq (pe_op kaE (pv 5) kab) kab) kab (kaI _)) (kaa (pv 4) kad))))))) (kat))
   (kac (ps_if (kaM op_eq (pe_op kaq (pv 3) kab) kab (kaI _)) (kah (kas (ka1 (kaa kaO (kaa (pe_ix (r:=rIxL K) kam (ka2 (kaa kab (kaa kab (kaa (pe_op kbp kab (pe_op kaq (pe_op kaE (pv 5) kab) kab)) kad)))) (pe_op kaq (pv 5) kab) (fun _ _=>rfl)) (kaa (pv 4) kad)))))) (kat))
   (kac (ps_if (kaM op_eq (pe_op kaq (pv 3) kab) kab (kaI _)) (kah (kas (ka1 (kaa kaO (kaa (pe_ix (r:=rIxL K) kam (ka2 (kaa kab (kaa kab (kaa (pe_op kbp kab (pe_op kaq (pe_op kaE (pv 5) kab) kab)) kad)))) (pe_op kaq (pv 5) kab) (fun _ _=>rfl)) (kaa (kax qz hr1 rfl W.ql.m W.ql.F.kp W.ql.b .nil pass0 (kaa (pe_op kaE (pv 5) kab) (kaa (pv 2) kad))) (kaa (pv 4) kad))))))) (kat))
   (kah (kas (ka1 (kaa kaO (kaa (pv 4) kad))))))))))),?_⟩
  try refine sN fun _ Y4=>?_
  refine⟨_,rfl,c,13,rfl,by decide,by decide,fun d d0 d1=>?_⟩
  try apply Y4
  try refine sN fun _ Y4=>?_
  refine⟨_,rfl,_,rfl,_,rfl,c,ps,g,rfl,hl0,fun H1 mt M s1 f1 h1 hM=>?_⟩
  try apply Y4
  try refine sN fun _ Y4=>?_
  refine⟨_,rfl,_,_,rfl,rfl,⟨by decide,by decide⟩,?_⟩
  have fin:∀(so:Srt) (H2:Hp) (t:Addr),Same H1 H2→H2 t=none→SrtOk so→Q (.ref t) (upd H2 t (.tup (srtT so++[.ref mt]))):=fun so H2 t s2 ft hso=>kk _ t mt so M ((s1.trans s2).trans (kaj ft)) ((s1.trans s2).free ft) kae (kaj ft _ _ (s2 _ _ h1)) hso hM
  try apply Y4
  try refine sN fun _ Y4=>?_
  refine⟨_,rfl,_,_,rfl,rfl,(by show(0:Int)<6;decide),_,_,rfl,rfl,_,rfl,ite2 (fun _=>?_) (fun _=>?_)⟩
  ·exact⟨_,rfl,_,rfl,_,g,rfl,fun H2 a s2 a0 a1=>⟨_,rfl,(by show 3≤sizeLine;decide),fun t ht=>fin (.off a) H2 t s2 ht ⟨a0,a1⟩⟩⟩
  try apply Y4
  try refine sN fun _ Y4=>?_
  refine⟨_,rfl,_,_,rfl,rfl,(by show(0:Int)<6;decide),rfl,_,rfl,ite2 (fun _=>?_) (fun _=>?_)⟩
  ·refine⟨_,rfl,_,_,rfl,rfl,⟨by decide,by decide⟩,_,_,rfl,rfl,(by show(0:Int)<1000;decide),_,_,rfl,rfl,(by show 3≤sizeLine;decide),fun l hl=>?_⟩
   obtain⟨v,e,hv⟩:=at3N (a:=.int 1) (b:=.int 1000) (c:=.int (1+d/6/3%1000)) (i:=d/6%3) (by omega) (by omega)
   obtain⟨sh,rfl,hsh⟩:∃sh:Int,v=.int sh∧1≤sh∧sh≤1000:=by
    rcases hv with rfl|rfl|rfl
    ·exact⟨1,rfl,by decide,by decide⟩
    ·exact⟨1000,rfl,by decide,by decide⟩
    ·exact⟨_,rfl,by omega,by omega⟩
   have s2:=kaj (o:=.lst [V.int 1,V.int 1000,V.int (1+d/6/3%1000)]) hl
   have e2:(upd H1 l (.lst [V.int 1,V.int 1000,V.int (1+d/6/3%1000)])) l=some (.lst [V.int 1,V.int 1000,V.int (1+d/6/3%1000)]):=kae
   generalize upd H1 l (.lst [V.int 1,V.int 1000,V.int (1+d/6/3%1000)])=H2 at *
   try apply Y4
   try refine sN fun _ Y6=>?_
   refine⟨_,rfl,_,_,rfl,rfl,(by show(0:Int)<3;decide),l,_,_,_,rfl,rfl,SqL.of e2,e,?_⟩
   try first|apply Y6|apply Y4
   try refine sN fun _ Y6=>?_
   refine⟨_,rfl,_,_,rfl,rfl,⟨by decide,by decide⟩,_,_,rfl,rfl,(by show(0:Int)<2;decide),?_⟩
   try first|apply Y6|apply Y4
   try refine sN fun _ Y6=>?_
   refine⟨rfl,?_⟩
   try first|apply Y6|apply Y4
   try refine sN fun _ Y6=>?_
   refine⟨_,rfl,(by show 4≤sizeLine;decide),fun t ht=>?_⟩
   have f2:∀b:Bool,Q (.ref t) (upd H2 t (.tup (srtT (.share sh b)++[.ref mt]))):=fun b=>fin (.share sh b) H2 t s2 ht hsh
   try first|apply Y6|apply Y4
   exact f2 _
  try apply Y4
  try refine sN fun _ Y4=>?_
  refine⟨_,rfl,_,_,rfl,rfl,(by show(0:Int)<6;decide),rfl,_,rfl,ite2 (fun _=>?_) (fun _=>?_)⟩
  ·refine⟨_,rfl,_,_,rfl,rfl,⟨by decide,by decide⟩,_,_,rfl,rfl,(by show(0:Int)<19;decide),_,_,rfl,rfl,(by show 3≤sizeLine;decide),fun l hl=>?_⟩
   obtain⟨v,e,hv⟩:=at3N (a:=.int 2) (b:=.int 3) (c:=.int (2+d/6/3%19)) (i:=d/6%3) (by omega) (by omega)
   obtain⟨m,rfl,hm⟩:∃m:Int,v=.int m∧2≤m∧m≤20:=by
    rcases hv with rfl|rfl|rfl
    ·exact⟨2,rfl,by decide,by decide⟩
    ·exact⟨3,rfl,by decide,by decide⟩
    ·exact⟨_,rfl,by omega,by omega⟩
   have s2:=kaj (o:=.lst [V.int 2,V.int 3,V.int (2+d/6/3%19)]) hl
   have e2:(upd H1 l (.lst [V.int 2,V.int 3,V.int (2+d/6/3%19)])) l=some (.lst [V.int 2,V.int 3,V.int (2+d/6/3%19)]):=kae
   generalize upd H1 l (.lst [V.int 2,V.int 3,V.int (2+d/6/3%19)])=H2 at *
   try apply Y4
   exact⟨_,rfl,_,_,rfl,rfl,(by show(0:Int)<3;decide),l,_,_,_,rfl,rfl,SqL.of e2,e,_,rfl,(by show 3≤sizeLine;decide),fun t ht=>fin (.cheap m) H2 t s2 ht hm⟩
  try apply Y4
  try refine sN fun _ Y4=>?_
  refine⟨_,rfl,_,_,rfl,rfl,(by show(0:Int)<6;decide),rfl,_,rfl,ite2 (fun _=>?_) (fun _=>?_)⟩
  ·refine⟨_,rfl,_,_,rfl,rfl,⟨by decide,by decide⟩,_,_,rfl,rfl,(by show(0:Int)<19;decide),_,_,rfl,rfl,(by show 3≤sizeLine;decide),fun l hl=>?_⟩
   obtain⟨v,e,hv⟩:=at3N (a:=.int 2) (b:=.int 3) (c:=.int (2+d/6/3%19)) (i:=d/6%3) (by omega) (by omega)
   obtain⟨m,rfl,hm⟩:∃m:Int,v=.int m∧2≤m∧m≤20:=by
    rcases hv with rfl|rfl|rfl
    ·exact⟨2,rfl,by decide,by decide⟩
    ·exact⟨3,rfl,by decide,by decide⟩
    ·exact⟨_,rfl,by omega,by omega⟩
   have s2:=kaj (o:=.lst [V.int 2,V.int 3,V.int (2+d/6/3%19)]) hl
   have e2:(upd H1 l (.lst [V.int 2,V.int 3,V.int (2+d/6/3%19)])) l=some (.lst [V.int 2,V.int 3,V.int (2+d/6/3%19)]):=kae
   generalize upd H1 l (.lst [V.int 2,V.int 3,V.int (2+d/6/3%19)])=H2 at *
   try apply Y4
   exact⟨_,rfl,_,_,rfl,rfl,(by show(0:Int)<3;decide),l,_,_,_,rfl,rfl,SqL.of e2,e,_,rfl,_,_,rfl,rfl,⟨by decide,by decide⟩,_,rfl,_,g,rfl,fun H3 a s3 a0 a1=>⟨_,rfl,(by show 4≤sizeLine;decide),fun t ht=>fin (.bund m a) H3 t (s2.trans s3) ht ⟨hm.1,hm.2,a0,a1⟩⟩⟩
  try apply Y4
  exact⟨_,rfl,(by show 2≤sizeLine;decide),fun t ht=>fin .carr H1 t (Same.refl _) ht trivial⟩
inductive kdR (d:D) (vs:List V) (H:Hp) (Q:VK) (E_:XK):Prop
 |ct (t mt:Addr) (so:Srt) (M:Mks) (_:vs=[.ref t]) (_:H t=some (.tup (srtT so++[.ref mt]))) (_:H mt=some (.tup (mkT M))) (_:Tbs d H) (_:∀(H':Hp) (v:Addr),Same H H'→H v=none→VchIs d H' v ⟨so,M⟩→Q (.ref v) H'):kdR d vs H Q E_
theorem Qc:kaA ["_law_told_here","_law_marks_here","_law_own"] ["_law_told_here"] (kag kbw):=⟨rfl,rfl,rfl,by decide +kernel,rfl,by decide +kernel,by decide +kernel⟩
theorem kcQ(W:Wld K mg d):FnOk P w K mg base CX0 6 d.Qs d.Qt ["_law_told_here"] (kdR d):=by
 refine FunD.ok W.qH.F Qc (fun vs H Q E h=>?_) (fun cdv A outer s H vs Q E hr h=>?_)
 ·obtain⟨t,mt,so,M,rfl,_⟩:=h
  rfl
 ·obtain⟨t,mt,so,M,rfl,ht,hmt,htb0,kk⟩:=h
  have Qb:=kbD (P:=P) (w:=w) (base:=base) W
  have Qd:=kb5 (P:=P) (w:=w) (base:=base) W
  have Xr:=kcA (P:=P) (w:=w) (base:=base) W
  have Xs:=kbQ (P:=P) (w:=w) (base:=base) W
  have Xt:=kch (P:=P) (w:=w) (base:=base) W
  have Xu:=kbR (P:=P) (w:=w) (base:=base) W
  have hr2:Room 2 _:=hr.mono (by decide)
  refine⟨_,kac (kaH (i:=1) Qc.nd rfl (Or.inl rfl) (pe_ix (r:=rIxT K) kaX (pv 0) (pe_op keY (kap (r:=kbz K) kaQ (by rfl) W.B.len b_len (kaa (pv 0) kad)) kab) (fun _ _=>rfl)))
   (kac (kaH (i:=2) Qc.nd rfl (Or.inl rfl) (kbb (W.qK.mk' W.qd) Qb hr2 rfl W.qd.m W.qK.b .nil pass0 (kaa (pe_ix (r:=rIxT K) kaX (pv 1) kab (fun _ _=>rfl)) (kaa (pe_ix (r:=rIxT K) kaX (pv 1) kab (fun _ _=>rfl)) (kaa (pe_ix (r:=rIxT K) kaX (pv 1) kab (fun _ _=>rfl)) (kaa (pe_ix (r:=rIxT K) kaX (pv 1) kab (fun _ _=>rfl)) (kaa (pe_ix (r:=rIxT K) kaX (pv 1) kab (fun _ _=>rfl)) (kaa (pe_ix (r:=rIxT K) kaX (pv 1) kab (fun _ _=>rfl)) kad))))))))
   (kac (ps_if (kaM op_eq (pe_ix (r:=rIxT K) kaX (pv 0) kab (fun _ _=>rfl)) kaO (kaI _)) (kah (kas (kbb (W.qL.mk' W.c_Off) Qd hr rfl W.c_Off.m W.qL.b .nil pass0 (kaa (pe_ix (r:=rIxT K) kaX (pv 0) kab (fun _ _=>rfl)) (kaa (pv 2) kad))))) (kat))
   (kac (ps_if (kaM op_eq (pe_ix (r:=rIxT K) kaX (pv 0) kab (fun _ _=>rfl)) kaO (kaI _)) (kah (kas (kbb (W.qX.mk' W.qe) Xr hr rfl W.qe.m W.qX.b .nil pass0 (kaa (pe_ix (r:=rIxT K) kaX (pv 0) kab (fun _ _=>rfl)) (kaa (pe_ix (r:=rIxT K) kaX (pv 0) kab (fun _ _=>rfl)) (kaa (pv 2) kad)))))) (kat))
   (kac (ps_if (kaM op_eq (pe_ix (r:=rIxT K) kaX (pv 0) kab (fun _ _=>rfl)) kaO (kaI _)) (kah (kas (kbb (W.qY.mk' W.qg) Xs hr rfl W.qg.m W.qY.b .nil pass0 (kaa (pe_ix (r:=rIxT K) kaX (pv 0) kab (fun _ _=>rfl)) (kaa (pv 2) kad))))) (kat))
   (kac (ps_if (kaM op_eq (pe_ix (r:=rIxT K) kaX (pv 0) kab (fun _ _=>rfl)) kaO (kaI _)) (kah (kas (kbb (W.qZ.mk' W.qf) Xt hr rfl W.qf.m W.qZ.b .nil pass0 (kaa (pe_ix (r:=rIxT K) kaX (pv 0) kab (fun _ _=>rfl)) (kaa (pe_ix (r:=rIxT K) kaX (pv 0) kab (fun _ _=>rfl)) (kaa (pv 2) kad)))))) (kat))
   (kah (kas (kbb (W.Qa.mk' W.qh) Xu hr rfl W.qh.m W.Qa.b .nil pass0 (kaa (pv 2) kad))))))))),?_⟩
  obtain⟨kd,nd,mo,b1,b2,b3⟩:=M
  have el:atI (srtT so++[V.ref mt]) (((srtT so++[V.ref mt]).length:Nat)-1)=some (V.ref mt):=by cases so <;> rfl
  refine⟨_,rfl,_,rfl,t,_,rfl, .inr (SqT.of ht),_,_,rfl,rfl,t,_,_,_,rfl,rfl,SqT.of ht,el,?_⟩
  refine⟨_,rfl,mt,_,_,_,rfl,rfl,SqT.of hmt,rfl,_,rfl,mt,_,_,_,rfl,rfl,SqT.of hmt,rfl,_,rfl,mt,_,_,_,rfl,rfl,SqT.of hmt,rfl,_,rfl,mt,_,_,_,rfl,rfl,SqT.of hmt,rfl,_,rfl,mt,_,_,_,rfl,rfl,SqT.of hmt,rfl,_,rfl,mt,_,_,_,rfl,rfl,SqT.of hmt,rfl,?_⟩
  refine kdw (M:=⟨kd,nd,mo,b1,b2,b3⟩) fun H1 mA s1 f1 hM=>?_
  have htb:Tbs d H1:=Tbs.same s1 htb0
  have ht1:=s1 _ _ ht
  have no:∀(a b:Str) (R1 R2:Prop),a≠b→R2→if decide (V.str a=V.str b)=true then R1 else R2:=fun a b R1 R2 hn h=>by
   rw[eq_str,decide_eq_false hn,if_neg X4]
   exact h
  cases so with
  |off a=>
   refine⟨_,rfl,t,_,_,_,rfl,rfl,SqT.of ht1,rfl,rfl,_,rfl,?_⟩
   show if decide (V.str "off"=V.str "off")=true then _ else _
   rw[show decide (V.str "off"=V.str "off")=true by simp]
   exact iteT ⟨_,rfl,t,_,_,_,rfl,rfl,SqT.of ht1,rfl,_,rfl,kcU (so:=.off a) ⟨_,rfl⟩ rfl hM fun H2 x s2 f2 hV=>kk H2 x (s1.trans s2) (s1.free f2) hV⟩
  |share sh b=>
   refine⟨_,rfl,t,_,_,_,rfl,rfl,SqT.of ht1,rfl,rfl,_,rfl,no "share" "off" _ _ (by decide +kernel) ?_⟩
   refine⟨_,rfl,t,_,_,_,rfl,rfl,SqT.of ht1,rfl,rfl,_,rfl,?_⟩
   show if decide (V.str "share"=V.str "share")=true then _ else _
   rw[show decide (V.str "share"=V.str "share")=true by simp]
   exact iteT ⟨_,rfl,t,_,_,_,rfl,rfl,SqT.of ht1,rfl,_,rfl,t,_,_,_,rfl,rfl,SqT.of ht1,rfl,_,rfl,kcU (so:=.share sh b) ⟨_,_,rfl⟩ rfl hM fun H2 x s2 f2 hV=>kk H2 x (s1.trans s2) (s1.free f2) hV⟩
  |cheap m=>
   refine⟨_,rfl,t,_,_,_,rfl,rfl,SqT.of ht1,rfl,rfl,_,rfl,no "cheapest" "off" _ _ (by decide +kernel) ?_⟩
   refine⟨_,rfl,t,_,_,_,rfl,rfl,SqT.of ht1,rfl,rfl,_,rfl,no "cheapest" "share" _ _ (by decide +kernel) ?_⟩
   refine⟨_,rfl,t,_,_,_,rfl,rfl,SqT.of ht1,rfl,rfl,_,rfl,?_⟩
   show if decide (V.str "cheapest"=V.str "cheapest")=true then _ else _
   rw[show decide (V.str "cheapest"=V.str "cheapest")=true by simp]
   exact iteT ⟨_,rfl,t,_,_,_,rfl,rfl,SqT.of ht1,rfl,_,rfl,kcU (so:=.cheap m) ⟨_,rfl⟩ rfl hM fun H2 x s2 f2 hV=>kk H2 x (s1.trans s2) (s1.free f2) hV⟩
  |bund m pz=>
   refine⟨_,rfl,t,_,_,_,rfl,rfl,SqT.of ht1,rfl,rfl,_,rfl,no "bundle" "off" _ _ (by decide +kernel) ?_⟩
   refine⟨_,rfl,t,_,_,_,rfl,rfl,SqT.of ht1,rfl,rfl,_,rfl,no "bundle" "share" _ _ (by decide +kernel) ?_⟩
   refine⟨_,rfl,t,_,_,_,rfl,rfl,SqT.of ht1,rfl,rfl,_,rfl,no "bundle" "cheapest" _ _ (by decide +kernel) ?_⟩
   refine⟨_,rfl,t,_,_,_,rfl,rfl,SqT.of ht1,rfl,rfl,_,rfl,?_⟩
   show if decide (V.str "bundle"=V.str "bundle")=true then _ else _
   rw[show decide (V.str "bundle"=V.str "bundle")=true by simp]
   exact iteT ⟨_,rfl,t,_,_,_,rfl,rfl,SqT.of ht1,rfl,_,rfl,t,_,_,_,rfl,rfl,SqT.of ht1,rfl,_,rfl,kcU (so:=.bund m pz) ⟨_,_,rfl⟩ rfl hM fun H2 x s2 f2 hV=>kk H2 x (s1.trans s2) (s1.free f2) hV⟩
  |carr=>
   refine⟨_,rfl,t,_,_,_,rfl,rfl,SqT.of ht1,rfl,rfl,_,rfl,no "carriage" "off" _ _ (by decide +kernel) ?_⟩
   refine⟨_,rfl,t,_,_,_,rfl,rfl,SqT.of ht1,rfl,rfl,_,rfl,no "carriage" "share" _ _ (by decide +kernel) ?_⟩
   refine⟨_,rfl,t,_,_,_,rfl,rfl,SqT.of ht1,rfl,rfl,_,rfl,no "carriage" "cheapest" _ _ (by decide +kernel) ?_⟩
   refine⟨_,rfl,t,_,_,_,rfl,rfl,SqT.of ht1,rfl,rfl,_,rfl,no "carriage" "bundle" _ _ (by decide +kernel) ?_⟩
   exact⟨_,rfl,kfi W.qh.cl W.q9 hM fun H2 x s2 f2 hV=>kk H2 x (s1.trans s2) (s1.free f2) hV⟩
inductive kdP (d:D) (vs:List V) (H:Hp) (Q:VK) (E_:XK):Prop
 |ct (v:Addr) (V:Vch) (_:vs=[.ref v]) (_:VchIs d H v V) (_:∀(H':Hp) (t:Addr),Same H H'→VchT H' t V→Q (.ref t) H'):kdP d vs H Q E_
theorem Qe:kaA ["_law_voucher_here","_law_own","_law_marks_here"] ["_law_voucher_here"] (kag kbv):=⟨rfl,rfl,rfl,by decide +kernel,rfl,by decide +kernel,by decide +kernel⟩
theorem kcP(W:Wld K mg d):FnOk P w K mg base CX0 1 d.Qu d.Qv ["_law_voucher_here"] (kdP d):=by
 refine FunD.ok W.qI.F Qe (fun vs H Q E h=>?_) (fun cdv A outer s H vs Q E hr h=>?_)
 ·obtain⟨v,V,rfl,_⟩:=h
  rfl
 ·obtain⟨v,Vc,rfl,hV,kk⟩:=h
  obtain⟨so,M⟩:=Vc
  obtain⟨mA,dxv,fsv,hv,lvm,hso,⟨dxm,fsm,hm,m1,m2,m3,m4,m5,m6⟩,hh,_⟩:=id hV
  refine⟨_,kac (kaH (i:=1) Qe.nd rfl (Or.inl rfl) (kaN (K:=K) (pv 0) rfl))
   (kac (kaH (i:=2) Qe.nd rfl (Or.inl rfl) (ka1 (kaa (kaN (K:=K) (pv 1) rfl) (kaa (kaN (K:=K) (pv 1) rfl) (kaa (kaN (K:=K) (pv 1) rfl) (kaa (kaN (K:=K) (pv 1) rfl) (kaa (kaN (K:=K) (pv 1) rfl) (kaa (kaN (K:=K) (pv 1) rfl) kad))))))))
   (kac (ps_if (ka0 (kap (r:=rIsi K) kan (by rfl) W.B.isi b_isi (kaa (pv 0) (kaa (kbK (v:=.ref d.c_Off) (by rfl) W.g_Off rfl) kad)))) (kah (kas (ka1 (kaa kaO (kaa (kaN (K:=K) (pv 0) rfl) (kaa (pv 2) kad)))))) (kat))
   (kac (ps_if (ka0 (kap (r:=rIsi K) kan (by rfl) W.B.isi b_isi (kaa (pv 0) (kaa (kbK (v:=.ref d.qe) (by rfl) W.Q2 rfl) kad)))) (kah (kas (ka1 (kaa kaO (kaa (kaN (K:=K) (pv 0) rfl) (kaa (kaN (K:=K) (pv 0) rfl) (kaa (pv 2) kad))))))) (kat))
   (kac (ps_if (ka0 (kap (r:=rIsi K) kan (by rfl) W.B.isi b_isi (kaa (pv 0) (kaa (kbK (v:=.ref d.qg) (by rfl) W.Q3 rfl) kad)))) (kah (kas (ka1 (kaa kaO (kaa (kaN (K:=K) (pv 0) rfl) (kaa (pv 2) kad)))))) (kat))
   (kac (ps_if (ka0 (kap (r:=rIsi K) kan (by rfl) W.B.isi b_isi (kaa (pv 0) (kaa (kbK (v:=.ref d.qf) (by rfl) W.Q4 rfl) kad)))) (kah (kas (ka1 (kaa kaO (kaa (kaN (K:=K) (pv 0) rfl) (kaa (kaN (K:=K) (pv 0) rfl) (kaa (pv 2) kad))))))) (kat))
   (kac (ps_if (ka0 (kap (r:=rIsi K) kan (by rfl) W.B.isi b_isi (kaa (pv 0) (kaa (kbK (v:=.ref d.qh) (by rfl) W.Q5 rfl) kad)))) (kah (kas (ka1 (kaa kaO (kaa (pv 2) kad))))) (kat))
   (kah (kas kbi)))))))),?_⟩
  have I:=kfH W hh
  refine⟨_,rfl,v,clsOf d so,dxv,fsv,_,rfl,hv,cl_of W hh,na_of W hh,lvm,?_⟩
  refine⟨_,rfl,mA,d.qd,dxm,fsm,_,rfl,hm,W.qd.cl,W.QL,m1,_,rfl,mA,d.qd,dxm,fsm,_,rfl,hm,W.qd.cl,W.QM,m2,_,rfl,mA,d.qd,dxm,fsm,_,rfl,hm,W.qd.cl,W.QN,m3,_,rfl,mA,d.qd,dxm,fsm,_,rfl,hm,W.qd.cl,W.QO,m4,_,rfl,mA,d.qd,dxm,fsm,_,rfl,hm,W.qd.cl,W.QP,m5,_,rfl,mA,d.qd,dxm,fsm,_,rfl,hm,W.qd.cl,W.QQ,m6,(by show 6≤sizeLine;decide),fun mt fmt=>?_⟩
  generalize hg1:upd H mt _=H1
  obtain⟨n1,e1⟩:=ka3 hg1 fmt
  clear hg1
  have em:H1 mt=some (.tup (mkT M)):=e1
  have hv1:=n1 _ _ hv
  clear e1
  have fin:∀(t:Addr),H1 t=none→Q (.ref t) (upd H1 t (.tup (srtT so++[.ref mt]))):=fun t ft=>kk _ t (n1.trans (kaj ft)) ⟨mt,kae,kaj ft _ _ em⟩
  cases so with
  |off a=>
   refine⟨_,rfl,_,_,_,_,rfl, .inr ⟨_,rfl⟩,TyOf.ins hv1 (cl_of W hh) I.ha I.hn I.ht I.hm,kb9 W hh,_,rfl,iteT ?_⟩
   exact⟨_,rfl,v,d.c_Off,dxv,fsv,_,rfl,hv1,W.c_Off.cl,W.QR,hso,_,rfl,(by show 3≤sizeLine;decide),fun t ft=>fin t ft⟩
  |share s b=>
   refine⟨_,rfl,_,_,_,_,rfl, .inr ⟨_,rfl⟩,TyOf.ins hv1 (cl_of W hh) I.ha I.hn I.ht I.hm,kb9 W hh,_,rfl,iteF ?_⟩
   refine⟨_,rfl,_,_,_,_,rfl, .inr ⟨_,rfl⟩,TyOf.ins hv1 (cl_of W hh) I.ha I.hn I.ht I.hm,kbE W hh,_,rfl,iteT ?_⟩
   exact⟨_,rfl,v,d.qe,dxv,fsv,_,rfl,hv1,W.qe.cl,W.QT,hso.1,_,rfl,v,d.qe,dxv,fsv,_,rfl,hv1,W.qe.cl,W.QU,hso.2,_,rfl,(by show 4≤sizeLine;decide),fun t ft=>fin t ft⟩
  |cheap m=>
   refine⟨_,rfl,_,_,_,_,rfl, .inr ⟨_,rfl⟩,TyOf.ins hv1 (cl_of W hh) I.ha I.hn I.ht I.hm,kb9 W hh,_,rfl,iteF ?_⟩
   refine⟨_,rfl,_,_,_,_,rfl, .inr ⟨_,rfl⟩,TyOf.ins hv1 (cl_of W hh) I.ha I.hn I.ht I.hm,kbE W hh,_,rfl,iteF ?_⟩
   refine⟨_,rfl,_,_,_,_,rfl, .inr ⟨_,rfl⟩,TyOf.ins hv1 (cl_of W hh) I.ha I.hn I.ht I.hm,kbr W hh,_,rfl,iteT ?_⟩
   exact⟨_,rfl,v,d.qg,dxv,fsv,_,rfl,hv1,W.qg.cl,W.QW,hso,_,rfl,(by show 3≤sizeLine;decide),fun t ft=>fin t ft⟩
  |bund m z=>
   refine⟨_,rfl,_,_,_,_,rfl, .inr ⟨_,rfl⟩,TyOf.ins hv1 (cl_of W hh) I.ha I.hn I.ht I.hm,kb9 W hh,_,rfl,iteF ?_⟩
   refine⟨_,rfl,_,_,_,_,rfl, .inr ⟨_,rfl⟩,TyOf.ins hv1 (cl_of W hh) I.ha I.hn I.ht I.hm,kbE W hh,_,rfl,iteF ?_⟩
   refine⟨_,rfl,_,_,_,_,rfl, .inr ⟨_,rfl⟩,TyOf.ins hv1 (cl_of W hh) I.ha I.hn I.ht I.hm,kbr W hh,_,rfl,iteF ?_⟩
   refine⟨_,rfl,_,_,_,_,rfl, .inr ⟨_,rfl⟩,TyOf.ins hv1 (cl_of W hh) I.ha I.hn I.ht I.hm,kco W hh,_,rfl,iteT ?_⟩
   exact⟨_,rfl,v,d.qf,dxv,fsv,_,rfl,hv1,W.qf.cl,W.QY,hso.1,_,rfl,v,d.qf,dxv,fsv,_,rfl,hv1,W.qf.cl,W.QZ,hso.2,_,rfl,(by show 4≤sizeLine;decide),fun t ft=>fin t ft⟩
  |carr=>
   refine⟨_,rfl,_,_,_,_,rfl, .inr ⟨_,rfl⟩,TyOf.ins hv1 (cl_of W hh) I.ha I.hn I.ht I.hm,kb9 W hh,_,rfl,iteF ?_⟩
   refine⟨_,rfl,_,_,_,_,rfl, .inr ⟨_,rfl⟩,TyOf.ins hv1 (cl_of W hh) I.ha I.hn I.ht I.hm,kbE W hh,_,rfl,iteF ?_⟩
   refine⟨_,rfl,_,_,_,_,rfl, .inr ⟨_,rfl⟩,TyOf.ins hv1 (cl_of W hh) I.ha I.hn I.ht I.hm,kbr W hh,_,rfl,iteF ?_⟩
   refine⟨_,rfl,_,_,_,_,rfl, .inr ⟨_,rfl⟩,TyOf.ins hv1 (cl_of W hh) I.ha I.hn I.ht I.hm,kco W hh,_,rfl,iteF ?_⟩
   refine⟨_,rfl,_,_,_,_,rfl, .inr ⟨_,rfl⟩,TyOf.ins hv1 (cl_of W hh) I.ha I.hn I.ht I.hm,kcW W hh,_,rfl,iteT ?_⟩
   exact⟨_,rfl,(by show 2≤sizeLine;decide),fun t ft=>fin t ft⟩
theorem kbG{n:Nat}{H:Hp}{v:V}(h:v=.non∨(∃z,v=.bl z)∨(∃z,v=.int z)∨∃z,v=.str z):Alk (n+1) H v v:=.inl ⟨rfl,h⟩
theorem kfM{n:Nat}{H:Hp}{M:Mks}{x y:V}{i:Nat}(hx:(mkT M)[i]?=some x)(hy:(mkT M)[i]?=some y):Alk (n+1) H x y:=by
 rw[hx] at hy
 cases hy
 refine kbG ?_
 obtain⟨kd,nd,mo,b1,b2,b3⟩:=M
 match i,hx with
 |0,hx=>
  cases hx
  cases kd with
  |none=>exact .inl rfl
  |some k=>exact .inr (.inr (.inl ⟨_,rfl⟩))
 |1,hx=>cases hx;exact .inr (.inr (.inl ⟨_,rfl⟩))
 |2,hx=>
  cases hx
  cases mo with
  |none=>exact .inl rfl
  |some k=>exact .inr (.inr (.inl ⟨_,rfl⟩))
 |3,hx=>cases hx;exact .inr (.inl ⟨_,rfl⟩)
 |4,hx=>cases hx;exact .inr (.inl ⟨_,rfl⟩)
 |5,hx=>cases hx;exact .inr (.inl ⟨_,rfl⟩)
 |i+6,hx=>cases hx
theorem kes{so:Srt}{i:Nat}{x:V}(h:(srtT so)[i]?=some x):x=.non∨(∃z,x=.bl z)∨(∃z,x=.int z)∨∃z,x=.str z:=by
 cases so with
 |off a=>
  match i,h with
  |0,h=>cases h;exact .inr (.inr (.inr ⟨_,rfl⟩))
  |1,h=>cases h;exact .inr (.inr (.inl ⟨_,rfl⟩))
  |i+2,h=>cases h
 |share s b=>
  match i,h with
  |0,h=>cases h;exact .inr (.inr (.inr ⟨_,rfl⟩))
  |1,h=>cases h;exact .inr (.inr (.inl ⟨_,rfl⟩))
  |2,h=>cases h;exact .inr (.inl ⟨_,rfl⟩)
  |i+3,h=>cases h
 |cheap a=>
  match i,h with
  |0,h=>cases h;exact .inr (.inr (.inr ⟨_,rfl⟩))
  |1,h=>cases h;exact .inr (.inr (.inl ⟨_,rfl⟩))
  |i+2,h=>cases h
 |bund s b=>
  match i,h with
  |0,h=>cases h;exact .inr (.inr (.inr ⟨_,rfl⟩))
  |1,h=>cases h;exact .inr (.inr (.inl ⟨_,rfl⟩))
  |2,h=>cases h;exact .inr (.inr (.inl ⟨_,rfl⟩))
  |i+3,h=>cases h
 |carr=>
  match i,h with
  |0,h=>cases h;exact .inr (.inr (.inr ⟨_,rfl⟩))
  |i+1,h=>cases h
theorem ke2(so:Srt):(srtT so).length≤3:=by cases so <;> simp[srtT]
theorem kfr{n:Nat}{H:Hp}{t t':Addr}{V:Vch}(h:VchT H t V)(h':VchT H t' V):Alk (n+3) H (.ref t) (.ref t'):=by
 obtain⟨mt,h1,h2⟩:=h
 obtain⟨mt',h1',h2'⟩:=h'
 have hl:=ke2 V.so
 refine .inr ⟨t,t',_,_,rfl,rfl, .inr ⟨h1,h1'⟩,by simp,by rw[Yz,YR];omega,fun i x y ex ey=>?_⟩
 by_cases hi:i<(srtT V.so).length
 ·rw[YI hi] at ex ey
  rw[ex] at ey
  cases ey
  exact kbG (kes ex)
 ·rw[YE (by omega)] at ex ey
  have hi0:i-(srtT V.so).length=0:=by
   have:=at_lt ex
   simp at this
   omega
  rw[hi0] at ex ey
  cases ex
  cases ey
  exact .inr ⟨mt,mt',_,_,rfl,rfl, .inr ⟨h2,h2'⟩,rfl,(by show 6≤100;decide),fun j x y ex ey=>kfM ex ey⟩
theorem keM{H:Hp}{a b:Addr}{ta tb:List Addr}{vs:List Vch}(ha:H a=some (.lst (ta.map V.ref)))(hb:H b=some (.lst (tb.map V.ref)))(h:P2 (fun t V=>VchT H t V) ta vs)(h':P2 (fun t V=>VchT H t V) tb vs)(hl:vs.length≤100):Alk 5 H (.ref a) (.ref b):=by
 refine .inr ⟨a,b,_,_,rfl,rfl, .inl ⟨ha,hb⟩,by rw[XU,XU,h.len,h'.len],by rw[XU,h.len];exact hl,fun i x y ex ey=>?_⟩
 obtain⟨t,et,rfl⟩:=kck ex
 obtain⟨t',et',rfl⟩:=kck ey
 obtain⟨V,eV,hV⟩:=h.at et
 exact kfr hV (h'.get et' eV)
theorem keN{H:Hp}{a b:Addr}{ps:List (Option Nat)}(ha:H a=some (.lst (ps.map pV)))(hb:H b=some (.lst (ps.map pV)))(hl:ps.length≤100):Alk 5 H (.ref a) (.ref b):=by
 refine .inr ⟨a,b,_,_,rfl,rfl, .inl ⟨ha,hb⟩,rfl,by rw[XU];exact hl,fun i x y ex ey=>?_⟩
 rw[ex] at ey
 cases ey
 obtain⟨o,_,rfl⟩:∃o,ps[i]?=some o∧x=pV o:=keZ ex
 refine kbG ?_
 cases o with
 |none=>exact .inl rfl
 |some k=>exact .inr (.inr (.inl ⟨_,rfl⟩))
theorem keo{H:Hp}{a b:Addr}{ra rb:List Addr}{rs:List Rul}(ha:H a=some (.lst (ra.map V.ref)))(hb:H b=some (.lst (rb.map V.ref)))(h:P2 (fun t V=>RulIs H t V) ra rs)(h':P2 (fun t V=>RulIs H t V) rb rs)(hl:rs.length≤100):Alk 5 H (.ref a) (.ref b):=by
 refine .inr ⟨a,b,_,_,rfl,rfl, .inl ⟨ha,hb⟩,by rw[XU,XU,h.len,h'.len],by rw[XU,h.len];exact hl,fun i x y ex ey=>?_⟩
 obtain⟨t,et,rfl⟩:=kck ex
 obtain⟨t',et',rfl⟩:=kck ey
 obtain⟨r,er,hr⟩:=h.at et
 have hr':=h'.get et' er
 refine .inr ⟨t,t',_,_,rfl,rfl, .inr ⟨hr,hr'⟩,rfl,(by show 3≤100;decide),fun j x y ex ey=>?_⟩
 rw[ex] at ey
 cases ey
 refine kbG ?_
 match j,ex with
 |0,h=>cases h;exact .inr (.inr (.inr ⟨_,rfl⟩))
 |1,h=>cases h;exact .inr (.inr (.inl ⟨_,rfl⟩))
 |2,h=>cases h;exact .inr (.inr (.inl ⟨_,rfl⟩))
 |j+3,h=>cases h
inductive kdn (d:D) (vs:List V) (H:Hp) (Q:VK) (E_:XK):Prop
 |ct (t tp tv tr p vo rl:Addr) (T:TillD) (ta ra:List Addr) (_:vs=[.ref t, .ref p, .ref vo, .ref rl, .str T.bk]) (_:TillAt d H t tp tv tr T) (_:H p=some (.lst (T.ps.map pV))) (_:H vo=some (.lst (ta.map V.ref))) (_:P2 (fun t V=>VchT H t V) ta T.vs) (_:H rl=some (.lst (ra.map V.ref))) (_:P2 (fun a r=>RulIs H a r) ra T.rs) (_:T.ps.length≤100) (_:T.vs.length≤100) (_:T.rs.length≤100) (_:∀H',Same H H'→Q (.bl true) H'):kdn d vs H Q E_
theorem kbW:kaA ["_law_till","_law_parents_here","_law_vouchers","_law_rules_here","_law_due_back"] ["_law_till","_law_parents_here","_law_vouchers","_law_rules_here","_law_due_back"] (kag ka9):=⟨rfl,rfl,rfl,by decide +kernel,rfl,by decide +kernel,by decide +kernel⟩
theorem kb4(W:Wld K mg d):FnOk P w K mg base CX0 6 d.Qw d.Qx ["_law_till","_law_parents_here","_law_vouchers","_law_rules_here","_law_due_back"] (kdn d):=by
 refine FunD.ok W.qo.F kbW (fun vs H Q E h=>?_) (fun cdv A outer s H vs Q E hr h=>?_)
 ·obtain⟨t,tp,tv,tr,p,vo,rl,T,ta,ra,rfl,_⟩:=h
  rfl
 ·obtain⟨t,tp,tv,tr,p,vo,rl,T,ta,ra,rfl,hT,hp,hvo,hta,hrl,hra,l1,l2,l3,kk⟩:=h
  obtain⟨dx,fs,va,ra',ht,t1,t2,t3,t4,htp,htv,hva,htr,hra'⟩:=id hT
  have qO:=kcz (P:=P) (w:=w) (base:=base) W
  have Xv:=kcP (P:=P) (w:=w) (base:=base) W
  have hr1:Room 1 _:=hr.mono (by decide)
  refine⟨_,kac (ps_if (PW.pt (pw_or (kcl (ka0 (kap (r:=rIsi K) kan (by rfl) W.B.isi b_isi (kaa (kaN (K:=K) (pv 0) rfl) (kaa (kaV (v:=.ty "list") (by rfl) W.B.list kbu rfl) kad))))) (keU (kcl (ka0 (kax qO hr rfl W.qj.m W.qj.F.kp W.qj.b .nil pass0 (kaa (kaN (K:=K) (pv 0) rfl) (kaa (pv 4) kad)))))))) (kah (kas pe_bl)) (kat))
   (kac (ps_if (kcl (ka0 (kax qO hr rfl W.qj.m W.qj.F.kp W.qj.b .nil pass0 (kaa (kd2 (N:=["_law_voucher_here"]) (CompScope.plain rfl (by decide +kernel) (by decide +kernel) (by decide +kernel) (nd1 _)) rfl (kdt (K:=K) (kaN (K:=K) (pv 0) rfl)) (fun _ _ _ _=>kba (i:=0) (nd1 _) rfl (Or.inl rfl)) (fun _ _ _ _=>(kax Xv hr1 rfl W.qI.m W.qI.F.kp W.qI.b .nil pass0 (kaa (pv 0) kad)))) (kaa (pv 2) kad))))) (kah (kas pe_bl)) (kat))
   (kah (kas (kcm (kax qO hr rfl W.qj.m W.qj.F.kp W.qj.b .nil pass0 (kaa (kaN (K:=K) (pv 0) rfl) (kaa (pv 1) kad))) (kcM (kax qO hr rfl W.qj.m W.qj.F.kp W.qj.b .nil pass0 (kaa (kaN (K:=K) (pv 0) rfl) (kaa (pv 3) kad)))))))),?_⟩
  refine⟨_,rfl,t,d.qc,dx,fs,_,rfl,ht,W.qc.cl,W.qW,t2,_,_,_,_,rfl, .inl ⟨_,rfl⟩,TyOf.lst htv,kaG _ _,_,rfl,iteF ?_⟩
  refine⟨_,rfl,t,d.qc,dx,fs,_,rfl,ht,W.qc.cl,W.QK,t4,_,rfl,_,_,rfl,kbG (.inr (.inr (.inr ⟨_,rfl⟩))),fun H1 s1=>⟨_,rfl,iteF ?_⟩⟩
  refine⟨_,rfl,t,d.qc,dx,fs,_,rfl,s1 _ _ ht,W.qc.cl,W.qW,t2,tv,rfl,⟨_,SqL.of (s1 _ _ htv)⟩,kc0 (xs:=va.map V.ref) (fun i σ ys H2=>Same H1 H2∧∃(tb:List Addr) (v0:Option V),ys=tb.map V.ref∧P2 (fun t V=>VchT H2 t V) tb (T.vs.take i)∧σ=[v0]) ⟨Same.refl _,[],none,rfl, .nil,rfl⟩ (by rw[XU,hva.len];exact Yo (kaR (by omega))) ?_ ?_ ?_⟩
  ·rintro i σ ys H2 hi ⟨s2,tb,v0,rfl,htb,rfl⟩
   rw[XU,hva.len] at hi
   exact⟨SqL.of ((s1.trans s2) _ _ htv),by rw[XU,htb.len,YH];omega⟩
  ·rintro i y σ ys H2 hy ⟨s2,tb,v0,rfl,htb,rfl⟩
   obtain⟨v,ev,rfl⟩:=kck hy
   obtain⟨V,eV,hV⟩:=hva.at ev
   refine⟨_,rfl,v,V,rfl,hV.same (s1.trans s2),fun H3 t s3 ht=>⟨s2.trans s3,tb++[t],_,by rw[Yx];rfl,?_,rfl⟩⟩
   rw[take_snoc eV]
   exact P2.snoc (htb.mono fun t V h=>h.same s3) ht
  rintro σ ys H2 ⟨s2,tb,v0,rfl,htb,rfl⟩ q hq
  rw[XU,hva.len,Y8] at htb
  generalize hg3:upd H2 q _=H3
  obtain⟨n3,e3⟩:=ka3 hg3 hq
  clear hg3
  have s03:=(s1.trans s2).trans n3
  refine⟨_,rfl,_,_,rfl,keM e3 (s03 _ _ hvo) (htb.mono fun t V h=>h.same n3) (hta.mono fun t V h=>h.same s03) l2,fun H4 s4=>⟨_,rfl,iteF ?_⟩⟩
  have s04:=s03.trans s4
  refine⟨_,rfl,t,d.qc,dx,fs,_,rfl,s04 _ _ ht,W.qc.cl,W.QI,t1,_,rfl,_,_,rfl,keN (s04 _ _ htp) (s04 _ _ hp) l1,fun H5 s5=>?_⟩
  have s05:=s04.trans s5
  refine⟨_,rfl,iteT ⟨_,rfl,t,d.qc,dx,fs,_,rfl,s05 _ _ ht,W.qc.cl,W.QJ,t3,_,rfl,_,_,rfl,keo (s05 _ _ htr) (s05 _ _ hrl) (hra'.mono fun a r h=>s05 _ _ h) (hra.mono fun a r h=>s05 _ _ h) l3,fun H6 s6=>?_⟩⟩
  exact kk H6 (s05.trans s6)
inductive kdl (vs:List V) (H:Hp) (Q:VK) (E_:XK):Prop
 |ct (c:Int) (m:Nat) (_:vs=[.int c,iV m]) (_:∀(H':Hp) (rl:Addr) (ra:List Addr) (rs:List Rul),Same H H'→H rl=none→H' rl=some (.lst (ra.map V.ref))→P2 (fun a r=>RulIs H' a r) ra rs→rs.length≤6→Q (.ref rl) H'):kdl vs H Q E_
theorem qA:kaA ["_law_cell_here","_law_many","_law_rules_here","_law_k","_law_drawn","_law_word"] ["_law_cell_here","_law_many"] (kag kbk):=⟨rfl,rfl,rfl,by decide +kernel,rfl,by decide +kernel,by decide +kernel⟩
theorem kcx(W:Wld K mg d):FnOk P w K mg base CX0 2 d.Qy d.Qz ["_law_cell_here","_law_many"] kdl:=by
 refine FunD.ok W.qJ.F qA (fun vs H Q E h=>?_) (fun cdv A outer s H vs Q E hr h=>?_)
 ·obtain⟨c,m,rfl,_⟩:=h
  rfl
 ·obtain⟨c,m,rfl,kk⟩:=h
  have qp:=kaZ (P:=P) (w:=w) (base:=base) W
  refine⟨_,kac (kaH (i:=2) qA.nd rfl (Or.inl rfl) (ka2 kad))
   (kac (kdr PassesOwn.never rfl (kcL rfl W.B.range (kaa (pe_op kaq (kax qp hr rfl W.qi.m W.qi.F.kp W.qi.b .nil pass0 (kaa (pv 0) (kaa kab kad))) kab) kad)) (kba (i:=3) qA.nd rfl (Or.inl rfl))
   (kac (kaH (i:=4) qA.nd rfl (Or.inl rfl) (kax qp hr rfl W.qi.m W.qi.F.kp W.qi.b .nil pass0 (kaa (pv 0) (kaa (pe_op kbp kab (pv 3)) kad))))
   (kah (ps_if (kaM op_gt (pv 1) kab (kaI _)) (kac (kaH (i:=5) qA.nd rfl (Or.inl rfl) (pe_ix (r:=rIxL K) kam (ka2 (kaa kaO (kaa kaO (kaa kaO kad)))) (pe_op kaq (pv 4) kab) (fun _ _=>rfl)))
   (kah (kaY (pe_bm YA YL YM kbq (pv 2) (kaa (ka1 (kaa (pv 5) (kaa (pe_op kaq (pe_op kaE (pv 4) kab) (pv 1)) (kaa (pe_op kaq (pe_op kaE (pv 4) kab) (pv 1)) kad)))) kad))))) (kat)))))
   (kah (kas (pv 2)))),?_⟩
  try refine sN fun _ Y4=>?_
  refine⟨by decide,fun rl frl=>?_⟩
  generalize hg1:upd H rl _=H1
  obtain⟨n1,e1⟩:=ka3 hg1 frl
  clear hg1
  try apply Y4
  try refine sN fun _ Y4=>?_
  refine⟨_,rfl,c,30,rfl,by decide,by decide,fun y y0 y1=>⟨_,_,rfl,rfl,(by show(0:Int)<7;decide),_,rfl,by omega,by omega,?_⟩⟩
  try apply Y4
  refine kcc (fun i σ H6=>Same H H6∧∃(ra:List Addr) (rs:List Rul) (v3 v4 v5:Option V),H6 rl=some (.lst (ra.map V.ref))∧P2 (fun a r=>RulIs H6 a r) ra rs∧rs.length≤i∧σ=[some (.int c),some (iV m),some (.ref rl),v3,v4,v5])
   ⟨n1,[],[],none,none,none,e1, .nil,XR _,rfl⟩ ?_ ?_
  ·rintro i σ H6 hi ⟨s6,ra,rs,v3,v4,v5,erl,hra,hlr,rfl⟩
   have hi7:i<7:=by omega
   rw[Int.zero_add]
   try apply Y4
   try refine sN fun _ Y6=>?_
   refine⟨_,rfl,_,rfl,_,_,rfl,rfl,c,31+(i:Int),rfl,by omega,by omega,fun w w0 w1=>?_⟩
   try first|apply Y6|apply Y4
   try refine sN fun _ Y6=>?_
   refine⟨_,rfl,_,_,rfl,rfl,_,rfl,ite2 (fun hm=>?_) (fun _=>⟨s6,ra,rs,_,_,_,erl,hra,Nat.le_succ_of_le hlr,rfl⟩)⟩
   have hmn0:(0:Int)<(m:Int):=by simpa using hm
   try first|apply Y6|apply Y4
   try refine sN fun _ Y6=>?_
   refine⟨(by show 3≤sizeLine;decide),fun l7 fl7=>?_⟩
   generalize hg7:upd H6 l7 _=H7
   obtain⟨n7,e7⟩:=ka3 hg7 fl7
   clear hg7
   obtain⟨wd,_,ewd⟩:=kfo (ss:=["only","never","ahead"]) (i:=w%3) (by omega) (by show w%3<3;omega)
   try first|apply Y6|apply Y4
   try refine sN fun _ Y6=>?_
   refine⟨_,rfl,_,_,rfl,rfl,(by show(0:Int)<3;decide),l7,_,_,_,rfl,rfl,SqL.of e7,ewd,?_⟩
   have erl7:=n7 _ _ erl
   have q0:0≤w/3%(m:Int):=Int.emod_nonneg _ (by omega)
   have q2:0≤w/30%(m:Int):=Int.emod_nonneg _ (by omega)
   try first|apply Y6|apply Y4
   try refine sN fun _ Y6=>?_
   refine⟨_,rfl, .inl ⟨rfl,_,SqL.of erl7⟩,_,rfl,_,rfl,_,_,rfl,rfl,⟨by decide,by decide⟩,_,rfl,_,_,rfl,rfl,hmn0,_,rfl,_,_,rfl,rfl,⟨by decide,by decide⟩,_,rfl,_,_,rfl,rfl,hmn0,(by show 3≤sizeLine;decide),fun q fq=>?_⟩
   obtain⟨ua,eua⟩:=Int.eq_ofNat_of_zero_le q0
   obtain⟨ub,eub⟩:=Int.eq_ofNat_of_zero_le q2
   generalize hg8:upd H7 q _=H8
   obtain⟨n8,e8⟩:=ka3 hg8 fq
   clear hg8
   have hr8:RulIs H8 q ⟨wd,ua,ub⟩:=by
    show H8 q=some (.tup [.str wd,V.int ((ua:Nat):Int),V.int ((ub:Nat):Int)])
    rw[←eua,←eub]
    try first|apply Y6|apply Y4
    exact e8
   have erl8:=n8 _ _ erl7
   have lra:=hra.len
   try first|apply Y6|apply Y4
   try refine sN fun _ Y6=>?_
   refine⟨rl,_,_,rfl,rfl,erl8,kaR (by rw[XU];omega),?_⟩
   try first|apply Y6|apply Y4
   exact⟨kay frl ((s6.trans n7).trans n8) (nx erl8),ra++[q],rs++[⟨wd,ua,ub⟩],_,_,_,by rw[kae,Yx];rfl,P2.snoc (hra.mono fun a r h=>RulIs.put erl8 ((n7.trans n8) _ _ h)) (RulIs.put erl8 hr8),by rw[Yz,YR];omega,rfl⟩
  ·rintro σ H6 ⟨s6,ra,rs,v3,v4,v5,erl,hra,hlr,rfl⟩
   try first|apply Y6|apply Y4
   exact⟨_,rfl,kk H6 rl ra rs s6 frl erl hra (by omega)⟩
theorem set0{α:Type}{x: α}{xs:List α}(h:0<xs.length):ixN xs.length 0=some 0:=kfj (j:=0) h
theorem qk:kaA ["_law_script","_law_cell_here","_law_parents_here","_law_vouchers","_law_k","_law_one","_law_own","_law_rules_here","_law_backs","_law_handed","_law_till","_law_other"] ["_law_script"] (kag s_law):=⟨rfl,rfl,rfl,by decide +kernel,rfl,by decide +kernel,by decide +kernel⟩
theorem kfC(W:Wld K mg d):FnOk P w K mg base CX0 7 d.f_law d.QA ["_law_script"] (spLaw K):=by
 refine FunD.ok W.d_law.F qk (fun vs H Q E h=>?_) (fun cdv A outer s H vs Q E hr h=>?_)
 ·obtain⟨a,ns,rfl,_⟩:=h
  rfl
 ·obtain⟨a,ns,rfl,hS,hn,k⟩:=h
  have Xw:=kcR (P:=P) (w:=w) (base:=base) W
  have Xx:=kb3 (P:=P) (w:=w) (base:=base) W
  have Xy:=kb0 (P:=P) (w:=w) (base:=base) W
  have Xz:=kcQ (P:=P) (w:=w) (base:=base) W
  have XA:=kcx (P:=P) (w:=w) (base:=base) W
  have qP:=kcS (P:=P) (w:=w) (base:=base) W
  have Qf:=kb4 (P:=P) (w:=w) (base:=base) W
  have Qd:=kb5 (P:=P) (w:=w) (base:=base) W
  have hr1:Room 1 _:=hr.mono (by decide)
  have hr2:Room 2 _:=hr.mono (by decide)
  have hr3:Room 3 _:=hr.mono (by decide)
  have hr5:Room 5 _:=hr.mono (by decide)
  refine⟨_,kac (kaH (i:=1) qk.nd rfl (Or.inl rfl) (kax Xw hr1 rfl W.qD.m W.qD.F.kp W.qD.b .nil pass0 (kaa (pv 0) (kaa kab kad))))
   (kac (kaH (i:=2) qk.nd rfl (Or.inl rfl) (kax Xx hr2 rfl W.qE.m W.qE.F.kp W.qE.b .nil pass0 (kaa (pv 1) kad)))
   (kac (kaH (i:=3) qk.nd rfl (Or.inl rfl) (ka2 kad))
   (kac (kdr PassesOwn.never rfl (kfd rfl W.B.enum (kaa (kev (r:=rSlL K) ke4 (pv 0) (kdX kab) (kdX kab)) kad)) (kd1 (K:=K) (n:=2) rfl (kbS (kba (i:=4) qk.nd rfl (Or.inl rfl)) (kbS (kba (i:=5) qk.nd rfl (Or.inl rfl)) kd0)))
   (kah (kaY (pe_bm YA YL YM kbq (pv 3) (kaa (kax Xy hr3 rfl W.qG.m W.qG.F.kp W.qG.b .nil pass0 (kaa (pe_op kbp (pv 5) (pe_op kcO kab (pv 4))) (kaa (kap (r:=kbz K) kaQ (by rfl) W.B.len b_len (kaa (pv 2) kad)) (kaa (kbc op_eq (pe_op kaq (pv 5) kab) kab (kaI _)) kad)))) kad)))))
   (kac (kfa (N:=["_law_told_here"]) (CompScope.plain rfl (by decide +kernel) (by decide +kernel) (by decide +kernel) (nd1 _)) rfl (kdt (K:=K) (pv 3)) (fun _ _ _ _=>kba (i:=0) (nd1 _) rfl (Or.inl rfl)) (fun _ _ _ _=>(kax Xz hr rfl W.qH.m W.qH.F.kp W.qH.b .nil pass0 (kaa (pv 0) kad))) (kba (i:=6) qk.nd rfl (Or.inl rfl)))
   (kac (keV (ps_if (PW.pt (kfu (kaM op_gt (kap (r:=kbz K) kaQ (by rfl) W.B.len b_len (kaa (pv 6) kad)) kab (kaI _)) (ke9 (kaM op_eq (pe_op kaq (pv 1) kab) kab (kaI _))))) (kac (keW (pe_ix (r:=rIxL K) kam (pv 6) kab (fun _ _=>rfl)) (keX (pv 6) kab set_list))
   (kah (keW (pe_ix (r:=rIxL K) kam (pv 3) kab (fun _ _=>rfl)) (keX (pv 3) kab set_list)))) (kat)))
   (kac (kaH (i:=7) qk.nd rfl (Or.inl rfl) (kax XA hr2 rfl W.qJ.m W.qJ.F.kp W.qJ.b .nil pass0 (kaa (pv 1) (kaa (kap (r:=kbz K) kaQ (by rfl) W.B.len b_len (kaa (pv 3) kad)) kad))))
   (kac (kaH (i:=8) qk.nd rfl (Or.inl rfl) (ka2 (kaa kaO (kaa kaO (kaa kaO kad)))))
   (kac (kdr PassesOwn.never rfl (kcL rfl W.B.range (kaa kab kad)) (kba (i:=4) qk.nd rfl (Or.inl rfl))
   (kac (kaH (i:=9) qk.nd rfl (Or.inl rfl) (ka2 (kaa (kbe (r:=kbJ K) kaU (by rfl) W.B.list kbu (kaa (pv 2) kad)) (kaa (kbe (r:=kbJ K) kaU (by rfl) W.B.list kbu (kaa (pv 6) kad)) (kaa (kbe (r:=kbJ K) kaU (by rfl) W.B.list kbu (kaa (pv 7) kad)) kad)))))
   (kac (keV (ps_if (kaM op_eq (pv 4) kab (kaI _)) (kah (kaH (i:=10) qk.nd rfl (Or.inl rfl) (kbb (W.qu.mk' W.qc) qP hr2 rfl W.qc.m W.b1_Till_init (show Vals [.str "again"] [.str "again" d.tok0_Till_init] from(.cons ⟨_,rfl⟩ .nil)) pass0 (kaa (pe_ix (r:=rIxL K) kam (pv 9) kab (fun _ _=>rfl)) (kaa (pe_ix (r:=rIxL K) kam (pv 9) kab (fun _ _=>rfl)) (kaa (pe_ix (r:=rIxL K) kam (pv 9) kab (fun _ _=>rfl)) kad)))))) (kah (ps_if (kaM op_eq (pv 4) kab (kaI _)) (kah (kaH (i:=10) qk.nd rfl (Or.inl rfl) (kew (W.qu.mk' W.qc) qP hr2 rfl W.qc.m W.kb_Till_3_back pass0 (kaa (pe_ix (r:=rIxL K) kam (pv 9) kab (fun _ _=>rfl)) (kaa (pe_ix (r:=rIxL K) kam (pv 9) kab (fun _ _=>rfl)) (kaa (pe_ix (r:=rIxL K) kam (pv 9) kab (fun _ _=>rfl)) kad))) (kfb (pe_ix (r:=rIxL K) kam (pv 8) (pv 4) (fun _ _=>rfl)) kfv)))) (kah (kaH (i:=10) qk.nd rfl (Or.inl rfl) (kbb (W.qu.mk' W.qc) qP hr2 rfl W.qc.m W.qu.b .nil pass0 (kaa (pe_ix (r:=rIxL K) kam (pv 9) kab (fun _ _=>rfl)) (kaa (pe_ix (r:=rIxL K) kam (pv 9) kab (fun _ _=>rfl)) (kaa (pe_ix (r:=rIxL K) kam (pv 9) kab (fun _ _=>rfl)) (kaa (pe_ix (r:=rIxL K) kam (pv 8) (pv 4) (fun _ _=>rfl)) kad)))))))))))
   (kac (kaH (i:=11) qk.nd rfl (Or.inl rfl) (kbb (W.qu.mk' W.qc) qP hr2 rfl W.qc.m W.qu.b .nil pass0 (kaa (pe_ix (r:=rIxL K) kam (pv 9) kab (fun _ _=>rfl)) (kaa (pe_ix (r:=rIxL K) kam (pv 9) kab (fun _ _=>rfl)) (kaa (pe_ix (r:=rIxL K) kam (pv 9) kab (fun _ _=>rfl)) (kaa kaO kad))))))
   (kac (ps_if (kcl (ka0 (kax Qf hr rfl W.qo.m W.qo.F.kp W.qo.b .nil pass0 (kaa (pv 10) (kaa (pv 2) (kaa (pv 3) (kaa (pv 7) (kaa (pe_ix (r:=rIxL K) kam (pv 8) (pv 4) (fun _ _=>rfl)) kad)))))))) (kah (kas pe_bl)) (kat))
   (kac (kaY (pe_bm YA PySem.F.slot_list_insert PySem.F.type_list_insert kd6 (pe_ix (r:=rIxL K) kam (pv 9) kab (fun _ _=>rfl)) (kaa kab (kaa kbi kad))))
   (kac (kaY (kfA YA PySem.F.slot_list_reverse PySem.F.type_list_reverse kdE (pe_ix (r:=rIxL K) kam (pv 9) kab (fun _ _=>rfl))))
   (kac (kaY (pe_bm YA YL YM kbq (pe_ix (r:=rIxL K) kam (pv 9) kab (fun _ _=>rfl)) (kaa (kbb (W.qL.mk' W.c_Off) Qd hr5 rfl W.c_Off.m W.b1_Off_init (show Vals [.non] [.none] from(.cons rfl .nil)) pass0 (kaa kab kad)) kad)))
   (kac (kaY (pe_bm YA YL YM kbq (pe_ix (r:=rIxL K) kam (pv 9) kab (fun _ _=>rfl)) (kaa (ka1 (kaa kaO (kaa kab (kaa kab kad)))) kad)))
   (kac (ps_if (kcl (ka0 (kax Qf hr rfl W.qo.m W.qo.F.kp W.qo.b .nil pass0 (kaa (pv 10) (kaa (pv 2) (kaa (pv 3) (kaa (pv 7) (kaa (pe_ix (r:=rIxL K) kam (pv 8) (pv 4) (fun _ _=>rfl)) kad)))))))) (kah (kas pe_bl)) (kat))
   (kah (ps_if (kcl (ka0 (kax Qf hr rfl W.qo.m W.qo.F.kp W.qo.b .nil pass0 (kaa (pv 11) (kaa (pv 2) (kaa (pv 3) (kaa (pv 7) (kaa kaO kad)))))))) (kah (kas pe_bl)) (kat)))))))))))))
   (kah (kas pe_bl)))))))))),?_⟩
  have htb:∀H:Hp,Tbs d H:=fun _=>trivial
  try refine sN fun _ Y4=>?_
  refine⟨_,rfl,a,ns,0,rfl,hS,fun c=>?_⟩
  try apply Y4
  try refine sN fun _ Y4=>?_
  refine⟨_,rfl,c,rfl,fun H1 p ps s1 f1 hp hg hl20 hl0=>?_⟩
  try apply Y4
  try refine sN fun _ Y4=>?_
  refine⟨by decide,fun vo fvo=>?_⟩
  generalize hg2:upd H1 vo _=H2
  obtain⟨n2,e2⟩:=ka3 hg2 fvo
  clear hg2
  try apply Y4
  try refine sN fun _ Y4=>?_
  refine⟨_,rfl,_,rfl,_,rfl,a,_,rfl,(s1.trans n2).seq hS,fun l fl=>?_⟩
  obtain⟨ms,ems,lms⟩:=keI ns (some 1) (some 9)
  rw[ems]
  generalize hg3:upd H2 l _=H3
  obtain⟨n3,e3⟩:=ka3 hg3 fl
  clear hg3
  have nlv:l≠vo:=(kai e2 fl).symm
  try apply Y4
  try refine sN fun _ Y4=>?_
  refine⟨l,_,rfl,e3,keG (xs:=ms.map V.int) (fun i σ H'=>Same H1 H'∧H' l=some (.lst (ms.map V.int))∧∃(ta:List Addr) (vs:List Vch) (v4 v5:Option V),H' vo=some (.lst (ta.map V.ref))∧P2 (fun t V=>VchT H' t V) ta vs∧vs.length=i∧σ=[some (.ref a),some (.int c),some (.ref p),some (.ref vo),v4,v5,none,none,none,none,none,none])
   ⟨n2.trans n3,e3,[],[],none,none,n3 _ _ e2, .nil,rfl,rfl⟩ (fun i σ H' _ h=>h.2.1) ?_ ?_⟩
  ·rintro i y tp σ Hi' hy ⟨si',el',ta,vs,v4,v5,evo',hvt',hlv,rfl⟩ ftp
   obtain⟨one,eone,rfl⟩:∃z,ms[i]?=some z∧y=V.int z:=keZ hy
   have hi63:=at_lt eone
   generalize hgp:upd Hi' tp _=Hi
   obtain⟨np,ep⟩:=ka3 hgp ftp
   clear hgp
   have si:=si'.trans np
   have evo:=np _ _ evo'
   have el:=np _ _ el'
   have lta:=hvt'.len
   try apply Y4
   try refine sN fun _ Y6=>?_
   refine⟨tp,_,rfl,SqT.of ep,rfl,_,_,rfl,_,_,rfl,rfl,?_⟩
   try first|apply Y6|apply Y4
   try refine sN fun _ Y6=>?_
   refine⟨_,rfl, .inl ⟨rfl,_,SqL.of evo⟩,_,rfl,_,rfl,_,_,rfl,rfl, .inl ⟨by decide,by decide⟩,_,_,rfl,rfl,_,rfl,p,_,rfl, .inl (SqL.of (si _ _ hp)),_,rfl,_,_,rfl,rfl,(by show(0:Int)<2;decide),rfl,_,ps,_,(by rw[XU];rfl),hl0,fun H5 t mt so M s5 f5 ht hmt sok mok=>?_⟩
   have evo5:=s5 _ _ evo
   try first|apply Y6|apply Y4
   try refine sN fun _ Y6=>?_
   refine⟨vo,_,_,rfl,rfl,evo5,kaR (by rw[XU];omega),?_⟩
   try first|apply Y6|apply Y4
   try refine sN fun _ Y6=>?_
   refine⟨kay fvo (si.trans s5) (nx evo5),by rw[kak nlv];exact s5 _ _ el,ta++[t],vs++[⟨so,M⟩],_,_,by rw[kae,Yx];rfl,P2.snoc (hvt'.mono fun t V h=>(h.same (np.trans s5)).put evo5) (VchT.put evo5 ⟨mt,ht,hmt⟩),by simp[hlv],rfl⟩
  rintro σ H' ⟨sI,_,ta,vs,v4,v5,evo,hvt,hlv,rfl⟩
  rw[XU] at hlv
  have hta:=hvt.len
  try apply Y4
  try refine sN fun _ Y4=>?_
  refine⟨_,rfl,vo,rfl,⟨_,SqL.of evo⟩,kc0 (xs:=ta.map V.ref) (fun i σ ys H2=>Same H' H2∧∃(va:List Addr) (v0:Option V),ys=va.map V.ref∧P2 (fun v V=>VchIs d H2 v V) va (vs.take i)∧σ=[v0]) ⟨Same.refl _,[],none,rfl, .nil,rfl⟩ (by rw[XU,hta];exact Yo (kaR (by omega))) ?_ ?_ ?_⟩
  ·rintro i σ ys Hx hi ⟨sx,va,v0,rfl,hva,rfl⟩
   rw[XU,hta] at hi
   try apply Y4
   exact⟨SqL.of (sx _ _ evo),by rw[XU,hva.len,YH];omega⟩
  ·rintro i y σ ys Hx hy ⟨sx,va,v0,rfl,hva,rfl⟩
   obtain⟨t,et,rfl⟩:=kck hy
   obtain⟨V,eV,hV⟩:=hvt.at et
   obtain⟨so,M⟩:=V
   obtain⟨mt,g1,g2⟩:=hV.same sx
   try apply Y4
   try refine sN fun _ Y6=>?_
   refine⟨_,rfl,t,mt,so,M,rfl,g1,g2,htb _,fun Hy v sy fy hv=>?_⟩
   try first|apply Y6|apply Y4
   try refine sN fun _ Y6=>?_
   refine⟨sx.trans sy,va++[v],_,by rw[Yx];rfl,?_,rfl⟩
   rw[take_snoc eV]
   try first|apply Y6|apply Y4
   exact P2.snoc (hva.mono fun v V h=>h.same sy) hv
  rintro σ ys Hx ⟨sx,va,v0,rfl,hva,rfl⟩ ow fow
  rw[XU,hta,Y8] at hva
  have fow1:H1 ow=none:=sI.free (sx.free fow)
  generalize hg5:upd Hx ow _=H5
  obtain⟨n5,e5⟩:=ka3 hg5 fow
  clear hg5
  have s5:=(sI.trans sx).trans n5
  have sH5:=sx.trans n5
  have evo5:=sH5 _ _ evo
  have hva5:P2 (fun v V=>VchIs d H5 v V) va vs:=hva.mono fun v V h=>h.same n5
  have hvt5:P2 (fun t V=>VchT H5 t V) ta vs:=hvt.mono fun t V h=>h.same sH5
  have lva:=hva5.len
  have nvw:vo≠ow:=kai (sx _ _ evo) fow
  try apply Y4
  try refine sN fun _ Y4=>?_
  refine⟨fun σ' H6=>Same H1 H6∧∃(va' ta':List Addr) (vs':List Vch),H6 ow=some (.lst (va'.map V.ref))∧P2 (fun v V=>VchIs d H6 v V) va' vs'∧H6 vo=some (.lst (ta'.map V.ref))∧P2 (fun t V=>VchT H6 t V) ta' vs'∧vs'.length≤63∧σ'=[some (.ref a),some (.int c),some (.ref p),some (.ref vo),v4,v5,some (.ref ow),none,none,none,none,none],?_,?_⟩
  ·have stay:Same H1 H5∧∃(va' ta':List Addr) (vs':List Vch),H5 ow=some (.lst (va'.map V.ref))∧P2 (fun v V=>VchIs d H5 v V) va' vs'∧H5 vo=some (.lst (ta'.map V.ref))∧P2 (fun t V=>VchT H5 t V) ta' vs'∧vs'.length≤63∧([some (.ref a),some (.int c),some (.ref p),some (.ref vo),v4,v5,some (.ref ow),none,none,none,none,none]:St)=[some (.ref a),some (.int c),some (.ref p),some (.ref vo),v4,v5,some (.ref ow),none,none,none,none,none]:=⟨s5,va,ta,vs,e5,hva5,evo5,hvt5,by omega,rfl⟩
   try apply Y4
   try refine sN fun _ Y6=>?_
   refine⟨_,rfl,ow,_,rfl, .inl (SqL.of e5),_,_,rfl,rfl,_,rfl,ite2 (fun h1=>⟨_,rfl,_,_,rfl,rfl,(by show(0:Int)<3;decide),rfl,_,rfl,ite2 (fun _=>?_) (fun _=>stay)⟩) (fun _=>iteF stay)⟩
   have h2:1<va.length:=by
    have:=of_decide_eq_true h1
    rw[XU] at this
    omega
   obtain⟨w1,ew⟩:=at_of (xs:=va) (i:=1) h2
   obtain⟨u1,eu⟩:=at_of (xs:=ta) (i:=1) (by omega)
   obtain⟨W1,eW,hW⟩:=hva.at ew
   try first|apply Y6|apply Y4
   try refine sN fun _ Y6=>?_
   refine⟨_,rfl,ow,_,_,_,rfl,rfl,SqL.of e5,(show atI (va.map V.ref) ((1:Nat):Int)=_ from kcf (v:=.ref w1) (by rw[Ys,ew];rfl)),_,rfl,ow,_,_,0,rfl,rfl,e5,set0 (x:=V.non) (by rw[XU];omega),?_⟩
   rw[←List.map_set]
   have s6:=kay (o:=.lst ((va.set 0 w1).map V.ref)) fow1 s5 (nx e5)
   have sX:=kay (o:=.lst ((va.set 0 w1).map V.ref)) fow n5 (nx e5)
   have e6:(upd H5 ow (.lst ((va.set 0 w1).map V.ref))) ow=some (.lst ((va.set 0 w1).map V.ref)):=kae
   have evo6:(upd H5 ow (.lst ((va.set 0 w1).map V.ref))) vo=some (.lst (ta.map V.ref)):=by rw[kak nvw];exact evo5
   have hvt6:P2 (fun t Vc=>VchT (upd H5 ow (.lst ((va.set 0 w1).map V.ref))) t Vc) ta vs:=hvt5.mono fun t V h=>h.put e5
   have hva6:P2 (fun v Vc=>VchIs d (upd H5 ow (.lst ((va.set 0 w1).map V.ref))) v Vc) (va.set 0 w1) (vs.set 0 W1):=P2.put (hW.same sX) _ (hva.mono fun v V h=>h.same sX)
   generalize upd H5 ow (.lst ((va.set 0 w1).map V.ref))=H6 at *
   try first|apply Y6|apply Y4
   try refine sN fun _ Y6=>?_
   refine⟨_,rfl,vo,_,_,_,rfl,rfl,SqL.of evo6,(show atI (ta.map V.ref) ((1:Nat):Int)=_ from kcf (v:=.ref u1) (by rw[Ys,eu];rfl)),_,rfl,vo,_,_,0,rfl,rfl,evo6,set0 (x:=V.non) (by rw[XU];omega),?_⟩
   rw[←List.map_set]
   have b7:But vo H6 (upd H6 vo (.lst ((ta.set 0 u1).map V.ref))):=kao (nx evo6)
   try first|apply Y6|apply Y4
   try refine sN fun _ Y6=>?_
   refine⟨kay fvo s6 (nx evo6),va.set 0 w1,ta.set 0 u1,vs.set 0 W1,by rw[kak nvw.symm];exact e6,hva6.mono fun v V h=>h.butL b7 evo6 (htb _),kae,P2.put ((hvt6.get eu eW).put evo6) _ (hvt6.mono fun t V h=>h.put evo6),by rw[List.length_set];omega,rfl⟩
  clear hva5 hva e5 n5 s5 fow lva hvt5 hvt evo evo5 sH5
  rintro σ' H6 ⟨s6,va',ta',vs',e6,hva6,evo6,hvt6,hlv6,rfl⟩
  have hta6:=hvt6.len
  have hva6l:=hva6.len
  try apply Y4
  try refine sN fun _ Y4=>?_
  refine⟨_,rfl,_,rfl,vo,_,rfl, .inl (SqL.of evo6),c,ta'.length,(by rw[XU];rfl),fun H8 rl ra rs s8 frl erl hra hlr=>?_⟩
  have hlra:=hra.len
  try apply Y4
  try refine sN fun _ Y4=>?_
  refine⟨(by show 3≤sizeLine;decide),fun bk fbk=>?_⟩
  generalize hg9:upd H8 bk _=H9
  obtain⟨n9,ebk'⟩:=ka3 hg9 fbk
  clear hg9
  have ebk:H9 bk=some (.lst ((["again","again","shares"]:List Str).map V.str)):=ebk'
  clear ebk'
  have s69:=s8.trans n9
  have hp9:=(s6.trans s69) _ _ hp
  have e9:=s69 _ _ e6
  have evo9:=s69 _ _ evo6
  have hva9:P2 (fun v V=>VchIs d H9 v V) va' vs':=hva6.mono fun v V h=>h.same s69
  have hvt9:P2 (fun t V=>VchT H9 t V) ta' vs':=hvt6.mono fun t V h=>h.same s69
  have erl9:=n9 _ _ erl
  have hra9:P2 (fun a r=>RulIs H9 a r) ra rs:=hra.mono fun a r h=>n9 _ _ h
  clear hva6 hvt6 hra e6 evo6 erl
  try apply Y4
  try refine sN fun _ Y4=>?_
  refine⟨_,rfl,by decide,by decide,kcc (fun i σ H'=>Same H9 H'∧∃v4 v9 v10 v11:Option V,σ=[some (.ref a),some (.int c),some (.ref p),some (.ref vo),v4,v5,some (.ref ow),some (.ref rl),some (.ref bk),v9,v10,v11])
   ⟨Same.refl _,_,none,none,none,rfl⟩ ?_ ?_⟩
  ·rintro i σ Hi hi ⟨si,v4',v9,v10,v11,rfl⟩
   have hi3:i<3:=hi
   rw[Int.zero_add]
   obtain⟨bki,ebi⟩:=at_of (xs:=(["again","again","shares"]:List Str)) (i:=i) hi3
   have atB:atI ((["again","again","shares"]:List Str).map V.str) ((i:Nat):Int)=some (.str bki):=kcf (by rw[Ys,ebi];rfl)
   try apply Y4
   try refine sN fun _ Y6=>?_
   refine⟨_,rfl,p,_,rfl, .inl (SqL.of (si _ _ hp9)),fun h0 fh0=>?_⟩
   generalize hga:upd Hi h0 _=Ha
   obtain⟨na,ea⟩:=ka3 hga fh0
   clear hga
   try first|apply Y6|apply Y4
   try refine sN fun _ Y6=>?_
   refine⟨_,rfl,ow,_,rfl, .inl (SqL.of ((si.trans na) _ _ e9)),fun h1 fh1=>?_⟩
   generalize hgb:upd Ha h1 _=Hb
   obtain⟨nb,eb⟩:=ka3 hgb fh1
   clear hgb
   try first|apply Y6|apply Y4
   try refine sN fun _ Y6=>?_
   refine⟨_,rfl,rl,_,rfl, .inl (SqL.of (((si.trans na).trans nb) _ _ erl9)),fun h2 fh2=>?_⟩
   generalize hgc:upd Hb h2 _=Hc
   obtain⟨nc,ec⟩:=ka3 hgc fh2
   clear hgc
   try first|apply Y6|apply Y4
   try refine sN fun _ Y6=>?_
   refine⟨(by show 3≤sizeLine;decide),fun hd fhd=>?_⟩
   generalize hgd:upd Hc hd _=Hd
   obtain⟨nd,ed⟩:=ka3 hgd fhd
   clear hgd
   have n01:h0≠h1:=kai ea fh1
   have n02:h0≠h2:=kai (nb _ _ ea) fh2
   have n12:h1≠h2:=kai eb fh2
   have n0d:h0≠hd:=kai ((nb.trans nc) _ _ ea) fhd
   have n1d:h1≠hd:=kai (nc _ _ eb) fhd
   have n2d:h2≠hd:=kai ec fhd
   have f0:Hi h0=none:=fh0
   have f1':Hi h1=none:=na.free fh1
   have f2':Hi h2=none:=(na.trans nb).free fh2
   have sd:=((na.trans nb).trans nc).trans nd
   have s9d:=si.trans sd
   have ed0:Hd h0=some (.lst (ps.map pV)):=((nb.trans nc).trans nd) _ _ ea
   have ed1:Hd h1=some (.lst (va'.map V.ref)):=(nc.trans nd) _ _ eb
   have ed2:Hd h2=some (.lst (ra.map V.ref)):=nd _ _ ec
   clear ea eb ec na nb nc nd fh0 fh1 fh2 fhd
   have hvad:P2 (fun v V=>VchIs d Hd v V) va' vs':=hva9.mono fun v V h=>h.same s9d
   have hrad:P2 (fun a r=>RulIs Hd a r) ra rs:=hra9.mono fun a r h=>s9d _ _ h
   try first|apply Y6|apply Y4
   try refine sN fun _ Y6=>?_
   refine⟨fun σ' HT=>Same Hd HT∧∃(t tp tv tr:Addr),Hd tp=none∧Hd tv=none∧Hd tr=none∧TillAt d HT t tp tv tr ⟨ps,vs',rs,bki⟩∧σ'=[some (.ref a),some (.int c),some (.ref p),some (.ref vo),some (iV i),v5,some (.ref ow),some (.ref rl),some (.ref bk),some (.ref hd),some (.ref t),v11],?_,?_⟩
   ·rcases(show i=0∨i=1∨i=2 by omega) with rfl|rfl|rfl
    ·have eb0:bki="again":=(Option.some.inj ebi).symm
     subst eb0
     try first|apply Y6|apply Y4
     try refine sN fun _ Y10=>?_
     refine⟨_,rfl,rfl,_,rfl,?_⟩
     show if decide (iV 0=iV 0)=true then _ else _
     rw[kcY,decide_eq_true rfl]
     refine iteT ?_
     try first|apply Y10|apply Y6|apply Y4
     exact⟨_,rfl,hd,_,_,_,rfl,rfl,SqL.of ed,rfl,_,rfl,hd,_,_,_,rfl,rfl,SqL.of ed,rfl,_,rfl,hd,_,_,_,rfl,rfl,SqL.of ed,rfl,kcC (T:=⟨ps,vs',rs,"again"⟩) ed0 ed1 hvad ed2 hrad fun HT t tp tv tr sT _ g1 g2 g3 hT=>⟨sT,t,tp,tv,tr,g1,g2,g3,hT,rfl⟩⟩
    ·have eb0:bki="again":=(Option.some.inj ebi).symm
     subst eb0
     try first|apply Y10|apply Y6|apply Y4
     try refine sN fun _ Y10=>?_
     refine⟨_,rfl,rfl,_,rfl,?_⟩
     show if decide (iV 1=iV 0)=true then _ else _
     rw[kcY,decide_eq_false (by decide)]
     refine iteF ?_
     try first|apply Y10|apply Y6|apply Y4
     try refine sN fun _ Y10=>?_
     refine⟨_,rfl,rfl,_,rfl,?_⟩
     show if decide (iV 1=iV 1)=true then _ else _
     rw[kcY,decide_eq_true rfl]
     refine iteT ?_
     try first|apply Y10|apply Y6|apply Y4
     exact⟨_,rfl,hd,_,_,_,rfl,rfl,SqL.of ed,rfl,_,rfl,hd,_,_,_,rfl,rfl,SqL.of ed,rfl,_,rfl,hd,_,_,_,rfl,rfl,SqL.of ed,rfl,_,rfl,_,rfl,bk,_,_,_,rfl,rfl,SqL.of (s9d _ _ ebk),atB,kcC (T:=⟨ps,vs',rs,"again"⟩) ed0 ed1 hvad ed2 hrad fun HT t tp tv tr sT _ g1 g2 g3 hT=>⟨sT,t,tp,tv,tr,g1,g2,g3,hT,rfl⟩⟩
    ·have eb0:bki="shares":=(Option.some.inj ebi).symm
     subst eb0
     try first|apply Y10|apply Y6|apply Y4
     try refine sN fun _ Y10=>?_
     refine⟨_,rfl,rfl,_,rfl,?_⟩
     show if decide (iV 2=iV 0)=true then _ else _
     rw[kcY,decide_eq_false (by decide)]
     refine iteF ?_
     try first|apply Y10|apply Y6|apply Y4
     try refine sN fun _ Y10=>?_
     refine⟨_,rfl,rfl,_,rfl,?_⟩
     show if decide (iV 2=iV 1)=true then _ else _
     rw[kcY,decide_eq_false (by decide)]
     refine iteF ?_
     try first|apply Y10|apply Y6|apply Y4
     exact⟨_,rfl,hd,_,_,_,rfl,rfl,SqL.of ed,rfl,_,rfl,hd,_,_,_,rfl,rfl,SqL.of ed,rfl,_,rfl,hd,_,_,_,rfl,rfl,SqL.of ed,rfl,_,rfl,_,rfl,bk,_,_,_,rfl,rfl,SqL.of (s9d _ _ ebk),atB,kcC (T:=⟨ps,vs',rs,"shares"⟩) ed0 ed1 hvad ed2 hrad fun HT t tp tv tr sT _ g1 g2 g3 hT=>⟨sT,t,tp,tv,tr,g1,g2,g3,hT,rfl⟩⟩
   rintro σ' He ⟨se,t,tp,tv,tr,g1,g2,g3,hT,rfl⟩
   have ee:=se _ _ ed
   try first|apply Y6|apply Y4
   try refine sN fun _ Y6=>?_
   refine⟨_,rfl,hd,_,_,_,rfl,rfl,SqL.of ee,rfl,_,rfl,hd,_,_,_,rfl,rfl,SqL.of ee,rfl,_,rfl,hd,_,_,_,rfl,rfl,SqL.of ee,rfl,kcC (T:=⟨ps,vs',rs,"shares"⟩) (se _ _ ed0) (se _ _ ed1) (hvad.mono fun v V h=>h.same se) (se _ _ ed2) (hrad.mono fun a r h=>se _ _ h) fun Hf u up uv ur sf _ k1 k2 k3 hU=>?_⟩
   have sdf:=se.trans sf
   have s9f:=s9d.trans sdf
   have hTf:=hT.same sf
   have edf:=sdf _ _ ed
   have l1:ps.length≤100:=by omega
   have l2:vs'.length≤100:=by omega
   have l3:rs.length≤100:=by omega
   try first|apply Y6|apply Y4
   try refine sN fun _ Y6=>?_
   refine⟨_,rfl,_,rfl,_,rfl,_,rfl,_,rfl,_,rfl,bk,_,_,_,rfl,rfl,SqL.of (s9f _ _ ebk),atB,t,tp,tv,tr,p,vo,rl,⟨ps,vs',rs,bki⟩,ta',ra,rfl,hTf,s9f _ _ hp9,s9f _ _ evo9,hvt9.mono fun t V h=>h.same s9f,s9f _ _ erl9,hra9.mono fun a r h=>s9f _ _ h,l1,l2,l3,fun Hg sg=>⟨_,rfl,iteF ?_⟩⟩
   have sdg:=sdf.trans sg
   have eg0:=sdg _ _ ed0
   have eg1:=sdg _ _ ed1
   have eg2:=sdg _ _ ed2
   have egd:=sdg _ _ ed
   have hTg:=hTf.same sg
   have hUg:=hU.same sg
   have sig:=sd.trans sdg
   have k1':Hd up=none:=se.free k1
   have k2':Hd uv=none:=se.free k2
   have k3':Hd ur=none:=se.free k3
   have ne:∀{x q:Addr} {o:HO},Hd x=none→Hd q=some o→x≠q:=fun h1 h2 e=>by rw[e,h2] at h1;cases h1
   try first|apply Y6|apply Y4
   try refine sN fun _ Y6=>?_
   refine⟨_,rfl,hd,_,_,_,rfl,rfl,SqL.of egd,rfl, .inl ⟨rfl,_,SqL.of eg0⟩,h0,_,0, .non,rfl,rfl,eg0,(by decide),(by omega),kaR (by rw[XU];omega),?_⟩
   generalize hgx:upd Hg h0 _=Hx
   have bx:But h0 Hg Hx:=by rw[←hgx];exact kao (nx eg0)
   have sx':Same Hi Hx:=by rw[←hgx];exact kay f0 sig (nx eg0)
   clear hgx
   have hTx:=hTg.but bx eg0 (htb _) (ne g1 ed0) (ne g2 ed0) (ne g3 ed0)
   have hUx:=hUg.but bx eg0 (htb _) (ne k1' ed0) (ne k2' ed0) (ne k3' ed0)
   have ex1:=bx _ _ n01.symm eg1
   have ex2:=bx _ _ n02.symm eg2
   have exd:=bx _ _ n0d.symm egd
   try first|apply Y6|apply Y4
   try refine sN fun _ Y6=>?_
   refine⟨_,rfl,hd,_,_,_,rfl,rfl,SqL.of exd,rfl, .inl ⟨rfl,_,SqL.of ex1⟩,h1,_,rfl,rfl,ex1,?_⟩
   rw[←List.map_reverse]
   generalize hgy:upd Hx h1 _=Hy
   have ey1:Hy h1=some (.lst (va'.reverse.map V.ref)):=by rw[←hgy];exact kae
   have bY:But h1 Hx Hy:=by rw[←hgy];exact kao (nx ex1)
   have sy:Same Hi Hy:=by rw[←hgy];exact kay f1' sx' (nx ex1)
   clear hgy
   have hTy:=hTx.but bY ex1 (htb _) (ne g1 ed1) (ne g2 ed1) (ne g3 ed1)
   have hUy:=hUx.but bY ex1 (htb _) (ne k1' ed1) (ne k2' ed1) (ne k3' ed1)
   have ey2:=bY _ _ n12.symm ex2
   have eyd:=bY _ _ n1d.symm exd
   try first|apply Y6|apply Y4
   try refine sN fun _ Y6=>?_
   refine⟨_,rfl,hd,_,_,_,rfl,rfl,SqL.of eyd,rfl, .inl ⟨rfl,_,SqL.of ey1⟩,kfh (so:=.off 1) ⟨_,rfl⟩ rfl (fun Hz x sz fz hV=>?_) (htb _)⟩
   have ez1:=sz _ _ ey1
   try first|apply Y6|apply Y4
   try refine sN fun _ Y6=>?_
   refine⟨h1,_,_,rfl,rfl,ez1,kaR (by rw[XU,List.length_reverse];omega),?_⟩
   generalize hgw:upd Hz h1 _=Hw
   have bw:But h1 Hz Hw:=by rw[←hgw];exact kao (nx ez1)
   have sw:Same Hi Hw:=by rw[←hgw];exact kay f1' (sy.trans sz) (nx ez1)
   clear hgw
   have hTw:=(hTy.same sz).but bw ez1 (htb _) (ne g1 ed1) (ne g2 ed1) (ne g3 ed1)
   have hUw:=(hUy.same sz).but bw ez1 (htb _) (ne k1' ed1) (ne k2' ed1) (ne k3' ed1)
   have ew2:=bw _ _ n12.symm (sz _ _ ey2)
   have ewd:=bw _ _ n1d.symm (sz _ _ eyd)
   try first|apply Y6|apply Y4
   try refine sN fun _ Y6=>?_
   refine⟨_,rfl,hd,_,_,_,rfl,rfl,SqL.of ewd,rfl, .inl ⟨rfl,_,SqL.of ew2⟩,(by show 3≤sizeLine;decide),fun q fq=>?_⟩
   generalize hgq:upd Hw q _=Hq
   obtain⟨nq,eq⟩:=ka3 hgq fq
   clear hgq
   have eq2:=nq _ _ ew2
   try first|apply Y6|apply Y4
   try refine sN fun _ Y6=>?_
   refine⟨h2,_,_,rfl,rfl,eq2,kaR (by rw[XU];omega),?_⟩
   generalize hgr:upd Hq h2 _=Hr
   have br:But h2 Hq Hr:=by rw[←hgr];exact kao (nx eq2)
   have sr:Same Hi Hr:=by rw[←hgr];exact kay f2' (sw.trans nq) (nx eq2)
   clear hgr
   have hTr:=(hTw.same nq).but br eq2 (htb _) (ne g1 ed2) (ne g2 ed2) (ne g3 ed2)
   have hUr:=(hUw.same nq).but br eq2 (htb _) (ne k1' ed2) (ne k2' ed2) (ne k3' ed2)
   have s9r:=si.trans sr
   try first|apply Y6|apply Y4
   try refine sN fun _ Y6=>?_
   refine⟨_,rfl,_,rfl,_,rfl,_,rfl,_,rfl,_,rfl,bk,_,_,_,rfl,rfl,SqL.of (s9r _ _ ebk),atB,t,tp,tv,tr,p,vo,rl,⟨ps,vs',rs,bki⟩,ta',ra,rfl,hTr,s9r _ _ hp9,s9r _ _ evo9,hvt9.mono fun t V h=>h.same s9r,s9r _ _ erl9,hra9.mono fun a r h=>s9r _ _ h,l1,l2,l3,fun Hs ss=>⟨_,rfl,iteF ?_⟩⟩
   have s9s:=s9r.trans ss
   try first|apply Y6|apply Y4
   try refine sN fun _ Y6=>?_
   refine⟨_,rfl,_,rfl,_,rfl,_,rfl,u,up,uv,ur,p,vo,rl,⟨ps,vs',rs,"shares"⟩,ta',ra,rfl,hUr.same ss,s9s _ _ hp9,s9s _ _ evo9,hvt9.mono fun t V h=>h.same s9s,s9s _ _ erl9,hra9.mono fun a r h=>s9s _ _ h,l1,l2,l3,fun Ht st=>⟨_,rfl,iteF ?_⟩⟩
   try first|apply Y6|apply Y4
   exact⟨s9s.trans st,_,_,_,_,rfl⟩
  ·rintro σ Hi ⟨si,v4',v9,v10,v11,rfl⟩
   try first|apply Y6|apply Y4
   exact k _
end
end Vs
namespace Vs
open PySem L2
theorem ln0{C:List Value→Prop}(k:C []):∀us:List Value,us.length=0→C us:=fun us h=>by
 cases us with
 |nil=>exact k
 |cons a us=>cases h
theorem lnS{C:List Value→Prop}{n:Nat}(k:∀(a:Value) (us:List Value),us.length=n→C (a::us)):∀us:List Value,us.length=n+1→C us:=fun us h=>by
 cases us with
 |nil=>cases h
 |cons a us=>exact k a us (Nat.succ.inj h)
theorem nL1{C:List Value→Prop}(k:∀a0:Value,C [a0]):∀us:List Value,us.length=1→C us:=lnS fun a0=>ln0 (k a0)
theorem nL2{C:List Value→Prop}(k:∀a0 a1:Value,C [a0,a1]):∀us:List Value,us.length=2→C us:=lnS fun a0=>lnS fun a1=>ln0 (k a0 a1)
theorem nL3{C:List Value→Prop}(k:∀a0 a1 a2:Value,C [a0,a1,a2]):∀us:List Value,us.length=3→C us:=lnS fun a0=>lnS fun a1=>lnS fun a2=>ln0 (k a0 a1 a2)
theorem nL4{C:List Value→Prop}(k:∀a0 a1 a2 a3:Value,C [a0,a1,a2,a3]):∀us:List Value,us.length=4→C us:=lnS fun a0=>lnS fun a1=>lnS fun a2=>lnS fun a3=>ln0 (k a0 a1 a2 a3)
theorem nL5{C:List Value→Prop}(k:∀a0 a1 a2 a3 a4:Value,C [a0,a1,a2,a3,a4]):∀us:List Value,us.length=5→C us:=lnS fun a0=>lnS fun a1=>lnS fun a2=>lnS fun a3=>lnS fun a4=>ln0 (k a0 a1 a2 a3 a4)
theorem nL6{C:List Value→Prop}(k:∀a0 a1 a2 a3 a4 a5:Value,C [a0,a1,a2,a3,a4,a5]):∀us:List Value,us.length=6→C us:=lnS fun a0=>lnS fun a1=>lnS fun a2=>lnS fun a3=>lnS fun a4=>lnS fun a5=>ln0 (k a0 a1 a2 a3 a4 a5)
theorem nL7{C:List Value→Prop}(k:∀a0 a1 a2 a3 a4 a5 a6:Value,C [a0,a1,a2,a3,a4,a5,a6]):∀us:List Value,us.length=7→C us:=lnS fun a0=>lnS fun a1=>lnS fun a2=>lnS fun a3=>lnS fun a4=>lnS fun a5=>lnS fun a6=>ln0 (k a0 a1 a2 a3 a4 a5 a6)
theorem bd_mk{K:XQ}{fd:FuncData}{ps:List Str}{ds:List Value}{n:Nat}(hn:n+ds.length=ps.length)(k:∀s:Shared,K.In s.heap→∀us:List Value,us.length=n→BindsTo s fd ⟨us,[]⟩ (ps.zip (us++ds))):Binds K fd ps ds:=fun s us KX hl=>k s KX us (by rw[Yz] at hl;omega)
theorem dn_mk{K:XQ}{st:Stmt}{ps:List Str}{f:Addr}{oc:Value}{od an:Option Addr}{osl:Array (Option Value)}{kV doc pm cdv ct:Value}{h:Heap}{mg:Str→Option Value}{x:Str}(X:K.In h)(G:h.Ns mainGlobals mg)(a:XY K mainGlobals x=some (some (.ref f)))(l:K.lookup f=some ⟨oc,od, .func (XX x x (kau st) (kar st) (kag st) .none kV doc pm an cdv ct),osl⟩)(c:Ya K cdv x=true)(k:X0 K (.ref f)=true)(b:∀(kV doc pm:Value) (an:Option Addr) (cdv ct:Value),∀us:List Value,us.length=ps.length→bindArgs (XX x x (kau st) (kar st) (kag st) .none kV doc pm an cdv ct) ⟨us,[]⟩=pure (ps.zip us)):Dn K mg x st ps f (XX x x (kau st) (kar st) (kag st) .none kV doc pm an cdv ct):=⟨kbd l c k,Binds.all (b _ _ _ _ _ _),X7 X G a⟩
theorem all_mk{l:Y1}{w:World}{K:XQ}{h:Heap}{mg:Str→Option Value}{fa z3v z4p z3t z3o z2v z3w z2x z41 z4i z34 z3r z6q zh zu z1g zf zn z26 ze zi z1f zg z1d z39 zd zo z2d za zk zy zc zm z1k zb zl z19:Addr}{za4 z96 z6x z2c z75 z68 z3e z6a z4x z2o z59 z7z z4g z83 z6d z3h z63 z3y z22 z43 z5n z31 z5t z4k z20 z49:Option Addr}{za6 z6z z78 z6c z6h z5a z58 z8c z80 z6n z6e z4j z48 z5q z5r z47 z45:Array (Option Value)}{za3 z98 z95 z97 z86 z94 z7d z2a z2b z27 z1a z28 z72 z6f z3f z3b z3c z1q z3j z6j z5f z2f z2k z2e zz z2h z4v z8b z4q z4h z4d z2q z4o z8e z64 z3g z3d z3k z1o z3i z6k z4l z1v z1z z24 zs z21 z3x z5p z2r z36 z2y z1e z2t z5u z40 z23 z1y z1w zq z25 z4a:Value}{z7g z2l z6m z1x z4t z7y z65 z4b z5s z4f:Nat}{z3n z4m z3l z3m z2u z3s z32 z4r z4s z37 z3u:FuncData}(X:K.In h)(G:h.Ns mainGlobals mg)(hfa:mg "law"=some (.ref fa))
  (z7b:Dn K mg "_law_mixed" kbl ["_law_cell_here","_law_k"] z3v z3n)
  (z7u:Dn K mg "_law_cell" kbx ["_law_script","_law_k"] z4p z4m)
  (z7h:Dn K mg "_law_alike" kbo ["_law_found","_law_due"] z3t z3l)
  (z73:Dn K mg "_law_coins" kbn ["_law_drawn","_law_great"] z3o z3m)
  (z5z:Dn K mg "_law_parents" ka8 ["_law_cell_here"] z2v z2u)
  (z6v:Dn K mg "_law_marks" kbm ["_law_cell_here","_law_kinds","_law_great"] z3w z3s)
  (z5k:Dn K mg "_law_voucher" ka7 ["_law_cell_here","_law_kinds","_law_great"] z2x z32)
  (z7w:Dn K mg "_law_made" kbw ["_law_told_here"] z41 z4r)
  (z89:Dn K mg "_law_told" kbv ["_law_voucher_here"] z4i z4s)
  (z61:Dn K mg "_law_is_till" ka9 ["_law_till","_law_parents_here","_law_vouchers","_law_rules_here","_law_due_back"] z34 z37)
  (z77:Dn K mg "_law_rules" kbk ["_law_cell_here","_law_many"] z3r z3u)
  (z9r:XY K mainGlobals "law"=some (some (.ref z6q))) (zae:K.lookup z6q=some ⟨za3,za4, .func (XX "law" "law" (kau s_law) (kar s_law) (kag s_law) .none z98 z95 z97 z96 z86 z94),za6⟩) (zag:Ya K z86 "law"=true) (zaf:X0 K (.ref z6q)=true)
  (za8:XY K mainGlobals "Till"=some (some (.ref zh)))
  (z9q:XT K zh (.type "object")=some true) (za2:XT K zh (.ref zh)=some true) (za1:Yc K (.ref zh)=some (.type "type"))
  (inX:YG K (.builtin "object.__class__") "__get__"=some (some (.builtin "getset_descriptor.__get__"))) (itX:YY K (.builtin "object.__class__")=some true)
  (z9y:Yd K zh Str.empty=true) (za0:Ye K zh=true) (z9v:Yj K zh=true) (z9x:XS K (.ref zh) "__setattr__"=some (some (.builtin "object.__setattr__"))) (z9w:Yf K zh=true) (z9t:X0 K (.ref zh)=true) (z9z:XS K (.ref zh) "__class__"=some (some (.builtin "object.__class__")))
  (z62:XS K (.ref zh) "parents"=some none)
  (z5g:XS K (.ref zh) "vouchers"=some none)
  (z6r:XS K (.ref zh) "rules"=some none)
  (z85:XS K (.ref zh) "back"=some none)
  (z7k:XS K (.ref zh) "__init__"=some (some (.ref zu))) (z8d:Yl K (.ref zu)=true) (z7n:K.lookup zu=some ⟨z7d,z6x, .func (XX "__init__" "Till.__init__" (kau kaC) (kar kaC) (kag kaC) (.ref z1g) z2a z2b z27 z2c z1a z28),z6z⟩) (z7s:Ya K z1a "Till.__init__"=true) (z7l:X0 K (.ref zu)=true) (z2p:K.lookup z1g=some ⟨z72,z75, .seq #[.str "again" z2l] z7g,z78⟩)
  (z9s:XY K mainGlobals "Marks"=some (some (.ref zf)))
  (z99:XT K zf (.type "object")=some true) (z9e:XT K zf (.ref zf)=some true) (z9k:Yc K (.ref zf)=some (.type "type"))
  (z9m:Yd K zf Str.empty=true) (z9i:Ye K zf=true) (z9o:Yj K zf=true) (z9b:XS K (.ref zf) "__setattr__"=some (some (.builtin "object.__setattr__"))) (z9p:Yf K zf=true) (z9d:X0 K (.ref zf)=true) (z9n:XS K (.ref zf) "__class__"=some (some (.builtin "object.__class__")))
  (z79:XS K (.ref zf) "kind"=some none)
  (z6l:XS K (.ref zf) "needs"=some none)
  (z6y:XS K (.ref zf) "most"=some none)
  (z5o:XS K (.ref zf) "member"=some none)
  (z7e:XS K (.ref zf) "once"=some none)
  (z7a:XS K (.ref zf) "lone"=some none)
  (z71:XS K (.ref zf) "__init__"=some (some (.ref zn))) (z76:Yl K (.ref zn)=true) (z7f:K.lookup zn=some ⟨z6f,z68, .func (XX "__init__" "Marks.__init__" (kau kaK) (kar kaK) (kag kaK) (.ref z26) z3f z3b z3c z3e z1q z3j),z6c⟩) (z7c:Ya K z1q "Marks.__init__"=true) (z6t:X0 K (.ref zn)=true) (zj:K.lookup z26=some ⟨z6j,z6a, .seq #[.none, .int 0 z1x, .none, .bool false, .bool false, .bool false] z6m,z6h⟩)
  (z91:XY K mainGlobals "Voucher"=some (some (.ref ze)))
  (z8i:XT K ze (.type "object")=some true) (z8s:XT K ze (.ref ze)=some true) (z8u:Yc K (.ref ze)=some (.type "type"))
  (z8g:Yd K ze Str.empty=true) (z8q:Ye K ze=true) (z8n:Yj K ze=true) (z8k:XS K (.ref ze) "__setattr__"=some (some (.builtin "object.__setattr__"))) (z8j:Yf K ze=true) (z8m:X0 K (.ref ze)=true) (z8r:XS K (.ref ze) "__class__"=some (some (.builtin "object.__class__")))
  (z5v:XS K (.ref ze) "__init__"=some (some (.ref zi))) (z5l:Yl K (.ref zi)=true) (z5x:K.lookup zi=some ⟨z5f,z4x, .func (XX "__init__" "Voucher.__init__" (kau kaB) (kar kaB) (kag kaB) (.ref z1f) z2f z2k z2e z2o zz z2h),z5a⟩) (z5w:Ya K zz "Voucher.__init__"=true) (z5y:X0 K (.ref zi)=true) (z2w:K.lookup z1f=some ⟨z4v,z59, .seq #[.none] z4t,z58⟩)
  (z9u:XY K mainGlobals "Off"=some (some (.ref zg)))
  (z3z:XT K zg (.type "object")=some true) (z4c:XT K zg (.ref zg)=some true) (z42:Yc K (.ref zg)=some (.type "type"))
  (zaa:Yd K zg Str.empty=true) (za5:Ye K zg=true) (zad:Yj K zg=true) (zab:XS K (.ref zg) "__setattr__"=some (some (.builtin "object.__setattr__"))) (za7:Yf K zg=true) (zac:X0 K (.ref zg)=true) (za9:XS K (.ref zg) "__class__"=some (some (.builtin "object.__class__")))
  (z6s:XS K (.ref zg) "amount"=some none)
  (z7o:XS K (.ref zg) "marks"=some none)
  (z8t:XS K (.ref zg) "__init__"=some (some (.ref z1d))) (z8o:Yl K (.ref z1d)=true) (z8h:K.lookup z1d=some ⟨z8b,z7z, .func (XX "__init__" "Off.__init__" (kau kaS) (kar kaS) (kag kaS) (.ref z39) z4q z4h z4d z4g z2q z4o),z8c⟩) (z8v:Ya K z2q "Off.__init__"=true) (z8l:X0 K (.ref z1d)=true) (z5j:K.lookup z39=some ⟨z8e,z83, .seq #[.none] z7y,z80⟩)
  (z8p:XY K mainGlobals "Share"=some (some (.ref zd)))
  (z2i:XT K zd (.type "object")=some true) (z2m:XT K zd (.ref zd)=some true) (z2g:Yc K (.ref zd)=some (.type "type"))
  (z9f:Yd K zd Str.empty=true) (z9c:Ye K zd=true) (z9j:Yj K zd=true) (z9a:XS K (.ref zd) "__setattr__"=some (some (.builtin "object.__setattr__"))) (z9l:Yf K zd=true) (z9h:X0 K (.ref zd)=true) (z9g:XS K (.ref zd) "__class__"=some (some (.builtin "object.__class__")))
  (z66:XS K (.ref zd) "share"=some none)
  (z55:XS K (.ref zd) "by_line"=some none)
  (z6o:XS K (.ref zd) "marks"=some none)
  (z6w:XS K (.ref zd) "__init__"=some (some (.ref zo))) (z70:Yl K (.ref zo)=true) (z7i:K.lookup zo=some ⟨z64,z6d, .func (XX "__init__" "Share.__init__" (kau kaJ) (kar kaJ) (kag kaJ) (.ref z2d) z3g z3d z3k z3h z1o z3i),z6n⟩) (z74:Ya K z1o "Share.__init__"=true) (z6u:X0 K (.ref zo)=true) (z29:K.lookup z2d=some ⟨z6k,z63, .seq #[.bool false, .none] z65,z6e⟩)
  (z5h:XY K mainGlobals "Cheapest"=some (some (.ref za)))
  (zt:XT K za (.type "object")=some true) (zr:XT K za (.ref za)=some true) (zw:Yc K (.ref za)=some (.type "type"))
  (z81:Yd K za Str.empty=true) (z7p:Ye K za=true) (z8a:Yj K za=true) (z7v:XS K (.ref za) "__setattr__"=some (some (.builtin "object.__setattr__"))) (z87:Yf K za=true) (z84:X0 K (.ref za)=true) (z7r:XS K (.ref za) "__class__"=some (some (.builtin "object.__class__")))
  (z56:XS K (.ref za) "many"=some none)
  (z4e:XS K (.ref za) "marks"=some none)
  (z5c:XS K (.ref za) "__init__"=some (some (.ref zk))) (z5d:Yl K (.ref zk)=true) (z4u:K.lookup zk=some ⟨z4l,z3y, .func (XX "__init__" "Cheapest.__init__" (kau kav) (kar kav) (kag kav) (.ref zy) z1v z1z z24 z22 zs z21),z4j⟩) (z5e:Ya K zs "Cheapest.__init__"=true) (z4y:X0 K (.ref zk)=true) (z2n:K.lookup zy=some ⟨z3x,z43, .seq #[.none] z4b,z48⟩)
  (z7j:XY K mainGlobals "Bundle"=some (some (.ref zc)))
  (z1p:XT K zc (.type "object")=some true) (z1n:XT K zc (.ref zc)=some true) (z1j:Yc K (.ref zc)=some (.type "type"))
  (z8z:Yd K zc Str.empty=true) (z92:Ye K zc=true) (z90:Yj K zc=true) (z93:XS K (.ref zc) "__setattr__"=some (some (.builtin "object.__setattr__"))) (z8y:Yf K zc=true) (z8w:X0 K (.ref zc)=true) (z8x:XS K (.ref zc) "__class__"=some (some (.builtin "object.__class__")))
  (z6g:XS K (.ref zc) "many"=some none)
  (z5m:XS K (.ref zc) "price"=some none)
  (z60:XS K (.ref zc) "marks"=some none)
  (z6p:XS K (.ref zc) "__init__"=some (some (.ref zm))) (z6i:Yl K (.ref zm)=true) (z6b:K.lookup zm=some ⟨z5p,z5n, .func (XX "__init__" "Bundle.__init__" (kau kaF) (kar kaF) (kag kaF) (.ref z1k) z2r z36 z2y z31 z1e z2t),z5q⟩) (z69:Ya K z1e "Bundle.__init__"=true) (z67:X0 K (.ref zm)=true) (z3a:K.lookup z1k=some ⟨z5u,z5t, .seq #[.none] z5s,z5r⟩)
  (z5i:XY K mainGlobals "Carriage"=some (some (.ref zb)))
  (zx:XT K zb (.type "object")=some true) (zp:XT K zb (.ref zb)=some true) (zv:Yc K (.ref zb)=some (.type "type"))
  (z7m:Yd K zb Str.empty=true) (z7x:Ye K zb=true) (z7q:Yj K zb=true) (z7t:XS K (.ref zb) "__setattr__"=some (some (.builtin "object.__setattr__"))) (z82:Yf K zb=true) (z88:X0 K (.ref zb)=true) (z8f:XS K (.ref zb) "__class__"=some (some (.builtin "object.__class__")))
  (z44:XS K (.ref zb) "marks"=some none)
  (z50:XS K (.ref zb) "__init__"=some (some (.ref zl))) (z4w:Yl K (.ref zl)=true) (z5b:K.lookup zl=some ⟨z40,z4k, .func (XX "__init__" "Carriage.__init__" (kau kaw) (kar kaw) (kag kaw) (.ref z19) z23 z1y z1w z20 zq z25),z47⟩) (z57:Ya K zq "Carriage.__init__"=true) (z53:X0 K (.ref zl)=true) (z2j:K.lookup z19=some ⟨z4a,z49, .seq #[.none] z4f,z45⟩)
  (z51:PySem.W.readsIn K ze (.type "type")=true) (z4z:YG K (.ref ze) "__getattribute__"=some (some (.builtin "type.__getattribute__"))) (z54:PySem.W.findCls K (.ref ze) (.type "type") "__init__"=some (.val (.ref zi)))
  (z46:XT K zd (.ref zg)=some false)
  (z33:XT K za (.ref zg)=some false)
  (z3q:XT K zc (.ref zg)=some false)
  (z2s:XT K zb (.ref zg)=some false)
  (z4n:XT K zg (.ref zd)=some false)
  (z1r:XT K za (.ref zd)=some false)
  (z2z:XT K zc (.ref zd)=some false)
  (z1t:XT K zb (.ref zd)=some false)
  (z30:XT K zg (.ref za)=some false)
  (z1u:XT K zd (.ref za)=some false)
  (z1l:XT K zc (.ref za)=some false)
  (z1b:XT K zb (.ref za)=some false)
  (z3p:XT K zg (.ref zc)=some false)
  (z38:XT K zd (.ref zc)=some false)
  (z1i:XT K za (.ref zc)=some false)
  (z1h:XT K zb (.ref zc)=some false)
  (z35:XT K zg (.ref zb)=some false)
  (z1s:XT K zd (.ref zb)=some false)
  (z1c:XT K za (.ref zb)=some false)
  (z1m:XT K zc (.ref zb)=some false)
  (z1:XY K mainGlobals "range"=some none)
  (z2:XY K mainGlobals "len"=some none)
  (z3:XY K mainGlobals "min"=some none)
  (z4:XY K mainGlobals "max"=some none)
  (z5:XY K mainGlobals "isinstance"=some none)
  (z6:XY K mainGlobals "bool"=some none)
  (z7:XY K mainGlobals "int"=some none)
  (z8:XY K mainGlobals "list"=some none)
  (z9:XY K mainGlobals "sum"=some none)
  (z10:XY K mainGlobals "enumerate"=some none)
  (z11:XY K mainGlobals "any"=some none)
  (z12:XY K mainGlobals "all"=some none)
  (z13:XY K mainGlobals "reversed"=some none)
  (z14:XY K mainGlobals "zip"=some none)
  (z15:XY K mainGlobals "abs"=some none)
  (z16:XY K mainGlobals "sorted"=some none)
  (z17:XY K mainGlobals "tuple"=some none)
  (z18:XY K mainGlobals "str"=some none)
  :∃fd:FuncData,(∀(s:Shared) (v:Value),BindsTo s fd ⟨[v],[]⟩ [("_law_script",v)])∧∀base:Heap,K.In base→base.Ns mainGlobals mg→FnOk l.prog w K mg base CX0 7 fa fd ["_law_script"] (spLaw K):=by
 have e:=hfa.symm.trans (X7 X G z9r)
 have hf:z6q=fa:=by
  injection e with e
  injection e with e
  exact e.symm
 subst hf
 have B:TxtB mg:=⟨X6 X G z1,X6 X G z2,X6 X G z3,X6 X G z4,X6 X G z5,X6 X G z6,X6 X G z7,X6 X G z8,X6 X G z9,X6 X G z10,X6 X G z11,X6 X G z12,X6 X G z13,X6 X G z14,X6 X G z15,X6 X G z16,X6 X G z17,X6 X G z18⟩
 have z52:kdB K (XX "__init__" "Till.__init__" (kau kaC) (kar kaC) (kag kaC) (.ref z1g) z2a z2b z27 z2c z1a z28) ["self","parents","vouchers","rules","back"] ["back"] (gk 4 1 [.p 0, .p 1, .p 2, .p 3, .k 0]) (gkV 4 1 [.p 0, .p 1, .p 2, .p 3, .k 0]):=⟨fun s us ws KX hl=>by
  obtain⟨l1,l2⟩:=kfJ (n:=4) hl
  match us,ws,l1,l2 with
  |[_,_,_,_],[_],_,_=>exact BindsTo.of_defaults rfl (KX _ _ z2p) rfl rfl rfl,fun h1 h2=>kfI (fun s hs=>by
  simp only[X1,X8,or_false] at hs
  rcases hs with rfl|rfl|rfl|rfl|rfl <;> first|exact trivial|exact rfl|exact⟨_,rfl⟩) h1 h2⟩
 have W:Wld K mg ⟨(z3v),(z3n),(z4p),(z4m),(z3t),(z3l),(z3o),(z3m),(z2v),(z2u),(z3w),(z3s),(z2x),(z32),(z41),(z4r),(z4i),(z4s),(z34),(z37),(z3r),(z3u),(z6q),(XX "law" "law" (kau s_law) (kar s_law) (kag s_law) .none z98 z95 z97 z96 z86 z94),(zh),(zu),(XX "__init__" "Till.__init__" (kau kaC) (kar kaC) (kag kaC) (.ref z1g) z2a z2b z27 z2c z1a z28),(z2l),(zf),(zn),(XX "__init__" "Marks.__init__" (kau kaK) (kar kaK) (kag kaK) (.ref z26) z3f z3b z3c z3e z1q z3j),(z1x),(ze),(zi),(XX "__init__" "Voucher.__init__" (kau kaB) (kar kaB) (kag kaB) (.ref z1f) z2f z2k z2e z2o zz z2h),(zg),(z1d),(XX "__init__" "Off.__init__" (kau kaS) (kar kaS) (kag kaS) (.ref z39) z4q z4h z4d z4g z2q z4o),(zd),(zo),(XX "__init__" "Share.__init__" (kau kaJ) (kar kaJ) (kag kaJ) (.ref z2d) z3g z3d z3k z3h z1o z3i),(za),(zk),(XX "__init__" "Cheapest.__init__" (kau kav) (kar kav) (kag kav) (.ref zy) z1v z1z z24 z22 zs z21),(zc),(zm),(XX "__init__" "Bundle.__init__" (kau kaF) (kar kaF) (kag kaF) (.ref z1k) z2r z36 z2y z31 z1e z2t),(zb),(zl),(XX "__init__" "Carriage.__init__" (kau kaw) (kar kaw) (kag kaw) (.ref z19) z23 z1y z1w z20 zq z25)⟩:=⟨B,z7b,z7u,z7h,z73,z5z,z6v,z5k,z7w,z89,z61,z77,⟨(kbd zae zag zaf),(Binds.all (nL1 fun _=>rfl)),X7 X G z9r⟩,⟨⟨z9y,za0,z9v,z9x⟩,X7 X G za8,⟨z9z,inX,itX,z9q⟩,za2,za1,z9w,z9t⟩,z62,z5g,z6r,z85,⟨z7k,z8d,(kbd z7n z7s z7l),(bd_mk (n:=5) rfl fun _ KX=>nL5 fun _ _ _ _ _=>BindsTo.of_defaults rfl (KX _ _ z2p) rfl rfl rfl)⟩,(bd_mk (n:=4) rfl fun _ KX=>nL4 fun _ _ _ _=>BindsTo.of_defaults rfl (KX _ _ z2p) rfl rfl rfl),⟨⟨z9m,z9i,z9o,z9b⟩,X7 X G z9s,⟨z9n,inX,itX,z99⟩,z9e,z9k,z9p,z9d⟩,z79,z6l,z6y,z5o,z7e,z7a,⟨z71,z76,(kbd z7f z7c z6t),(bd_mk (n:=7) rfl fun _ KX=>nL7 fun _ _ _ _ _ _ _=>BindsTo.of_defaults rfl (KX _ _ zj) rfl rfl rfl)⟩,(bd_mk (n:=6) rfl fun _ KX=>nL6 fun _ _ _ _ _ _=>BindsTo.of_defaults rfl (KX _ _ zj) rfl rfl rfl),(bd_mk (n:=5) rfl fun _ KX=>nL5 fun _ _ _ _ _=>BindsTo.of_defaults rfl (KX _ _ zj) rfl rfl rfl),(bd_mk (n:=4) rfl fun _ KX=>nL4 fun _ _ _ _=>BindsTo.of_defaults rfl (KX _ _ zj) rfl rfl rfl),(bd_mk (n:=3) rfl fun _ KX=>nL3 fun _ _ _=>BindsTo.of_defaults rfl (KX _ _ zj) rfl rfl rfl),(bd_mk (n:=2) rfl fun _ KX=>nL2 fun _ _=>BindsTo.of_defaults rfl (KX _ _ zj) rfl rfl rfl),(bd_mk (n:=1) rfl fun _ KX=>nL1 fun _=>BindsTo.of_defaults rfl (KX _ _ zj) rfl rfl rfl),⟨⟨z8g,z8q,z8n,z8k⟩,X7 X G z91,⟨z8r,inX,itX,z8i⟩,z8s,z8u,z8j,z8m⟩,⟨z5v,z5l,(kbd z5x z5w z5y),(bd_mk (n:=2) rfl fun _ KX=>nL2 fun _ _=>BindsTo.of_defaults rfl (KX _ _ z2w) rfl rfl rfl)⟩,(bd_mk (n:=1) rfl fun _ KX=>nL1 fun _=>BindsTo.of_defaults rfl (KX _ _ z2w) rfl rfl rfl),X7 X G z9u,⟨⟨zaa,za5,zad,zab⟩,X7 X G z9u,⟨za9,inX,itX,z3z⟩,z4c,z42,za7,zac⟩,z6s,z7o,⟨z8t,z8o,(kbd z8h z8v z8l),(bd_mk (n:=3) rfl fun _ KX=>nL3 fun _ _ _=>BindsTo.of_defaults rfl (KX _ _ z5j) rfl rfl rfl)⟩,(bd_mk (n:=2) rfl fun _ KX=>nL2 fun _ _=>BindsTo.of_defaults rfl (KX _ _ z5j) rfl rfl rfl),X7 X G z8p,⟨⟨z9f,z9c,z9j,z9a⟩,X7 X G z8p,⟨z9g,inX,itX,z2i⟩,z2m,z2g,z9l,z9h⟩,z66,z55,z6o,⟨z6w,z70,(kbd z7i z74 z6u),(bd_mk (n:=4) rfl fun _ KX=>nL4 fun _ _ _ _=>BindsTo.of_defaults rfl (KX _ _ z29) rfl rfl rfl)⟩,(bd_mk (n:=3) rfl fun _ KX=>nL3 fun _ _ _=>BindsTo.of_defaults rfl (KX _ _ z29) rfl rfl rfl),(bd_mk (n:=2) rfl fun _ KX=>nL2 fun _ _=>BindsTo.of_defaults rfl (KX _ _ z29) rfl rfl rfl),X7 X G z5h,⟨⟨z81,z7p,z8a,z7v⟩,X7 X G z5h,⟨z7r,inX,itX,zt⟩,zr,zw,z87,z84⟩,z56,z4e,⟨z5c,z5d,(kbd z4u z5e z4y),(bd_mk (n:=3) rfl fun _ KX=>nL3 fun _ _ _=>BindsTo.of_defaults rfl (KX _ _ z2n) rfl rfl rfl)⟩,(bd_mk (n:=2) rfl fun _ KX=>nL2 fun _ _=>BindsTo.of_defaults rfl (KX _ _ z2n) rfl rfl rfl),X7 X G z7j,⟨⟨z8z,z92,z90,z93⟩,X7 X G z7j,⟨z8x,inX,itX,z1p⟩,z1n,z1j,z8y,z8w⟩,z6g,z5m,z60,⟨z6p,z6i,(kbd z6b z69 z67),(bd_mk (n:=4) rfl fun _ KX=>nL4 fun _ _ _ _=>BindsTo.of_defaults rfl (KX _ _ z3a) rfl rfl rfl)⟩,(bd_mk (n:=3) rfl fun _ KX=>nL3 fun _ _ _=>BindsTo.of_defaults rfl (KX _ _ z3a) rfl rfl rfl),X7 X G z5i,⟨⟨z7m,z7x,z7q,z7t⟩,X7 X G z5i,⟨z8f,inX,itX,zx⟩,zp,zv,z82,z88⟩,z44,⟨z50,z4w,(kbd z5b z57 z53),(bd_mk (n:=2) rfl fun _ KX=>nL2 fun _ _=>BindsTo.of_defaults rfl (KX _ _ z2j) rfl rfl rfl)⟩,(bd_mk (n:=1) rfl fun _ KX=>nL1 fun _=>BindsTo.of_defaults rfl (KX _ _ z2j) rfl rfl rfl),z52,⟨z51,z4z,z54⟩,kaz z46 z3z z42 (kaT z46 z2m),kaz z33 z3z z42 (kaT z33 zr),kaz z3q z3z z42 (kaT z3q z1n),kaz z2s z3z z42 (kaT z2s zp),kaz z4n z2i z2g (kaT z4n z4c),kaz z1r z2i z2g (kaT z1r zr),kaz z2z z2i z2g (kaT z2z z1n),kaz z1t z2i z2g (kaT z1t zp),kaz z30 zt zw (kaT z30 z4c),kaz z1u zt zw (kaT z1u z2m),kaz z1l zt zw (kaT z1l z1n),kaz z1b zt zw (kaT z1b zp),kaz z3p z1p z1j (kaT z3p z4c),kaz z38 z1p z1j (kaT z38 z2m),kaz z1i z1p z1j (kaT z1i zr),kaz z1h z1p z1j (kaT z1h zp),kaz z35 zx zv (kaT z35 z4c),kaz z1s zx zv (kaT z1s z2m),kaz z1c zx zv (kaT z1c zr),kaz z1m zx zv (kaT z1m z1n)⟩
 exact⟨_,fun s v=>.of_eq rfl,fun base _ _=>kfC W⟩
theorem walk{l:Y1}{q:Program}{loose:List Str}{XP:(Str→Option Value)→Heap→Prop}{YP:World→Heap→Prop}{d:DefRec}{K:Params→XQ}(hn:l.most=some 63)(hdf:d.params.defaults=[])
  (hY:∀(w:World) (h:Heap),YP w h→(K w.params).In h)
  (F:∀(w:World) (mg:Str→Option Value) (fa:Addr) (h:Heap),(K w.params).In h→h.Ns mainGlobals mg→mg d.name=some (.ref fa)→
   ∃fd:FuncData,(∀(s:Shared) (u:Value),BindsTo s fd ⟨[u],[]⟩ [("_law_script",u)])∧∀base:Heap,(K w.params).In base→base.Ns mainGlobals mg→FnOk l.prog w (K w.params) mg base CX0 7 fa fd ["_law_script"] (spLaw (K w.params))):
  PySem.W.WalkO q loose XP YP l.row.toRowW d [] (fun f vs=>PySem.call f vs):=
 L2.walk_of (n:=63) (k:=7) (x:="_law_script") (CX:=fun _=>CX0) (sp:=fun w=>spLaw (K w.params)) hn (by decide) hdf ⟨rfl,by decide,by decide⟩ hY F (fun _ _ a ns hl _ hS=>⟨a,ns,rfl,hS,hl,fun _=>rfl⟩) fun _ _ _ _ _ z=>z
end Vs
def PySem.W.Fast.tw1286378782565137985:Nat:=0
def PySem.W.Fast.tw15315915554401865317:Nat:=0
def PySem.W.Fast.tw3270431947423486118:Nat:=0
def PySem.W.Fast.tw136404440947585478:Nat:=0
def PySem.W.Fast.tw8266787957330009417:Nat:=0
def PySem.W.Fast.tw12546234464058326634:Nat:=0
def PySem.W.Fast.tw639236378581715499:Nat:=0
def PySem.W.Fast.tw6278930399459426348:Nat:=0
def PySem.W.Fast.tw8583759467558034638:Nat:=0
def PySem.W.Fast.tw2666904690483199662:Nat:=0
def PySem.W.Fast.tw6253751272388193007:Nat:=0
def PySem.W.Fast.tw14524934319417696176:Nat:=0
def PySem.W.Fast.tw17645386955935090737:Nat:=0
def PySem.W.Fast.tw8336317123451270676:Nat:=0
def PySem.W.Fast.tw15884066857994828181:Nat:=0
def PySem.W.Fast.tw6135449936972675765:Nat:=0
def PySem.W.Fast.tw15834582266836287607:Nat:=0
def PySem.W.Fast.tw11508781465141702201:Nat:=0
def PySem.W.Fast.tw3073558872482983226:Nat:=0
def PySem.W.Fast.tw17116957019571689020:Nat:=0
def PySem.W.Fast.tw2241239797207833661:Nat:=0
def PySem.W.Fast.tw16732742627444369951:Nat:=0
def PySem.W.Fast.tw15301740350563529752:Nat:=0
def PySem.W.Fast.tw7158320997676246790:Nat:=0
def PySem.W.Fast.tw8017130757298533468:Nat:=0
def PySem.W.Fast.tw2190431957088090245:Nat:=0
def PySem.W.Fast.tw4216424400669269751:Nat:=0
def PySem.W.Fast.tw8836841223916071612:Nat:=0
def PySem.W.Fast.tw11366309721231047025:Nat:=0
def PySem.W.Fast.tw9690548964914342545:Nat:=0
def PySem.W.Fast.tw14522731964552788403:Nat:=0
def PySem.W.Fast.tw5859497122898972142:Nat:=0
def PySem.W.Fast.tw8185219173182759534:Nat:=0
def PySem.W.Fast.tw9357625955933742150:Nat:=0
def PySem.W.Fast.tw6795418170565757184:Nat:=0
def PySem.W.Fast.tw5006961984022190479:Nat:=0
def PySem.W.Fast.tw18049070350368553914:Nat:=0
def PySem.W.Fast.tw9518604786518128474:Nat:=0
def PySem.W.Fast.tw14115741526948993336:Nat:=0
open PySem PySem.W PyProof.Rows
set_option maxRecDepth 100000 in
set_option maxHeartbeats 0 in
theorem PySem.Challenge.cw_voucherstack_k18_tills_kept_holds : PySem.Challenge.rw_voucherstack_k18_tills_kept.Holds := by
 w_on;o_law;k_head;(case hw=>w_witness2)
 k_fill
 refine Vs.walk (l:=PySem.Challenge.rw_voucherstack_k18_tills_kept) rfl rfl (fun w h Y=>PySem.W.kIn_of Y) ?F
 case F=>
  intro w mg fa h KX G hmg
  refine' Vs.all_mk KX G hmg ?XI ?XJ ?XG ?XH ?XC ?XE ?XD ?XM ?XO ?XB ?XF ?alaw ?llaw ?claw ?klaw ?aTill ?imTill ?isTill ?iyTill ?inX ?itX ?pgTill ?hdTill ?poTill ?saTill ?mkTill ?kcTill ?iaTill ?nTill_parents ?nTill_vouchers ?nTill_rules ?nTill_back ?hTill_init ?iTill_init ?lTill_init ?cTill_init ?kTill_init ?tTill_init ?aMarks ?imMarks ?isMarks ?iyMarks ?pgMarks ?hdMarks ?poMarks ?saMarks ?mkMarks ?kcMarks ?iaMarks ?nMarks_kind ?nMarks_needs ?nMarks_most ?nMarks_member ?nMarks_once ?nMarks_lone ?hMarks_init ?iMarks_init ?lMarks_init ?cMarks_init ?kMarks_init ?tMarks_init ?aVoucher ?imVoucher ?isVoucher ?iyVoucher ?pgVoucher ?hdVoucher ?poVoucher ?saVoucher ?mkVoucher ?kcVoucher ?iaVoucher ?hVoucher_init ?iVoucher_init ?lVoucher_init ?cVoucher_init ?kVoucher_init ?tVoucher_init ?aOff ?imOff ?isOff ?iyOff ?pgOff ?hdOff ?poOff ?saOff ?mkOff ?kcOff ?iaOff ?nOff_amount ?nOff_marks ?hOff_init ?iOff_init ?lOff_init ?cOff_init ?kOff_init ?tOff_init ?aShare ?imShare ?isShare ?iyShare ?pgShare ?hdShare ?poShare ?saShare ?mkShare ?kcShare ?iaShare ?nShare_share ?nShare_by_line ?nShare_marks ?hShare_init ?iShare_init ?lShare_init ?cShare_init ?kShare_init ?tShare_init ?aCheapest ?imCheapest ?isCheapest ?iyCheapest ?pgCheapest ?hdCheapest ?poCheapest ?saCheapest ?mkCheapest ?kcCheapest ?iaCheapest ?nCheapest_many ?nCheapest_marks ?hCheapest_init ?iCheapest_init ?lCheapest_init ?cCheapest_init ?kCheapest_init ?tCheapest_init ?aBundle ?imBundle ?isBundle ?iyBundle ?pgBundle ?hdBundle ?poBundle ?saBundle ?mkBundle ?kcBundle ?iaBundle ?nBundle_many ?nBundle_price ?nBundle_marks ?hBundle_init ?iBundle_init ?lBundle_init ?cBundle_init ?kBundle_init ?tBundle_init ?aCarriage ?imCarriage ?isCarriage ?iyCarriage ?pgCarriage ?hdCarriage ?poCarriage ?saCarriage ?mkCarriage ?kcCarriage ?iaCarriage ?nCarriage_marks ?hCarriage_init ?iCarriage_init ?lCarriage_init ?cCarriage_init ?kCarriage_init ?tCarriage_init ?rdVoucher_init ?gaVoucher_init ?fcVoucher_init ?qShare_Off ?qCheapest_Off ?qBundle_Off ?qCarriage_Off ?qOff_Share ?qCheapest_Share ?qBundle_Share ?qCarriage_Share ?qOff_Cheapest ?qShare_Cheapest ?qBundle_Cheapest ?qCarriage_Cheapest ?qOff_Bundle ?qShare_Bundle ?qCheapest_Bundle ?qCarriage_Bundle ?qOff_Carriage ?qShare_Carriage ?qCheapest_Carriage ?qBundle_Carriage ?z1 ?z2 ?z3 ?z4 ?z5 ?z6 ?z7 ?z8 ?z9 ?z10 ?z11 ?z12 ?z13 ?z14 ?z15 ?z16 ?z17 ?z18
  any_goals k_is
  (case XI=>refine' Vs.dn_mk KX G ?_ ?_ ?_ ?_ (fun _ _ _ _ _ _=>Vs.nL2 fun _ _=>rfl);any_goals k_is)
  (case XJ=>refine' Vs.dn_mk KX G ?_ ?_ ?_ ?_ (fun _ _ _ _ _ _=>Vs.nL2 fun _ _=>rfl);any_goals k_is)
  (case XG=>refine' Vs.dn_mk KX G ?_ ?_ ?_ ?_ (fun _ _ _ _ _ _=>Vs.nL2 fun _ _=>rfl);any_goals k_is)
  (case XH=>refine' Vs.dn_mk KX G ?_ ?_ ?_ ?_ (fun _ _ _ _ _ _=>Vs.nL2 fun _ _=>rfl);any_goals k_is)
  (case XC=>refine' Vs.dn_mk KX G ?_ ?_ ?_ ?_ (fun _ _ _ _ _ _=>Vs.nL1 fun _=>rfl);any_goals k_is)
  (case XE=>refine' Vs.dn_mk KX G ?_ ?_ ?_ ?_ (fun _ _ _ _ _ _=>Vs.nL3 fun _ _ _=>rfl);any_goals k_is)
  (case XD=>refine' Vs.dn_mk KX G ?_ ?_ ?_ ?_ (fun _ _ _ _ _ _=>Vs.nL3 fun _ _ _=>rfl);any_goals k_is)
  (case XM=>refine' Vs.dn_mk KX G ?_ ?_ ?_ ?_ (fun _ _ _ _ _ _=>Vs.nL1 fun _=>rfl);any_goals k_is)
  (case XO=>refine' Vs.dn_mk KX G ?_ ?_ ?_ ?_ (fun _ _ _ _ _ _=>Vs.nL1 fun _=>rfl);any_goals k_is)
  (case XB=>refine' Vs.dn_mk KX G ?_ ?_ ?_ ?_ (fun _ _ _ _ _ _=>Vs.nL5 fun _ _ _ _ _=>rfl);any_goals k_is)
  (case XF=>refine' Vs.dn_mk KX G ?_ ?_ ?_ ?_ (fun _ _ _ _ _ _=>Vs.nL2 fun _ _=>rfl);any_goals k_is)
