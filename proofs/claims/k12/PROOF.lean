import PyProof.Rows.All
import Wide.All
import OpenK.AllK
import Wide.FinOn
import Lean
import PyProof.EqAt
import PyProof.EqKinds
import PyProof.TupleCall
import PyProof.Draws
import PyProof.ListRange
import PySem.Challenge.RW_stillflow_k12_whole_reasons
set_option Elab.async false
set_option linter.all false
set_option maxRecDepth 100000
set_option maxHeartbeats 4000000
namespace L2
open PySem PySem.Spec PyProof.Rows
noncomputable abbrev ux:=Sum Int Str
noncomputable def Gn:ux->Value->Bool
 | .inl k,v=>Value.isInt k v
 | .inr x,v=>Value.isStrOf x v
noncomputable def Lp (w:World):ux->Int
 | .inl k=>hashInt k
 | .inr x=>hashStr w x
theorem bO:∀ {k:ux}{v:Value},Gn k v=true->(∃i t,k=Sum.inl i/\v=Value.int i t)\/(∃x t,k=Sum.inr x/\v=Value.str x t)
 | .inl i,v,h=>by
  obtain⟨t,e⟩:=Value.isInt_shape (k:=i) (v:=v) h
  exact .inl ⟨i,t,rfl,e⟩
 | .inr x,v,h=>by
  obtain⟨t,e⟩:=Value.isStrOf_shape (x:=x) (v:=v) h
  exact .inr ⟨x,t,rfl,e⟩
theorem HQ (a b:Int):decide ((Sum.inl a:ux)=Sum.inl b)=(a == b):=by
 by_cases e:a=b
 ·subst e;simp
 ·have h:¬ (Sum.inl a:ux)=Sum.inl b:=fun q=>e (Sum.inl.inj q)
  rw[decide_eq_false h]
  exact (beq_eq_false_iff_ne.mpr e).symm
theorem IP (a b:Str):decide ((Sum.inr a:ux)=Sum.inr b)=decide (a=b):=by
 by_cases e:a=b
 ·subst e;simp
 ·have h:¬ (Sum.inr a:ux)=Sum.inr b:=fun q=>e (Sum.inr.inj q)
  rw[decide_eq_false h,decide_eq_false e]
theorem HW (a:Int) (b:Str):decide ((Sum.inl a:ux)=Sum.inr b)=false:=decide_eq_false (fun q=>nomatch q)
theorem IK (a:Str) (b:Int):decide ((Sum.inr a:ux)=Sum.inl b)=false:=decide_eq_false (fun q=>nomatch q)
noncomputable def zk (prog:Program) (w:World):PySem.KeyKind prog w ux where
 is:=Gn
 hash:=Lp w
 inj:=fun v a b ha hb=>by
  rcases bO ha with ⟨i,t,rfl,rfl⟩|⟨x,t,rfl,rfl⟩
  ·rcases bO hb with ⟨j,u,rfl,e⟩|⟨y,u,rfl,e⟩
   ·injection e with e1 _;rw[e1]
   ·exact nomatch e
  ·rcases bO hb with ⟨j,u,rfl,e⟩|⟨y,u,rfl,e⟩
   ·exact nomatch e
   ·injection e with e1 _;rw[e1]
 byValue:=fun k v h=>by
  rcases bO h with ⟨i,t,rfl,rfl⟩|⟨x,t,rfl,rfl⟩<;>rfl
 pyHash:=fun hv h=>by
  rcases bO hv with ⟨i,t,rfl,rfl⟩|⟨x,t,rfl,rfl⟩
  ·exact wpAny_pyHash_int h
  ·exact wpAny_pyHash_str h
 eqBool:=fun hu hv h=>by
  rcases bO hu with ⟨i,t,rfl,rfl⟩|⟨x,t,rfl,rfl⟩
  ·rcases bO hv with ⟨j,u,rfl,rfl⟩|⟨y,u,rfl,rfl⟩
   ·rw[HQ] at h;exact wpAny_eqBool_int h
   ·rw[HW] at h;exact SeqAt.EqAt.int_str i t y u _ _ _ _ h
  ·rcases bO hv with ⟨j,u,rfl,rfl⟩|⟨y,u,rfl,rfl⟩
   ·rw[IK] at h;exact SeqAt.EqAt.str_int x t j u _ _ _ _ h
   ·rw[IP] at h;exact wpAny_eqBool_str h
 «strs»:=fun k x t v h=>by
  rcases bO h with ⟨i,u,rfl,e⟩|⟨y,u,rfl,e⟩
  ·exact nomatch e
  ·injection e with e1 _
   subst e1
   cases v<;>rfl
end L2
namespace L2
open PySem PySem.Spec PyProof.Rows
inductive V where
 | non|bl (b:Bool)|int (i:Int)|str (x:Str)|byt (b:Array UInt8)|flt (b:UInt64)|ref (a:Addr)|ty (n:String)
 deriving DecidableEq
noncomputable def RelV:V->Value->Prop
 | .non,u=>u=Value.none
 | .bl b,u=>u=Value.bool b
 | .int i,u=>∃t,u=Value.int i t
 | .str x,u=>∃t,u=Value.str x t
 | .byt b,u=>∃t,u=Value.bytes b t
 | .flt b,u=>∃t,u=Value.float b t
 | .ref a,u=>u=Value.ref a
 | .ty n,u=>u=Value.type n
noncomputable abbrev aC:List V->List Value->Prop:=Paired RelV
theorem aC.length {xs:List V}{us:List Value}(r:aC xs us):xs.length=us.length:=Paired.length r
theorem aC.get:∀ {xs:List V}{us:List Value}{i:Nat}{x:V},aC xs us->xs[i]?=some x->∃u,us[i]?=some u/\RelV x u
 | _,_,_,_,.nil,e=>by simp at e
 | _,_,0,_,.cons r _,e=>by simp at e;subst e;exact⟨_,rfl,r⟩
 | _,_,i+1,x,.cons _ t,e=>by
  obtain⟨u,h1,h2⟩:=aC.get (i:=i) (x:=x) t (by simpa using e)
  exact⟨u,by simpa using h1,h2⟩
theorem aC.set {x:V}{u:Value}(r:RelV x u):∀ {xs:List V}{us:List Value}(i:Nat),aC xs us->aC (xs.set i x) (us.set i u)
 | _,_,_,.nil=>.nil
 | _,_,0,.cons _ t=>.cons r t
 | _,_,i+1,.cons q t=>.cons q (aC.set r i t)
theorem aC.append:∀ {xs ys:List V}{us ws:List Value},aC xs us->aC ys ws->aC (xs++ys) (us++ws)
 | _,_,_,_,.nil,s=>s
 | _,_,_,_,.cons r t,s=>.cons r (aC.append t s)
theorem aC.take:∀ {xs:List V}{us:List Value}(n:Nat),aC xs us->aC (xs.take n) (us.take n)
 | _,_,0,_=>.nil
 | _,_,_+1,.nil=>.nil
 | _,_,n+1,.cons r t=>.cons r (aC.take n t)
theorem aC.drop:∀ {xs:List V}{us:List Value}(n:Nat),aC xs us->aC (xs.drop n) (us.drop n)
 | _,_,0,r=>r
 | _,_,_+1,.nil=>.nil
 | _,_,n+1,.cons _ t=>aC.drop n t
noncomputable def KH:Option V->Option Value->Prop
 | some v,some u=>RelV v u
 | none,none=>True
 | _,_=>False
noncomputable def KV {κ:Type}:List (κ×V)->List (κ×Value)->Prop:=Paired fun (p:κ×V) (q:κ×Value)=>p.1=q.1/\RelV p.2 q.2
noncomputable def kV:ux->V
 | .inl i=>.int i
 | .inr x=>.str x
inductive HO where
  | lst (xs:List V)
  | tup (xs:List V)
  | dK (kvs:List (ux×V))|dT (kvs:List (List ux×V))
  | set (S:Int->Bool) (n:Nat)
  | ins (C dx:Addr) (fs:List (Str×V))
  | own (x:Addr)
  | xd (fs:List (Str×V))
  | met (f x:Addr)
  | rng (lo hi:Int)
  | frz (o:Obj) (u:HO)
  | tab (q:Str)
 | cod (q:Str)
  | ext (φ:Heap->Prop)
noncomputable abbrev Hp:=Addr->Option HO
noncomputable def upd (H:Hp) (a:Addr) (o:HO):Hp:=fun b=>if b=a then some o else H b
theorem aE {H:Hp}{a:Addr}{o:HO}:upd H a o a=some o:=by unfold upd;rw[if_pos rfl]
theorem aB {H:Hp}{a b:Addr}{o:HO}(h:b≠a):upd H a o b=H b:=by unfold upd;rw[if_neg h]
theorem aM {H:Hp}{a b:Addr}{o:HO}(h:H a=some o) (h':H b=none):a≠b:=by
 intro e;subst e;rw[h] at h';cases h'
noncomputable def l6 (h:Heap) (a:Addr) (its:Array Value):Prop:=IsTup h a its/\∃o,h.get? a=some o/\o.dict=none
theorem l6.new (h:Heap) (its:Array Value):l6 (h.push { cls:=.type "tuple",data:=.seq its }) h.objs.size its:=⟨IsTup.new _ _,_,Heap.get?_push_size _ rfl,rfl⟩
section
variable (P:Program) (w:World)
noncomputable def eE (H:Hp) (h:Heap) (a:Addr):HO->Prop
 | .lst xs=>xs.length<=sizeLine/\∃ (its:List Value) (n:Nat),aC xs its/\h.get? a=some { cls:=.type "list",data:=.seq its.toArray n }
 | .tup xs=>xs.length<=sizeLine/\∃its:List Value,aC xs its/\l6 h a its.toArray
 | .dK kvs=>kvs.length<=sizeLine/\(a == sysModules)=false/\∃vs,KV kvs vs/\h.DictOf (zk P w) a vs
 | .dT kvs=>kvs.length<=sizeLine/\(a == sysModules)=false/\∃xs:List (List ux×Addr×Value),
   Paired (fun (p:List ux×V) (q:List ux×Addr×Value)=>p.1=q.1/\H q.2.1=some (.tup (p.1.map kV))/\RelV p.2 q.2.2) kvs xs /\
   ∃o es ep,h.get? a=some o/\o.ExactDict/\o.data=.dict es ep/\es.toList=xs.map (entryOfKey (tupleKind (zk P w)))/\(xs.map (·.1)).Nodup
 | .set S n=>h.SetOf (intKind P w) a S n
 | .ins C dx fs=>H dx=some (.own a)/\fs.length<=1000/\dx≠a/\h.get? a=some (PySem.W.instObj C dx) /\
   ∃mA,h.Ns1 dx mA/\(∀f,KH (fs.lookup f) (mA f))/\PySem.Within mA (fs.map (·.1))
 | .own _=>∃o,h.get? a=some o
 | .xd fs=>∃mA,h.Ns1 a mA/\∀f,KH (fs.lookup f) (mA f)
 | .rng lo hi=>∃t u v,h.get? a=some { cls:=.type "range",data:=.fields #[.int lo t,.int hi u,.int 1 v] }
 | .frz o u=>h.get? a=some o/\eE H h a u
 | .tab q=>∃ps:Array Value,h.get? a=some { cls:=.none,data:=.fields ps }/\TriplesOk ps.toList/\∀pos v,codeAmong pos ps.toList=some v->∃c,v=.ref c/\H c=some (.cod q)
 | .cod q=>h.CodeRec (.ref a) q
 | .met f x=>h.get? a=some (PySem.W.methodObj (.ref f) (.ref x))
 | .ext φ=>φ h/\(∃o,h.get? a=some o)/\∀h1 h2:Heap,φ h1->(∀o,h1.get? a=some o->h2.get? a=some o)->φ h2
noncomputable def nH (H:Hp) (h:Heap):Prop:=∀a o,H a=some o->eE P w H h a o
end
section
variable {P:Program}{w:World}{H H':Hp}{h h':Heap}{a:Addr}{o:HO}
theorem eE.lt (x:eE P w H h a o):a < h.objs.size:=by
 cases o with
 | lst xs=>obtain⟨_,_,_,_,e⟩:=x;exact Heap.lt_size e
 | tup xs=>obtain⟨_,_,_,p⟩:=x;exact p.1.lt
 | dK kvs=>obtain⟨_,_,_,_,o,_,_,e,_⟩:=x;exact Heap.lt_size e
 | dT kvs=>obtain⟨_,_,_,_,o,_,_,e,_⟩:=x;exact Heap.lt_size e
 | set S n=>obtain⟨o,_,_,_,e,_⟩:=x;exact Heap.lt_size e
 | ins C dx fs=>obtain⟨_,_,_,e,_⟩:=x;exact Heap.lt_size e
 | own y=>obtain⟨_,e⟩:=x;exact Heap.lt_size e
 | xd fs=>obtain⟨_,⟨_,_,_,e,_⟩,_⟩:=x;exact Heap.lt_size e
 | rng lo hi=>obtain⟨_,_,_,e⟩:=x;exact Heap.lt_size e
 | frz ob u=>obtain⟨e,_⟩:=x;exact Heap.lt_size e
 | tab q=>obtain⟨_,e,_⟩:=x;exact Heap.lt_size e
 | cod q=>obtain⟨_,_,_,_,e0,e,_⟩:=x;cases e0;exact Heap.lt_size e
 | met f y=>exact Heap.lt_size (show h.get? a=some _ from x)
 | ext φ=>obtain⟨_,⟨_,e⟩,_⟩:=x;exact Heap.lt_size e
theorem Paired.mapP {α β:Type}{F G:α->β->Prop}:∀ {l₁:List α}{l₂:List β},Paired F l₁ l₂->(∀a b,F a b->G a b)->Paired G l₁ l₂
 | _,_,.nil,_=>.nil
 | _,_,.cons r t,f=>.cons (f _ _ r) (Paired.mapP t f)
noncomputable def Mi:HO->Prop
 | .tup _=>True
 | .cod _=>True
 | _=>False
theorem eE.stay (x:eE P w H h a o) (k:∀b u,(b=a\/H b=some (.own a))->h.get? b=some u->h'.get? b=some u)
  (ho:∀b,H b=some (.own a)->H' b=some (.own a)) (ht:∀b u,H b=some u->Mi u->H' b=some u):eE P w H' h' a o:=by
 induction o with
 | lst xs=>obtain⟨z,its,n,r,e⟩:=x;exact⟨z,its,n,r,k _ _ (.inl rfl) e⟩
 | tup xs=>obtain⟨z,its,r,⟨ob,e,c⟩,o2,e2,d2⟩:=x;exact⟨z,its,r,⟨ob,k _ _ (.inl rfl) e,c⟩,o2,k _ _ (.inl rfl) e2,d2⟩
 | dK kvs=>obtain⟨z,y,vs,r,ob,es,ep,e,c⟩:=x;exact⟨z,y,vs,r,ob,es,ep,k _ _ (.inl rfl) e,c⟩
 | dT kvs =>
  obtain⟨z,y,xs,r,ob,es,ep,e,c⟩:=x
  exact⟨z,y,xs,Paired.mapP r fun p q z=>⟨z.1,ht _ _ z.2.1 trivial,z.2.2⟩,ob,es,ep,k _ _ (.inl rfl) e,c⟩
 | set S n=>obtain⟨ob,es,ep,t,e,c⟩:=x;exact⟨ob,es,ep,t,k _ _ (.inl rfl) e,c⟩
 | ins C dx fs =>
  obtain⟨d,z,ne,e,mA,⟨od,es,ep,e2,c⟩,r⟩:=x
  exact⟨ho _ d,z,ne,k _ _ (.inl rfl) e,mA,⟨od,es,ep,k _ _ (.inr d) e2,c⟩,r⟩
 | own y=>obtain⟨ob,e⟩:=x;exact⟨ob,k _ _ (.inl rfl) e⟩
 | xd fs=>obtain⟨mA,⟨od,es,ep,e,c⟩,r⟩:=x;exact⟨mA,⟨od,es,ep,k _ _ (.inl rfl) e,c⟩,r⟩
 | rng lo hi=>obtain⟨t,u,v,e⟩:=x;exact⟨t,u,v,k _ _ (.inl rfl) e⟩
 | frz ob u ih=>obtain⟨e,q⟩:=x;exact⟨k _ _ (.inl rfl) e,ih q⟩
 | tab q=>obtain⟨ps,e,t,c⟩:=x;exact⟨ps,k a _ (.inl rfl) e,t,fun pos v z=>let ⟨c0,z1,z2⟩:=c pos v z;⟨c0,z1,ht _ _ z2 trivial⟩⟩
 | cod q=>obtain⟨c,oc,vs,t,e0,e,r⟩:=x;cases e0;exact⟨_,oc,vs,t,rfl,k _ _ (.inl rfl) e,r⟩
 | met f y =>
  have e:h.get? a=some (PySem.W.methodObj (.ref f) (.ref y)):=x
  show h'.get? a=some (PySem.W.methodObj (.ref f) (.ref y))
  exact k a _ (.inl rfl) e
 | ext φ=>obtain⟨p,⟨o,e⟩,st⟩:=x;exact⟨st _ _ p fun o q=>k _ _ (.inl rfl) q,⟨o,k _ _ (.inl rfl) e⟩,st⟩
theorem nH.lt (x:nH P w H h) (e:H a=some o):a < h.objs.size:=(x a o e).lt
theorem nH.fresh (x:nH P w H h) (e:h.objs.size<=a):H a=none:=by
 cases q:H a with
 | none=>rfl
 | some u=>exact absurd (Nat.lt_of_lt_of_le (x.lt q) e) (Nat.lt_irrefl _)
theorem nH.kept (x:nH P w H h) (k:∀b u,h.get? b=some u->h'.get? b=some u):nH P w H h':=fun a o e =>
 (x a o e).stay (fun b u _ q=>k b u q) (fun _ q=>q) fun _ _ q _=>q
theorem nH.laid (x:nH P w H h) (k:∀b u,h.get? b=some u->h'.get? b=some u) (hp:h.objs.size<=a) (new:eE P w (upd H a o) h' a o):nH P w (upd H a o) h':=fun b u e=>by
 have hn:=x.fresh hp
 by_cases hb:b=a
 ·subst hb;rw[aE] at e;cases e;exact new
 ·rw[aB hb] at e
  exact (x b u e).stay (fun c v _ q=>k c v q) (fun c q=>by rw[aB (aM q hn)];exact q) fun c xs q _=>by rw[aB (aM q hn)];exact q
end
noncomputable def Rd (H:Hp) (a:Addr) (u:HO):Prop:=H a=some u\/∃o,H a=some (.frz o u)
theorem Rd.of {H:Hp}{a:Addr}{u:HO}(h:H a=some u):Rd H a u:=.inl h
theorem Rd.ok {P:Program}{w:World}{H:Hp}{h:Heap}{a:Addr}{u:HO}(r:Rd H a u) (x:nH P w H h):eE P w H h a u:=by
 rcases r with r|⟨o,r⟩
 ·exact x a u r
 ·obtain⟨_,q⟩:=x a _ r
  exact q
noncomputable def JS:Option HO->Prop
 | some (.lst _)=>True
 | some (.dK _)=>True
 | some (.dT _)=>True
 | some (.set _ _)=>True
 | some (.ins _ _ _)=>True
 | some (.ext _)=>True
 | _=>False
section
variable {P:Program}{w:World}{H:Hp}{h h':Heap}{x e:Addr}{o':HO}
theorem nH.write (ok:nH P w H h) (mu:JS (H x)) (he:e=x\/H e=some (.own x)) (k:∀b u,b≠e->h.get? b=some u->h'.get? b=some u) (heo:∃u,h'.get? e=some u)
  (new:eE P w (upd H x o') h' x o'):nH P w (upd H x o') h':=fun b u q=>by
 have nown:∀c y,H c=some (.own y)->c≠x:=fun c y r z=>by subst z;rw[r] at mu;exact mu
 have ntup:∀c u,H c=some u->Mi u->c≠x:=fun c u r hr z=>by subst z;rw[r] at mu;cases u<;>first|exact mu|exact hr
 by_cases hb:b=x
 ·subst hb;rw[aE] at q;cases q;exact new
 ·rw[aB hb] at q
  by_cases hbe:b=e
  ·have q':H b=some (.own x):=by
    rcases he with z|z
    ·exact absurd (hbe.trans z) hb
    ·rw[hbe];exact z
   rw[q] at q';cases q'
   obtain⟨v,hv⟩:=heo
   exact⟨v,by rw[hbe];exact hv⟩
  ·refine (ok b u q).stay (fun c v hc r=>k c v ?_ r) (fun c r=>by rw[aB (nown c b r)];exact r) fun c xs r hr=>by rw[aB (ntup c xs r hr)];exact r
   rcases hc with rfl|hc
   ·exact hbe
   ·rintro rfl
    rcases he with z|z
    ·exact nown c b hc z
    ·rw[hc] at z;cases z;exact hb rfl
end
noncomputable def Ld:HO->Prop
 | .tab _=>True
 | .cod _=>True
 | _=>False
theorem Ld.not_mut {u:HO}(h:Ld u):¬ JS (some u):=by cases u<;>first|exact fun z=>z|exact h.elim
structure Gw (H H':Hp) (h h':Heap):Prop where
 st:∀b u,H b=some u->Ld u->H' b=some u
 gr:∀b q ps,H b=some (.tab q)->h.get? b=some { cls:=.none,data:=.fields ps }->∃more:Array Value,h'.get? b=some { cls:=.none,data:=.fields (ps++more) }
theorem Gw.kept {H H':Hp}{h h':Heap}(k:∀b u,(∃q,H b=some (.tab q))->h.get? b=some u->h'.get? b=some u) (st:∀b u,H b=some u->Ld u->H' b=some u):Gw H H' h h' :=
 ⟨st,fun b q ps e z=>⟨#[],by rw[Array.append_empty];exact k b _ ⟨q,e⟩ z⟩⟩
theorem Gw.trans {H H1 H2:Hp}{h h1 h2:Heap}(a:Gw H H1 h h1) (b:Gw H1 H2 h1 h2):Gw H H2 h h2 :=
 ⟨fun c u q t=>b.st c u (a.st c u q t) t,fun c q ps e z=>by
  obtain⟨m1,z1⟩:=a.gr c q ps e z
  obtain⟨m2,z2⟩:=b.gr c q _ (a.st c _ e trivial) z1
  exact⟨m1++m2,by rw[z2,Array.append_assoc]⟩⟩
structure Un (fs ex:List Addr) (H H':Hp) (h h':Heap):Prop where
 keep:∀b o,h.get? b=some o->H b=none->b∉fs->b∉ex->h'.get? b=some o
 slot:∀b o,h.get? b=some o->H b=none->b∈fs->b∉ex->∃sl,h'.get? b=some { o with slots:=sl }
 free:∀b o,h.get? b=some o->H b=none->b∉ex->H' b=none
 there:∀b o,h.get? b=some o->b∉ex->∃o',h'.get? b=some o'
 tups:∀b xs,H b=some (.tup xs)->H' b=some (.tup xs)
 frzs:∀b o u,H b=some (.frz o u)->H' b=some (.frz o u)
 tbls:Gw H H' h h'
section
variable {fs fs' ex ex':List Addr}{H H1 H2:Hp}{h h1 h2 h':Heap}{a x e:Addr}{o:HO}
theorem Un.any (u:Un fs ex H H1 h h1) {b:Addr}{ob:Obj}(q:h.get? b=some ob) (n:H b=none) (hx:b∉ex):∃sl,h1.get? b=some { ob with slots:=sl }:=by
 by_cases hb:b∈fs
 ·exact u.slot b ob q n hb hx
 ·exact⟨ob.slots,u.keep b ob q n hb hx⟩
theorem Un.trans (a:Un fs ex H H1 h h1) (b:Un fs ex H1 H2 h1 h2):Un fs ex H H2 h h2 where
 keep:=fun c ob q n hc hx=>b.keep c ob (a.keep c ob q n hc hx) (a.free c ob q n hx) hc hx
 slot:=fun c ob q n hc hx=>by
  obtain⟨sl,e1⟩:=a.slot c ob q n hc hx
  obtain⟨sl',e2⟩:=b.slot c _ e1 (a.free c ob q n hx) hc hx
  exact⟨sl',e2⟩
 free:=fun c ob q n hx=>by
  obtain⟨o',e1⟩:=a.there c ob q hx
  exact b.free c o' e1 (a.free c ob q n hx) hx
 there:=fun c ob q hx=>by
  obtain⟨o',e1⟩:=a.there c ob q hx
  exact b.there c o' e1 hx
 tups:=fun c xs q=>b.tups c xs (a.tups c xs q)
 frzs:=fun c ob xs q=>b.frzs c ob xs (a.frzs c ob xs q)
 tbls:=a.tbls.trans b.tbls
theorem Un.kept (k:∀b u,h.get? b=some u->h'.get? b=some u):Un fs ex H H h h' :=
 ⟨fun b ob q _ _ _=>k b ob q,fun b ob q _ _ _=>⟨ob.slots,k b ob q⟩,fun _ _ _ n _=>n,fun b ob q _=>⟨ob,k b ob q⟩,fun _ _ q=>q,fun _ _ _ q=>q,.kept (fun b u _ e=>k b u e) fun _ _ e _=>e⟩
theorem Un.refl:Un fs ex H H h h:=Un.kept fun _ _ q=>q
theorem Un.laid (k:∀b u,h.get? b=some u->h'.get? b=some u) (hp:h.objs.size<=a) (hn:H a=none):Un fs ex H (upd H a o) h h' where
 keep:=fun b u q _ _ _=>k b u q
 slot:=fun b u q _ _ _=>⟨u.slots,k b u q⟩
 free:=fun b u q n _=>by rw[aB (Nat.ne_of_lt (Nat.lt_of_lt_of_le (Heap.lt_size q) hp))];exact n
 there:=fun b u q _=>⟨u,k b u q⟩
 tups:=fun b xs q=>by rw[aB (aM q hn)];exact q
 frzs:=fun b u xs q=>by rw[aB (aM q hn)];exact q
 tbls:=.kept (fun b u _ e=>k b u e) fun b u q _=>by rw[aB (aM q hn)];exact q
theorem Un.write (mu:JS (H x)) (he:e=x\/H e=some (.own x)) (k:∀b u,b≠e->h.get? b=some u->h'.get? b=some u) (heo:∃u,h'.get? e=some u):Un fs ex H (upd H x o) h h':=by
 have hx:∀b,H b=none->b≠x:=fun b n z=>by subst z;rw[n] at mu;exact mu
 have hb:∀b,H b=none->b≠e:=fun b n z=>by
  subst z
  rcases he with r|r
  ·exact hx b n r
  ·rw[n] at r;cases r
 have hm:∀b u,H b=some u->¬ JS (some u)->b≠x:=fun b u q nm z=>by subst z;rw[q] at mu;exact nm mu
 refine⟨fun b u q n _ _=>k b u (hb b n) q,fun b u q n _ _=>⟨u.slots,k b u (hb b n) q⟩,fun b u q n _=>by rw[aB (hx b n)];exact n,fun b u q _=>?_,
  fun b xs q=>by rw[aB (hm b _ q fun z=>z)];exact q,fun b u xs q=>by rw[aB (hm b _ q fun z=>z)];exact q,.kept (fun b u z e=>k b u (fun r=>by subst r;rcases he with r|r<;>first|(subst r;rcases z with ⟨q,z⟩;rw[z] at mu;exact mu)|(rcases z with ⟨q,z⟩;rw[z] at r;cases r)) e) fun b u q nm=>by rw[aB (hm b _ q (nm.not_mut))];exact q⟩
 by_cases hbe:b=e
 ·subst hbe;exact heo
 ·exact⟨u,k b u hbe q⟩
theorem Un.mono (u:Un fs ex H H1 h h1) (hs:∀b∈fs,b∈fs') (hx:∀b∈ex,b∈ex'):Un fs' ex' H H1 h h1 :=
 ⟨fun b ob q n hb he=>u.keep b ob q n (fun z=>hb (hs b z)) fun z=>he (hx b z),fun _ _ q n _ he=>u.any q n fun z=>he (hx _ z),fun b ob q n he=>u.free b ob q n fun z=>he (hx b z),fun b ob q he=>u.there b ob q fun z=>he (hx b z),u.tups,u.frzs,u.tbls⟩
end
noncomputable def K4 (h:Heap) (H:Hp):List Addr:=(List.range h.objs.size).filter fun a=>(H a).isSome
noncomputable def tJ (h:Heap) (H:Hp):Heap:=PySem.W.hideAll h (K4 h H)
theorem zJ (h:Heap) (H:Hp):(tJ h H).objs.size=h.objs.size:=PySem.W.hideAll_size _ _
theorem BL {h:Heap}{H:Hp}{b:Addr}{o:Obj}(e:h.get? b=some o) (n:H b=none):(tJ h H).get? b=some o :=
 PySem.W.hideAll_get _ e fun hm=>by
  have q:(H b).isSome=true:=(List.mem_filter.mp hm).2
  rw[n] at q;simp at q
theorem FJ {h:Heap}{H:Hp}{b:Addr}{o:Obj}(e:(tJ h H).get? b=some o):h.get? b=some o/\H b=none:=by
 have e':h.get? b=some o:=PySem.W.of_hideAll (K4 h H) e
 refine⟨e',?_⟩
 cases q:H b with
 | none=>rfl
 | some x =>
  have hm:b∈K4 h H:=List.mem_filter.mpr ⟨List.mem_range.mpr (Heap.lt_size e'),by simp[q]⟩
  have z:(tJ h H).get? b=none:=PySem.W.hideAll_none (K4 h H) hm
  rw[z] at e;cases e
noncomputable def F8 (g h:Heap) (L:Addr):List (Addr×Obj):=(List.range h.objs.size).filterMap fun a=>if a=L\/(g.get? a).isSome=true then none else (h.get? a).map fun o=>(a,o)
noncomputable def rest (g h:Heap) (L d:Addr):List (Addr×Obj):=(F8 g h L).filter fun p=>decide (p.1≠d)
end L2
namespace L2
open PySem PySem.Spec PyProof.Rows
noncomputable def K9 (mg:Str->Option Value) (base:Heap):Prop:=∃bm o,mg "__builtins__"=some (.ref bm)/\bm≠builtinsNs/\bm≠mainGlobals/\base.get? bm=some o/\o.cls=.type "module"/\o.dict=some builtinsNs/\o.data=.plain
structure Mod (K:PySem.W.Frag) (mg:Str->Option Value) (base:Heap):Prop where
 kin:K.In base
 glob:base.Ns mainGlobals mg
 blt:∃mb,base.Ns builtinsNs mb/\∀x:Str,x≠"__name__"->mb x=bootBuiltins x
 nolimit:base.NoLimit
 bmd:K9 mg base
structure Cx where
 prog:Program
 w:World
 K:PySem.W.Frag
 mg:Str->Option Value
 base:Heap
 A:Around
 N:List Str
 s₀:Shared
 H₀:Hp
 env:Env
 outer:List Env
 stack:List Env
 ex:List Addr
 fn:Str->Bool
 calm:Bool
 pn:List (Addr×Obj)
 xe:Value->Shared->Prop
noncomputable def BC (l:List Env):List Addr:=l.filterMap (·.frame)
noncomputable abbrev Cx.fs (X:Cx):List Addr:=BC X.outer
noncomputable def GP (sc:Scope) (x:Str):Prop:=sc.names.lookup x=some .local \/ sc.names.lookup x=some .cell\/sc.names.lookup x=some .free
noncomputable def Loc (sc:Scope) (x:Str):Prop:=sc.names.lookup x=some .local \/ sc.names.lookup x=some .cell
noncomputable def Look (env:Env) (h:Heap) (m:Str->Option Value) (x:Str) (u:Value):Prop :=
 (env.kindOf x=some .local /\ m x=some u)\/((env.kindOf x=some .cell\/env.kindOf x=some .free)/\∃c,env.cells.lookup x=some c/\h.IsCell c (some u))
structure Cx.Ok (X:Cx):Prop where
 mod:Mod X.K X.mg X.base
 kind:X.env.scope.kind=.function
 glob:X.env.globals=mainGlobals
 blt:X.env.builtins=builtinsNs
 above:X.s₀.heap.objs.size<=X.env.locals
 inj:∀x y c,X.env.cells.lookup x=some c->X.env.cells.lookup y=some c->x=y
 has:∀x,(X.env.kindOf x=some .cell\/X.env.kindOf x=some .free)->∃c,X.env.cells.lookup x=some c
 cab:∀x c,X.fn x=true->X.env.cells.lookup x=some c->X.s₀.heap.objs.size<=c
 hd:X.calm=true->X.A.handled=none
 frames:X.A.frames=some X.stack
 stk:X.stack=X.outer\/(X.stack=X.env::X.outer/\X.env.frame=some X.env.locals)
 exf:∀b∈X.ex,b≠X.env.locals/\∀x c,X.env.cells.lookup x=some c->c≠b
 bs:∀b o,X.base.get? b=some o->X.s₀.heap.get? b=some o/\X.H₀ b=none
 bsz:X.base.objs.size<=X.s₀.heap.objs.size
 noex:∀b o,X.base.get? b=some o->b∉X.ex
 exfs:∀b∈X.ex,b∉X.fs
 funs:X.s₀.heap.FunFrames X.base X.outer
 frf:∀b∈X.fs,X.H₀ b=none
structure Inv (X:Cx) (pins:List (Addr×Obj)) (σ:List (Option V)) (H:Hp) (s:Shared):Prop where
 ok:X.Ok
 os:s.os=X.s₀.os
 bare:AllBare s.gens
 base:Un X.fs X.ex X.H₀ H X.s₀.heap s.heap
 loc:∃m,s.heap.Ns X.env.locals m/\∀ (i:Nat) (x:Str) (v:V),X.N[i]?=some x->σ[i]?=some (some v)->GP X.env.scope x->∃u,RelV v u/\Look X.env s.heap m x u
 cell:∀x c,X.env.cells.lookup x=some c->∃v,s.heap.IsCell c v
 free:H X.env.locals=none
 freeC:∀x c,X.env.cells.lookup x=some c->H c=none
 pin:∀p∈X.pn++pins,s.heap.get? p.1=some p.2/\H p.1=none/\p.1≠X.env.locals/\p.1∉X.fs/\∀v,p.2.data≠.cell v
 hok:nH X.prog X.w H s.heap
 len:σ.length=X.N.length
section
variable {X:Cx}{pins:List (Addr×Obj)}{σ:List (Option V)}{H H':Hp}{s:Shared}{h':Heap}
theorem Cx.Ok.nofr (ok:X.Ok) {b:Addr}{o:Obj}(e:X.base.get? b=some o):b∉X.fs:=fun hb=>by
 have:=(ok.funs.mem hb).1
 rw[e] at this;cases this
theorem Inv.bs (I:Inv X pins σ H s):∀b o,X.base.get? b=some o->s.heap.get? b=some o/\H b=none:=fun b o e =>
 ⟨I.base.keep b o (I.ok.bs b o e).1 (I.ok.bs b o e).2 (I.ok.nofr e) (I.ok.noex b o e),I.base.free b o (I.ok.bs b o e).1 (I.ok.bs b o e).2 (I.ok.noex b o e)⟩
theorem Inv.bk (I:Inv X pins σ H s):∀b o,X.base.get? b=some o->s.heap.get? b=some o:=fun b o e=>(I.bs b o e).1
theorem Inv.mod (I:Inv X pins σ H s):Mod X.K X.mg X.base:=I.ok.mod
theorem Inv.kIn (I:Inv X pins σ H s):X.K.In s.heap:=I.ok.mod.kin.keeps I.bk
theorem Inv.nolimit (I:Inv X pins σ H s):s.heap.NoLimit:=I.ok.mod.nolimit.keeps I.bk
theorem Inv.lt (I:Inv X pins σ H s):X.env.locals < s.heap.objs.size:=let ⟨_,hn,_⟩:=I.loc;hn.lt
theorem Inv.sz (I:Inv X pins σ H s):X.s₀.heap.objs.size<=s.heap.objs.size:=Nat.le_trans I.ok.above (Nat.le_of_lt I.lt)
theorem Inv.nofs (I:Inv X pins σ H s) {a:Addr}(h:s.heap.objs.size<=a):a∉X.fs:=fun hb=>by
 obtain⟨_,o,ho,_⟩:=I.ok.funs.mem hb
 exact absurd (Nat.lt_of_lt_of_le (Heap.lt_size ho) (Nat.le_trans I.sz h)) (Nat.lt_irrefl _)
theorem Inv.cne (I:Inv X pins σ H s):∀x c,X.env.cells.lookup x=some c->c≠X.env.locals:=fun x c e z=>by
 obtain⟨v,o,ho,hd⟩:=I.cell x c e
 obtain⟨m,⟨o',es,ep,ho',hd',_⟩,_⟩:=I.loc
 rw[z,ho'] at ho;cases ho;rw[hd'] at hd;cases hd
theorem Inv.funs (I:Inv X pins σ H s):s.heap.FunFrames X.base X.outer:=by
 have all:∀ (l:List Env),(∀b∈BC l,b∈X.fs)->X.s₀.heap.FunFrames X.base l->s.heap.FunFrames X.base l:=by
  intro l
  induction l with
  | nil=>intro _ _;trivial
  | cons env r ih =>
   intro hs hl
   obtain⟨hk,⟨L,o,hf,hn,ho,hd⟩,hr⟩:=hl
   have hL:L∈X.fs:=hs L (by unfold BC;rw[List.filterMap_cons,hf];exact List.mem_cons_self)
   obtain⟨sl,e⟩:=I.base.slot L o ho (I.ok.frf L hL) hL fun z=>I.ok.exfs L z hL
   exact⟨hk,⟨L,_,hf,hn,e,hd⟩,ih (fun b hb=>hs b (by unfold BC;rw[List.filterMap_cons,hf];exact List.mem_cons_of_mem _ hb)) hr⟩
 exact all X.outer (fun _ hb=>hb) I.ok.funs
theorem Inv.stack (I:Inv X pins σ H s):s.heap.FunFrames X.base X.stack:=by
 rcases I.ok.stk with e|⟨e,hf⟩
 ·rw[e];exact I.funs
 ·rw[e]
  obtain⟨m,hn,_⟩:=I.loc
  refine .cons (by rw[I.ok.kind];decide) hf hn ?_ I.funs
  exact Heap.get?_none_of_le (Nat.le_trans I.ok.bsz I.ok.above)
theorem Inv.stkSub (I:Inv X pins σ H s):∀b∈BC X.stack,b∈X.env.locals::X.fs:=fun b hb=>by
 rcases I.ok.stk with e|⟨e,hf⟩
 ·rw[e] at hb;exact List.mem_cons_of_mem _ hb
 ·rw[e] at hb
  unfold BC at hb
  rw[List.filterMap_cons,hf] at hb
  exact hb
theorem Inv.stkFree (I:Inv X pins σ H s):∀b∈BC X.stack,H b=none:=fun b hb=>by
 rcases List.mem_cons.mp (I.stkSub b hb) with e|hb
 ·rw[e];exact I.free
 ·obtain⟨_,o,ho,_⟩:=I.ok.funs.mem hb
  exact I.base.free b o ho (I.ok.frf b hb) fun z=>I.ok.exfs b z hb
theorem Inv.step {g':Array GenState}{t':Nat}{d':Drawn}{ch:List Addr}(I:Inv X pins σ H s)
  (hch:∀b∈ch,(b∈X.ex\/X.s₀.heap.objs.size<=b)/\b≠X.env.locals/\(∀x c,X.env.cells.lookup x=some c->c≠b)/\∀p∈X.pn++pins,p.1≠b)
  (keep:∀b o,b≠X.env.locals->b∉X.fs->b∉ch->s.heap.get? b=some o->H b=none->h'.get? b=some o)
  (slot:∀b o,b≠X.env.locals->b∈X.fs->b∉ch->s.heap.get? b=some o->H b=none->∃sl,h'.get? b=some { o with slots:=sl }) (free:∀b o,b∉ch->s.heap.get? b=some o->H b=none->H' b=none)
  (there:∀b o,b∉ch->s.heap.get? b=some o->∃o',h'.get? b=some o')
  (tups:∀b xs,H b=some (.tup xs)->H' b=some (.tup xs)) (frzs:∀b o u,H b=some (.frz o u)->H' b=some (.frz o u)) (tbls:Gw H H' s.heap h')
  (ns:∀m,s.heap.Ns X.env.locals m->h'.Ns X.env.locals m) (hok:nH X.prog X.w H' h') (hg:AllBare g') :
  Inv X pins σ H' { s with heap:=h',gens:=g',drawn:=d',toks:=t' }:=by
 have neL:∀b o,X.s₀.heap.get? b=some o->b≠X.env.locals:=fun b o e=>Nat.ne_of_lt (Nat.lt_of_lt_of_le (Heap.lt_size e) I.ok.above)
 have neC:∀b o,X.s₀.heap.get? b=some o->b∉X.ex->b∉ch:=fun b o e hx hb=>by
  rcases (hch b hb).1 with z|z
  ·exact hx z
  ·exact absurd (Nat.lt_of_lt_of_le (Heap.lt_size e) z) (Nat.lt_irrefl _)
 have cellK:∀x c,X.env.cells.lookup x=some c->∀v,s.heap.IsCell c v->h'.IsCell c v:=fun x c e v ⟨o,ho,hd⟩=>by
  have nch:c∉ch:=fun z=>(hch c z).2.2.1 x c e rfl
  by_cases hc:c∈X.fs
  ·obtain⟨sl,q⟩:=slot c o (I.cne x c e) hc nch ho (I.freeC x c e)
   exact⟨_,q,hd⟩
  ·exact⟨o,keep c o (I.cne x c e) hc nch ho (I.freeC x c e),hd⟩
 refine⟨I.ok,I.os,hg,⟨fun b o e n hb hx=>?_,fun b o e n hb hx=>?_,fun b o e n hx=>?_,fun b o e hx=>?_,fun b xs e=>tups b xs (I.base.tups b xs e),fun b o xs e=>frzs b o xs (I.base.frzs b o xs e),I.base.tbls.trans tbls⟩,?_,fun x c e=>?_,?_,fun x c e=>?_,fun p hp=>?_,hok,I.len⟩
 ·exact keep b o (neL b o e) hb (neC b o e hx) (I.base.keep b o e n hb hx) (I.base.free b o e n hx)
 ·obtain⟨sl,e1⟩:=I.base.slot b o e n hb hx
  obtain⟨sl',e2⟩:=slot b _ (neL b o e) hb (neC b o e hx) e1 (I.base.free b o e n hx)
  exact⟨sl',e2⟩
 ·obtain⟨o',e1⟩:=I.base.there b o e hx
  exact free b o' (neC b o e hx) e1 (I.base.free b o e n hx)
 ·obtain⟨o',e1⟩:=I.base.there b o e hx
  exact there b o' (neC b o e hx) e1
 ·obtain⟨m,hn,hl⟩:=I.loc
  refine⟨m,ns m hn,fun i x v e1 e2 e3=>?_⟩
  obtain⟨u,r,l⟩:=hl i x v e1 e2 e3
  refine⟨u,r,?_⟩
  rcases l with l|⟨k,c,e,z⟩
  ·exact .inl l
  ·exact .inr ⟨k,c,e,cellK x c e _ z⟩
 ·obtain⟨v,z⟩:=I.cell x c e
  exact⟨v,cellK x c e v z⟩
 ·obtain⟨m,⟨o,_,_,ho,_⟩,_⟩:=I.loc
  exact free _ o (fun z=>(hch _ z).2.1 rfl) ho I.free
 ·obtain⟨v,o,ho,hd⟩:=I.cell x c e
  exact free c o (fun z=>(hch c z).2.2.1 x c e rfl) ho (I.freeC x c e)
 ·obtain⟨e,n,ne,nf,d⟩:=I.pin p hp
  have nch:p.1∉ch:=fun z=>(hch p.1 z).2.2.2 p hp rfl
  exact⟨keep p.1 p.2 ne nf nch e n,free p.1 p.2 nch e n,ne,nf,d⟩
theorem Inv.un {t':Nat}(I:Inv X pins σ H s) (u:Un X.fs [] H H' s.heap h') (hok:nH X.prog X.w H' h'):Inv X pins σ H' { s with heap:=h',toks:=t' }:=by
 obtain⟨m,⟨o,es,ep,ho,r⟩,_⟩:=id I.loc
 obtain⟨sl,hL⟩:=u.any ho I.free (by simp)
 exact I.step (g':=s.gens) (d':=s.drawn) (ch:=[]) (fun _ z=>nomatch z) (fun b o _ hb _ e n=>u.keep b o e n hb (by simp)) (fun b o _ hb _ e n=>u.slot b o e n hb (by simp)) (fun b o _ e n=>u.free b o e n (by simp)) (fun b o _ e=>u.there b o e (by simp)) u.tups u.frzs u.tbls (fun m' hm=>by
  obtain⟨o',es',ep',ho',r'⟩:=hm
  rw[ho] at ho';cases ho'
  exact⟨_,es',ep',hL,r'⟩) hok I.bare
theorem Inv.call {g':Array GenState}{t':Nat}{d':Drawn}{ch:List Addr}(I:Inv X pins σ H s) (u:Un (BC X.stack) ch H H' s.heap h') (hok:nH X.prog X.w H' h') (hg:AllBare g')
  (hch:∀b∈ch,(b∈X.ex\/X.s₀.heap.objs.size<=b)/\b≠X.env.locals/\(∀x c,X.env.cells.lookup x=some c->c≠b)/\∀p∈X.pn++pins,p.1≠b) :
  Inv X pins σ H' { s with heap:=h',gens:=g',drawn:=d',toks:=t' }:=by
 obtain⟨m,⟨o,es,ep,ho,r⟩,_⟩:=id I.loc
 obtain⟨sl,hL⟩:=u.any ho I.free fun z=>(hch _ z).2.1 rfl
 exact I.step (ch:=ch) hch (fun b o hL hb hc e n=>u.keep b o e n (fun z=>(List.mem_cons.mp (I.stkSub b z)).elim hL hb) hc) (fun b o _ _ hc e n=>u.any e n hc) (fun b o hc e n=>u.free b o e n hc) (fun b o hc e=>u.there b o e hc) u.tups u.frzs u.tbls (fun m' hm=>by
  obtain⟨o',es',ep',ho',r'⟩:=hm
  rw[ho] at ho';cases ho'
  exact⟨_,es',ep',hL,r'⟩) hok hg
theorem Inv.turned {t':Nat}{it:Addr}(I:Inv X pins σ H s) (k:∀b o,b≠it->s.heap.get? b=some o->h'.get? b=some o) (hn:H it=none) (hL:it≠X.env.locals)
  (h1:it∈X.ex\/X.s₀.heap.objs.size<=it) (h2:∀x c,X.env.cells.lookup x=some c->c≠it) (h3:∀p∈X.pn++pins,p.1≠it):Inv X pins σ H { s with heap:=h',toks:=t' }:=by
 have nit:∀b u,H b=some u->b≠it:=fun b u e z=>by rw[z,hn] at e;cases e
 refine I.step (g':=s.gens) (d':=s.drawn) (ch:=[it]) (fun b hb=>?_) (fun b o _ _ hc e _=>k b o (fun z=>hc (by simp[z])) e) (fun b o _ _ hc e _=>⟨o.slots,k b o (fun z=>hc (by simp[z])) e⟩) (fun _ _ _ _ n=>n)
  (fun b o hc e=>⟨o,k b o (fun z=>hc (by simp[z])) e⟩) (fun _ _ e=>e) (fun _ _ _ e=>e) (.kept (fun b u z e=>k b u (fun r=>by subst r;rcases z with ⟨q,z⟩;rw[hn] at z;cases z) e) fun _ _ e _=>e) (fun m hm=>?_) (fun b u e=>?_) I.bare
 ·have e:b=it:=by simpa using hb
  subst e
  exact⟨h1,hL,h2,h3⟩
 ·obtain⟨o,es,ep,ho,r⟩:=hm
  exact⟨o,es,ep,k _ o (Ne.symm hL) ho,r⟩
 ·refine (I.hok b u e).stay (fun c v hc q=>k c v ?_ q) (fun _ q=>q) fun _ _ q _=>q
  rcases hc with z|z
  ·rw[z];exact nit b u e
  ·exact nit c _ z
theorem Inv.tok (I:Inv X pins σ H s) (t:Nat):Inv X pins σ H { s with toks:=t }:=I.un (h':=s.heap) (t':=t) Un.refl I.hok
theorem Inv.kept {t':Nat}(I:Inv X pins σ H s) (k:∀b u,s.heap.get? b=some u->h'.get? b=some u):Inv X pins σ H { s with heap:=h',toks:=t' }:=I.un (Un.kept k) (I.hok.kept k)
theorem Inv.laid {a:Addr}{o:HO}{t':Nat}(I:Inv X pins σ H s) (k:∀b u,s.heap.get? b=some u->h'.get? b=some u) (hp:s.heap.objs.size<=a) (new:eE X.prog X.w (upd H a o) h' a o) :
  Inv X pins σ (upd H a o) { s with heap:=h',toks:=t' }:=I.un (Un.laid k hp (I.hok.fresh hp)) (I.hok.laid k hp new)
theorem Inv.write {x e:Addr}{o:HO}{t':Nat}(I:Inv X pins σ H s) (mu:JS (H x)) (he:e=x\/H e=some (.own x)) (k:∀b u,b≠e->s.heap.get? b=some u->h'.get? b=some u) (heo:∃u,h'.get? e=some u)
  (new:eE X.prog X.w (upd H x o) h' x o):Inv X pins σ (upd H x o) { s with heap:=h',toks:=t' }:=I.un (Un.write mu he k heo) (I.hok.write mu he k heo new)
theorem Inv.pins_of {pins':List (Addr×Obj)}(I:Inv X pins σ H s) (h:∀p∈pins',s.heap.get? p.1=some p.2/\H p.1=none/\p.1≠X.env.locals/\p.1∉X.fs/\∀v,p.2.data≠.cell v):Inv X pins' σ H s :=
 ⟨I.ok,I.os,I.bare,I.base,I.loc,I.cell,I.free,I.freeC,fun p hp=>(List.mem_append.mp hp).elim (fun z=>I.pin p (List.mem_append_left _ z)) (h p),I.hok,I.len⟩
theorem vx {N:List Str}(hN:N.Nodup) {i j:Nat}{x:Str}(a:N[i]?=some x) (b:N[j]?=some x):i=j:=by
 obtain⟨h1,e1⟩:=List.getElem?_eq_some_iff.mp a
 obtain⟨h2,e2⟩:=List.getElem?_eq_some_iff.mp b
 exact (List.getElem_inj hN).mp (e1.trans e2.symm)
theorem rN {M:Model}{A:Around}{E:Value->Shared->Prop}{i:Nat}{x:Str}{v:V}{u:Value}{Q:Unit->Shared->Prop}(I:Inv X pins σ H s) (hN:X.N.Nodup) (hi:X.N[i]?=some x) (hx:Loc X.env.scope x) (r:RelV v u)
  (h:∀s',Inv X pins (σ.set i (some v)) H s'->(∃a,Heap.SameBut a s.heap s'.heap/\(a=X.env.locals\/X.env.cells.lookup x=some a))->Q () s') (hf:X.fn x=true\/X.env.scope.names.lookup x=some .local:=by first|exact .inl rfl|exact .inr rfl|assumption):wpAny M A (storeName X.env x u) Q E s:=by
 obtain⟨m,hn,hl⟩:=id I.loc
 have hcls:(X.env.scope.kind == .class||(X.env.scope.kind == .module&&X.env.locals != X.env.globals))=false:=by rw[I.ok.kind];rfl
 have hiσ:i < σ.length:=by rw[I.len];exact (List.getElem?_eq_some_iff.mp hi).1
 have cne:=I.cne
 have tracked:∀ {a:Addr}{h':Heap},(∃o,s.heap.get? a=some o/\H a=none)->Heap.SameBut a s.heap h'->nH X.prog X.w H h':=fun {a h'} ha hs b ob e=>by
  obtain⟨_,_,hfree⟩:=ha
  refine (I.hok b ob e).stay (fun c w' hc q=>(hs.2 c ?_).trans q) (fun _ q=>q) fun _ _ q _=>q
  rintro rfl
  rcases hc with rfl|hc
  ·rw[hfree] at e;cases e
  ·rw[hfree] at hc;cases hc
 rcases hx with hk|hk
 ·refine wpAny_storeName_local hk hn (fun h' hn' hs=>?_) hcls
  obtain⟨oL,_,_,hoL,_⟩:=id hn
  refine h _ ⟨I.ok,I.os,I.bare,⟨fun b o e n hb hx=>?_,fun b o e n hb hx=>?_,I.base.free,fun b o e hx=>?_,I.base.tups,I.base.frzs,I.base.tbls.trans (.kept (fun b u z e=>(hs.2 b (fun r=>by rcases z with ⟨q,z⟩;rw[r,I.free] at z;cases z)).trans e) fun _ _ e _=>e)⟩,⟨_,hn',fun j y v' e1 e2 e3=>?_⟩,fun y c e=>?_,I.free,I.freeC,fun p hp=>?_,tracked ⟨oL,hoL,I.free⟩ hs,by simpa using I.len⟩ ⟨_,hs,.inl rfl⟩
  ·exact (hs.2 b (Nat.ne_of_lt (Nat.lt_of_lt_of_le (Heap.lt_size e) I.ok.above))).trans (I.base.keep b o e n hb hx)
  ·obtain⟨sl,e1⟩:=I.base.slot b o e n hb hx
   exact⟨sl,(hs.2 b (Nat.ne_of_lt (Nat.lt_of_lt_of_le (Heap.lt_size e) I.ok.above))).trans e1⟩
  ·obtain⟨o',e1⟩:=I.base.there b o e hx
   exact⟨o',(hs.2 b (Nat.ne_of_lt (Nat.lt_of_lt_of_le (Heap.lt_size e) I.ok.above))).trans e1⟩
  ·by_cases hj:j=i
   ·subst hj
    rw[hi] at e1;cases e1
    rw[List.getElem?_set_self hiσ] at e2
    cases e2
    exact⟨u,r,.inl ⟨hk,by simp⟩⟩
   ·rw[List.getElem?_set_ne (Ne.symm hj)] at e2
    obtain⟨u',r',q⟩:=hl j y v' e1 e2 e3
    refine⟨u',r',?_⟩
    rcases q with ⟨k,e⟩|⟨k,c,e,z⟩
    ·refine .inl ⟨k,?_⟩
     have:y≠x:=fun e=>hj (vx hN e1 (e ▸ hi))
     simp[this,e]
    ·exact .inr ⟨k,c,e,z.sameBut hs (cne y c e)⟩
  ·obtain⟨w',z⟩:=I.cell y c e
   exact⟨w',z.sameBut hs (cne y c e)⟩
  ·obtain⟨e,n,ne,nf,d⟩:=I.pin p hp
   exact⟨(hs.2 p.1 ne).trans e,n,ne,nf,d⟩
 ·have hfn:X.fn x=true:=by
   rcases hf with z|z
   ·exact z
   ·rw[z] at hk;cases hk
  obtain⟨c,hc⟩:=I.ok.has x (.inl hk)
  obtain⟨w',z⟩:=I.cell x c hc
  refine wpAny_storeName_cell I.ok.kind hk hc z (fun h' hc' hs=>?_)
  obtain⟨oc,hoc,hocd⟩:=id z
  refine h { s with heap:=h' } ⟨I.ok,I.os,I.bare,⟨fun b o e n hb hx=>?_,fun b o e n hb hx=>?_,I.base.free,fun b o e hx=>?_,I.base.tups,I.base.frzs,I.base.tbls.trans (.kept (fun b u z e=>(hs.2 b (fun r=>by rcases z with ⟨q,z⟩;rw[r,I.freeC x c hc] at z;cases z)).trans e) fun _ _ e _=>e)⟩,⟨m,hn.sameBut hs (Ne.symm (cne x c hc)),fun j y v' e1 e2 e3=>?_⟩,fun y c' e=>?_,I.free,I.freeC,fun p hp=>?_,tracked ⟨oc,hoc,I.freeC x c hc⟩ hs,by simpa using I.len⟩ ⟨c,hs,.inr hc⟩
  ·exact (hs.2 b (Nat.ne_of_lt (Nat.lt_of_lt_of_le (Heap.lt_size e) (I.ok.cab x c hfn hc)))).trans (I.base.keep b o e n hb hx)
  ·obtain⟨sl,e1⟩:=I.base.slot b o e n hb hx
   exact⟨sl,(hs.2 b (Nat.ne_of_lt (Nat.lt_of_lt_of_le (Heap.lt_size e) (I.ok.cab x c hfn hc)))).trans e1⟩
  ·obtain⟨o',e1⟩:=I.base.there b o e hx
   exact⟨o',(hs.2 b (Nat.ne_of_lt (Nat.lt_of_lt_of_le (Heap.lt_size e) (I.ok.cab x c hfn hc)))).trans e1⟩
  ·by_cases hj:j=i
   ·subst hj
    rw[hi] at e1;cases e1
    rw[List.getElem?_set_self hiσ] at e2
    cases e2
    exact⟨u,r,.inr ⟨.inl hk,c,hc,hc'⟩⟩
   ·rw[List.getElem?_set_ne (Ne.symm hj)] at e2
    obtain⟨u',r',q⟩:=hl j y v' e1 e2 e3
    refine⟨u',r',?_⟩
    rcases q with q|⟨k,c',e,z'⟩
    ·exact .inl q
    ·refine .inr ⟨k,c',e,z'.sameBut hs ?_⟩
     rintro rfl
     exact hj (vx hN e1 (I.ok.inj _ _ _ e hc ▸ hi))
  ·by_cases hcc:c'=c
   ·subst hcc;exact⟨_,hc'⟩
   ·obtain⟨w2,z2⟩:=I.cell y c' e
    exact⟨w2,z2.sameBut hs hcc⟩
  ·obtain⟨e,n,ne,nf,d⟩:=I.pin p hp
   refine⟨(hs.2 p.1 ?_).trans e,n,ne,nf,d⟩
   intro q
   rw[q,hoc] at e
   have q':oc=p.2:=Option.some.inj e
   exact d w' (by rw[<- q'];exact hocd)
theorem uW {M:Model}{A:Around}{E:Value->Shared->Prop}{i:Nat}{x:Str}{v:V}{u:Value}{Q:Unit->Shared->Prop}(I:Inv X pins σ H s) (hN:X.N.Nodup) (hi:X.N[i]?=some x) (hx:Loc X.env.scope x) (r:RelV v u)
  (h:∀s',Inv X pins (σ.set i (some v)) H s'->Q () s') (hf:X.fn x=true\/X.env.scope.names.lookup x=some .local:=by first|exact .inl rfl|exact .inr rfl|assumption):wpAny M A (storeName X.env x u) Q E s :=
 rN I hN hi hx r (fun s' I' _=>h s' I') hf
theorem Inv.call' {s':Shared}{ch:List Addr}(I:Inv X pins σ H s) (ho:s'.os=s.os) (u:Un (BC X.stack) ch H H' s.heap s'.heap) (hok:nH X.prog X.w H' s'.heap) (hg:AllBare s'.gens)
  (hch:∀b∈ch,(b∈X.ex\/X.s₀.heap.objs.size<=b)/\b≠X.env.locals/\(∀x c,X.env.cells.lookup x=some c->c≠b)/\∀p∈X.pn++pins,p.1≠b):Inv X pins σ H' s':=by
 obtain⟨h',g',d',t',o'⟩:=s'
 have e:o'=s.os:=ho
 subst e
 exact I.call (g':=g') (t':=t') (d':=d') u hok hg hch
end
noncomputable abbrev XK:=Value->Option Addr->Hp->Prop
noncomputable abbrev St:=List (Option V)
noncomputable abbrev VK:=V->Hp->Prop
noncomputable abbrev TE:=St->Hp->VK->Prop
noncomputable abbrev TT:=St->Hp->(Bool->Hp->Prop)->Prop
noncomputable abbrev TA:=St->Hp->(List V->Hp->Prop)->Prop
structure Ends where
 nx:St->Hp->Prop
 rt:VK
 bk:St->Hp->Prop:=fun _ _=>False
 ct:St->Hp->Prop:=fun _ _=>False
noncomputable abbrev TS:=Ends->St->Hp->Prop
noncomputable def EP (X:Cx) (pins:List (Addr×Obj)) (σ:St) (Q:VK) (u:Value) (s':Shared):Prop:=∃v H',Inv X pins σ H' s'/\RelV v u/\Q v H'
noncomputable def TP (X:Cx) (pins:List (Addr×Obj)) (σ:St) (Q:Bool->Hp->Prop) (b:Bool) (s':Shared):Prop:=∃H',Inv X pins σ H' s'/\Q b H'
noncomputable def AP (X:Cx) (pins:List (Addr×Obj)) (σ:St) (Q:List V->Hp->Prop) (us:List Value) (s':Shared):Prop:=∃vs H',Inv X pins σ H' s'/\aC vs us/\Q vs H'
noncomputable def SP (X:Cx) (pins:List (Addr×Obj)) (D:Ends) (f:Flow) (s':Shared):Prop :=
 match f with
 | .next=>∃σ' H',Inv X pins σ' H' s'/\D.nx σ' H'
 | .brk=>∃σ' H',Inv X pins σ' H' s'/\D.bk σ' H'
 | .cont=>∃σ' H',Inv X pins σ' H' s'/\D.ct σ' H'
 | .ret u=>∃v σ' H',Inv X pins σ' H' s'/\RelV v u/\D.rt v H'
noncomputable def PE (X:Cx) (e:Expr) (t:TE):Prop :=
 ∀ (pins:List (Addr×Obj)) (s:Shared) (σ:St) (H:Hp) (Q:VK),Inv X pins σ H s->t σ H Q->wpAny (model X.prog X.w) X.A (eval e X.env) (EP X pins σ Q) X.xe s
noncomputable def PT (X:Cx) (e:Expr) (t:TT):Prop :=
 ∀ (pins:List (Addr×Obj)) (s:Shared) (σ:St) (H:Hp) (Q:Bool->Hp->Prop),Inv X pins σ H s->t σ H Q->wpAny (model X.prog X.w) X.A (isTrue e X.env (eval e X.env)) (TP X pins σ Q) X.xe s
noncomputable def PW (X:Cx) (e:Expr) (t:TT):Prop :=
 ∀ (whole:Sem Value) (pins:List (Addr×Obj)) (s:Shared) (σ:St) (H:Hp) (Q:Bool->Hp->Prop),Inv X pins σ H s->t σ H Q->wpAny (model X.prog X.w) X.A (isTrue e X.env whole) (TP X pins σ Q) X.xe s
theorem PW.pt {X:Cx}{e:Expr}{t:TT}(h:PW X e t):PT X e t:=h _
noncomputable def PA (X:Cx) (es:List Expr) (t:TA):Prop :=
 ∀ (pos:Pos) (pins:List (Addr×Obj)) (s:Shared) (σ:St) (H:Hp) (Q:List V->Hp->Prop),Inv X pins σ H s->t σ H Q->wpAny (model X.prog X.w) X.A (spliced (backTo pos (starEach es X.env))) (AP X pins σ Q) X.xe s
noncomputable def PS (X:Cx) (st:Stmt) (t:TS):Prop :=
 ∀ (pins:List (Addr×Obj)) (s:Shared) (σ:St) (H:Hp) (D:Ends),Inv X pins σ H s->t D σ H->wpAny (model X.prog X.w) X.A (exec st X.env) (SP X pins D) X.xe s
noncomputable def wJ (X:Cx) (st:List Stmt) (t:TS):Prop :=
 ∀ (pins:List (Addr×Obj)) (s:Shared) (σ:St) (H:Hp) (D:Ends),Inv X pins σ H s->t D σ H->wpAny (model X.prog X.w) X.A (execs st X.env) (SP X pins D) X.xe s
theorem bS {α:Type}{t:Sem α}{Q Q':α->Shared->Prop}{M:Model}{A:Around}{E:Value->Shared->Prop}{s:Shared}(h:wpAny M A t Q E s) (hQ:∀a s,Q a s->Q' a s):wpAny M A t Q' E s:=wpAny_mono h hQ fun _ _ x=>x
end L2
namespace L2
open PySem PySem.Spec PyProof.Rows
section
variable {X:Cx}
theorem bin {a b:Expr}{ta tb:TE}(ha:PE X a ta) (hb:PE X b tb) {pins:List (Addr×Obj)}{s:Shared}{σ:St}{H:Hp}{R:V->V->Hp->Prop}(I:Inv X pins σ H s) (h:ta σ H fun x H1=>tb σ H1 fun y H2=>R x y H2)
  {α:Type}{Q:α->Shared->Prop}{f:Value->Value->Sem α}
  (hf:∀v u s2 x y H2,Inv X pins σ H2 s2->RelV x v->RelV y u->R x y H2->wpAny (model X.prog X.w) X.A (f v u) Q X.xe s2) :
  wpAny (model X.prog X.w) X.A (eval a X.env) (fun v s₁=>wpAny (model X.prog X.w) X.A (eval b X.env) (fun u s₂=>wpAny (model X.prog X.w) X.A (f v u) Q X.xe s₂) X.xe s₁) X.xe s:=by
 refine bS (ha pins s σ H _ I h) fun v s1 ⟨x,H1,I1,r1,q1⟩=>?_
 refine bS (hb pins s1 σ H1 _ I1 q1) fun u s2 ⟨y,H2,I2,r2,q2⟩=>?_
 exact hf v u s2 x y H2 I2 r1 r2 q2
noncomputable def Lq (i:Nat):TE:=fun σ H Q=>∃v,σ[i]?=some (some v)/\Q v H
noncomputable def tC (v:V):TE:=fun _ H Q=>Q v H
theorem oY {i:Nat}{x:Str}{pos:Pos}(hN:X.N[i]?=some x) (hv:GP X.env.scope x) (hd:(x == ("__debug__":Str))=false:=by decide) (hcd:(x == ("__classdict__":Str))=false:=by decide):PE X (.Name x pos) (Lq i):=by
 intro pins s σ H Q I h
 obtain⟨v,e,h⟩:=h
 obtain⟨m,hn,hl⟩:=I.loc
 obtain⟨u,r,l⟩:=hl i x v hN e hv
 have fin:EP X pins σ Q u s:=⟨v,H,I,r,h⟩
 rcases l with ⟨hk,hm⟩|⟨hk,c,hc,hcell⟩
 ·exact wpAny_Name (wpAny_loadName_local I.ok.kind hk hn hm fin) hd
 ·rcases hk with hk|hk
  ·exact wpAny_Name (wpAny_loadName_cell I.ok.kind hk hc hcell fin) hd
  ·exact wpAny_Name (wpAny_loadName_free I.ok.kind hk hc hcell fin hcd) hd
theorem sr {i j pos}:PE X (.Constant (.int i) j pos) (tC (.int i)):=fun _ _ _ H _ I h=>wpAny_Constant_int ⟨.int i,H,I.tok _,⟨_,rfl⟩,h⟩
theorem KN {b j pos}:PE X (.Constant (.bool b) j pos) (tC (.bl b)):=fun _ _ _ H _ I h=>Constant_bool ⟨.bl b,H,I,rfl,h⟩
theorem Jc {j pos}:PE X (.Constant .none j pos) (tC .non):=fun _ _ _ H _ I h=>Constant_none ⟨.non,H,I,rfl,h⟩
theorem Hu {x j pos}:PE X (.Constant (.str x) j pos) (tC (.str x)):=fun _ _ _ H _ I h=>Calls.Constant_str ⟨.str x,H,I.tok _,⟨_,rfl⟩,h⟩
noncomputable def Gl (X:Cx) (x:Str):Prop:=X.env.kindOf x=some .globalImplicit
theorem yP {E:Value->Shared->Prop}{pins:List (Addr×Obj)}{s:Shared}{σ:St}{H:Hp}{x:Str}{u:Value}{pos:Pos}{Q:Value->Shared->Prop}(I:Inv X pins σ H s) (hg:Gl X x) (hm:X.mg x=some u) (h:Q u s)
  (hd:(x == ("__debug__":Str))=false:=by decide):wpAny (model X.prog X.w) X.A (eval (.Name x pos) X.env) Q E s :=
 Calls.Name_function_global I.ok.kind hg (Calls.loadGlobal_global (by rw[I.ok.glob];exact I.mod.glob.keeps I.bk) hm h) hd
theorem iJ {E:Value->Shared->Prop}{pins:List (Addr×Obj)}{s:Shared}{σ:St}{H:Hp}{x:Str}{u:Value}{pos:Pos}{Q:Value->Shared->Prop}(I:Inv X pins σ H s) (hg:Gl X x) (hm:X.mg x=none) (hv:bootBuiltins x=some u) (h:Q u s)
  (hn:x≠"__name__":=by decide) (hd:(x == ("__debug__":Str))=false:=by decide):wpAny (model X.prog X.w) X.A (eval (.Name x pos) X.env) Q E s:=by
 obtain⟨mb,h1,h2⟩:=I.mod.blt
 exact Calls.Name_function_global I.ok.kind hg (Calls.loadGlobal_builtin (by rw[I.ok.glob];exact I.mod.glob.keeps I.bk) hm (by rw[I.ok.blt];exact h1.keeps I.bk) ((h2 x hn).trans hv) h) hd
theorem EC {x:Str}{v:V}{u:Value}{pos:Pos}(hg:Gl X x) (hm:X.mg x=some u) (r:RelV v u) (hd:(x == ("__debug__":Str))=false:=by decide):PE X (.Name x pos) (tC v) :=
 fun _ _ _ H _ I h=>yP I hg hm ⟨v,H,I,r,h⟩ hd
theorem FD {x:Str}{v:V}{u:Value}{pos:Pos}(hg:Gl X x) (hm:X.mg x=none) (hv:bootBuiltins x=some u) (r:RelV v u) (hn:x≠"__name__":=by decide) (hd:(x == ("__debug__":Str))=false:=by decide):PE X (.Name x pos) (tC v) :=
 fun _ _ _ H _ I h=>iJ I hg hm hv ⟨v,H,I,r,h⟩ hn hd
variable {a b:Expr}{ta tb:TE}{pos:Pos}
noncomputable def tB (t:TE):TT:=fun σ H Q=>t σ H fun x H1=>∃c,x=.bl c/\Q c H1
theorem IM {e:Expr}{t:TE}(h:PE X e t) (he:∀whole,isTrue e X.env whole=(do let v <- whole;standAt e.pos;holding [v] (truthy v)):=by intro _;rfl):PT X e (tB t):=by
 intro pins s σ H Q I hw
 refine isTrue_plain (bS (h pins s σ H _ I hw) fun v s1 ⟨x,H1,I1,r1,q1⟩=>?_) (he _)
 obtain⟨d,rfl,q⟩:=q1
 cases r1
 exact wpAny_truthy_bool ⟨H1,I1,q⟩
variable {tA tB':TT}{rest:List Expr}
noncomputable def L0 (t u:TT):TT:=fun σ H Q=>t σ H fun c H1=>if c=true then u σ H1 Q else Q false H1
noncomputable def MD (t u:TT):TT:=fun σ H Q=>t σ H fun c H1=>if c=true then Q true H1 else u σ H1 Q
noncomputable def Lw (t:TT):TT:=fun σ H Q=>t σ H fun c H1=>Q (!c) H1
theorem Fh (ha:PT X a tA):PW X (.BoolOp .And [a] pos) tA:=by
 intro wh pins s σ H Q I h
 refine isTrue_and (bS (ha pins s σ H Q I h) fun c s1 e=>?_)
 cases c with
 | true=>exact isTrue_and_nil e
 | false=>exact e
theorem Iz (ha:PT X a tA):PW X (.BoolOp .Or [a] pos) tA:=by
 intro wh pins s σ H Q I h
 refine isTrue_or (bS (ha pins s σ H Q I h) fun c s1 e=>?_)
 cases c with
 | false=>exact isTrue_or_nil e
 | true=>exact e
theorem HV (ha:PT X a tA) (hb:PW X (.BoolOp .And (b::rest) pos) tB'):PW X (.BoolOp .And (a::b::rest) pos) (L0 tA tB'):=by
 intro wh pins s σ H Q I h
 refine isTrue_and (bS (ha pins s σ H _ I h) fun c s1 ⟨H1,I1,q1⟩=>?_)
 cases c with
 | true=>exact hb wh pins s1 σ H1 Q I1 q1
 | false=>exact⟨H1,I1,q1⟩
theorem KS (ha:PT X a tA) (hb:PW X (.BoolOp .Or (b::rest) pos) tB'):PW X (.BoolOp .Or (a::b::rest) pos) (MD tA tB'):=by
 intro wh pins s σ H Q I h
 refine isTrue_or (bS (ha pins s σ H _ I h) fun c s1 ⟨H1,I1,q1⟩=>?_)
 cases c with
 | true=>exact⟨H1,I1,q1⟩
 | false=>exact hb wh pins s1 σ H1 Q I1 q1
theorem HP (ha:PT X a tA):PT X (.UnaryOp .Not a pos) (Lw tA):=by
 intro pins s σ H Q I h
 exact isTrue_not (ha pins s σ H (fun c H1=>Q (!c) H1) I h)
noncomputable def KD (ta tb:TE):TE:=fun σ H Q=>ta σ H fun x H1=>∃c,x=.bl c/\if c=true then tb σ H1 Q else Q (.bl false) H1
noncomputable def Md (ta tb:TE):TE:=fun σ H Q=>ta σ H fun x H1=>∃c,x=.bl c/\if c=true then Q (.bl true) H1 else tb σ H1 Q
noncomputable def Ko (ta:TE):TE:=fun σ H Q=>ta σ H fun x H1=>∃c,x=.bl c/\Q (.bl (!c)) H1
theorem Jo {op}{t:TE}(h:PE X a t):PE X (.BoolOp op [a] pos) t:=fun pins s σ H Q I hw=>BoolOp_one (h pins s σ H Q I hw)
theorem Ie (ha:PE X a ta) (hb:PE X (.BoolOp .And (b::rest) pos) tb):PE X (.BoolOp .And (a::b::rest) pos) (KD ta tb):=by
 intro pins s σ H Q I h
 refine BoolOp_and (bS (ha pins s σ H _ I h) fun v s1 ⟨x,H1,I1,r1,q1⟩=>?_)
 obtain⟨c,rfl,q1⟩:=q1
 cases r1
 refine wpAny_truthy_bool ?_
 cases c with
 | true=>exact hb pins s1 σ H1 Q I1 q1
 | false=>exact⟨.bl false,H1,I1,rfl,q1⟩
theorem D3 (ha:PE X a ta) (hb:PE X (.BoolOp .Or (b::rest) pos) tb):PE X (.BoolOp .Or (a::b::rest) pos) (Md ta tb):=by
 intro pins s σ H Q I h
 refine BoolOp_or (bS (ha pins s σ H _ I h) fun v s1 ⟨x,H1,I1,r1,q1⟩=>?_)
 obtain⟨c,rfl,q1⟩:=q1
 cases r1
 refine wpAny_truthy_bool ?_
 cases c with
 | false=>exact hb pins s1 σ H1 Q I1 q1
 | true=>exact⟨.bl true,H1,I1,rfl,q1⟩
theorem Jb (ha:PE X a ta):PE X (.UnaryOp .Not a pos) (Ko ta):=by
 intro pins s σ H Q I h
 refine UnaryOp_ (bS (ha pins s σ H _ I h) fun v s1 ⟨x,H1,I1,r1,q1⟩=>?_)
 obtain⟨c,rfl,q1⟩:=q1
 cases r1
 exact not_of (wpAny_truthy_bool ⟨.bl (!c),H1,I1,rfl,q1⟩)
noncomputable def Mx (t:TT) (ta tb:TE):TE:=fun σ H Q=>t σ H fun c H1=>if c=true then ta σ H1 Q else tb σ H1 Q
theorem Cq {c:Expr}(hc:PT X c tA) (ha:PE X a ta) (hb:PE X b tb):PE X (.IfExp c a b pos) (Mx tA ta tb):=by
 intro pins s σ H Q I h
 refine wpAny_IfExp (bS (hc pins s σ H _ I h) fun d s1 ⟨H1,I1,q1⟩=>?_)
 cases d with
 | true=>exact ha pins s1 σ H1 Q I1 q1
 | false=>exact hb pins s1 σ H1 Q I1 q1
end
end L2
namespace L2
open PySem PySem.Spec PyProof.Rows
noncomputable def ib (K:PySem.W.Frag) (H:Hp) (a:Addr) (xs:List V):Prop :=
 Rd H a (.lst xs) \/
  ∃ (o:Obj) (its:Array Value) (n:Nat),K.lookup a=some o/\o.cls=.type "list"/\o.dict=none/\o.data=.seq its n/\its.size<=sizeLine/\aC xs its.toList
noncomputable def i3 (K:PySem.W.Frag) (H:Hp) (a:Addr) (xs:List V):Prop :=
 Rd H a (.tup xs) \/
  ∃ (o:Obj) (its:Array Value) (n:Nat),K.lookup a=some o/\o.cls=.type "tuple"/\o.dict=none/\o.data=.seq its n/\its.size<=sizeLine/\aC xs its.toList
noncomputable def LF:Value->Option V
 | .none=>some .non
 | .bool b=>some (.bl b)
 | .int i _=>some (.int i)
 | .str x _=>some (.str x)
 | .bytes b _=>some (.byt b)
 | .float b _=>some (.flt b)
 | .ref a=>some (.ref a)
 | .type n=>some (.ty n)
 | _=>none
theorem RelV.abs {x:V}{u:Value}(r:RelV x u):LF u=some x:=by
 cases x with
 | non=>cases r;rfl
 | bl _=>cases r;rfl
 | int _=>obtain⟨t,rfl⟩:=r;rfl
 | str _=>obtain⟨t,rfl⟩:=r;rfl
 | byt _=>obtain⟨t,rfl⟩:=r;rfl
 | flt _=>obtain⟨t,rfl⟩:=r;rfl
 | ref _=>cases r;rfl
 | ty _=>cases r;rfl
theorem RelV.inj {x y:V}{u:Value}(r:RelV x u) (q:RelV y u):x=y:=Option.some.inj (r.abs.symm.trans q.abs)
theorem aC.inj:∀ {xs ys:List V}{us:List Value},aC xs us->aC ys us->xs=ys
 | _,_,_,.nil,.nil=>rfl
 | _,_,_,.cons r t,.cons r' t'=>by rw[r.inj r',aC.inj t t']
section
variable {X:Cx}{pins:List (Addr×Obj)}{σ:St}{H:Hp}{s:Shared}{a:Addr}{xs ys:List V}
theorem ib.of {K:PySem.W.Frag}(h:H a=some (.lst xs)):ib K H a xs:=.inl (.inl h)
theorem i3.of {K:PySem.W.Frag}(h:H a=some (.tup xs)):i3 K H a xs:=.inl (.inl h)
theorem Inv.list (I:Inv X pins σ H s) (h:ib X.K H a xs):∃its:List Value,aC xs its/\PlainL s.heap a its.toArray/\xs.length<=sizeLine:=by
 rcases h with h|⟨o,its,n,hk,hc,hd,hs,hz,r⟩
 ·obtain⟨z,its,n,r,e⟩:=h.ok I.hok
  exact⟨its,r,⟨_,n,e,rfl,rfl,rfl⟩,z⟩
 ·refine⟨its.toList,r,⟨o,n,I.kIn a o hk,hc,hd,by simpa using hs⟩,?_⟩
  have e:=r.length
  simp only[Array.length_toList] at e
  omega
theorem Inv.tuple (I:Inv X pins σ H s) (h:i3 X.K H a xs):∃its:List Value,aC xs its/\IsTup s.heap a its.toArray/\xs.length<=sizeLine:=by
 rcases h with h|⟨o,its,n,hk,hc,_,hs,hz,r⟩
 ·obtain⟨z,its,r,p⟩:=h.ok I.hok
  exact⟨its,r,p.1,z⟩
 ·refine⟨its.toList,r,⟨o,I.kIn a o hk,hc,n,by simpa using hs⟩,?_⟩
  have e:=r.length
  simp only[Array.length_toList] at e
  omega
theorem Inv.list_inj (I:Inv X pins σ H s) (h:ib X.K H a xs) (h':ib X.K H a ys):xs=ys:=by
 obtain⟨its,r,⟨o,n,e,_,_,d⟩,_⟩:=I.list h
 obtain⟨its',r',⟨o',n',e',_,_,d'⟩,_⟩:=I.list h'
 rw[e] at e';cases e'
 rw[d] at d'
 injection d' with d1 _
 have:its=its':=by simpa using congrArg Array.toList d1
 subst this
 exact r.inj r'
theorem Inv.tuple_inj (I:Inv X pins σ H s) (h:i3 X.K H a xs) (h':i3 X.K H a ys):xs=ys:=by
 obtain⟨its,r,⟨o,e,_,n,d⟩,_⟩:=I.tuple h
 obtain⟨its',r',⟨o',e',_,n',d'⟩,_⟩:=I.tuple h'
 rw[e] at e';cases e'
 rw[d] at d'
 injection d' with d1 _
 have:its=its':=by simpa using congrArg Array.toList d1
 subst this
 exact r.inj r'
end
noncomputable abbrev Cx.wish (X:Cx) (E:Value->Shared->Prop):Cx:={ X with xe:=E }
noncomputable abbrev Cx.nox (X:Cx):Cx:=X.wish fun _ _=>False
theorem Cx.Ok.wish {X:Cx}(ok:X.Ok) (E:Value->Shared->Prop):(X.wish E).Ok :=
 ⟨ok.mod,ok.kind,ok.glob,ok.blt,ok.above,ok.inj,ok.has,ok.cab,ok.hd,ok.frames,ok.stk,ok.exf,ok.bs,ok.bsz,ok.noex,ok.exfs,ok.funs,ok.frf⟩
theorem Cx.Ok.unwish {X:Cx}{E:Value->Shared->Prop}(ok:(X.wish E).Ok):X.Ok :=
 ⟨ok.mod,ok.kind,ok.glob,ok.blt,ok.above,ok.inj,ok.has,ok.cab,ok.hd,ok.frames,ok.stk,ok.exf,ok.bs,ok.bsz,ok.noex,ok.exfs,ok.funs,ok.frf⟩
section
variable {X:Cx}{pins:List (Addr×Obj)}{σ:St}{H:Hp}{s:Shared}{E:Value->Shared->Prop}
theorem Inv.wish (I:Inv X pins σ H s) (E:Value->Shared->Prop):Inv (X.wish E) pins σ H s:=⟨I.ok.wish E,I.os,I.bare,I.base,I.loc,I.cell,I.free,I.freeC,I.pin,I.hok,I.len⟩
theorem Inv.unwish (I:Inv (X.wish E) pins σ H s):Inv X pins σ H s:=⟨I.ok.unwish,I.os,I.bare,I.base,I.loc,I.cell,I.free,I.freeC,I.pin,I.hok,I.len⟩
theorem SP.unwish {D:Ends}{f:Flow}{s':Shared}(h:SP (X.wish E) pins D f s'):SP X pins D f s':=by
 cases f with
 | next=>obtain⟨σ',H',I,q⟩:=h;exact⟨σ',H',I.unwish,q⟩
 | brk=>obtain⟨σ',H',I,q⟩:=h;exact⟨σ',H',I.unwish,q⟩
 | cont=>obtain⟨σ',H',I,q⟩:=h;exact⟨σ',H',I.unwish,q⟩
 | ret u=>obtain⟨v,σ',H',I,r,q⟩:=h;exact⟨v,σ',H',I.unwish,r,q⟩
theorem PE.nox {e:Expr}{t:TE}(h:PE X.nox e t):PE X e t:=fun pins s σ H Q I hw =>
 wpAny_mono (h pins s σ H Q (I.wish _) hw) (fun _ _ ⟨v,H',I',r,q⟩=>⟨v,H',I'.unwish,r,q⟩) fun _ _ z=>False.elim z
theorem PT.nox {e:Expr}{t:TT}(h:PT X.nox e t):PT X e t:=fun pins s σ H Q I hw =>
 wpAny_mono (h pins s σ H Q (I.wish _) hw) (fun _ _ ⟨H',I',q⟩=>⟨H',I'.unwish,q⟩) fun _ _ z=>False.elim z
theorem wJ.nox {st:List Stmt}{t:TS}(h:wJ X.nox st t):wJ X st t:=fun pins s σ H D I hw =>
 wpAny_mono (h pins s σ H D (I.wish _) hw) (fun _ _ q=>q.unwish) fun _ _ z=>False.elim z
end
section
variable {X:Cx}{st:Stmt}{rest:List Stmt}{t u:TS}{e:Expr}{te:TE}{pos:Pos}
noncomputable def BX:TS:=fun D σ H=>D.nx σ H
noncomputable def LX (t u:TS):TS:=fun D σ H=>t { D with nx:=u D } σ H
theorem E8:wJ X [] BX:=fun _ _ σ H _ I h=>wpAny_execs_nil ⟨σ,H,I,h⟩
theorem Bx (h1:PS X st t) (h2:wJ X rest u):wJ X (st::rest) (LX t u):=by
 intro pins s σ H D I h
 refine wpAny_execs_cons (bS (h1 pins s σ H { D with nx:=u D } I h) fun f s1 q=>?_)
 cases f with
 | next =>
  obtain⟨σ',H',I',q⟩:=q
  exact h2 pins s1 σ' H' D I' q
 | ret v=>exact q
 | brk=>exact q
 | cont=>exact q
theorem FL (h1:PS X st t):wJ X [st] t:=by
 intro pins s σ H D I h
 refine wpAny_execs_cons (bS (h1 pins s σ H D I h) fun f s1 q=>?_)
 cases f with
 | next=>exact wpAny_execs_nil q
 | ret v=>exact q
 | brk=>exact q
 | cont=>exact q
theorem Fu:PS X (.Pass pos) BX:=fun _ _ σ H _ I h=>wpAny_Pass ⟨σ,H,I,h⟩
theorem Inv.quiet {pins:List (Addr×Obj)}{σ:St}{H:Hp}{s:Shared}(I:Inv X pins σ H s):interactive X.env=false:=by simp[interactive,I.ok.kind]
theorem HK {x j pos pos'}:PS X (.Expr (.Constant (.str x) j pos) pos') BX:=fun _ s σ H _ I h=>wpAny_Expr (Calls.Constant_str (show SP X _ _ .next { s with toks:=s.toks+1 } from ⟨σ,H,I.tok _,h⟩)) I.quiet
noncomputable def Kq (te:TE):TS:=fun D σ H=>te σ H fun _ H1=>D.nx σ H1
theorem nM (he:PE X e te) (hs:swapsWith e none pos.line X.env=pure false:=by rfl):PS X (.Expr e pos) (Kq te):=by
 intro pins s σ H D I h
 exact wpAny_Expr_any (bS (he pins s σ H _ I h) fun v s1 ⟨x,H1,I1,r1,q1⟩=>⟨σ,H1,I1,q1⟩) I.quiet hs
noncomputable def LD (te:TE):TS:=fun D σ H=>te σ H D.rt
theorem IL (he:PE X e te):PS X (.Return (some e) pos) (LD te):=by
 intro pins s σ H D I h
 exact wpAny_Return_some (bS (he pins s σ H _ I h) fun v s1 ⟨x,H1,I1,r1,q1⟩=>⟨x,σ,H1,I1,r1,q1⟩)
noncomputable def Lk (c:TT) (t u:TS):TS:=fun D σ H=>c σ H fun b H1=>if b=true then t D σ H1 else u D σ H1
theorem KI {c:Expr}{a b:List Stmt}{tc:TT}(hc:PT X c tc) (ha:wJ X a t) (hb:wJ X b u):PS X (.If c a b pos) (Lk tc t u):=by
 intro pins s σ H D I h
 refine wpAny_If (bS (hc pins s σ H _ I h) fun d s1 ⟨H1,I1,q1⟩=>?_)
 cases d with
 | true=>exact ha pins s1 σ H1 D I1 q1
 | false=>exact hb pins s1 σ H1 D I1 q1
end
noncomputable abbrev TG:=V->St->Hp->(St->Hp->Prop)->Prop
noncomputable abbrev Jq:=List V->St->Hp->(St->Hp->Prop)->Prop
noncomputable def PG (X:Cx) (target:Expr) (t:TG):Prop :=
 ∀ (pins:List (Addr×Obj)) (s:Shared) (σ:St) (H:Hp) (v:V) (u:Value) (Q:St->Hp->Prop),Inv X pins σ H s->RelV v u->t v σ H Q ->
  wpAny (model X.prog X.w) X.A (assign target X.env u) (fun _ s'=>∃σ' H',Inv X pins σ' H' s'/\Q σ' H') X.xe s
noncomputable def KZ (X:Cx) (ts:List Expr) (t:Jq):Prop :=
 ∀ (pins:List (Addr×Obj)) (s:Shared) (σ:St) (H:Hp) (vs:List V) (us:List Value) (Q:St->Hp->Prop),Inv X pins σ H s->aC vs us->t vs σ H Q ->
  wpAny (model X.prog X.w) X.A (assignInOrder ((assignEach ts X.env).map (·.2)) us) (fun _ s'=>∃σ' H',Inv X pins σ' H' s'/\Q σ' H') X.xe s
noncomputable abbrev IJ:=V->V->V->Hp->(Hp->Prop)->Prop
noncomputable def J5 (X:Cx) (t:IJ):Prop :=
 ∀ (pins:List (Addr×Obj)) (s:Shared) (σ:St) (H:Hp) (o i v:V) (ov iv u:Value) (Q:Hp->Prop),Inv X pins σ H s->RelV o ov->RelV i iv->RelV v u->t o i v H Q ->
  wpAny (model X.prog X.w) X.A (setItem ov iv u) (fun _ s'=>∃H',Inv X pins σ H' s'/\Q H') X.xe s
section
variable {X:Cx}{pos:Pos}
noncomputable def v8 (i:Nat):TG:=fun v σ H Q=>Q (σ.set i (some v)) H
theorem cO {i:Nat}{x:Str}(hN:X.N.Nodup) (hi:X.N[i]?=some x) (hx:Loc X.env.scope x) (hf:X.fn x=true\/X.env.scope.names.lookup x=some .local:=by first|exact .inl rfl|exact .inr rfl|assumption):PG X (.Name x pos) (v8 i):=by
 intro pins s σ H v u Q I r h
 exact wpAny_assign_Name (uW I hN hi hx r (fun s' I'=>⟨_,H,I',h⟩) hf)
noncomputable def LL:Jq:=fun vs σ H Q=>vs=[]/\Q σ H
noncomputable def Kw (t:TG) (u:Jq):Jq:=fun vs σ H Q=>∃v r,vs=v::r/\t v σ H fun σ' H'=>u r σ' H' Q
theorem k5:KZ X [] LL:=by
 intro pins s σ H vs us Q I r h
 obtain⟨e,h⟩:=h
 subst e
 cases r
 exact assignInOrder_nil ⟨σ,H,I,h⟩
theorem cx {e:Expr}{es:List Expr}{t:TG}{u:Jq}(h1:PG X e t) (h2:KZ X es u)
  (hs:(assignEach (e::es) X.env).map (·.2)=assign e X.env::(assignEach es X.env).map (·.2):=by rfl):KZ X (e::es) (Kw t u):=by
 intro pins s σ H vs us Q I r h
 obtain⟨v,vr,e1,h⟩:=h
 subst e1
 cases r with
 | cons r rr =>
  rw[hs]
  refine assignInOrder_cons (bS (h1 pins s σ H _ _ _ I r h) fun _ s1 ⟨σ1,H1,I1,q1⟩=>?_)
  exact h2 pins s1 σ1 H1 _ _ Q I1 rr q1
noncomputable def Ls (K:PySem.W.Frag) (n:Nat) (t:Jq):TG:=fun v σ H Q=>∃a xs,v=.ref a/\i3 K H a xs/\xs.length=n/\t xs σ H Q
theorem oC {es:List Expr}{k:Nat}{t:Jq}{n:Nat}(hc:X.calm=true) (h:KZ X es t)
  (hn:(assignEach es X.env).length=n:=by rfl) (hst:(assignEach es X.env).findIdx? (·.1)=none:=by rfl):PG X (.Tuple es k pos) (Ls X.K n t):=by
 intro pins s σ H v u Q I r hw
 obtain⟨a,xs,e1,hq,hl,hw⟩:=hw
 subst e1
 cases r
 obtain⟨its,rv,ht,hz⟩:=I.tuple hq
 refine assign_Tuple_tuple (I.ok.hd hc) ht (by simp[hn,<- hl,rv.length]) hst fun h' hx=>?_
 have I1:Inv X pins σ H { s with heap:=h' }:=I.kept (t':=s.toks) fun b o e=>hx b o (Nat.ne_of_lt (Heap.lt_size e)) e
 exact h pins _ σ H xs _ Q I1 (by simpa using rv) hw
noncomputable def gK (to ti:TE) (t:IJ):TG:=fun v σ H Q=>to σ H fun o H1=>ti σ H1 fun i H2=>t o i v H2 fun H3=>Q σ H3
theorem IY {o i:Expr}{to ti:TE}{t:IJ}(ho:PE X o to) (hi:PE X i ti) (hs:J5 X t)
  (ha:∀v,assign (.Subscript o i pos) X.env v=(do
   let ov <- holding [v] (eval o X.env)
   let iv <- holding [v,ov] (eval i X.env)
   standAt pos
   holding [v,ov,iv] (setItem ov iv v)
   release [v,ov,iv] []):=by intro _;rfl):PG X (.Subscript o i pos) (gK to ti t):=by
 intro pins s σ H v u Q I r h
 rw[ha]
 refine wpAny_bind (wpAny_holding (bS (ho pins s σ H _ I h) fun ov s1 ⟨x,H1,I1,r1,q1⟩=>?_))
 refine wpAny_bind (wpAny_holding (bS (hi pins s1 σ H1 _ I1 q1) fun iv s2 ⟨y,H2,I2,r2,q2⟩=>?_))
 refine wpAny_bind (wpAny_standAt (wpAny_bind (wpAny_holding (bS (hs pins s2 σ H2 x y v ov iv u _ I2 r1 r2 r q2) fun _ s3 ⟨H3,I3,q3⟩=>?_))))
 exact wpAny_release ⟨σ,H3,I3,q3⟩
noncomputable def DD (te:TE) (g:TG):TS:=fun D σ H=>te σ H fun x H1=>g x σ H1 D.nx
theorem Jh {tg e:Expr}{te:TE}{g:TG}(he:PE X e te) (hg:PG X tg g) (hs:swapsWithSole [tg] e pos.line X.env=pure false:=by rfl) (hw:swappedStores [tg] e X.env=pure none:=by rfl)
  (h1:(assignEach [tg] X.env).map (·.2)=[assign tg X.env]:=by rfl):PS X (.Assign [tg] e pos) (DD te g):=by
 intro pins s σ H D I h
 refine wpAny_Assign_stores (bS (he pins s σ H _ I h) fun v s1 ⟨x,H1,I1,r1,q1⟩=>?_) hs hw
 rw[h1]
 exact bS (hg pins s1 σ H1 x v _ I1 r1 q1) fun _ s2 q=>q
theorem Ba {i:Nat}{x:Str}{e:Expr}{te:TE}{pos':Pos}(hN:X.N.Nodup) (hi:X.N[i]?=some x) (hx:Loc X.env.scope x) (he:PE X e te) (hs:swapsWith e (some (.Name x pos')) pos.line X.env=pure false:=by rfl) (hf:X.fn x=true\/X.env.scope.names.lookup x=some .local:=by first|exact .inl rfl|exact .inr rfl|assumption) :
  PS X (.Assign [.Name x pos'] e pos) (DD te (v8 i)):=by
 intro pins s σ H D I h
 refine wpAny_Assign_Name (bS (he pins s σ H _ I h) fun v s1 ⟨y,H1,I1,r1,q1⟩=>?_) hs
 exact uW I1 hN hi hx r1 (fun s2 I2=>⟨_,H1,I2,q1⟩) hf
end
section
variable {X:Cx}{pos:Pos}
noncomputable def Hv (c:TT) (tb:TS):TS:=fun D σ H=>∃W:Nat->St->Hp->Prop,(∃m,W m σ H)/\∀m σ H,W m σ H ->
 c σ H fun b H1=>if b=true then ∃N:St->Hp->Prop,(∀σ' H',N σ' H'->∃m',m' < m/\W m' σ' H')/\tb { D with nx:=N,ct:=N,bk:=D.nx } σ H1 else D.nx σ H1
theorem Bz {c:Expr}{body:List Stmt}{tc:TT}{tb:TS}(hp:PassesOwn (model X.prog X.w) X.A X.env X.xe) (hc:PT X c tc) (hb:wJ X body tb):PS X (.While c body [] pos) (Hv tc tb):=by
 intro pins s σ H D I h
 obtain⟨W,⟨m0,w0⟩,turn⟩:=h
 refine wpAny_While (codeAny_whileLoop (fun n s'=>∃σ' H',Inv X pins σ' H' s'/\W n σ' H') ?_ m0 ⟨σ,H,I,w0⟩)
 rintro n s1 ⟨σ1,H1,I1,w1⟩
 refine wpAny_passesOwn hp (bS (hc pins s1 σ1 H1 _ I1 (turn n σ1 H1 w1)) fun b s2 ⟨H2,I2,q2⟩=>?_)
 cases b with
 | true =>
  obtain⟨N,hN,q2⟩:=q2
  rw[if_pos rfl]
  refine wpAny_passesOwn hp (bS (hb pins s2 σ1 H2 _ I2 q2) fun f s3 q3=>?_)
  cases f with
  | next =>
   obtain⟨σ3,H3,I3,n3⟩:=q3
   obtain⟨m',hm,w3⟩:=hN σ3 H3 n3
   exact⟨m',hm,σ3,H3,I3,w3⟩
  | cont =>
   obtain⟨σ3,H3,I3,n3⟩:=q3
   obtain⟨m',hm,w3⟩:=hN σ3 H3 n3
   exact⟨m',hm,σ3,H3,I3,w3⟩
  | brk=>exact q3
  | ret v=>exact q3
 | false =>
  rw[if_neg Bool.false_ne_true]
  exact wpAny_execs_nil ⟨σ1,H2,I2,q2⟩
end
structure It where
 go:Nat->Hp->Prop
 yld:Nat->Hp->V->Hp->Prop
 stop:Nat->Hp->Prop
noncomputable def cw (X:Cx) (pins:List (Addr×Obj)) (H:Hp) (b:Addr):Prop :=
 H b=none/\b≠X.env.locals/\b∉X.fs/\(b∈X.ex\/X.s₀.heap.objs.size<=b)/\(∀x c,X.env.cells.lookup x=some c->c≠b)/\∀p∈X.pn++pins,p.1≠b
theorem Inv.fpOk {X:Cx}{pins:List (Addr×Obj)}{σ:St}{H H':Hp}{s:Shared}{b:Addr}(I:Inv X pins σ H s) (hb:s.heap.objs.size<=b) (hn:H' b=none):cw X pins H' b:=by
 refine⟨hn,Nat.ne_of_gt (Nat.lt_of_lt_of_le I.lt hb),I.nofs hb,.inr (Nat.le_trans I.sz hb),fun x c e z=>?_,fun p hp z=>?_⟩
 ·obtain⟨v,q⟩:=I.cell x c e
  exact absurd (Nat.lt_of_lt_of_le q.lt (by rw[z];exact hb)) (Nat.lt_irrefl _)
 ·exact absurd (Nat.lt_of_lt_of_le (Heap.lt_size (I.pin p hp).1) (by rw[z];exact hb)) (Nat.lt_irrefl _)
structure Turn (P:Program) (w:World) (K:PySem.W.Frag) (tg:Expr) (J:It) (fp:List Addr) (it:Addr) (tn:Nat->Heap->Prop):Prop where
 mem:it∈fp
 obj:∀i h,tn i h->∀b∈fp,∃o,h.get? b=some o/\∀v,o.data≠.cell v
 keep:∀i h h',tn i h->(∀b∈fp,∀o,h.get? b=some o->h'.get? b=some o)->tn i h'
 item:∀ (X:Cx),X.prog=P->X.w=w->X.K=K->X.calm=true->∀ (i:Nat) (pins:List (Addr×Obj)) (s:Shared) (σ:St) (H:Hp) (E:Value->Shared->Prop),Inv X pins σ H s->(∀b∈fp,cw X pins H b)->tn i s.heap->J.go i H ->
  wpAny (model P w) X.A (pyNext (.ref it)) (fun r s1=>∃u,r=some u /\
   wpAny (model P w) X.A (letOwnedTupleGo tg (.ref it) u) (fun _ s2=>∃x H',Inv X pins σ H' s2/\RelV x u/\J.yld i H x H'/\tn (i+1) s2.heap/\∀b∈fp,H' b=none) E s1) E s
 done:∀ (X:Cx),X.prog=P->X.w=w->X.K=K->X.calm=true->∀ (i:Nat) (pins:List (Addr×Obj)) (s:Shared) (σ:St) (H:Hp) (E:Value->Shared->Prop),Inv X pins σ H s->(∀b∈fp,cw X pins H b)->tn i s.heap->J.stop i H ->
  wpAny (model P w) X.A (pyNext (.ref it)) (fun r s1=>r=none/\Inv X pins σ H s1) E s
 self:∀ (A:Around) (i:Nat) (s:Shared) (Q:Value->Shared->Prop) (E:Value->Shared->Prop),tn i s.heap->Q (.ref it) s->wpAny (model P w) A (pyIter (.ref it)) Q E s
noncomputable abbrev TI:=St->Hp->(It->Hp->Prop)->Prop
noncomputable def Mm (X:Cx) (pins:List (Addr×Obj)) (σ:St) (tg:Expr) (R:It->Hp->Prop) (itv:Value) (s2:Shared):Prop :=
 ∃ (it:Addr) (fp:List Addr) (tn:Nat->Heap->Prop) (J:It) (H':Hp),itv=.ref it/\Inv X pins σ H' s2/\Turn X.prog X.w X.K tg J fp it tn/\tn 0 s2.heap/\(∀b∈fp,cw X pins H' b)/\R J H'
noncomputable def PI (X:Cx) (tg iter:Expr) (wi:TI):Prop :=
 ∀ (pins:List (Addr×Obj)) (s:Shared) (σ:St) (H:Hp) (R:It->Hp->Prop),Inv X pins σ H s->wi σ H R ->
  wpAny (model X.prog X.w) X.A (eval iter X.env) (fun v s1=>wpAny (model X.prog X.w) X.A (pyIter v) (Mm X pins σ tg R) X.xe s1) X.xe s
theorem B3 {M:Model}{A:Around}{E:Value->Shared->Prop}{s:Shared}{tg:Expr}{it:Addr}{u:Value}{o:Obj}{n:String}{vs:Array Value}{Q:Unit->Shared->Prop}(ho:s.heap.get? it=some o) (hc:o.cls=.type n) (hd:o.data=.fields vs)
  (hn:["enumerate","zip","dict_itemiterator","dict_reverseitemiterator","odict_iterator","itertools.zip_longest","itertools.pairwise"].contains n=false) (hQ:Q () s):wpAny M A (letOwnedTupleGo tg (.ref it) u) Q E s:=by
 unfold letOwnedTupleGo
 cases tg<;>first
  | exact wpAny_pure hQ
  | (cases u<;>first
    | exact wpAny_pure hQ
    | (refine wpAny_bind (wpAny_load ho ?_)
       rw[hc,hd]
       show wpAny M A (if (["enumerate","zip","dict_itemiterator","dict_reverseitemiterator","odict_iterator","itertools.zip_longest","itertools.pairwise"].contains n&&vs[0]? == some (rawInt _))=true then _ else _) Q E s
       rw[if_neg (by intro h;rw[hn,Bool.false_and] at h;cases h)]
       exact wpAny_pure hQ))
noncomputable def Ma (K:PySem.W.Frag) (a:Addr):It :=
 ⟨fun i H=>∃xs x,ib K H a xs/\xs[i]?=some x,fun i H x H'=>H'=H/\∀xs,ib K H a xs->xs[i]?=some x,fun i H=>∃xs,ib K H a xs/\xs.length<=i⟩
noncomputable def LB (K:PySem.W.Frag) (a:Addr):It :=
 ⟨fun i H=>∃xs x,i3 K H a xs/\xs[i]?=some x,fun i H x H'=>H'=H/\∀xs,i3 K H a xs->xs[i]?=some x,fun i H=>∃xs,i3 K H a xs/\xs.length<=i⟩
noncomputable def Lc (lo:Int) (n:Nat):It:=⟨fun i _=>i < n,fun i H x H'=>H'=H/\x=.int (lo+i),fun i _=>n<=i⟩
theorem AK {P:Program}{w:World}{K:PySem.W.Frag}{tg:Expr}(a it:Addr):Turn P w K tg (Ma K a) [it] it (fun i h=>h.IsListIter it a i) where
 mem:=by simp
 obj:=fun i h st b hb=>by
  have e:b=it:=by simpa using hb
  subst e
  obtain⟨o,e,c,d⟩:=st
  exact⟨o,e,fun v z=>by rw[d] at z;cases z⟩
 keep:=fun i h h' st k=>st.at fun o e=>k it (by simp) o e
 item:=by
  intro X hP hw hK hc i pins s σ H E I hf st hg
  subst hP hw hK
  obtain⟨xs,x,hq,hx⟩:=hg
  obtain⟨its,rv,p,hz⟩:=I.list hq
  obtain⟨u,hu,ru⟩:=rv.get hx
  obtain⟨f0,f1,f2,f3,f4,f5⟩:=hf it (by simp)
  refine wpAny_pyNext_list_item st p.isList (x:=u) (by simpa using hu) fun h' st' sb=>?_
  have I1:Inv X pins σ H { s with heap:=h' }:=I.turned (t':=s.toks) (fun b o hb e=>(sb.2 b hb).trans e) f0 f1 f3 f4 f5
  obtain⟨o,e,c,d⟩:=id st'
  exact⟨u,rfl,B3 (s:={ s with heap:=h' }) e c d (by decide) ⟨x,H,I1,ru,⟨rfl,fun ys hy=>by rw[I.list_inj hy hq];exact hx⟩,st',fun b hb=>(hf b hb).1⟩⟩
 done:=by
  intro X hP hw hK hc i pins s σ H E I hf st hg
  subst hP hw hK
  obtain⟨xs,hq,hx⟩:=hg
  obtain⟨its,rv,p,hz⟩:=I.list hq
  obtain⟨f0,f1,f2,f3,f4,f5⟩:=hf it (by simp)
  have hl:=rv.length
  exact wpAny_pyNext_list_end (I.ok.hd hc) st p.isList (by simp;omega) fun h' eb=>⟨rfl,I.turned (t':=s.toks) (fun b o hb e=>eb b o hb e) f0 f1 f3 f4 f5⟩
 self:=fun _ _ _ _ _ st h=>wpAny_pyIter_listiter st h
theorem xj {P:Program}{w:World}{K:PySem.W.Frag}{tg:Expr}(a it:Addr):Turn P w K tg (LB K a) [it] it (fun i h=>h.IsTupleIter it a i) where
 mem:=by simp
 obj:=fun i h st b hb=>by
  have e:b=it:=by simpa using hb
  subst e
  obtain⟨o,e,c,d⟩:=st
  exact⟨o,e,fun v z=>by rw[d] at z;cases z⟩
 keep:=fun i h h' st k=>st.at fun o e=>k it (by simp) o e
 item:=by
  intro X hP hw hK hc i pins s σ H E I hf st hg
  subst hP hw hK
  obtain⟨xs,x,hq,hx⟩:=hg
  obtain⟨its,rv,p,hz⟩:=I.tuple hq
  obtain⟨u,hu,ru⟩:=rv.get hx
  obtain⟨f0,f1,f2,f3,f4,f5⟩:=hf it (by simp)
  refine wpAny_pyNext_tuple_item st (show s.heap.IsTuple a its.toArray from p) (x:=u) (by simpa using hu) fun h' st' sb=>?_
  have I1:Inv X pins σ H { s with heap:=h' }:=I.turned (t':=s.toks) (fun b o hb e=>(sb.2 b hb).trans e) f0 f1 f3 f4 f5
  obtain⟨o,e,c,d⟩:=id st'
  exact⟨u,rfl,B3 (s:={ s with heap:=h' }) e c d (by decide) ⟨x,H,I1,ru,⟨rfl,fun ys hy=>by rw[I.tuple_inj hy hq];exact hx⟩,st',fun b hb=>(hf b hb).1⟩⟩
 done:=by
  intro X hP hw hK hc i pins s σ H E I hf st hg
  subst hP hw hK
  obtain⟨xs,hq,hx⟩:=hg
  obtain⟨its,rv,p,hz⟩:=I.tuple hq
  obtain⟨f0,f1,f2,f3,f4,f5⟩:=hf it (by simp)
  have hl:=rv.length
  exact wpAny_pyNext_tuple_end (I.ok.hd hc) st (show s.heap.IsTuple a its.toArray from p) (by simp;omega) fun h' eb=>⟨rfl,I.turned (t':=s.toks) (fun b o hb e=>eb b o hb e) f0 f1 f3 f4 f5⟩
 self:=fun _ _ _ _ _ st h=>wpAny_pyIter_tupleiter st h
theorem xO {P:Program}{w:World}{K:PySem.W.Frag}{tg:Expr}(it:Addr) (lo:Int) (n:Nat):Turn P w K tg (Lc lo n) [it] it (fun i h=>IsRangeIter h it (lo+(i:Nat) * 1) ((n:Int) - (i:Nat)) 1) where
 mem:=by simp
 obj:=fun i h st b hb=>by
  have e:b=it:=by simpa using hb
  subst e
  exact⟨_,st,fun v z=>by
   have z':Data.fields _=Data.cell v:=z
   cases z'⟩
 keep:=fun i h h' st k=>k it (by simp) _ st
 item:=by
  intro X hP hw hK hc i pins s σ H E I hf st hg
  subst hP hw hK
  obtain⟨f0,f1,f2,f3,f4,f5⟩:=hf it (by simp)
  have W:=Walks.range (prog:=X.prog) (w:=X.w) (I.ok.hd hc) it lo 1 n
  refine W.item i s _ _ hg st fun v h' tk hv st' kk=>?_
  obtain⟨t,rfl⟩:=hv
  have I1:Inv X pins σ H { s with heap:=h',toks:=tk }:=I.turned (fun b o hb e=>kk b o (by simpa using hb) e) f0 f1 f3 f4 f5
  refine⟨_,rfl,B3 (s:={ s with heap:=h',toks:=tk }) (n:="range_iterator") st' rfl rfl (by decide) ⟨.int (lo+i),H,I1,⟨t,?_⟩,⟨rfl,rfl⟩,st',fun b hb=>(hf b hb).1⟩⟩
  rw[Int.mul_one]
 done:=by
  intro X hP hw hK hc i pins s σ H E I hf st hg
  subst hP hw hK
  obtain⟨f0,f1,f2,f3,f4,f5⟩:=hf it (by simp)
  exact wpAny_pyNext_range_end (I.ok.hd hc) st (by have:n<=i:=hg;omega) fun h' eb=>⟨rfl,I.turned (t':=s.toks) (fun b o hb e=>eb b o hb e) f0 f1 f3 f4 f5⟩
 self:=fun _ _ _ _ _ st h=>wpAny_pyIter_rangeiter st h
end L2
namespace L2
open PySem PySem.Spec PyProof.Rows
section
variable {X:Cx}{tg:Expr}
theorem C3 {pins:List (Addr×Obj)}{σ:St}{H:Hp}{s:Shared}{R:It->Hp->Prop}{E:Value->Shared->Prop}{lo hi:Int}{t u v:Tok}{tk:Nat}(I:Inv X pins σ H s) (h1:-(2 ^ 62)<=lo) (h2:lo < 2 ^ 62) (h3:-(2 ^ 62)<=hi) (h4:hi < 2 ^ 62)
  (q:R (Lc lo (hi - lo).toNat) H):wpAny (model X.prog X.w) X.A (pyIter (.ref s.heap.objs.size)) (Mm X pins σ tg R) E { s with heap:=s.heap.push { cls:=.type "range",data:=.fields #[.int lo t,.int hi u,.int 1 v] },toks:=tk }:=by
 refine wpAny_pyIter_range (IsRange.new ..) (small_one h1 h2 h3 h4) ?_
 have I1:Inv X pins σ H { s with heap:=s.heap.push { cls:=.type "range",data:=.fields #[.int lo t,.int hi u,.int 1 v] },toks:=tk }:=I.kept fun b o e=>Heap.get?_push_of_some _ e
 refine⟨(s.heap.push { cls:=.type "range",data:=.fields #[.int lo t,.int hi u,.int 1 v] }).objs.size,[(s.heap.push { cls:=.type "range",data:=.fields #[.int lo t,.int hi u,.int 1 v] }).objs.size],_,_,H,rfl,
  I1.kept (t':=tk) fun b o e=>Heap.get?_push_of_some _ e,xO _ lo (hi - lo).toNat,?_,fun b hb=>?_,q⟩
 ·have e1:lo+((0:Nat):Int) * 1=lo:=by simp
  have e2:(((hi - lo).toNat:Nat):Int) - ((0:Nat):Int)=Builtin.Range.rangeSize lo hi 1:=by rw[rangeSize_one];split<;>omega
  show IsRangeIter _ _ (lo+((0:Nat):Int) * 1) ((((hi - lo).toNat:Nat):Int) - ((0:Nat):Int)) 1
  rw[e1,e2]
  exact Heap.get?_push_size _ rfl
 ·have e:b=(s.heap.push { cls:=.type "range",data:=.fields #[.int lo t,.int hi u,.int 1 v] }).objs.size:=by simpa using hb
  subst e
  exact I1.fpOk (Nat.le_refl _) (I1.hok.fresh (Nat.le_refl _))
noncomputable def JZ (ta:TA):TI:=fun σ H R=>ta σ H fun vs H1=>∃j:Int,vs=[.int j]/\-(2 ^ 62)<=j/\j < 2 ^ 62/\R (Lc 0 j.toNat) H1
theorem AS {a:Expr}{ta:TA}{p pos:Pos}(hg:Gl X "range") (hm:X.mg "range"=none) (ha:PA X [a] ta) (hs:starEach [a] X.env=[(false,eval a X.env)]:=by rfl):PI X tg (.Call (.Name "range" p) [a] [] pos) (JZ ta):=by
 intro pins s σ H R I h
 refine Call_ (iJ I hg hm boot_range (PyProof.Rows.callWith_type1 (bS (ha pos pins s σ H _ I h) fun us s1 ⟨vs,H1,I1,r1,q1⟩=>?_) hs rfl))
 obtain⟨j,e,q1,q2,q⟩:=q1
 subst e
 cases r1 with
 | cons r rr =>
  cases rr
  obtain⟨t,rfl⟩:=r
  exact call_range_1 (C3 I1 (by omega) (by omega) q1 q2 (by simpa using q))
noncomputable def LK (wi:TI) (g:TG) (tb:TS):TS:=fun D σ H=>wi σ H fun J H1=>∃W:Nat->Nat->St->Hp->Prop,(∃m,W 0 m σ H1)/\∀i m σ H,W i m σ H ->
 (J.stop i H/\D.nx σ H)\/(J.go i H/\∃N:St->Hp->Prop,(∀σ' H',N σ' H'->∃m',m' < m/\W (i+1) m' σ' H')/\∀x H',J.yld i H x H'->g x σ H' fun σ2 H2=>tb { D with nx:=N,ct:=N,bk:=D.nx } σ2 H2)
noncomputable def mB (fp:List Addr) (h:Heap):List (Addr×Obj):=fp.filterMap fun b=>(h.get? b).map fun o=>(b,o)
theorem di {fp:List Addr}{h:Heap}{b:Addr}{o:Obj}(hb:b∈fp) (e:h.get? b=some o):(b,o)∈mB fp h:=List.mem_filterMap.mpr ⟨b,hb,by rw[e];rfl⟩
theorem Ar {fp:List Addr}{h:Heap}{p:Addr×Obj}(hp:p∈mB fp h):p.1∈fp/\h.get? p.1=some p.2:=by
 obtain⟨b,hb,e⟩:=List.mem_filterMap.mp hp
 cases q:h.get? b with
 | none=>rw[q] at e;cases e
 | some o =>
  rw[q] at e
  have e':(b,o)=p:=Option.some.inj e
  subst e'
  exact⟨hb,q⟩
theorem Inv.pinned {pins:List (Addr×Obj)}{σ:St}{H:Hp}{s:Shared}{fp:List Addr}(I:Inv X pins σ H s) (hf:∀b∈fp,cw X pins H b) (ho:∀b∈fp,∃o,s.heap.get? b=some o/\∀v,o.data≠.cell v):Inv X (pins++mB fp s.heap) σ H s :=
 I.pins_of fun p hp=>(List.mem_append.mp hp).elim (fun z=>I.pin p (List.mem_append_right _ z)) fun z=>by
  obtain⟨hb,e⟩:=Ar z
  obtain⟨f0,f1,f2,_⟩:=hf p.1 hb
  obtain⟨o,e',d⟩:=ho p.1 hb
  rw[e] at e';cases e'
  exact⟨e,f0,f1,f2,d⟩
theorem Inv.unpinned {pins pl:List (Addr×Obj)}{σ:St}{H:Hp}{s:Shared}(I:Inv X (pins++pl) σ H s):Inv X pins σ H s:=I.pins_of fun p hp=>I.pin p (List.mem_append_right _ (List.mem_append_left _ hp))
theorem Ji {iter:Expr}{body:List Stmt}{wi:TI}{g:TG}{tb:TS}{pos:Pos}(hp:PassesOwn (model X.prog X.w) X.A X.env X.xe) (hc:X.calm=true) (hi:PI X tg iter wi) (hg:PG X tg g) (hb:wJ X body tb)
  (hs:∀x,foldedSetIterable iter X.env x=pure x:=by intro _;rfl):PS X (.For tg iter body [] pos) (LK wi g tb):=by
 intro pins s σ H D I h
 refine wpAny_For (bS (hi pins s σ H _ I h) fun v s1 h1=>bS h1 fun itv s2 h2=>?_) hs
 obtain⟨it,fp,tn,J,H2,e,I2,T,st2,f2,W,⟨m0,w0⟩,turn⟩:=h2
 subst e
 have stat:∀ {H':Hp},(∀b∈fp,H' b=none)->∀b∈fp,cw X pins H' b:=fun hn b hb=>⟨hn b hb,(f2 b hb).2⟩
 refine codeAny_forLoop_any (fun n s'=>∃i σ' H',Inv X pins σ' H' s'/\tn i s'.heap/\(∀b∈fp,H' b=none)/\W i n σ' H') ?_ m0 ⟨0,σ,H2,I2,st2,fun b hb=>(f2 b hb).1,w0⟩
 rintro n s3 ⟨i,σ3,H3,I3,st3,fr3,w3⟩
 rcases turn i n σ3 H3 w3 with ⟨stop,qn⟩|⟨go,N,hN,step⟩
 ·refine wpAny_passesOwn hp (bS (T.done X rfl rfl rfl hc i pins s3 σ3 H3 X.xe I3 (stat fr3) st3 stop) fun r s4 ⟨hr,I4⟩=>?_)
  subst hr
  exact wpAny_execs_nil ⟨σ3,H3,I4,qn⟩
 ·refine wpAny_passesOwn hp (bS (T.item X rfl rfl rfl hc i pins s3 σ3 H3 X.xe I3 (stat fr3) st3 go) fun r s4 ⟨u,hr,h4⟩=>?_)
  subst hr
  refine wpAny_passesOwn hp (bS h4 fun _ s5 ⟨x,H5,I5,r5,y5,st5,fr5⟩=>?_)
  have I5':=I5.pinned (stat fr5) (T.obj _ _ st5)
  refine wpAny_passesOwn hp (bS (hg _ s5 σ3 H5 x u _ I5' r5 (step x H5 y5)) fun _ s6 ⟨σ6,H6,I6,q6⟩=>?_)
  refine wpAny_passesOwn hp (bS (hb _ s6 σ6 H6 _ I6 q6) fun f s7 q7=>?_)
  have again:∀ {σ7:St}{H7:Hp},Inv X (pins++mB fp s5.heap) σ7 H7 s7->N σ7 H7->∃m,m < n/\∃i σ' H',Inv X pins σ' H' s7/\tn i s7.heap/\(∀b∈fp,H' b=none)/\W i m σ' H':=fun {σ7 H7} I7 n7=>by
   obtain⟨m',hm,w7⟩:=hN σ7 H7 n7
   refine⟨m',hm,i+1,σ7,H7,I7.unpinned,T.keep _ _ _ st5 fun b hb o e=>(I7.pin (b,o) (List.mem_append_right _ (List.mem_append_right _ (di hb e)))).1,fun b hb=>?_,w7⟩
   obtain⟨o,e,d⟩:=T.obj _ _ st5 b hb
   exact (I7.pin (b,o) (List.mem_append_right _ (List.mem_append_right _ (di hb e)))).2.1
  cases f with
  | next=>obtain⟨σ7,H7,I7,n7⟩:=q7;exact again I7 n7
  | cont=>obtain⟨σ7,H7,I7,n7⟩:=q7;exact again I7 n7
  | brk=>obtain⟨σ7,H7,I7,q7⟩:=q7;exact⟨σ7,H7,I7.unpinned,q7⟩
  | ret v=>obtain⟨x7,σ7,H7,I7,r7,q7⟩:=q7;exact⟨x7,σ7,H7,I7.unpinned,r7,q7⟩
end
end L2
namespace L2
open PySem PySem.Spec PyProof.Rows
noncomputable abbrev R2:=V->V->Hp->VK->Prop
noncomputable def gS (X:Cx) (f:Value->Value->Sem Value) (r:R2):Prop :=
 ∀ (pins:List (Addr×Obj)) (s:Shared) (σ:St) (H:Hp) (x y:V) (v u:Value) (Q:VK),Inv X pins σ H s->RelV x v->RelV y u->r x y H Q ->
  wpAny (model X.prog X.w) X.A (f v u) (EP X pins σ Q) X.xe s
noncomputable def Lj (X:Cx) (f:Value->Sem Value) (r:V->Hp->VK->Prop):Prop :=
 ∀ (pins:List (Addr×Obj)) (s:Shared) (σ:St) (H:Hp) (x:V) (v:Value) (Q:VK),Inv X pins σ H s->RelV x v->r x H Q ->
  wpAny (model X.prog X.w) X.A (f v) (EP X pins σ Q) X.xe s
noncomputable def cR (X:Cx) (f:Value) (r:List V->Hp->VK->Prop):Prop :=
 ∀ (pins:List (Addr×Obj)) (s:Shared) (σ:St) (H:Hp) (xs:List V) (us:List Value) (Q:VK),Inv X pins σ H s->aC xs us->r xs H Q ->
  wpAny (model X.prog X.w) X.A (call f us) (EP X pins σ Q) X.xe s
noncomputable def JW (r:R2) (ta tb:TE):TE:=fun σ H Q=>ta σ H fun x H1=>tb σ H1 fun y H2=>r x y H2 Q
noncomputable def MC (r:V->Hp->VK->Prop) (ta:TE):TE:=fun σ H Q=>ta σ H fun x H1=>r x H1 Q
noncomputable def rI (C:Int->Int->Prop) (g:Int->Int->V):R2:=fun x y H Q=>∃i j,x=.int i/\y=.int j/\C i j/\Q (g i j) H
noncomputable def Ea (g:Int->Int->V):R2:=fun x y H Q=>∃i j,x=.int i/\y=.int j/\Q (g i j) H
noncomputable def rU (g:Int->V):V->Hp->VK->Prop:=fun x H Q=>∃i,x=.int i/\Q (g i) H
section
variable {X:Cx}{a b c:Expr}{ta tb tc:TE}{pos:Pos}
theorem HJ (ha:PE X a ta) (hb:PE X b tb) {pins:List (Addr×Obj)}{s:Shared}{σ:St}{H:Hp}{R:V->V->Hp->Prop}(I:Inv X pins σ H s)
  (h:ta σ H fun x H1=>tb σ H1 fun y H2=>R x y H2) {Q:Value->Shared->Prop}{f:Value->Value->Sem Value}
  (hf:∀v u s2 x y H2,Inv X pins σ H2 s2->RelV x v->RelV y u->R x y H2->wpAny (model X.prog X.w) X.A (f v u) Q X.xe s2) :
  wpAny (model X.prog X.w) X.A (eval a X.env) (fun v s₁=>wpAny (model X.prog X.w) X.A (eval b X.env) (fun u s₂=>wpAny (model X.prog X.w) X.A (f v u) Q X.xe s₂) X.xe s₁) X.xe s:=by
 refine bS (ha pins s σ H _ I h) fun v s1 ⟨x,H1,I1,r1,q1⟩=>?_
 refine bS (hb pins s1 σ H1 _ I1 q1) fun u s2 ⟨y,H2,I2,r2,q2⟩=>?_
 exact hf v u s2 x y H2 I2 r1 r2 q2
theorem BP {op:Operator}{r:R2}(ho:gS X (binaryOp op) r) (ha:PE X a ta) (hb:PE X b tb):PE X (.BinOp a op b pos) (JW r ta tb):=by
 intro pins s σ H Q I h
 exact wpAny_BinOp (HJ ha hb I h fun v u s2 x y H2 I2 rx ry q=>ho pins s2 σ H2 x y v u Q I2 rx ry q)
theorem CC {op:UnaryOp}{r:V->Hp->VK->Prop}(ho:Lj X (unaryOp op) r) (ha:PE X a ta):PE X (.UnaryOp op a pos) (MC r ta):=by
 intro pins s σ H Q I h
 exact UnaryOp_ (bS (ha pins s σ H _ I h) fun v s1 ⟨x,H1,I1,r1,q1⟩=>ho pins s1 σ H1 x v Q I1 r1 q1)
theorem Mf {f:Value->Value->Sem Value}{C:Int->Int->Prop}{g:Int->Int->Int}
  (rule:∀ (i j:Int) (t u:Tok) (s:Shared) (Q:Value->Shared->Prop) (E:Value->Shared->Prop),C i j->Q (.int (g i j) s.toks) { s with toks:=s.toks+1 }->wpAny (model X.prog X.w) X.A (f (.int i t) (.int j u)) Q E s) :
  gS X f (rI C fun i j=>.int (g i j)):=by
 intro pins s σ H x y v u Q I rx ry h
 obtain⟨i,j,rfl,rfl,hc,q⟩:=h
 obtain⟨t,rfl⟩:=rx
 obtain⟨t',rfl⟩:=ry
 exact rule i j t t' s _ _ hc ⟨.int (g i j),H,I.tok _,⟨_,rfl⟩,q⟩
theorem Kp {f:Value->Value->Sem Value}{g:Int->Int->Int}
  (rule:∀ (i j:Int) (t u:Tok) (s:Shared) (Q:Value->Shared->Prop) (E:Value->Shared->Prop),Q (.int (g i j) s.toks) { s with toks:=s.toks+1 }->wpAny (model X.prog X.w) X.A (f (.int i t) (.int j u)) Q E s) :
  gS X f (Ea fun i j=>.int (g i j)):=by
 intro pins s σ H x y v u Q I rx ry h
 obtain⟨i,j,rfl,rfl,q⟩:=h
 obtain⟨t,rfl⟩:=rx
 obtain⟨t',rfl⟩:=ry
 exact rule i j t t' s _ _ ⟨.int (g i j),H,I.tok _,⟨_,rfl⟩,q⟩
theorem Ef {f:Value->Value->Sem Value}{g:Int->Int->Bool}
  (rule:∀ (i j:Int) (t u:Tok) (s:Shared) (Q:Value->Shared->Prop) (E:Value->Shared->Prop),Q (.bool (g i j)) s->wpAny (model X.prog X.w) X.A (f (.int i t) (.int j u)) Q E s) :
  gS X f (Ea fun i j=>.bl (g i j)):=by
 intro pins s σ H x y v u Q I rx ry h
 obtain⟨i,j,rfl,rfl,q⟩:=h
 obtain⟨t,rfl⟩:=rx
 obtain⟨t',rfl⟩:=ry
 exact rule i j t t' s _ _ ⟨.bl (g i j),H,I,rfl,q⟩
noncomputable def EA (i j:Int):Prop:=0 < j/\j < 1073741824
noncomputable def pU (i j:Int):Prop:=(-(2 ^ 64) < i/\i < 2 ^ 64)\/(-(2 ^ 64) < j/\j < 2 ^ 64)
theorem pU.ok {i j:Int}(h:pU i j):IntMulOk i j:=by
 rcases h with ⟨h1,h2⟩|⟨h1,h2⟩
 ·exact .of_left (intBits_le_64 h1 h2)
 ·exact .of_right (intBits_le_64 h1 h2)
theorem JE:gS X (binaryOp .Add) (Ea fun i j=>.int (i+j)):=Kp fun _ _ _ _ _ _ _ q=>add_int q
theorem IS:gS X (binaryOp .Sub) (Ea fun i j=>.int (i - j)):=Kp fun _ _ _ _ _ _ _ q=>sub_int q
theorem IT:gS X (binaryOp .Mult) (rI pU fun i j=>.int (i * j)):=Mf fun _ _ _ _ _ _ _ hc q=>mul_int q hc.ok
theorem F1:gS X (binaryOp .FloorDiv) (rI EA fun i j=>.int (i / j)):=Mf fun i j _ _ _ _ _ hc q=>by
 have h1:(0:Int) < j:=hc.1
 have h2:j < 1073741824:=hc.2
 exact floordiv_int (by omega) (by rw[Int.fdiv_eq_ediv_of_nonneg i (by omega)];exact q) (.inl (PyProof.noPylong_small (by omega)))
theorem Hr:gS X (binaryOp .Mod) (rI (fun _ j=>0 < j) fun i j=>.int (i % j)):=Mf fun i j _ _ _ _ _ hc q=>by
 have h1:(0:Int) < j:=hc
 exact mod_int' (by omega) (by rw[Int.fmod_eq_emod_of_nonneg i (by omega)];exact q)
theorem MA {f:Value->Sem Value}{g:Int->Int}
  (rule:∀ (i:Int) (t:Tok) (s:Shared) (Q:Value->Shared->Prop) (E:Value->Shared->Prop),Q (.int (g i) s.toks) { s with toks:=s.toks+1 }->wpAny (model X.prog X.w) X.A (f (.int i t)) Q E s) :
  Lj X f (rU fun i=>.int (g i)):=by
 intro pins s σ H x v Q I rx h
 obtain⟨i,rfl,q⟩:=h
 obtain⟨t,rfl⟩:=rx
 exact rule i t s _ _ ⟨.int (g i),H,I.tok _,⟨_,rfl⟩,q⟩
theorem wY:Lj X (unaryOp .USub) (rU fun i=>.int (-i)):=MA fun _ _ _ _ _ q=>neg_int q
end
noncomputable def kZ:V->V->Bool
 | .non,.non=>true|.non,.int _=>true|.int _,.non=>true|.non,.bl _=>true|.bl _,.non=>true|.non,.str _=>true|.str _,.non=>true
 | .int _,.int _=>true|.bl _,.bl _=>true|.str _,.str _=>true|.byt _,.byt _=>true
 | .int _,.str _=>true|.str _,.int _=>true|.bl _,.str _=>true|.str _,.bl _=>true
 | _,_=>false
section
variable {X:Cx}{a b c:Expr}{ta tb tc:TE}{pos:Pos}
theorem DK {pins:List (Addr×Obj)}{σ:St}{H:Hp}{s:Shared}{Q:VK}{k k':Bool}(I:Inv X pins σ H s) (q:Q (.bl k) H) (e:k=k'):EP X pins σ Q (.bool k') s:=by
 subst e
 exact⟨.bl k,H,I,rfl,q⟩
theorem D2:gS X (compareOp .Lt) (Ea fun i j=>.bl (decide (i < j))):=Ef fun _ _ _ _ _ _ _ q=>lt_int q
theorem Cb:gS X (compareOp .LtE) (Ea fun i j=>.bl (decide (i<=j))):=Ef fun _ _ _ _ _ _ _ q=>le_int q
theorem Gp:gS X (compareOp .Gt) (Ea fun i j=>.bl (decide (j < i))):=Ef fun _ _ _ _ _ _ _ q=>gt_int q
theorem GJ:gS X (compareOp .GtE) (Ea fun i j=>.bl (decide (j<=i))):=Ef fun _ _ _ _ _ _ _ q=>ge_int q
theorem CU:gS X (compareOp .Is) (fun x y H Q=>y=.non/\Q (.bl (decide (x=.non))) H):=by
 intro pins s σ H x y v u Q I rx ry h
 obtain⟨rfl,q⟩:=h
 cases ry
 refine is_none_gen (DK I q ?_)
 cases x<;>first
  | (cases rx;rfl)
  | (obtain⟨t,rfl⟩:=rx;rfl)
theorem zc:gS X (compareOp .IsNot) (fun x y H Q=>y=.non/\Q (.bl (!decide (x=.non))) H):=by
 intro pins s σ H x y v u Q I rx ry h
 obtain⟨rfl,q⟩:=h
 cases ry
 refine isnot_none_gen (DK I q ?_)
 cases x<;>first
  | (cases rx;rfl)
  | (obtain⟨t,rfl⟩:=rx;rfl)
theorem gS.or {f:Value->Value->Sem Value}{r r':R2}(h:gS X f r) (h':gS X f r'):gS X f (fun x y H Q=>r x y H Q\/r' x y H Q):=by
 intro pins s σ H x y v u Q I rx ry q
 rcases q with q|q
 ·exact h pins s σ H x y v u Q I rx ry q
 ·exact h' pins s σ H x y v u Q I rx ry q
theorem cS (b:Expr) {op:CmpOp}(h:op≠.In:=by decide) (h2:op≠.NotIn:=by decide):behindInMarks op b=false:=by
 have e1:(op == CmpOp.In)=false:=by cases op<;>first|rfl|exact absurd rfl h
 have e2:(op == CmpOp.NotIn)=false:=by cases op<;>first|rfl|exact absurd rfl h2
 cases b<;>simp[behindInMarks,e1,e2]
theorem F3 {op:CmpOp}{r:R2}(ho:gS X (compareOp op) r) (ha:PE X a ta) (hb:PE X b tb) (hm:behindInMarks op b=false):PE X (.Compare a [op] [b] pos) (JW r ta tb):=by
 intro pins s σ H Q I h
 exact wpAny_Compare1 (HJ ha hb I h fun v u s2 x y H2 I2 rx ry q=>ho pins s2 σ H2 x y v u Q I2 rx ry q) hm
noncomputable def Gm (t:TE):TT:=fun σ H Q=>t σ H fun x H'=>∃k,x=.bl k/\Q k H'
theorem Eo {op:CmpOp}{r:R2}(ho:gS X (compareOp op) r) (ha:PE X a ta) (hb:PE X b tb) (hm:behindInMarks op b=false):PT X (.Compare a [op] [b] pos) (Gm (JW r ta tb)):=by
 intro pins s σ H Q I h
 refine wpAny_isTrue_Compare1 (bS (ha pins s σ H _ I h) fun v s1 ⟨x,H1,I1,r1,q1⟩=>bS (hb pins s1 σ H1 _ I1 q1) fun u s2 ⟨y,H2,I2,r2,q2⟩ =>
  bS (ho pins s2 σ H2 x y v u _ I2 r1 r2 q2) fun c s3 ⟨z,H3,I3,r3,k,e,q3⟩=>?_) hm
 subst e
 cases r3
 exact wpAny_truthy_bool ⟨H3,I3,q3⟩
noncomputable def yq (r r':R2) (ta tb tc:TE):TE:=fun σ H Q=>ta σ H fun x H1=>tb σ H1 fun y H2=>r x y H2 fun z H3=>∃k,z=.bl k /\
 (if k=true then tc σ H3 fun w' H4=>r' y w' H4 Q else Q (.bl false) H3)
theorem Dj {op op':CmpOp}{r r':R2}(ho:gS X (compareOp op) r) (ho':gS X (compareOp op') r') (ha:PE X a ta) (hb:PE X b tb) (hc:PE X c tc)
  (hm:lastMarks [op,op'] [b,c]=false:=by with_unfolding_all rfl):PE X (.Compare a [op,op'] [b,c] pos) (yq r r' ta tb tc):=by
 intro pins s σ H Q I h
 refine Compare_chain (bS (ha pins s σ H _ I h) fun v s1 ⟨x,H1,I1,r1,q1⟩=>chain_link (bS (hb pins s1 σ H1 _ I1 q1) fun u s2 ⟨y,H2,I2,r2,q2⟩ =>
  bS (ho pins s2 σ H2 x y v u _ I2 r1 r2 q2) fun d s3 ⟨z,H3,I3,r3,k,e,q3⟩=>?_)) hm
 subst e
 cases r3
 refine wpAny_truthy_bool ?_
 cases k with
 | false=>exact ite_ff ⟨.bl false,H3,I3,rfl,q3⟩
 | true=>exact ite_tt (chain_last (bS (hc pins s3 σ H3 _ I3 q3) fun w' s4 ⟨z',H4,I4,r4,q4⟩=>ho' pins s4 σ H4 y z' u w' Q I4 r2 r4 q4))
theorem Ds {op op':CmpOp}{r r':R2}(ho:gS X (compareOp op) r) (ho':gS X (compareOp op') r') (ha:PE X a ta) (hb:PE X b tb) (hc:PE X c tc)
  (hm:lastMarks [op,op'] [b,c]=false:=by with_unfolding_all rfl):PT X (.Compare a [op,op'] [b,c] pos) (Gm (yq r r' ta tb tc)):=by
 intro pins s σ H Q I h
 refine isTrue_chain (bS (ha pins s σ H _ I h) fun v s1 ⟨x,H1,I1,r1,q1⟩=>test_link (bS (hb pins s1 σ H1 _ I1 q1) fun u s2 ⟨y,H2,I2,r2,q2⟩ =>
  bS (ho pins s2 σ H2 x y v u _ I2 r1 r2 q2) fun d s3 ⟨z,H3,I3,r3,k,e,q3⟩=>?_)) hm
 subst e
 cases r3
 refine wpAny_truthy_bool ?_
 cases k with
 | false =>
  obtain⟨k',e',q'⟩:=q3
  cases e'
  exact ite_ff ⟨H3,I3,q'⟩
 | true =>
  refine ite_tt (test_last (bS (hc pins s3 σ H3 _ I3 q3) fun w' s4 ⟨z',H4,I4,r4,q4⟩=>bS (ho' pins s4 σ H4 y z' u w' _ I4 r2 r4 q4) fun d' s5 ⟨z2,H5,I5,r5,k2,e2,q5⟩=>?_))
  subst e2
  cases r5
  exact wpAny_truthy_bool ⟨H5,I5,q5⟩
theorem pd:(sizeLine:Nat) < 2 ^ 63:=by rw[sizeLine_eq];decide
theorem vals1 {x:V}{us:List Value}(r:aC [x] us):∃u,us=[u]/\RelV x u:=by
 cases r with
 | cons r1 r2=>cases r2;exact⟨_,rfl,r1⟩
theorem vals2 {x y:V}{us:List Value}(r:aC [x,y] us):∃u w',us=[u,w']/\RelV x u/\RelV y w':=by
 cases r with
 | cons r1 r2 =>
  cases r2 with
  | cons r3 r4=>cases r4;exact⟨_,_,rfl,r1,r3⟩
theorem zG:cR X (.type "int") (fun xs H Q=>(∃i,xs=[.int i]/\Q (.int i) H)\/∃k,xs=[.bl k]/\Q (.int (if k then 1 else 0)) H):=by
 intro pins s σ H xs us Q I r h
 rcases h with ⟨i,rfl,q⟩|⟨k,rfl,q⟩
 ·obtain⟨u,rfl,t,rfl⟩:=vals1 r
  exact call_int_int ⟨.int i,H,I,⟨_,rfl⟩,q⟩
 ·obtain⟨u,rfl,r1⟩:=vals1 r
  cases r1
  exact call_int_bool ⟨.int (if k then 1 else 0),H,I.tok _,⟨_,rfl⟩,q⟩
end
end L2
namespace L2
open PySem PySem.Spec PyProof.Rows
structure EH (h:Heap) (x dx C:Addr) (mA:Str->Option Value):Prop where
 obj:h.get? x=some (PySem.W.instObj C dx)
 ns:h.Ns1 dx mA
 ne:dx≠x
theorem z9 {h:Heap}{dx:Addr}{mA:Str->Option Value}(n:h.Ns1 dx mA):∃od,h.get? dx=some od/\∀name,PySem.W.lookIn name od=some (mA name):=by
 obtain⟨o,es,ep,ho,hd,hk,_,hm⟩:=n
 refine⟨o,ho,fun name=>?_⟩
 have e:=hm name
 unfold nsFind findBy at e
 rw[<- Array.find?_toList] at e
 unfold PySem.W.lookIn
 rw[hd]
 dsimp only
 split
 ·rename_i y q
  rw[q] at e
  exact congrArg some e
 ·rename_i q
  rw[q] at e
  have a:es.toList.any (·.refKey)=false:=by
   rw[List.any_eq_false]
   intro y hy
   obtain⟨z,t,hkey⟩:=hk y (Array.mem_toList_iff.mp hy)
   simp[DictEntry.refKey,hkey]
  have a':¬ es.toList.any (·.refKey)=true:=by rw[a];exact Bool.false_ne_true
  rw[if_neg a']
  exact congrArg some e
theorem EH.look {h:Heap}{x dx C:Addr}{mA:Str->Option Value}(I:EH h x dx C mA):∃od,PySem.W.InstAt h x (PySem.W.instObj C dx) C (some od)/\∀name,PySem.W.lookIn name od=some (mA name) :=
 let ⟨od,ho,hl⟩:=z9 I.ns
 ⟨od,⟨I.obj,rfl,rfl,ho⟩,hl⟩
section
variable {prog:Program}{w:World}{A:Around}{E:Value->Shared->Prop}{s:Shared}{K:PySem.W.Frag}{x dx C f:Addr}{mA:Str->Option Value}{name:Str}{v:Value}
theorem yO {ns:List Str}{Q:Unit->Shared->Prop}(X:K.In s.heap) (I:EH s.heap x dx C mA)
  (hs:PySem.W.findIn K (.ref C) "__setattr__"=some (some (.builtin "object.__setattr__"))) (hp:PySem.W.plainOver K C=true) (ht:PySem.W.takerIn K C name=some none) (hh:PySem.W.hasDictIn K C=true)
  (hw:PySem.Within mA ns) (hsz:ns.length<=sizeLine)
  (h:∀h',EH h' x dx C (fun y=>if y=name then some v else mA y)->Heap.SameBut dx s.heap h'->Q () { s with heap:=h',toks:=s.toks+2 }) :
  wpAny (model prog w) A (setAttr (.ref x) name v) Q E s:=by
 obtain⟨od,J,hl⟩:=I.look
 refine PySem.W.set_plain X J hs (PySem.W.osa_open (s:={ s with toks:=s.toks+1 }) (r:=none) X J hp ht fun b=>?_)
 obtain⟨cd,hc,hd'⟩:=PySem.W.any_some hh
 have hx:s.heap.get? x=some ⟨.ref C,some dx,.plain,#[]⟩:=I.obj
 refine wpAny_bind (wpAny_pure (wpAny_bind (wpAny_bind (wpAny_loadPart hx (wpAny_bind (PySem.W.Looks.here (s:={ s with toks:=s.toks+1 }) (PySem.W.looks_clsIn X hc) ?_))))))
 rw[hd']
 refine wpAny_pure (a:=some dx) (wpAny_bind (wpAny_pure (wpAny_bind ?_)))
 refine wpAny_nsSet1 (s:={ s with toks:=s.toks+1 }) I.ns fun h' hn2 hs2=>?_
 obtain⟨oD,esD,epD,hoD,hdD,hcD⟩:=hn2.count (PySem.Within.cons name v hw)
 refine wpAny_bind (wpAny_lookBehind hoD (by rw[hdD];exact pastItsLine_dict (Nat.le_trans hcD (by rw[List.length_cons];omega))) ?_)
 exact wpAny_pure (h _ ⟨(hs2.2 _ (Ne.symm I.ne)).trans I.obj,hn2,I.ne⟩ hs2)
end
section
variable {P:Program}{w:World}{H H':Hp}{h h':Heap}{a C dx:Addr}{fs fs':List (Str×V)}
end
structure Mc (K:PySem.W.Frag) (C:Addr):Prop where
 pg:PySem.W.plainGet K C Str.empty=true
 hd:PySem.W.hasDictIn K C=true
 po:PySem.W.plainOver K C=true
 sa:PySem.W.findIn K (.ref C) "__setattr__"=some (some (.builtin "object.__setattr__"))
theorem Mc.get {K:PySem.W.Frag}{C:Addr}(c:Mc K C) (f:Str):PySem.W.plainGet K C f=true:=c.pg
structure MK (K:PySem.W.Frag) (C:Addr) (f:Str) (v:V) (u:Value):Prop where
 at_:PySem.W.findIn K (.ref C) f=some (some u)
 rel:RelV v u
 get:PySem.W.specialIn K u "__get__"=some none
 cp:PySem.W.copiedNames.contains f=false
structure MG (K:PySem.W.Frag) (C:Addr) (m:Str) (f:Addr):Prop where
 at_:PySem.W.findIn K (.ref C) m=some (some (.ref f))
 fn:PySem.W.isFn K (.ref f)=true
 kp:PySem.W.keepIn K (.ref f)=true
section
variable {X:Cx}{pins:List (Addr×Obj)}{σ:St}{H:Hp}{s:Shared}{a C dx:Addr}{fs:List (Str×V)}{f:Str}{v:V}{A:Around}{E:Value->Shared->Prop}
theorem Inv.made (I:Inv X pins σ H s):Inv X pins σ (upd (upd H s.heap.objs.size (.own (s.heap.objs.size+1))) (s.heap.objs.size+1) (.ins C s.heap.objs.size []))
  { s with heap:=(s.heap.push PySem.W.emptyDict).push (PySem.W.instObj C s.heap.objs.size) }:=by
 have e1:(s.heap.push PySem.W.emptyDict).get? s.heap.objs.size=some PySem.W.emptyDict:=Heap.get?_push_size s.heap rfl
 have e2:((s.heap.push PySem.W.emptyDict).push (PySem.W.instObj C s.heap.objs.size)).get? (s.heap.objs.size+1)=some (PySem.W.instObj C s.heap.objs.size):=by
  have:=Heap.get?_push_size (s.heap.push PySem.W.emptyDict) (o:=PySem.W.instObj C s.heap.objs.size) rfl
  rwa [Heap.size_push] at this
 have e3:(s.heap.push PySem.W.emptyDict).Ns s.heap.objs.size (fun _=>none):=⟨PySem.W.emptyDict,#[],_,e1,rfl,(fun e he=>absurd he (by simp)),fun _=>rfl⟩
 have I1:=I.laid (a:=s.heap.objs.size) (o:=.own (s.heap.objs.size+1)) (h':=s.heap.push PySem.W.emptyDict) (t':=s.toks) (fun b u q=>Heap.get?_push_of_some _ q) (Nat.le_refl _) ⟨_,e1⟩
 refine I1.laid (a:=s.heap.objs.size+1) (o:=.ins C s.heap.objs.size []) (t':=s.toks) (fun b u q=>Heap.get?_push_of_some _ q) (Nat.le_of_eq (Heap.size_push _ _)) ?_
 have ne:s.heap.objs.size≠s.heap.objs.size+1:=Nat.ne_of_lt (Nat.lt_succ_self _)
 refine⟨by rw[aB ne,aE],Nat.zero_le _,ne,e2,fun _=>none,(Heap.Ns1.of_empty e3).at fun o q=>Heap.get?_push_of_some _ q,fun _=>True.intro,fun y hy=>absurd rfl hy⟩
end
section
variable {X:Cx}{o e value:Expr}{f:Str}{pos pos' tpos:Pos}{ta tv:TE}
end
section
variable {X:Cx}{pins:List (Addr×Obj)}{σ:St}{H:Hp}{s:Shared}{A:Around}{E:Value->Shared->Prop}{Q:Value->Shared->Prop}{c:Value}{b:Bool}
inductive n0 (K:PySem.W.Frag) (H:Hp):V->Value->Prop where
 | non:n0 K H .non (.type "NoneType")
 | bl (x:Bool):n0 K H (.bl x) (.type "bool")
 | int (i:Int):n0 K H (.int i) (.type "int")
 | str (x:Str):n0 K H (.str x) (.type "str")
 | flt (x:UInt64):n0 K H (.flt x) (.type "float")
 | lst {a:Addr}{xs:List V}(e:H a=some (.lst xs)):n0 K H (.ref a) (.type "list")
 | frz {a:Addr}{o:Obj}{xs:List V}(e:H a=some (.frz o (.lst xs))):n0 K H (.ref a) (.type "list")
 | tup {a:Addr}{xs:List V}(e:H a=some (.tup xs)):n0 K H (.ref a) (.type "tuple")
 | dK {a:Addr}{kvs:List (ux×V)}(e:H a=some (.dK kvs)):n0 K H (.ref a) (.type "dict")
 | dT {a:Addr}{kvs:List (List ux×V)}(e:H a=some (.dT kvs)):n0 K H (.ref a) (.type "dict")
 | ins {a C dx:Addr}{fs:List (Str×V)}(e:H a=some (.ins C dx fs)) (cl:Mc K C) (ha:PySem.W.findIn K (.ref C) "__class__"=some (some (.builtin "object.__class__")))
   (hn:PySem.W.specialIn K (.builtin "object.__class__") "__get__"=some (some (.builtin "getset_descriptor.__get__"))) (htk:PySem.W.takesIn K (.builtin "object.__class__")=some true)
   (hm:PySem.W.mroIn K C (.type "object")=some true):n0 K H (.ref a) (.ref C)
end
end L2
namespace L2
open PySem PySem.Spec PyProof.Rows
structure dN (k:Nat) (A:Around):Prop where
 hd:A.handled=none
 dp:A.depth+3 * k+5 < recursionLimit
 un:A.units+16 * k+200 < cLine
theorem dN.mono {j k:Nat}{A:Around}(r:dN k A) (h:j<=k):dN j A:=⟨r.hd,by have:=r.dp;omega,by have:=r.un;omega⟩
theorem dN.deeper {k:Nat}{A:Around}(r:dN (k+1) A) (env:Env):dN k (A.deeper env) :=
 ⟨r.hd,by have:=r.dp;show A.depth+1+3 * k+5 < _;omega,by have:=r.un;show A.units+3+16 * k+200 < _;omega⟩
theorem dN.in1 {k:Nat}{A:Around}(r:dN (k+1) A):dN k A.in1 :=
 ⟨r.hd,by have:=r.dp;show A.depth+3 * k+5 < _;omega,by have:=r.un;show A.units+1+16 * k+200 < _;omega⟩
theorem dN.depth {k:Nat}{A:Around}(r:dN k A):A.depth < recursionLimit:=by have:=r.dp;omega
theorem dN.units {k:Nat}{A:Around}(r:dN k A):A.units+64 < cLine:=by have:=r.un;omega
theorem dN.units0 {k:Nat}{A:Around}(r:dN k A):A.units < cLine:=by have:=r.un;omega
noncomputable def Lm:TA:=fun _ H Q=>Q [] H
noncomputable def Ki (ta:TE) (tr:TA):TA:=fun σ H Q=>ta σ H fun x H1=>tr σ H1 fun xs H2=>Q (x::xs) H2
section
variable {X:Cx}{e:Expr}{es:List Expr}{te:TE}{t:TA}{pos:Pos}
theorem gH:PA X [] Lm:=fun _ _ _ _ H Q I h=>Calls.spliced_nil ⟨[],H,I,.nil,h⟩
theorem cZ (ha:PE X e te) (hr:PA X es t) (hs:starEach (e::es) X.env=(false,eval e X.env)::starEach es X.env:=by rfl):PA X (e::es) (Ki te t):=by
 intro pos pins s σ H Q I h
 rw[hs]
 show wpAny _ _ (spliced ((false,eval e X.env)::backTo pos (starEach es X.env))) _ _ s
 refine Calls.spliced_cons (bS (ha pins s σ H _ I h) fun u s1 ⟨x,H1,I1,r1,q1⟩=>?_)
 exact bS (hr pos pins s1 σ H1 _ I1 q1) fun us s2 ⟨xs,H2,I2,r2,q2⟩=>⟨x::xs,H2,I2,.cons r1 r2,q2⟩
noncomputable def L8 (t:TA):TE:=fun σ H Q=>t σ H fun xs H1=>xs.length<=sizeLine/\∀p,H1 p=none->Q (.ref p) (upd H1 p (.tup xs))
noncomputable def LJ (t:TA):TE:=fun σ H Q=>t σ H fun xs H1=>xs.length<=sizeLine/\∀p,H1 p=none->Q (.ref p) (upd H1 p (.lst xs))
theorem Hj {x1}(h:PA X es t):PE X (.Tuple es x1 pos) (L8 t):=by
 intro pins s σ H Q I hq
 refine wpAny_Tuple_spliced (bS (h pos pins s σ H _ I hq) fun us s1 ⟨xs,H1,I1,r,z,q⟩=>⟨by rw[<- r.length];exact z,?_⟩)
 have hf:H1 s1.heap.objs.size=none:=I1.hok.fresh (Nat.le_refl _)
 refine⟨.ref s1.heap.objs.size,upd H1 s1.heap.objs.size (.tup xs),I1.laid (t':=s1.toks) (fun b u e=>Heap.get?_push_of_some _ e) (Nat.le_refl _) ?_,rfl,q _ hf⟩
 exact⟨z,us,r,⟨_,Heap.get?_push_size _ rfl,rfl,_,rfl⟩,_,Heap.get?_push_size _ rfl,rfl⟩
theorem HI (h:PA X es t):PE X (.List es pos) (LJ t):=by
 intro pins s σ H Q I hq
 refine wpAny_List_spliced (bS (h pos pins s σ H _ I hq) fun us s1 ⟨xs,H1,I1,r,z,q⟩=>⟨by rw[<- r.length];exact z,?_⟩)
 have hf:H1 s1.heap.objs.size=none:=I1.hok.fresh (Nat.le_refl _)
 refine⟨.ref s1.heap.objs.size,upd H1 s1.heap.objs.size (.lst xs),I1.laid (t':=s1.toks) (fun b u e=>Heap.get?_push_of_some _ e) (Nat.le_refl _) ?_,rfl,q _ hf⟩
 exact⟨z,us,0,r,Heap.get?_push_size _ rfl⟩
end
noncomputable abbrev Sp:=List V->Hp->VK->XK->Prop
noncomputable abbrev Ap:=List Env->Hp->Shared->XK->Value->Shared->Prop
structure xU (P:Program) (w:World) (K:PySem.W.Frag) (mg:Str->Option Value) (base:Heap) (A:Around) (outer:List Env) (s:Shared) (H:Hp):Prop where
 frames:A.frames=some outer
 mod:Mod K mg base
 bs:∀b o,base.get? b=some o->s.heap.get? b=some o/\H b=none
 bsz:base.objs.size<=s.heap.objs.size
 funs:s.heap.FunFrames base outer
 frf:∀b∈BC outer,H b=none
 hok:nH P w H s.heap
 bare:AllBare s.gens
noncomputable def CE (outer:List Env) (P:Program) (w:World) (H:Hp) (s:Shared) (Q:VK) (u:Value) (s':Shared):Prop :=
 ∃v H',s'.os=s.os/\AllBare s'.gens/\Un (BC outer) [] H H' s.heap s'.heap/\nH P w H' s'.heap/\RelV v u/\Q v H'
noncomputable def CR (CX:Ap) (outer:List Env) (P:Program) (w:World) (H:Hp) (s:Shared) (Q:VK) (E:XK) (r:Result) (s':Shared):Prop :=
 match r with
 | .ok (.ret u)=>CE outer P w H s Q u s'
 | .ok _=>False
 | .error e=>CX outer H s E e s'
structure kF (P:Program) (w:World) (K:PySem.W.Frag) (mg:Str->Option Value) (base:Heap) (CX:Ap) (k:Nat) (f:Addr) (fd:FuncData) (ps:List Str) (sp:Sp):Prop where
 len:∀vs H Q E,sp vs H Q E->vs.length=ps.length
 run:∀ (A:Around) (outer:List Env) (s:Shared) (H:Hp) (args:Args) (us:List Value) (vs:List V) (Q:VK) (E:XK),dN k A->xU P w K mg base A outer s H->BindsTo s fd args (ps.zip us)->aC vs us->sp vs H Q E ->
  codeAny (model P w) A (.call (.ref f) args) (CR CX outer P w H s Q E) s
theorem kF.mono {P:Program}{w:World}{K:PySem.W.Frag}{mg:Str->Option Value}{base:Heap}{CX:Ap}{j k:Nat}{f:Addr}{fd:FuncData}{ps:List Str}{sp:Sp}(F:kF P w K mg base CX j f fd ps sp) (h:j<=k) :
  kF P w K mg base CX k f fd ps sp:=⟨F.len,fun A outer s H args us vs Q E hr=>F.run A outer s H args us vs Q E (hr.mono h)⟩
theorem kF.imp {P:Program}{w:World}{K:PySem.W.Frag}{mg:Str->Option Value}{base:Heap}{CX:Ap}{k:Nat}{f:Addr}{fd:FuncData}{ps:List Str}{sp sp':Sp}(F:kF P w K mg base CX k f fd ps sp)
  (h:∀vs H Q E,sp' vs H Q E->sp vs H Q E):kF P w K mg base CX k f fd ps sp' :=
 ⟨fun vs H Q E q=>F.len vs H Q E (h _ _ _ _ q),fun A outer s H args us vs Q E hr he hb hv hs=>F.run A outer s H args us vs Q E hr he hb hv (h _ _ _ _ hs)⟩
theorem xU.in1 {P:Program}{w:World}{K:PySem.W.Frag}{mg:Str->Option Value}{base:Heap}{A:Around}{outer:List Env}{s:Shared}{H:Hp}(e:xU P w K mg base A outer s H) :
  xU P w K mg base A.in1 outer s H:=⟨e.frames,e.mod,e.bs,e.bsz,e.funs,e.frf,e.hok,e.bare⟩
section
variable {X:Cx}{pins:List (Addr×Obj)}{σ:St}{H:Hp}{s s':Shared}
theorem Inv.env0 (I:Inv X pins σ H s):xU X.prog X.w X.K X.mg X.base X.A X.stack s H :=
 ⟨I.ok.frames,I.ok.mod,I.bs,Nat.le_trans I.ok.bsz I.sz,I.stack,I.stkFree,I.hok,I.bare⟩
theorem Inv.after {Q:VK}{u:Value}(I:Inv X pins σ H s) (h:CE X.stack X.prog X.w H s Q u s'):EP X pins σ Q u s':=by
 obtain⟨v,H',os,bare,un,hok,r,q⟩:=h
 obtain⟨hh,g,d,t,os'⟩:=s'
 obtain rfl:os'=s.os:=os
 exact⟨v,H',I.call (h':=hh) (g':=g) (d':=d) (t':=t) (ch:=[]) un hok bare (fun b z=>absurd z (by simp)),r,q⟩
end
noncomputable def KO (sp:Sp) (dvs:List V) (E:XK) (t:TA):TE:=fun σ H Q=>t σ H fun vs H1=>sp (vs++dvs) H1 Q E
noncomputable def Binds (K:PySem.W.Frag) (fd:FuncData) (ps:List Str) (ds:List Value):Prop :=
 ∀ (s:Shared) (us:List Value),K.In s.heap->(us++ds).length=ps.length->BindsTo s fd ⟨us,[]⟩ (ps.zip (us++ds))
theorem Binds.all {K:PySem.W.Frag}{fd:FuncData}{ps:List Str}(h:∀us:List Value,us.length=ps.length->bindArgs fd ⟨us,[]⟩=pure (ps.zip us)):Binds K fd ps []:=fun s us _ hl=>by
 rw[List.append_nil] at hl ⊢
 exact .of_eq (h us hl)
noncomputable def xA (CX:Ap) (X:Cx) (E:XK):Prop:=∀ (pins:List (Addr×Obj)) (σ:St) (H:Hp) (s:Shared) (e:Value) (s':Shared),Inv X pins σ H s->CX X.stack H s E e s'->X.xe e s'
section
variable {X:Cx}{CX:Ap}{k:Nat}{f C:Addr}{fd:FuncData}{ps:List Str}{sp:Sp}{dvs:List V}{ds:List Value}{E:XK}{x m:Str}{p pos apos:Pos}{e o:Expr}{es:List Expr}{ta:TE}{t:TA}
theorem IQ {pins:List (Addr×Obj)}{σ:St}{H:Hp}{s:Shared}{Q:VK}{us:List Value}{vs:List V}(F:kF X.prog X.w X.K X.mg X.base CX k f fd ps sp) (hr:dN k X.A) (hb:Binds X.K fd ps ds) (hd:aC dvs ds) (hx:xA CX X E)
  (I:Inv X pins σ H s) (r:aC vs us) (h:sp (vs++dvs) H Q E):wpAny (model X.prog X.w) X.A (call (.ref f) us) (EP X pins σ Q) X.xe s:=by
 have r2:aC (vs++dvs) (us++ds):=r.append hd
 have hl:(us++ds).length=ps.length:=by rw[<- r2.length];exact F.len _ _ _ _ h
 refine wpAny_call (codeAny_mono (F.run X.A X.stack s H ⟨us,[]⟩ (us++ds) (vs++dvs) Q E hr I.env0 (hb s us I.kIn hl) r2 h) fun r s' hq=>?_)
 cases r with
 | error e=>exact hx pins σ H s e s' I hq
 | ok fl =>
  cases fl with
  | ret u=>exact I.after hq
  | next=>exact False.elim hq
  | brk=>exact False.elim hq
  | cont=>exact False.elim hq
theorem FX (F:kF X.prog X.w X.K X.mg X.base CX k f fd ps sp) (hr:dN k X.A) (hg:Gl X x) (hm:X.mg x=some (.ref f)) (hk:PySem.W.keepIn X.K (.ref f)=true) (hb:Binds X.K fd ps ds) (hd:aC dvs ds) (hx:xA CX X E)
  (ha:PA X (e::es) t) (hdb:(x == ("__debug__":Str))=false:=by decide) (he:starEach (e::es) X.env=(false,eval e X.env)::starEach es X.env:=by rfl) (hpl:(backTo pos (starEach es X.env)).any (·.1)=false:=by rfl) :
  PE X (.Call (.Name x p) (e::es) [] pos) (KO sp dvs E t):=by
 intro pins s σ H Q I h
 refine wpAny_Call_Name_kw (yP I hg hm ?_ hdb)
 refine PySem.W.callWith_K (h₀:=X.base) I.ok.mod.kin hk (bS (ha pos pins s σ H _ I h) fun us s1 ⟨vs,H1,I1,r,q⟩=>⟨I1.kIn,?_⟩) he hpl
 exact IQ F hr hb hd hx I1 r q
structure Mk (K:PySem.W.Frag) (C f:Addr):Prop where
 makes:PySem.W.makesIn K C=true
 init:PySem.W.findIn K (.ref C) "__init__"=some (some (.ref f))
 fn:PySem.W.isFn K (.ref f)=true
 kp:PySem.W.keepIn K (.ref C)=true
end
section
variable {X:Cx}{CX:Ap}{k:Nat}{f C:Addr}{fd:FuncData}{ps ks:List Str}{sp:Sp}{E:XK}{x m:Str}{p pos apos kpos:Pos}{e o:Expr}{es:List Expr}{kws:List Keyword}{te ta:TE}{t tk:TA}{nm:Option Str}
structure LZ (K:PySem.W.Frag) (fd:FuncData) (ps ks:List Str) (g:List Value->List Value->List Value) (gV:List V->List V->List V):Prop where
 to:∀ (s:Shared) (us ws:List Value),K.In s.heap->(g us ws).length=ps.length->BindsTo s fd ⟨us,ks.zip ws⟩ (ps.zip (g us ws))
 rel:∀ {vs:List V}{us:List Value}{zs:List V}{ws:List Value},aC vs us->aC zs ws->aC (gV vs zs) (g us ws)
variable {g:List Value->List Value->List Value}{gV:List V->List V->List V}
end
structure ee (N P:List Str) (sc:Scope):Prop where
 kind:sc.kind=.function
 co:sc.isCoroutine=false
 gen:sc.isGenerator=false
 nd:N.Nodup
 pre:N.take P.length=P
 par:∀x∈P,sc.names.lookup x=some .local \/ sc.names.lookup x=some .cell
 nofree:∀y∈sc.names,y.2≠.free
theorem rX {kindOf:Str->Option NameKind}{x:Str}:∀ {binds:List (Str×Value)}{m:Str->Option Value},(∀v,(x,v)∉binds)->bindL kindOf binds m x=m x
 | [],_,_=>rfl
 | (n,v)::r,m,h=>by
  unfold bindL
  rw[rX fun w hw=>h w (List.mem_cons_of_mem _ hw)]
  split
  ·have:x≠n:=by rintro rfl;exact h v List.mem_cons_self
   simp[this]
  ·rfl
theorem rD {kindOf:Str->Option NameKind}{x:Str}:∀ {binds:List (Str×Value)}{m:Str->Option Value},(∀v,(x,v)∉binds)->bindC kindOf binds m x=m x
 | [],_,_=>rfl
 | (n,v)::r,m,h=>by
  unfold bindC
  rw[rD fun w hw=>h w (List.mem_cons_of_mem _ hw)]
  split
  ·rfl
  ·have:x≠n:=by rintro rfl;exact h v List.mem_cons_self
   simp[this]
theorem qP {kindOf:Str->Option NameKind}{x:Str}{v:Value}:∀ {P:List Str}{vs:List Value}{i:Nat}{m:Str->Option Value},P.Nodup->P[i]?=some x->vs[i]?=some v->kindOf x=some .local ->
  bindL kindOf (P.zip vs) m x=some v
 | [],_,_,_,_,h,_,_=>by simp at h
 | _::_,[],_,_,_,_,h,_=>by simp at h
 | p::P,w::vs,0,m,nd,h1,h2,hk=>by
  simp at h1 h2;subst h1;subst h2
  show bindL kindOf ((p,w)::P.zip vs) m p=_
  unfold bindL
  rw[rX fun v hv=>(List.nodup_cons.mp nd).1 (List.of_mem_zip hv).1,if_pos hk]
  simp
 | p::P,w::vs,i+1,m,nd,h1,h2,hk=>by
  show bindL kindOf ((p,w)::P.zip vs) m x=_
  unfold bindL
  exact qP (i:=i) (List.nodup_cons.mp nd).2 (by simpa using h1) (by simpa using h2) hk
theorem rV {kindOf:Str->Option NameKind}{x:Str}{v:Value}:∀ {P:List Str}{vs:List Value}{i:Nat}{m:Str->Option Value},P.Nodup->P[i]?=some x->vs[i]?=some v->kindOf x≠some .local ->
  bindC kindOf (P.zip vs) m x=some v
 | [],_,_,_,_,h,_,_=>by simp at h
 | _::_,[],_,_,_,_,h,_=>by simp at h
 | p::P,w::vs,0,m,nd,h1,h2,hk=>by
  simp at h1 h2;subst h1;subst h2
  show bindC kindOf ((p,w)::P.zip vs) m p=_
  unfold bindC
  rw[rD fun v hv=>(List.nodup_cons.mp nd).1 (List.of_mem_zip hv).1,if_neg hk]
  simp
 | p::P,w::vs,i+1,m,nd,h1,h2,hk=>by
  show bindC kindOf ((p,w)::P.zip vs) m x=_
  unfold bindC
  exact rV (i:=i) (List.nodup_cons.mp nd).2 (by simpa using h1) (by simpa using h2) hk
noncomputable def start (N:List Str) (vs:List V):St:=vs.map some++List.replicate (N.length - vs.length) none
noncomputable def xg (CX:Ap) (P:Program) (w:World) (K:PySem.W.Frag) (mg:Str->Option Value) (base:Heap) (N:List Str) (qual:Str) (scope:Scope) (f:Addr) (cd:Value) (A:Around) (outer:List Env) (s:Shared) (H:Hp) (E:XK):Cx where
 prog:=P
 w:=w
 K:=K
 mg:=mg
 base:=base
 A:=A.deeper (envOfC qual scope s.heap.objs.size f cd)
 N:=N
 s₀:=s
 H₀:=H
 env:=envOfC qual scope s.heap.objs.size f cd
 outer:=outer
 stack:=envOfC qual scope s.heap.objs.size f cd::outer
 ex:=[]
 calm:=true
 fn:=fun _=>true
 pn:=[]
 xe:=fun e s'=>wpAny (model P w) (A.deeper (envOfC qual scope s.heap.objs.size f cd)) (leaving (envOfC qual scope s.heap.objs.size f cd) e) (fun _ s''=>CX outer H s E e s'') (fun e' s''=>CX outer H s E e' s'') s'
theorem nY {sc:Scope}{n:Nat}{x:Str}(h:sc.names.lookup x=some .cell):∃c,(cellsFrom n sc.names []).lookup x=some c:=by
 have q:=PySem.W.cellsFrom_some sc.names n [] (.inl h)
 exact Option.isSome_iff_exists.mp q
theorem AJ {CX:Ap}{P:Program}{w:World}{K:PySem.W.Frag}{mg:Str->Option Value}{base:Heap}{N ps:List Str}{qual:Str}{scope:Scope}{f:Addr}{cd:Value}{A:Around}{outer:List Env}{s s1:Shared}{H:Hp}{E:XK}{us:List Value}{vs:List V}
  (S:ee N ps scope) (hd:A.handled=none) (e0:xU P w K mg base A outer s H) (hl:vs.length=ps.length) (r:aC vs us)
  (x:InCallC s s.heap.objs.size (bindL (envOfC qual scope s.heap.objs.size f cd).kindOf (ps.zip us) fun _=>none) (cellsFrom (s.heap.objs.size+1) scope.names []) (bindC (envOfC qual scope s.heap.objs.size f cd).kindOf (ps.zip us) fun _=>none) s1) :
  Inv (xg CX P w K mg base N qual scope f cd A outer s H E) [] (start N vs) H s1:=by
 have hpl:ps.length<=N.length:=by have:=congrArg List.length S.pre;rw[List.length_take] at this;omega
 obtain⟨h1,tk,rfl,hk⟩:=x.done
 have noA:∀b:Addr,b∉(xg CX P w K mg base N qual scope f cd A outer s H E).ex:=fun b z=>absurd (show b∈([]:List Addr) from z) (by simp)
 refine⟨⟨e0.mod,S.kind,rfl,rfl,Nat.le_refl _,fun y z c h1 h2=>?_,fun y hy=>?_,fun y c _ h=>?_,fun _=>hd,Around.frames_deeper e0.frames,.inr ⟨rfl,rfl⟩,fun b z=>absurd z (noA b),e0.bs,e0.bsz,fun b _ _=>noA b,fun b z=>absurd z (noA b),e0.funs,e0.frf⟩,
  rfl,e0.bare,Un.kept hk,⟨_,x.toInCall.ns,fun i y v h1 h2 h3=>?_⟩,fun y c h=>⟨_,x.cell y c h⟩,e0.hok.fresh (Nat.le_refl _),fun y c h=>?_,fun p hp=>absurd (show p∈([]:List (Addr×Obj)) from hp) (by simp),e0.hok.kept hk,?_⟩
 ·exact name_of_addr x.apart (PySem.mem_of_lookup h1) (PySem.mem_of_lookup h2)
 ·have hy:scope.names.lookup y=some .cell\/scope.names.lookup y=some .free:=hy
  rcases hy with hy|hy
  ·exact nY hy
  ·exact absurd rfl (S.nofree _ (PySem.mem_of_lookup hy))
 ·exact Nat.le_of_lt (x.above y c (PySem.mem_of_lookup h))
 ·have hi:i < vs.length:=by
   unfold start at h2
   by_cases hi:i < vs.length
   ·exact hi
   ·rw[List.getElem?_append_right (by simpa using hi)] at h2
    rw[List.getElem?_replicate] at h2
    split at h2<;>cases h2
  have ha:vs[i]?=some v:=by
   unfold start at h2
   rw[List.getElem?_append_left (by simpa using hi),List.getElem?_map] at h2
   cases e:vs[i]? with
   | none=>rw[e] at h2;cases h2
   | some a=>rw[e] at h2;cases h2;rfl
  obtain⟨u,hu,rv⟩:=r.get ha
  have hp:ps[i]?=some y:=by
   rw[<- S.pre,List.getElem?_take_of_lt (by omega)];exact h1
  have ndP:ps.Nodup:=by rw[<- S.pre];exact S.nd.sublist (List.take_sublist _ _)
  refine⟨u,rv,?_⟩
  rcases S.par y (List.mem_of_getElem? hp) with k|k
  ·exact .inl ⟨k,qP ndP hp hu k⟩
  ·obtain⟨c,e⟩:=nY (n:=s.heap.objs.size+1) k
   refine .inr ⟨.inl k,c,e,?_⟩
   have q:=x.cell y c e
   rw[rV ndP hp hu (by show scope.names.lookup y≠_;rw[k];decide)] at q
   exact q
 ·exact e0.hok.fresh (Nat.le_of_lt (x.above y c (PySem.mem_of_lookup h)))
 ·unfold start
  show _=N.length
  rw[List.length_append,List.length_map,List.length_replicate]
  omega
theorem Gz {CX:Ap}{P:Program}{w:World}{K:PySem.W.Frag}{mg:Str->Option Value}{base:Heap}{k:Nat}{f:Addr}{name qual:Str}{params:Arguments}{body:List Stmt}{scope:Scope}{dV kV doc pm cdv ct oc:Value}{an od:Option Addr}
  {osl:Array (Option Value)}{N ps:List Str}{sp:Sp}(lk:K.lookup f=some ⟨oc,od,.func (PySem.W.fnOf name qual params body scope dV kV doc pm an cdv ct),osl⟩) (hcd:PySem.W.codeIn K cdv qual=true) (S:ee N ps scope)
  (len:∀vs H Q E,sp vs H Q E->vs.length=ps.length)
  (hbody:∀ (A:Around) (outer:List Env) (s:Shared) (H:Hp) (vs:List V) (Q:VK) (E:XK),dN k (A.deeper (envOfC qual scope s.heap.objs.size f cdv))->sp vs H Q E ->
   ∃t,wJ (xg CX P w K mg base N qual scope f cdv A outer s H E) body t/\t { nx:=fun _ H'=>Q .non H',rt:=Q } (start N vs) H) :
  kF P w K mg base CX (k+1) f (PySem.W.fnOf name qual params body scope dV kV doc pm an cdv ct) ps sp:=by
 refine⟨len,fun A outer s H args us vs Q E hr e0 hb r hsp=>?_⟩
 have hl:=len _ _ _ _ hsp
 have KX:K.In s.heap:=e0.mod.kin.keeps fun b o e=>(e0.bs b o e).1
 have lim:s.heap.NoLimit:=e0.mod.nolimit.keeps fun b o e=>(e0.bs b o e).1
 have hkind:∀y∈ps.zip us,scope.names.lookup y.1=some .local \/ (scope.names.lookup y.1=some .cell/\((cellsFrom (s.heap.objs.size+1) scope.names []).lookup y.1).isSome=true):=fun ⟨n,v⟩ hy=>by
  rcases S.par n (List.of_mem_zip hy).1 with q|q
  ·exact .inl q
  ·exact .inr ⟨q,PySem.W.cellsFrom_some _ _ _ (.inl q)⟩
 refine codeAny_call_function hr.depth (KX _ _ lk) rfl S.co S.gen rfl (PySem.W.codeRec_of KX hcd) (hb _ _ _ _ ?_)
 refine wpAny_newFunctionEnv_cells S.kind hkind fun env he s1 x=>?_
 subst he
 refine⟨lim.keeps x.toInCall.keep,codeAny_func ?_⟩
 obtain⟨t,ht,hq⟩:=hbody A outer s H vs Q E (hr.deeper _) hsp
 have I:Inv (xg CX P w K mg base N qual scope f cdv A outer s H E) [] (start N vs) H s1:=AJ S hr.hd e0 hl r x
 refine wpAny_mono (ht [] s1 (start N vs) H _ I hq) (fun fl s' hs=>?_) fun e s' hs=>hs
 have fin:∀ {σ':St}{H':Hp}{v:V}{u:Value},Inv (xg CX P w K mg base N qual scope f cdv A outer s H E) [] σ' H' s'->RelV v u->Q v H'->CE outer P w H s Q u s' :=
  fun {σ' H' v u} J rv q=>⟨v,H',J.os,J.bare,J.base,J.hok,rv,q⟩
 cases fl with
 | ret u =>
  obtain⟨v,σ',H',J,rv,q⟩:=hs
  exact fin J rv q
 | next =>
  obtain⟨σ',H',J,q⟩:=hs
  exact fin (v:=V.non) (u:=Value.none) J rfl q
 | brk =>
  obtain⟨_,_,_,q⟩:=hs
  exact False.elim q
 | cont =>
  obtain⟨_,_,_,q⟩:=hs
  exact False.elim q
end L2
namespace L2
open PySem PySem.Spec PyProof.Rows
section
variable {X:Cx}{x:Str}{p pos:Pos}{e:Expr}{es:List Expr}{t:TA}{id T:String}{r:List V->Hp->VK->Prop}
noncomputable def K1 (r:List V->Hp->VK->Prop) (t:TA):TE:=fun σ H Q=>t σ H fun vs H1=>r vs H1 Q
theorem lT (hc:cR X (.builtin id) r) (hg:Gl X x) (hm:X.mg x=none) (hv:bootBuiltins x=some (.builtin id)) (ha:PA X (e::es) t) (hn:x≠"__name__":=by decide) (hdb:(x == ("__debug__":Str))=false:=by decide)
  (he:starEach (e::es) X.env=(false,eval e X.env)::starEach es X.env:=by rfl) (hpl:(backTo pos (starEach es X.env)).any (·.1)=false:=by rfl):PE X (.Call (.Name x p) (e::es) [] pos) (K1 r t):=by
 intro pins s σ H Q I h
 refine wpAny_Call_Name_kw (iJ I hg hm hv ?_ hn hdb)
 exact PyProof.Rows.callWith_builtin1 (bS (ha pos pins s σ H _ I h) fun us s1 ⟨vs,H1,I1,r1,q1⟩=>hc pins s1 σ H1 vs us Q I1 r1 q1) he hpl
theorem mr (hc:cR X (.type T) r) (hg:Gl X x) (hm:X.mg x=none) (hv:bootBuiltins x=some (.type T)) (ha:PA X (e::es) t) (hn:x≠"__name__":=by decide) (hdb:(x == ("__debug__":Str))=false:=by decide)
  (he:starEach (e::es) X.env=(false,eval e X.env)::starEach es X.env:=by rfl) (hpl:(backTo pos (starEach es X.env)).any (·.1)=false:=by rfl):PE X (.Call (.Name x p) (e::es) [] pos) (K1 r t):=by
 intro pins s σ H Q I h
 refine wpAny_Call_Name_kw (iJ I hg hm hv ?_ hn hdb)
 exact PyProof.Rows.callWith_type1 (bS (ha pos pins s σ H _ I h) fun us s1 ⟨vs,H1,I1,r1,q1⟩=>hc pins s1 σ H1 vs us Q I1 r1 q1) he hpl
end
end L2
namespace HT
open PySem PyProof.Rows
noncomputable def lexLt:List Int->List Int->Bool
 | [],[]=>false
 | [],_::_=>true
 | _::_,[]=>false
 | x::xs,y::ys=>if x=y then lexLt xs ys else decide (x < y)
theorem dh (x y:Int) (xs ys:List Int):lexLt (x::xs) (y::ys)=if x=y then lexLt xs ys else decide (x < y):=rfl
theorem qf:lexLt [] []=false:=rfl
theorem oE (y:Int) (ys:List Int):lexLt [] (y::ys)=true:=rfl
theorem og (x:Int) (xs:List Int):lexLt (x::xs) []=false:=rfl
theorem Cr (A:Around) (s:Shared) (a:Int) (t:Tok) (c:Int) (u:Tok):∃e,SeqAt.EqAt A s (.int a t) (.int c u) e/\(e=true↔a=c) :=
 ⟨(a == c),SeqAt.EqAt.int_int a t c u,by simp⟩
section
open PySem.SeqAt
open PySem.AutoSeq1 (wpAny_loadPart')
open PySem.MeetsSeq PySem.MeetsSeq2 PySem.MeetsSeq3
end
section
variable {prog:Program}{w:World}{A:Around}{E:Value->Shared->Prop}{s:Shared}
theorem Ey {t b:Addr}{vs ws:List Value}{Q:Value->Shared->Prop}(ht:IsTup s.heap t vs.toArray) (hb:IsTup s.heap b ws.toArray) (hv:vs≠[])
  (h1:ws=[]->Q (.ref t) s) (h2:ws≠[]->Q (.ref s.heap.objs.size) { s with heap:=s.heap.push { cls:=.type "tuple",data:=.seq (vs++ws).toArray } })
  (hsz:vs.length+ws.length<=sizeLine):wpAny (model prog w) A (binaryOp .Add (.ref t) (.ref b)) Q E s:=by
 obtain⟨⟨cls,dd,data,sl⟩,ho,hc,n,hd⟩:=id ht
 obtain⟨⟨cls2,dd2,data2,sl2⟩,ho2,hc2,n2,hd2⟩:=id hb
 simp only at hc hd hc2 hd2
 subst hc hd hc2 hd2
 have e:vs.toArray++ws.toArray=(vs++ws).toArray:=by simp
 by_cases hw:ws=[]
 ·exact concat_meets ⟨_,ho,rfl⟩ ⟨_,ho2,rfl⟩ noFill_tuple_add seq_tuple_add PySem.F.slot_tuple_add PySem.F.entry_tuple_add (PySem.F.args_tuple_add_2 _ _)
   (tuple_addW1 t b vs.toArray ws.toArray n n2 dd dd2 sl sl2 (by simpa using hv) (by simp[hw])) ⟨ho,ho2,h1 hw⟩
 ·refine concat_meets ⟨_,ho,rfl⟩ ⟨_,ho2,rfl⟩ noFill_tuple_add seq_tuple_add PySem.F.slot_tuple_add PySem.F.entry_tuple_add (PySem.F.args_tuple_add_2 _ _)
   (tuple_addW2 t b vs.toArray ws.toArray n n2 dd dd2 sl sl2 (by simpa using hv) (by simpa using hw) (by rw[List.size_toArray,List.size_toArray];exact hsz)) ⟨ho,ho2,?_⟩
  rw[e]
  exact h2 hw
noncomputable def cA (n d:Nat):Option Int->Nat
 | none=>d
 | some v=>if v < 0 then (v+(n:Int)).toNat else min v.toNat n
theorem wG (n d:Nat):cA n d none=d:=rfl
theorem yK (n d k:Nat):cA n d (some (k:Int))=min k n:=by
 show (if (k:Int) < 0 then ((k:Int)+(n:Int)).toNat else min (k:Int).toNat n)=min k n
 rw[if_neg (by omega),Int.toNat_natCast]
theorem G7 (n d:Nat) (hd:d<=n) (o:Option Int):cA n d o<=n:=by
 cases o with
 | none=>exact hd
 | some v =>
  show (if v < 0 then (v+(n:Int)).toNat else min v.toNat n)<=n
  by_cases hv:v < 0
  ·rw[if_pos hv];omega
  ·rw[if_neg hv];exact Nat.min_le_right _ _
theorem zy (v:Int) (n d:Nat):(if v < 0 then max (v+(n:Int)) 0 else min v (n:Int))=((cA n d (some v):Nat):Int):=by
 show (if v < 0 then max (v+(n:Int)) 0 else min v (n:Int))=(((if v < 0 then (v+(n:Int)).toNat else min v.toNat n):Nat):Int)
 by_cases hv:v < 0
 ·simp only[if_pos hv];omega
 ·simp only[if_neg hv];omega
theorem wU (lo hi:Option Int) (n:Nat):Builtin.Slice.sliceAdjust lo hi 1 (n:Int)=(((cA n 0 lo:Nat):Int),((cA n n hi:Nat):Int)):=by
 have h1:¬ ((1:Int) < 0):=by omega
 unfold Builtin.Slice.sliceAdjust
 simp only[h1,if_false]
 refine Prod.ext ?_ ?_
 ·cases lo with
  | none=>rfl
  | some v=>exact zy v n 0
 ·cases hi with
  | none=>rfl
  | some v=>exact zy v n n
theorem ym (i j:Nat):Builtin.Slice.slicePlaces (i:Int) (j:Int) 1=j - i:=by
 unfold Builtin.Slice.slicePlaces
 have h1:(1:Int) > 0:=by omega
 simp only[h1,if_true,Int.ediv_one]
 split<;>omega
theorem n8 {v:Value}{o:Option Int}{Q:Option Int->Shared->Prop}(p:IsPart v o) (h:Q o s):wpAny (model prog w) A (Builtin.Slice.slicePartIndex v) Q E s:=by
 cases p with
 | none=>exact slicePart_none h
 | int i t=>exact slicePart_int h
theorem hJ {sl:Addr}{vl vu:Value}{lo hi:Option Int}{n:Nat}{Q:Int×Int×Nat->Shared->Prop}(hs:s.heap.IsSliceOf sl vl vu .none) (pl:IsPart vl lo) (pu:IsPart vu hi)
  (h:Q (((cA n 0 lo:Nat):Int),1,cA n n hi - cA n 0 lo) s):wpAny (model prog w) A (Builtin.Slice.sliceApplied (.ref sl) (pure (n:Int))) Q E s:=by
 obtain⟨os,hos,hcs,hds⟩:=id hs
 unfold Builtin.Slice.sliceApplied Builtin.Slice.sliceFields
 refine wpAny_bind (wpAny_bind (wpAny_field hos hds (x:=vl) rfl (wpAny_bind (wpAny_field hos hds (x:=vu) rfl (wpAny_bind (wpAny_field hos hds (x:=.none) rfl (wpAny_pure ?_)))))))
 refine wpAny_bind (slicePart_none ?_)
 show wpAny _ _ (if ((1:Int) == 0)=true then _ else _) _ _ s
 rw[if_neg (by decide)]
 refine wpAny_bind (n8 pl (wpAny_bind (n8 pu (wpAny_bind (wpAny_pure ?_)))))
 show wpAny _ _ (match Builtin.Slice.sliceAdjust lo hi 1 (n:Int) with|(lo,hi)=>pure (lo,(1:Int),Builtin.Slice.slicePlaces lo hi 1)) _ _ s
 rw[wU lo hi n]
 show wpAny _ _ (pure (((cA n 0 lo:Nat):Int),(1:Int),Builtin.Slice.slicePlaces ((cA n 0 lo:Nat):Int) ((cA n n hi:Nat):Int) 1)) _ _ s
 rw[ym]
 exact wpAny_pure h
theorem D0 (xs:Array Value) (i k:Nat):((List.range k).filterMap fun (m:Nat)=>xs[((i:Int)+(m:Int) * 1).toNat]?).toArray=((xs.toList.drop i).take k).toArray:=by
 have e:(fun (m:Nat)=>xs[((i:Int)+(m:Int) * 1).toNat]?)=fun m=>xs[i+m]?:=by
  funext m
  have:((i:Int)+(m:Int) * 1).toNat=i+m:=by omega
  rw[this]
 rw[e]
 have:=pick_run xs i k
 rw[List.filterMap_map] at this
 have e2:((fun x=>xs[x]?) ∘ fun x=>i+x)=fun m=>xs[i+m]?:=rfl
 rw[e2] at this
 rw[this]
theorem lu {t sl:Addr}{items:Array Value}{vl vu:Value}{lo hi:Option Int}{Q:Value->Shared->Prop}(ht:IsTup s.heap t items) (hs:s.heap.IsSliceOf sl vl vu .none) (pl:IsPart vl lo) (pu:IsPart vu hi)
  (hw:¬ (cA items.size 0 lo=0/\cA items.size items.size hi=items.size))
  (h:Q (.ref s.heap.objs.size) { s with heap:=s.heap.push { cls:=.type "tuple",data:=.seq ((items.toList.drop (cA items.size 0 lo)).take (cA items.size items.size hi - cA items.size 0 lo)).toArray } })
  (hsz:items.size<=sizeLine):wpAny (model prog w) A (getItem (.ref t) (.ref sl)) Q E s:=by
 have htake:sizeOk (.seq ((items.toList.drop (cA items.size 0 lo)).take (cA items.size items.size hi - cA items.size 0 lo)).toArray):=by
  show ((items.toList.drop (cA items.size 0 lo)).take (cA items.size items.size hi - cA items.size 0 lo)).toArray.size<=sizeLine
  rw[List.size_toArray,List.length_take,List.length_drop,Array.length_toList]
  omega
 have hj:cA items.size items.size hi<=items.size:=G7 _ _ (Nat.le_refl _) hi
 obtain⟨os,hos,hcs,hds⟩:=id hs
 have hTs:s.TypeIs (.ref sl) "slice":=⟨os,hos,hcs⟩
 unfold getItem
 try with_reducible refine wpAny_holding ?_
 first|refine wpAny_bind (wpAny_pure ?_)|skip
 refine wpAny_bind (wpAny_sequenceKey ht.typeIs (by decide) ?_)
 refine wpAny_bind (wpAny_callSpecial?_slot (name:=Str.ofString "__getitem__") ht.typeIs PyProof.Rows.slot_tuple_getitem
  (wpAny_call_entry PyProof.Rows.slot_tuple_getitem ht.typeIs entry_tuple_getitem ?_ (args_tuple_getitem _ _)))
 show wpAny _ _ (Builtin.Tuple.tupleItemsOf (.ref t) >>= _) _ _ s
 refine wpAny_bind (tupleItemsOf_ ht ?_)
 refine wpAny_bind (wpAny_typeOf hTs ?_)
 rw[if_pos (by decide)]
 refine wpAny_bind (hJ hs pl pu ?_)
 have hno:¬ ((((cA items.size 0 lo:Nat):Int) == 0&&(1:Int) == 1&&(cA items.size items.size hi - cA items.size 0 lo) == items.size)=true):=by
  intro q
  rw[Bool.and_eq_true,Bool.and_eq_true] at q
  have q1:((cA items.size 0 lo:Nat):Int)=0:=eq_of_beq q.1.1
  have q2:cA items.size items.size hi - cA items.size 0 lo=items.size:=eq_of_beq q.2
  exact hw ⟨by omega,by omega⟩
 show wpAny _ _ (if (((cA items.size 0 lo:Nat):Int) == 0&&(1:Int) == 1&&(cA items.size items.size hi - cA items.size 0 lo) == items.size)=true then _ else _) _ _ s
 rw[if_neg hno,D0]
 first
  | exact wpAny_bind (m:=Builtin.Tuple.tupleExact _) (wpAny_newObj_type (wpAny_pure ⟨_,rfl,wpAny_pure h⟩) htake)
  | exact wpAny_bind (m:=Builtin.Tuple.tupleExact _) (wpAny_newObj_type (wpAny_bind (wpAny_pure (wpAny_pure ⟨_,rfl,wpAny_pure h⟩))) htake)
  | exact wpAny_bind (wpAny_bind (m:=Builtin.Tuple.tupleExact _) (wpAny_newObj_type (wpAny_pure (wpAny_pure ⟨_,rfl,wpAny_pure h⟩)) htake))
  | exact wpAny_bind (wpAny_bind (m:=Builtin.Tuple.tupleExact _) (wpAny_newObj_type (wpAny_pure ⟨_,rfl,wpAny_pure h⟩) htake))
end
end HT
namespace L2
open PySem PySem.Spec PyProof.Rows
noncomputable abbrev TO:=St->Hp->(Option Int->Hp->Prop)->Prop
noncomputable def PO (X:Cx) (e:Option Expr) (t:TO):Prop :=
 ∀ (pins:List (Addr×Obj)) (s:Shared) (σ:St) (H:Hp) (Q:Option Int->Hp->Prop),Inv X pins σ H s->t σ H Q ->
  wpAny (model X.prog X.w) X.A (evalPart e X.env) (fun u s'=>∃o H',Inv X pins σ H' s'/\IsPart u o/\Q o H') X.xe s
noncomputable def FM:TO:=fun _ H Q=>Q none H
noncomputable def Kx (t:TE):TO:=fun σ H Q=>t σ H fun x H1=>∃i,x=.int i/\Q (some i) H1
theorem intsAre_of {ns:List Int}:∀ {us:List Value},aC (ns.map V.int) us->IntsAre us ns:=by
 induction ns with
 | nil=>intro us r;rw[List.map_nil] at r;cases r;exact .nil
 | cons n ns ih =>
  intro us r
  rw[List.map_cons] at r
  cases r with
  | cons r1 r2 =>
   obtain⟨t,e⟩:=r1
   subst e
   exact .cons n t (ih r2)
section
variable {X:Cx}{e:Expr}{te:TE}{lo hi:Option Expr}{tl th:TO}{pos p2:Pos}
theorem Ej:PO X none FM:=by
 intro pins s σ H Q I h
 rw[evalPart_none]
 exact wpAny_pure ⟨none,H,I,.none,h⟩
theorem nO (h:PE X e te):PO X (some e) (Kx te):=by
 intro pins s σ H Q I hw
 rw[evalPart_some]
 refine bS (h pins s σ H _ I hw) fun u s1 ⟨x,H1,I1,r1,q1⟩=>?_
 obtain⟨i,rfl,q⟩:=q1
 obtain⟨t,rfl⟩:=r1
 exact⟨some i,H1,I1,.int i t,q⟩
noncomputable def Fk (X:Cx) (r:V->Option Int->Option Int->Hp->VK->Prop):Prop :=
 ∀ (pins:List (Addr×Obj)) (s:Shared) (σ:St) (H:Hp) (x:V) (v vl vu:Value) (lo hi:Option Int) (sl:Addr) (Q:VK),Inv X pins σ H s->RelV x v->s.heap.IsSliceOf sl vl vu .none->IsPart vl lo->IsPart vu hi->r x lo hi H Q ->
  ∃T id,typeLookup (.type T) "__getitem__"=pure (some (.builtin id))/\s.TypeIs v T/\wpAny (model X.prog X.w) X.A (getItem v (.ref sl)) (EP X pins σ Q) X.xe s
theorem Fk.or {r r':V->Option Int->Option Int->Hp->VK->Prop}(h:Fk X r) (h':Fk X r'):Fk X (fun x lo hi H Q=>r x lo hi H Q\/r' x lo hi H Q):=by
 intro pins s σ H x v vl vu lo hi sl Q I rx hs pl pu q
 rcases q with q|q
 ·exact h pins s σ H x v vl vu lo hi sl Q I rx hs pl pu q
 ·exact h' pins s σ H x v vl vu lo hi sl Q I rx hs pl pu q
noncomputable def Mw (r:V->Option Int->Option Int->Hp->VK->Prop) (te:TE) (tl th:TO):TE:=fun σ H Q=>te σ H fun x H1=>tl σ H1 fun l H2=>th σ H2 fun u H3=>r x l u H3 Q
theorem CD {r:V->Option Int->Option Int->Hp->VK->Prop}(hr:Fk X r) (he:PE X e te) (hl:PO X lo tl) (hu:PO X hi th):PE X (.Subscript e (.Slice lo hi none p2) pos) (Mw r te tl th):=by
 intro pins s σ H Q I h
 refine Subscript_ (bS (he pins s σ H _ I h) fun v s1 ⟨x,H1,I1,r1,q1⟩=>?_)
 refine wpAny_Slice (bS (hl pins s1 σ H1 _ I1 q1) fun vl s2 ⟨l,H2,I2,pl,q2⟩=>bS (hu pins s2 σ H2 _ I2 q2) fun vu s3 ⟨u,H3,I3,pu,q3⟩=>?_)
 rw[evalPart_none]
 refine wpAny_pure ?_
 have I4:Inv X pins σ H3 { s3 with heap:=s3.heap.push { cls:=.type "slice",data:=.fields #[vl,vu,.none] } }:=I3.kept (t':=s3.toks) fun b ob q=>Heap.get?_push_of_some _ q
 obtain⟨T,id,hT,ht,hg⟩:=hr pins { s3 with heap:=s3.heap.push { cls:=.type "slice",data:=.fields #[vl,vu,.none] } } σ H3 x v vl vu l u s3.heap.objs.size Q I4 r1 (Heap.IsSliceOf.new ..) pl pu q3
 show wpAny (model X.prog X.w) X.A (subscriptTail e (.Slice lo hi none p2) v (.ref s3.heap.objs.size)) (EP X pins σ Q) X.xe { s3 with heap:=s3.heap.push { cls:=.type "slice",data:=.fields #[vl,vu,.none] } }
 exact tail_any (ops:=[.ref s3.heap.objs.size,v]) ht hT hg (by with_unfolding_all rfl)
noncomputable def zA (xs:List V) (lo hi:Option Int):List V:=(xs.drop (HT.cA xs.length 0 lo)).take (HT.cA xs.length xs.length hi - HT.cA xs.length 0 lo)
theorem m9 (xs:List V) (lo hi:Option Int):(zA xs lo hi).length<=xs.length:=by
 unfold zA
 rw[List.length_take,List.length_drop]
 omega
noncomputable def LS (K:PySem.W.Frag):V->Option Int->Option Int->Hp->VK->Prop:=fun x lo hi H Q=>∃a xs,x=.ref a/\i3 K H a xs /\
 ¬ (HT.cA xs.length 0 lo=0/\HT.cA xs.length xs.length hi=xs.length)/\∀p,H p=none->Q (.ref p) (upd H p (.tup (zA xs lo hi)))
theorem Ic:Fk X (LS X.K):=by
 intro pins s σ H x v vl vu lo hi sl Q I rx hs pl pu h
 obtain⟨a,xs,rfl,hx,hw,q⟩:=h
 cases rx
 obtain⟨its,r,ht,hz⟩:=I.tuple hx
 have hlen:its.toArray.size=xs.length:=by rw[List.size_toArray];exact r.length.symm
 refine⟨"tuple",_,PyProof.Rows.slot_tuple_getitem.lookup,ht.typeIs,?_⟩
 refine HT.lu ht hs pl pu (by rw[hlen];exact hw) ?_ (by rw[hlen];exact hz)
 rw[hlen]
 refine⟨.ref s.heap.objs.size,_,I.laid (t':=s.toks) (o:=.tup (zA xs lo hi)) (fun b ob q=>Heap.get?_push_of_some _ q) (Nat.le_refl _) ?_,rfl,q _ (I.hok.fresh (Nat.le_refl _))⟩
 exact⟨Nat.le_trans (m9 xs lo hi) hz,_,(r.drop (HT.cA xs.length 0 lo)).take (HT.cA xs.length xs.length hi - HT.cA xs.length 0 lo),l6.new _ _⟩
noncomputable def Km (K:PySem.W.Frag):R2:=fun x y H Q=>∃a b xs ys,x=.ref a/\y=.ref b/\i3 K H a xs/\i3 K H b ys/\xs≠[]/\xs.length+ys.length<=sizeLine /\
 (ys=[]->Q (.ref a) H)/\(ys≠[]->∀p,H p=none->Q (.ref p) (upd H p (.tup (xs++ys))))
theorem aC.nil_iff {xs:List V}{us:List Value}(r:aC xs us):us=[]↔xs=[]:=by
 cases r with
 | nil=>simp
 | cons _ _=>simp
theorem Fe:gS X (binaryOp .Add) (Km X.K):=by
 intro pins s σ H x y v u Q I rx ry h
 obtain⟨a,b,xs,ys,rfl,rfl,ha,hb,hx,hz,q1,q2⟩:=h
 cases rx
 cases ry
 obtain⟨its,r1,p1,_⟩:=I.tuple ha
 obtain⟨its2,r2,p2,_⟩:=I.tuple hb
 refine HT.Ey p1 p2 (fun z=>hx (r1.nil_iff.mp z)) (fun z=>⟨.ref a,H,I,rfl,q1 (r2.nil_iff.mp z)⟩) (fun z=>?_) (by rw[<- r1.length,<- r2.length];exact hz)
 refine⟨.ref s.heap.objs.size,_,I.laid (t':=s.toks) (o:=.tup (xs++ys)) (fun b ob q=>Heap.get?_push_of_some _ q) (Nat.le_refl _) ?_,rfl,q2 (fun w=>z (r2.nil_iff.mpr w)) _ (I.hok.fresh (Nat.le_refl _))⟩
 exact⟨by rw[List.length_append];exact hz,_,r1.append r2,l6.new _ _⟩
end
end L2
namespace L2
open PySem PySem.Spec PyProof.Rows
noncomputable def Eb (n:Nat) (i:Int):Option Nat:=if 0<=i then (if i < n then some i.toNat else none) else if -(n:Int)<=i then some (i+n).toNat else none
noncomputable def sV {α:Type}(xs:List α) (i:Int):Option α:=(Eb xs.length i).bind fun j=>xs[j]?
theorem yt {n:Nat}{i:Int}{j:Nat}(h:Eb n i=some j):seqIndex? i n=some j/\j < n/\-(n:Int)<=i/\i < n:=by
 unfold Eb at h
 by_cases h0:0<=i
 ·rw[if_pos h0] at h
  by_cases h1:i < n
  ·rw[if_pos h1] at h
   have e:i.toNat=j:=Option.some.inj h
   exact⟨by rw[seqIndex_of h0 h1,e],by omega,by omega,h1⟩
  ·rw[if_neg h1] at h;cases h
 ·rw[if_neg h0] at h
  by_cases h1:-(n:Int)<=i
  ·rw[if_pos h1] at h
   have e:(i+n).toNat=j:=Option.some.inj h
   exact⟨by rw[seqIndex_neg (by omega) h1,e],by omega,h1,by omega⟩
  ·rw[if_neg h1] at h;cases h
theorem sN {α:Type}{xs:List α}{i:Int}{v:α}(h:sV xs i=some v):∃j,seqIndex? i xs.length=some j/\xs[j]?=some v/\j < xs.length/\-(xs.length:Int)<=i/\i < xs.length:=by
 unfold sV at h
 cases e:Eb xs.length i with
 | none=>rw[e] at h;cases h
 | some j =>
  rw[e] at h
  obtain⟨h1,h2,h3,h4⟩:=yt e
  exact⟨j,h1,h,h2,h3,h4⟩
theorem tX {α:Type}{xs:List α}{j:Nat}{v:α}(h:xs[j]?=some v):sV xs (j:Int)=some v:=by
 have hj:j < xs.length:=(List.getElem?_eq_some_iff.mp h).1
 have e:Eb xs.length (j:Int)=some j:=by
  unfold Eb
  rw[if_pos (by omega),if_pos (by omega)];simp
 unfold sV;rw[e];exact h
noncomputable def tG (b:Expr):Prop:=∀o i,subscripted b false o i=operate [o,i] (getItem o i)
noncomputable def FN (X:Cx) (r:R2):Prop :=
 ∀ (value slice:Expr) (pins:List (Addr×Obj)) (s:Shared) (σ:St) (H:Hp) (x y:V) (v u:Value) (Q:VK),Inv X pins σ H s->RelV x v->RelV y u->r x y H Q ->
  subscripted slice false v u=operate [v,u] (getItem v u)->wpAny (model X.prog X.w) X.A (subscriptTail value slice v u) (EP X pins σ Q) X.xe s
noncomputable def JI (X:Cx) (id:String) (r:V->List V->Hp->VK->Prop):Prop :=
 ∀ (pins:List (Addr×Obj)) (s:Shared) (σ:St) (H:Hp) (x:V) (xs:List V) (v:Value) (us:List Value) (Q:VK),Inv X pins σ H s->RelV x v->aC xs us->r x xs H Q ->
  wpAny (model X.prog X.w) X.A (call (.builtin id) (v::us)) (EP X pins σ Q) X.xe s
section
variable {X:Cx}{a b:Expr}{ta tb:TE}{pos:Pos}
theorem FN.or {r r':R2}(h:FN X r) (h':FN X r'):FN X (fun x y H Q=>r x y H Q\/r' x y H Q):=by
 intro value slice pins s σ H x y v u Q I rx ry q hs
 rcases q with q|q
 ·exact h value slice pins s σ H x y v u Q I rx ry q hs
 ·exact h' value slice pins s σ H x y v u Q I rx ry q hs
theorem JI.or {id:String}{r r':V->List V->Hp->VK->Prop}(h:JI X id r) (h':JI X id r'):JI X id (fun x xs H Q=>r x xs H Q\/r' x xs H Q):=by
 intro pins s σ H x xs v us Q I rx rs q
 rcases q with q|q
 ·exact h pins s σ H x xs v us Q I rx rs q
 ·exact h' pins s σ H x xs v us Q I rx rs q
theorem Kn {r:R2}(hr:FN X r) (ha:PE X a ta) (hb:PE X b tb) (hs:tG b):PE X (.Subscript a b pos) (JW r ta tb):=by
 intro pins s σ H Q I h
 exact Subscript_ (HJ ha hb I h fun v u s2 x y H2 I2 rx ry q=>hr a b pins s2 σ H2 x y v u Q I2 rx ry q (hs _ _))
noncomputable def Kk (K:PySem.W.Frag):R2:=fun x y H Q=>∃p xs i v,x=.ref p/\y=.int i/\ib K H p xs/\sV xs i=some v/\Q v H
noncomputable def J6 (K:PySem.W.Frag):R2:=fun x y H Q=>∃p xs i v,x=.ref p/\y=.int i/\i3 K H p xs/\sV xs i=some v/\Q v H
noncomputable def KC:R2:=fun x y H Q=>∃z i c,x=.str z/\y=.int i/\z.length<=sizeLine/\sV z.cps.toList i=some c/\Q (.str ⟨#[c]⟩) H
theorem Fo:FN X (Kk X.K):=by
 intro value slice pins s σ H x y v u Q I rx ry h hs
 obtain⟨p,xs,i,z,rfl,rfl,hq,he,q⟩:=h
 cases rx
 obtain⟨t,rfl⟩:=ry
 obtain⟨its,r,pl,hz⟩:=I.list hq
 obtain⟨j,h1,h2,h3,h4,h5⟩:=sN he
 obtain⟨w,ew,rw'⟩:=r.get h2
 have hl:=r.length
 have hn:=pd
 have fin:EP X pins σ Q w s:=⟨z,H,I,rw',q⟩
 by_cases h0:0<=i
 ·have hj:i.toNat=j:=by
   rw[seqIndex_of h0 h5] at h1
   exact Option.some.inj h1
  exact item_listR pl.isList h0 (by omega) (by rw[hj];simpa using ew) fin hs
 ·have hj:(i+(its.toArray.size:Int)).toNat=j:=by
   rw[seqIndex_neg (by omega) h4] at h1
   rw[List.size_toArray,<- hl]
   exact Option.some.inj h1
  exact subscriptTail_builtinR (x:=w) pl.isList.typeIs slot_list_getitem.lookup
   (wpAny_getItem_list_neg (Q:=fun r s'=>r=w/\EP X pins σ Q r s') pl.isList (by omega) (by rw[List.size_toArray]<;>omega) (by omega) (by rw[hj];simpa using ew) ⟨rfl,fin⟩) hs
theorem n5:FN X (J6 X.K):=by
 intro value slice pins s σ H x y v u Q I rx ry h hs
 obtain⟨p,xs,i,z,rfl,rfl,hq,he,q⟩:=h
 cases rx
 obtain⟨t,rfl⟩:=ry
 obtain⟨its,r,pl,hz⟩:=I.tuple hq
 obtain⟨j,h1,h2,h3,h4,h5⟩:=sN he
 obtain⟨w,ew,rw'⟩:=r.get h2
 have hl:=r.length
 have hn:=pd
 have fin:EP X pins σ Q w s:=⟨z,H,I,rw',q⟩
 exact subscriptTail_builtinR (x:=w) pl.typeIs slot_tuple_getitem.lookup
  (getItem_tuple (j:=j) (Q:=fun r s'=>r=w/\EP X pins σ Q r s') pl (by omega) (by omega) (by rw[List.size_toArray,<- hl];exact h1) (by simpa using ew) ⟨rfl,fin⟩) hs
theorem ID:FN X KC:=by
 intro value slice pins s σ H x y v u Q I rx ry h hs
 obtain⟨z,i,c,rfl,rfl,hz,he,q⟩:=h
 obtain⟨t,rfl⟩:=rx
 obtain⟨t',rfl⟩:=ry
 obtain⟨j,h1,h2,h3,h4,h5⟩:=sN he
 have hl:z.cps.toList.length=z.length:=by simp[Str.length]
 rw[hl] at h1 h4 h5
 have hn:=pd
 exact tail_any (typeIs_str s z t) slot_str_getitem.lookup (getItem_str (c:=c) (by
  have e1:decide (i < -(2 ^ 63:Int))=false:=decide_eq_false (by omega)
  have e2:decide (i >= 2 ^ 63)=false:=decide_eq_false (by omega)
  rw[e1,e2,Bool.or_false]) (by rw[h1];simpa using h2) ⟨.str ⟨#[c]⟩,H,I.tok _,⟨_,rfl⟩,q⟩) hs
noncomputable def Mg (K:PySem.W.Frag):R2:=fun x y H Q=>Kk K x y H Q\/J6 K x y H Q\/KC x y H Q
theorem IC:FN X (Mg X.K):=Fo.or (n5.or ID)
theorem yl (its:List Value) (n j:Nat) (u:Value):Obj.mapSeq (·.setIfInBounds j u) { cls:=.type "list",data:=.seq its.toArray n }={ cls:=.type "list",data:=.seq (its.set j u).toArray n }:=by
 simp[Obj.mapSeq]
theorem Inv.lst {pins:List (Addr×Obj)}{σ:St}{H:Hp}{s:Shared}{p:Addr}{xs:List V}(I:Inv X pins σ H s) (h:H p=some (.lst xs)) :
  ∃ (its:List Value) (n:Nat),aC xs its/\s.heap.get? p=some { cls:=.type "list",data:=.seq its.toArray n }/\xs.length<=sizeLine:=by
 obtain⟨z,its,n,r,e⟩:=I.hok p _ h
 exact⟨its,n,r,e,z⟩
theorem Inv.lstUpd {pins:List (Addr×Obj)}{σ:St}{H:Hp}{s:Shared}{p:Addr}{xs ys:List V}{its its':List Value}{n n':Nat}{f:Obj->Obj}(I:Inv X pins σ H s) (h:H p=some (.lst xs))
  (ho:s.heap.get? p=some { cls:=.type "list",data:=.seq its.toArray n }) (hf:f { cls:=.type "list",data:=.seq its.toArray n }={ cls:=.type "list",data:=.seq its'.toArray n' }) (r:aC ys its') (hz:ys.length<=sizeLine) (t:Nat) :
  Inv X pins σ (upd H p (.lst ys)) { s with heap:=s.heap.update p f,toks:=t }:=by
 have e:(s.heap.update p f).get? p=some { cls:=.type "list",data:=.seq its'.toArray n' }:=by
  rw[Heap.get?_update_self f ho (by rw[hf]<;>rfl),hf]
 refine I.write (x:=p) (e:=p) (by rw[h];trivial) (.inl rfl) (fun b u hb q=>(Heap.get?_update_other _ _ (Ne.symm hb)).trans q) ⟨_,e⟩ ?_
 exact⟨hz,its',n',r,e⟩
noncomputable def KU:V->V->V->Hp->(Hp->Prop)->Prop:=fun o i v H Q=>∃p xs k j,o=.ref p/\i=.int k/\H p=some (.lst xs)/\Eb xs.length k=some j/\Q (upd H p (.lst (xs.set j v)))
theorem set_list:J5 X KU:=by
 intro pins s σ H o i v ov iv u Q I ro ri rv h
 obtain⟨p,xs,k,j,rfl,rfl,hp,hj,q⟩:=h
 cases ro
 obtain⟨t,rfl⟩:=ri
 obtain⟨its,n,r,ho,hz⟩:=I.lst hp
 obtain⟨h1,h2,h3,h4⟩:=yt hj
 have hl:=r.length
 have hn:=pd
 have I':Inv X pins σ (upd H p (.lst (xs.set j v))) { s with heap:=s.heap.update p (Obj.mapSeq (·.setIfInBounds j u)) } :=
  I.lstUpd hp ho (yl its n j u) (r.set rv j) (by rw[List.length_set];exact hz) s.toks
 by_cases h0:0<=k
 ·have hk:k.toNat=j:=by
   rw[seqIndex_of h0 h4] at h1
   exact Option.some.inj h1
  exact PySem.W.ki_setAt ho h0 (by omega) (by rw[List.size_toArray,<- hl];exact h4) (by rw[hk];exact⟨_,I',q⟩)
 ·have hk:(k+(its.toArray.size:Int)).toNat=j:=by
   rw[seqIndex_neg (by omega) h3] at h1
   rw[List.size_toArray,<- hl]
   exact Option.some.inj h1
  exact PySem.W.ki_setBack ho (by omega) (by rw[List.size_toArray,<- hl];exact h3) (by omega) (by rw[hk];exact⟨_,I',q⟩)
theorem tw (lo hi:Option Int) (n:Nat):(sliceBounds lo hi none n).1=((HT.cA n 0 lo:Nat):Int)/\(sliceBounds lo hi none n).2.1=((HT.cA n n hi:Nat):Int)/\(sliceBounds lo hi none n).2.2=1:=by
 refine⟨?_,?_,rfl⟩
 ·cases lo with
  | none=>simp[sliceBounds,HT.cA]
  | some i =>
   simp only[sliceBounds,HT.cA,Option.getD_none,show (1:Int) > 0 by decide,if_true]
   by_cases h:i < 0
   ·simp only[h,if_true]<;>omega
   ·simp only[h,if_false]<;>omega
 ·cases hi with
  | none=>simp[sliceBounds,HT.cA]
  | some i =>
   simp only[sliceBounds,HT.cA,Option.getD_none,show (1:Int) > 0 by decide,if_true]
   by_cases h:i < 0
   ·simp only[h,if_true]<;>omega
   ·simp only[h,if_false]<;>omega
theorem qJ (its:List Value) (lo hi:Option Int):slicePick its.toArray lo hi none=((its.drop (HT.cA its.length 0 lo)).take (HT.cA its.length its.length hi - HT.cA its.length 0 lo)).toArray:=by
 obtain⟨h1,h2,h3⟩:=tw lo hi its.toArray.size
 unfold slicePick
 rw[h1,h2,h3]
 simp only[sliceRange_one,pick_run,List.size_toArray]<;>rfl
noncomputable def Jz (K:PySem.W.Frag):V->Option Int->Option Int->Hp->VK->Prop:=fun x lo hi H Q=>∃a xs,x=.ref a/\ib K H a xs/\∀p,H p=none->Q (.ref p) (upd H p (.lst (zA xs lo hi)))
theorem zp:Fk X (Jz X.K):=by
 intro pins s σ H x v vl vu lo hi sl Q I rx hs pl pu h
 obtain⟨a,xs,rfl,hx,q⟩:=h
 cases rx
 obtain⟨its,r,ht,hz⟩:=I.list hx
 have hlen:=r.length
 refine⟨"list",_,slot_list_getitem.lookup,ht.isList.typeIs,?_⟩
 refine wpAny_getItem_list_slice ht.isList hs pl pu .none (by simp) ?_ (by rw[List.size_toArray]<;>omega)
 rw[qJ,<- hlen]
 refine⟨.ref s.heap.objs.size,_,I.laid (t':=s.toks) (o:=.lst (zA xs lo hi)) (fun b ob q=>Heap.get?_push_of_some _ q) (Nat.le_refl _) ?_,rfl,q _ (I.hok.fresh (Nat.le_refl _))⟩
 exact⟨Nat.le_trans (m9 xs lo hi) hz,_,0,(r.drop (HT.cA xs.length 0 lo)).take (HT.cA xs.length xs.length hi - HT.cA xs.length 0 lo),Heap.get?_push_size _ rfl⟩
theorem ur:cR X (.builtin "len") (fun xs H Q=>∃p ys,xs=[.ref p]/\(ib X.K H p ys\/i3 X.K H p ys)/\Q (.int ys.length) H):=by
 intro pins s σ H xs us Q I r h
 obtain⟨p,ys,rfl,hq,q⟩:=h
 obtain⟨u,rfl,rx⟩:=vals1 r
 cases rx
 have hn:=pd
 rcases hq with hq|hq
 ·obtain⟨its,r',pl,hz⟩:=I.list hq
  have hlen:=r'.length
  exact Calls.call_len_list pl.isList (by simp only[List.size_toArray]<;>omega) ⟨.int ys.length,H,I.tok _,⟨s.toks+1,by rw[List.size_toArray,hlen]⟩,q⟩
 ·obtain⟨its,r',pl,hz⟩:=I.tuple hq
  have hlen:=r'.length
  exact len_tuple pl (by simp only[List.size_toArray]<;>omega) ⟨.int ys.length,H,I.tok _,⟨s.toks+1,by rw[List.size_toArray,hlen]⟩,q⟩
theorem cR.or {f:Value}{r r':List V->Hp->VK->Prop}(h:cR X f r) (h':cR X f r'):cR X f (fun xs H Q=>r xs H Q\/r' xs H Q):=by
 intro pins s σ H xs us Q I rs q
 rcases q with q|q
 ·exact h pins s σ H xs us Q I rs q
 ·exact h' pins s σ H xs us Q I rs q
theorem ub:cR X (.type "list") (fun xs H Q=>∃p ys,xs=[.ref p]/\(ib X.K H p ys\/i3 X.K H p ys)/\∀l,H l=none->Q (.ref l) (upd H l (.lst ys))):=by
 intro pins s σ H xs us Q I r h
 obtain⟨p,ys,rfl,hq,q⟩:=h
 obtain⟨u,rfl,rx⟩:=vals1 r
 cases rx
 have fin:∀ (its:List Value),aC ys its->ys.length<=sizeLine->∀ (h':Heap) (c':Nat),(∀b o',s.heap.get? b=some o'->h'.get? b=some o') ->
   h'.get? s.heap.objs.size=some { cls:=.type "list",dict:=none,data:=.seq its.toArray c',slots:=#[] }->EP X pins σ Q (.ref s.heap.objs.size) { s with heap:=h' }:=fun its r' hz h' c' kp e =>
  ⟨.ref s.heap.objs.size,_,I.laid (t':=s.toks) kp (Nat.le_refl _) (show eE X.prog X.w _ h' _ (.lst ys) from ⟨hz,its,c',r',e⟩),rfl,q _ (I.hok.fresh (Nat.le_refl _))⟩
 rcases hq with hq|hq
 ·obtain⟨its,r',pl,hz⟩:=I.list hq
  have hlen:=r'.length
  obtain⟨o,ho,hc,n,hd⟩:=pl.isList
  exact call_list_seq p (.inl rfl) ho hc hd (fun h' c' kp e=>fin its r' hz h' c' kp e) (by simp only[List.size_toArray]<;>omega)
 ·obtain⟨its,r',pl,hz⟩:=I.tuple hq
  have hlen:=r'.length
  obtain⟨o,ho,hc,n,hd⟩:=pl
  exact call_list_seq p (.inr rfl) ho hc hd (fun h' c' kp e=>fin its r' hz h' c' kp e) (by simp only[List.size_toArray]<;>omega)
theorem qu:cR X (.type "tuple") (fun xs H Q=>∃p ys,xs=[.ref p]/\((ib X.K H p ys/\∀l,H l=none->Q (.ref l) (upd H l (.tup ys)))\/(i3 X.K H p ys/\Q (.ref p) H))):=by
 intro pins s σ H xs us Q I r h
 obtain⟨p,ys,rfl,h⟩:=h
 obtain⟨u,rfl,rx⟩:=vals1 r
 cases rx
 rcases h with ⟨hq,q⟩|⟨hq,q⟩
 ·obtain⟨its,r',pl,hz⟩:=I.list hq
  have hlen:=r'.length
  refine call_tuple_list pl.isList (fun h' kp=>?_) (by simp only[List.size_toArray]<;>omega)
  have I1:Inv X pins σ H { s with heap:=h' }:=I.kept (t':=s.toks) kp
  have I2:Inv X pins σ (upd H h'.objs.size (.tup ys)) { s with heap:=h'.push { cls:=.type "tuple",data:=.seq its.toArray } } :=
   I1.laid (t':=s.toks) (fun b o e=>Heap.get?_push_of_some _ e) (Nat.le_refl _) (show eE X.prog X.w _ _ _ (.tup ys) from ⟨hz,its,r',l6.new _ _⟩)
  exact⟨.ref h'.objs.size,_,I2,rfl,q _ (I1.hok.fresh (Nat.le_refl _))⟩
 ·obtain⟨its,r',pl,hz⟩:=I.tuple hq
  exact call_tuple_same pl ⟨.ref p,H,I,rfl,q⟩
noncomputable def Mh (K:PySem.W.Frag) (T:String) (x:V) (H:Hp):Prop:=match x with
 | .str _=>T="str"
 | .int _=>T="int"
 | .ref p=>(T="list"/\∃xs,ib K H p xs)\/(T="tuple"/\∃xs,i3 K H p xs) \/
   (T="dict"/\((∃kvs,H p=some (.dK kvs))\/∃kvs,H p=some (.dT kvs)))\/(T="set"/\∃S n,H p=some (.set S n))
 | _=>False
theorem JD {pins:List (Addr×Obj)}{σ:St}{H:Hp}{s:Shared}{T:String}{x:V}{v:Value}(I:Inv X pins σ H s) (r:RelV x v) (ty:Mh X.K T x H) :
  s.TypeIs v T/\∀a,v=.ref a->∃ob,s.heap.get? a=some ob/\ob.dict=none:=by
 cases x with
 | str z =>
  obtain⟨t,rfl⟩:=r
  cases (show T="str" from ty)
  exact⟨typeIs_str s z t,fun _ e=>nomatch e⟩
 | int i =>
  obtain⟨t,rfl⟩:=r
  cases (show T="int" from ty)
  exact⟨typeIs_int s i t,fun _ e=>nomatch e⟩
 | ref p =>
  cases r
  rcases ty with ⟨rfl,xs,hq⟩|⟨rfl,xs,hq⟩|⟨rfl,hk⟩|⟨rfl,S,n,hk⟩
  ·obtain⟨its,_,pl,_⟩:=I.list hq
   refine⟨pl.isList.typeIs,fun a e=>?_⟩
   cases e
   obtain⟨o,n,e,c,hd,_⟩:=pl
   exact⟨o,e,hd⟩
  ·rcases hq with hq|⟨o,its,n,hk,hc,hd,_⟩
   ·obtain⟨_,_,_,⟨o,e1,e2,_⟩,o2,e3,e4⟩:=hq.ok I.hok
    exact⟨⟨o,e1,e2⟩,fun a e=>by cases e;exact⟨o2,e3,e4⟩⟩
   ·exact⟨⟨o,I.kIn p o hk,hc⟩,fun a e=>by cases e;exact⟨o,I.kIn _ o hk,hd⟩⟩
  ·have z:∃o,s.heap.get? p=some o/\o.ExactDict:=by
    rcases hk with ⟨kvs,hk⟩|⟨kvs,hk⟩
    ·obtain⟨_,_,_,_,o,_,_,e,ex,_⟩:=I.hok p _ hk
     exact⟨o,e,ex⟩
    ·obtain⟨_,_,_,_,o,_,_,e,ex,_⟩:=I.hok p _ hk
     exact⟨o,e,ex⟩
   obtain⟨o,e,ex⟩:=z
   refine⟨⟨o,e,ex.1⟩,fun a e2=>?_⟩
   cases e2
   exact⟨o,e,ex.2.1⟩
  ·obtain⟨o,_,_,_,e,ex,_⟩:=I.hok p _ hk
   refine⟨⟨o,e,ex.1⟩,fun a e2=>?_⟩
   cases e2
   exact⟨o,e,ex.2.1⟩
 | _=>exact False.elim ty
noncomputable def Mv (K:PySem.W.Frag) (T:String) (r:V->List V->Hp->VK->Prop) (to:TE) (t:TA):TE:=fun σ H Q=>to σ H fun x H1=>Mh K T x H1/\t σ H1 fun xs H2=>r x xs H2 Q
variable {o e:Expr}{es:List Expr}{to:TE}{t:TA}{name:Str}{apos cpos:Pos}{T id:String}{r:V->List V->Hp->VK->Prop}
theorem qZ (pa:PlainAttrs T) (slot:Slot T name id) (hty:typeOf (.builtin id)=pure (.type "method_descriptor")) (hm:JI X id r) (ho:PE X o to) (ha:PA X (e::es) t)
  (hbase:attributeBase o name X.env (eval o X.env)=eval o X.env:=by rfl)
  (hfew:((backTo cpos (starEach (e::es) X.env)).all (fun x=>!x.1)&&(backToKw cpos (keywordEach [] X.env)).all (fun x=>x.1.isSome)
   &&decide ((e::es).length+([]:List Keyword).length+(if ([]:List Keyword).isEmpty then 0 else 1) < 30))=true:=by rfl)
  (hline:(apos.endLine == cpos.line)=true:=by rfl) (hs:starEach (e::es) X.env=(false,eval e X.env)::starEach es X.env:=by rfl) (hplain:(backTo cpos (starEach es X.env)).any (·.1)=false:=by rfl) :
  PE X (.Call (.Attribute o name apos) (e::es) [] cpos) (Mv X.K T r to t):=by
 intro pins s σ H Q I h
 refine wpAny_Call_method_late hbase hfew hline rfl (bS (ho pins s σ H _ I h) fun v s1 ⟨x,H1,I1,r1,ty,q1⟩=>?_)
 obtain⟨h1,h2⟩:=JD I1 r1 ty
 refine⟨T,id,pa,slot,hty,h1,h2,?_⟩
 have hA:=ha cpos pins s1 σ H1 _ I1 q1
 rw[hs] at hA ⊢
 refine Calls.callWith_builtin (by show (false||(backTo cpos (starEach es X.env)).any (·.1))=false;rw[hplain]<;>rfl) (Calls.evalArgs_plain ?_)
 exact bS hA fun us s2 ⟨vs,H2,I2,r2,q2⟩=>hm pins s2 σ H2 x vs v us Q I2 r1 r2 q2
/- xs.append(e),list.index on a module's tuple .. are JI facts of 06m -/
end
end L2
namespace L2
open PySem PySem.Spec PyProof.Rows
noncomputable def JK (X:Cx) (id:String) (r:V->List V->Hp->VK->Prop):Prop :=
 ∀ (pins:List (Addr×Obj)) (s:Shared) (σ:St) (H:Hp) (x:V) (xs:List V) (v:Value) (us:List Value) (Q:VK),Inv X pins σ H s->RelV x v->aC xs us->r x xs H Q ->
  wpAny (model X.prog X.w) X.A (call (.builtin id) (v::us)) (EP X pins σ Q) X.xe s
theorem aC.one:∀ {x:V}{us:List Value},aC [x] us->∃u,us=[u]/\RelV x u
 | _,_,.cons r .nil=>⟨_,rfl,r⟩
theorem aC.two:∀ {x y:V}{us:List Value},aC [x,y] us->∃u v,us=[u,v]/\RelV x u/\RelV y v
 | _,_,_,.cons r (.cons q .nil)=>⟨_,_,rfl,r,q⟩
theorem aC.reverse {xs:List V}{us:List Value}(h:aC xs us):aC xs.reverse us.reverse:=by
 induction h with
 | nil=>exact .nil
 | cons r t ih=>rw[List.reverse_cons,List.reverse_cons];exact aC.append ih (.cons r .nil)
theorem aC.rep {xs:List V}{us:List Value}(h:aC xs us):∀k:Nat,aC (List.replicate k xs).flatten (List.replicate k us).flatten
 | 0=>.nil
 | k+1=>by
  rw[List.replicate_succ,List.replicate_succ,List.flatten_cons,List.flatten_cons]
  exact aC.append h (aC.rep h k)
theorem foldl_rep (its:List Value):∀ (k:Nat) (acc:List Value),
  List.foldl (fun x1 x2=>x1++x2) acc.toArray (List.replicate k its.toArray)=(acc++(List.replicate k its).flatten).toArray
 | 0,acc=>by simp
 | k+1,acc=>by
  have e:acc.toArray++its.toArray=(acc++its).toArray:=by simp
  have e2:(acc++its)++(List.replicate k its).flatten=acc++(List.replicate (k+1) its).flatten:=by
   rw[List.replicate_succ,List.flatten_cons,List.append_assoc]
  rw[<- e2,<- foldl_rep its k (acc++its),<- e,List.replicate_succ,List.foldl_cons]
section
variable {X:Cx}{pins:List (Addr×Obj)}{σ:St}{H:Hp}{s:Shared}{l b:Addr}{xs ys zs:List V}
theorem Inv.lset {its its':List Value}{n:Nat}{f:Array Value->Array Value}{t':Nat}(I:Inv X pins σ H s) (hH:H l=some (.lst xs))
  (e:s.heap.get? l=some { cls:=.type "list",data:=.seq its.toArray n }) (hf:f its.toArray=its'.toArray) (hv:aC ys its') (hz:ys.length<=sizeLine) :
  Inv X pins σ (upd H l (.lst ys)) { s with heap:=s.heap.update l (Obj.mapSeq f),toks:=t' }:=by
 have q:=PySem.IsL.update e f
 rw[hf] at q
 refine I.write (x:=l) (e:=l) (by rw[hH];exact trivial) (.inl rfl) (fun b' u hb hu=>(Heap.get?_update_other s.heap (Obj.mapSeq f) (Ne.symm hb)).trans hu) ⟨_,q⟩ ?_
 exact⟨hz,its',_,hv,q⟩
theorem Inv.lnew {its:List Value}{t':Nat}(I:Inv X pins σ H s) (hv:aC ys its) (hz:ys.length<=sizeLine) :
  Inv X pins σ (upd H s.heap.objs.size (.lst ys)) { s with heap:=s.heap.push { cls:=.type "list",data:=.seq its.toArray },toks:=t' } :=
 I.laid (fun _ _ q=>Heap.get?_push_of_some _ q) (Nat.le_refl _) ⟨hz,its,0,hv,Heap.get?_push_size _ rfl⟩
theorem Inv.fresh (I:Inv X pins σ H s):H s.heap.objs.size=none:=I.hok.fresh (Nat.le_refl _)
theorem Inv.lstM (I:Inv X pins σ H s) (hH:H l=some (.lst xs)):xs.length<=sizeLine/\∃ (its:List Value) (n:Nat),aC xs its/\xs.length=its.length/\s.heap.get? l=some { cls:=.type "list",data:=.seq its.toArray n }:=by
 obtain⟨z,its,n,r,e⟩:=I.hok l _ hH
 exact⟨z,its,n,r,r.length,e⟩
theorem uI {n:Nat}(h:n<=sizeLine):Builtin.List.listTooLong n=false:=by
 unfold Builtin.List.listTooLong
 exact decide_eq_false (by omega)
end
section
variable {X:Cx}
noncomputable def Gh:V->List V->Hp->VK->Prop:=fun x vs H Q=>∃l xs y,x=.ref l/\vs=[y]/\H l=some (.lst xs)/\xs.length < sizeLine/\Q .non (upd H l (.lst (xs++[y])))
theorem rL:JK X "list.append" Gh:=by
 intro pins s σ H x vs v us Q I rx rv h
 obtain⟨l,xs,y,rfl,rfl,hH,hz,q⟩:=h
 cases rx
 obtain⟨u,rfl,ru⟩:=rv.one
 obtain⟨z,its,n,r,hl,e⟩:=I.lstM hH
 refine call_meets F.slot_list_append ⟨_,e,rfl⟩ F.entry_list_append (F.args_list_append_2 _ _) (PySem.list_append l its.toArray n u (by rw[List.size_toArray];omega)) ⟨e,?_⟩
 refine⟨.non,_,I.lset (its':=its++[u]) hH e (by simp) (r.append (.cons ru .nil)) ?_,rfl,q⟩
 rw[List.length_append,List.length_singleton]
 omega
noncomputable def Gg:V->List V->Hp->VK->Prop:=fun x vs H Q=>∃l b xs zs,x=.ref l/\vs=[.ref b]/\H l=some (.lst xs)/\H b=some (.lst zs)/\xs.length+zs.length<=sizeLine/\Q .non (upd H l (.lst (xs++zs)))
theorem AR:JK X "list.extend" Gg:=by
 intro pins s σ H x vs v us Q I rx rv h
 obtain⟨l,b,xs,zs,rfl,rfl,hH,hB,hz,q⟩:=h
 cases rx
 obtain⟨u,rfl,ru⟩:=rv.one
 cases ru
 obtain⟨z,its,n,r,hl,e⟩:=I.lstM hH
 obtain⟨z2,its2,n2,r2,hl2,e2⟩:=I.lstM hB
 have hsz:its.toArray.size+its2.toArray.size<=sizeLine:=by rw[List.size_toArray,List.size_toArray];omega
 have hlong:¬ (!its.toArray.isEmpty&&Builtin.List.listTooLong (its.toArray.size+its2.toArray.size))=true:=by
  rw[uI hsz,Bool.and_false]
  exact Bool.false_ne_true
 refine call_meets F.slot_list_extend ⟨_,e,rfl⟩ F.entry_list_extend (F.args_list_extend_2 _ _)
  (AutoSeq1.list_extend_list_list_0 l its.toArray n b its2.toArray n2 hlong (by rw[List.size_toArray];omega) (by omega)) ⟨e,e2,?_⟩
 refine⟨.non,_,I.lset (its':=its++its2) hH e (by simp) (r.append r2) ?_,rfl,q⟩
 rw[List.length_append]
 omega
noncomputable def Lz:R2:=fun x y H Q=>∃l k xs,x=.ref l/\y=.int k/\H l=some (.lst xs)/\-(2 ^ 63)<=k/\k < 2 ^ 63/\xs.length * k.toNat<=sizeLine /\
 ∀p,H p=none->Q (.ref p) (upd H p (.lst (List.replicate k.toNat xs).flatten))
theorem len_rep {α:Type}(xs:List α) (k:Nat):(List.replicate k xs).flatten.length=k * xs.length:=by
 induction k with
 | zero=>simp
 | succ k ih=>rw[List.replicate_succ,List.flatten_cons,List.length_append,ih,Nat.succ_mul,Nat.add_comm]
theorem Hq:gS X (binaryOp .Mult) Lz:=by
 intro pins s σ H x y v u Q I rx ry h
 obtain⟨l,k,xs,rfl,rfl,hH,h1,h2,hz,q⟩:=h
 cases rx
 obtain⟨t,rfl⟩:=ry
 obtain⟨z,its,n,r,hl,e⟩:=I.lstM hH
 have hlen:its.toArray.size * k.toNat<=sizeLine:=by rw[List.size_toArray,<- hl];exact hz
 have hcap:¬ its.toArray.size * k.toNat > (2 ^ 63 - 1) / 8:=by
  have:(sizeLine:Nat)<=(2 ^ 63 - 1) / 8:=by decide
  omega
 have hfit:¬ (!Builtin.List.listFitsIndex k)=true:=by
  rw[fitsIndex_both h1 h2]
  exact Bool.false_ne_true
 have hlong:¬ Builtin.List.listTooLong (its.toArray.size * k.toNat)=true:=by
  rw[uI hlen]
  exact Bool.false_ne_true
 have hnew:List.foldl (fun x1 x2=>x1++x2) #[] (List.replicate (if its.toArray.isEmpty=true then 0 else k.toNat) its.toArray)=(List.replicate k.toNat its).flatten.toArray:=by
  have f0:∀m:Nat,List.foldl (fun x1 x2=>x1++x2) #[] (List.replicate m its.toArray)=(List.replicate m its).flatten.toArray:=fun m=>by
   have:=foldl_rep its m []
   rw[List.nil_append] at this
   exact this
  rw[f0]
  cases its with
  | nil=>simp
  | cons a r'=>rw[if_neg (by simp)]
 refine wpAny_binaryOp_repeat_ref (T:="list") (U:="int") (by decide) ⟨_,e,rfl⟩ (fun s'=>typeIs_int s' k t) noFill_list_mul F.fills_int_mul F.slot_int_rmul repeat_list F.slot_int_index.lookup
  (call_meets F.slot_int_rmul (typeIs_int s k t) F.entry_int_rmul (F.args_int_rmul_2 _ _) (int___rmul___int_list k t l its.toArray n)
   ⟨e,rfl,⟨_,e,rfl⟩,call_meets F.slot_list_mul ⟨_,e,rfl⟩ F.entry_list_mul (F.args_list_mul_2 _ _) (AutoListH.list___mul___list_int_3 l its.toArray n k t hfit hcap hlong) ⟨e,?_⟩⟩)
 rw[hnew]
 exact⟨.ref _,_,I.lnew (t':=s.toks) (r.rep k.toNat) (by rw[len_rep,Nat.mul_comm];exact hz),rfl,q _ I.fresh⟩
end
section
variable {prog:Program}{w:World}{A:Around}{E:Value->Shared->Prop}{s:Shared}
end
section
variable {X:Cx}
end
end L2
namespace Att
open PySem PySem.W PySem.Calls PyProof.Rows
theorem ints_of_wellAll {P:Params}{h:Heap}:∀ (ns:List Int) (vs:List Value),WellAll P h vs (ns.map WData.int)->IntsAre vs ns:=by
 intro ns
 induction ns with
 | nil =>
  intro vs w
  rw[List.map_nil] at w
  cases w
  exact .nil
 | cons n ns ih =>
  intro vs w
  rw[List.map_cons] at w
  cases w with
  | cons a b =>
   cases a
   exact .cons _ _ (ih _ b)
theorem script_of {l:OpenLaw}{n:Nat}(hn:l.most=some n) {P:Params}{h:Heap}{args:List WData}{vals:List Value}
  (hpre:l.row.toRowW.claim.pre args=true) (hwl:WellAll P h vals args) :
  ∃a vs ns,vals=[Value.ref a]/\args=[WData.list (ns.map WData.int)]/\h.get? a=some { cls:=.type "list",data:=.seq vs.toArray }/\IntsAre vs ns/\ns.length<=n:=by
 have hsh:WShape.hasAll [] args [.list .int]=true:=(pre_splitW hpre).1
 have hc:l.pre.holds [] { args:=args }=true:=(pre_splitW hpre).2
 obtain⟨d,r,rfl,h1,h2⟩:=hasAllW_cons hsh
 obtain rfl:=hasAllW_nil h2
 obtain⟨xs,rfl,h3⟩:=hasW_list h1
 obtain⟨ns,rfl⟩:=items_int h3
 have hlen:ns.length<=n:=by
  unfold OpenLaw.pre at hc
  have h4:(WTm.not (.lt (.lit (.int (n:Int))) (.len (.arg 0)))).holds [] { args:=[.list (ns.map .int)] }=true:=by
   have h4:=(holds_andW hc).1
   rw[hn] at h4
   exact h4
  have h5:=condW_of h4 (w_not (w_lt w_lit (w_len_list (w_arg rfl))))
  rw[List.length_map] at h5
  refine Nat.le_of_not_lt fun q=>?_
  have q':(n:Int) < ((ns.length:Nat):Int):=by omega
  first
   | (rw[decide_eq_true q'] at h5;exact absurd h5 (by decide))
   | (simp at h5;omega)
 cases hwl with
 | cons w1 w2 =>
  cases w2
  cases w1 with
  | list ho hall=>exact⟨_,_,ns,rfl,rfl,ho,ints_of_wellAll ns _ hall,hlen⟩
theorem post_true (l:OpenLaw) (args:List WData):l.row.toRowW.claim.post args (.bool true) args=true :=
 postW_of (r:=l.row.toRowW) (X:=(true == true))
  (show WShape.has [] (.bool true) .bool=true by first|rfl|decide|simp[WShape.has,WShape.arms,WShape.armsAll])
  (show (WTm.eq .res (.lit (.bool true))).value [] { args:=args,res:=some (.bool true),after:=args }=some (.bool (true == true)) from w_eq_bool (w_res rfl) w_lit) rfl
theorem attach_call {l:OpenLaw}{n:Nat}{q:Program}{loose:List Str}{XP:(Str->Option Value)->Heap->Prop}{YP:World->Heap->Prop}{d:DefRec}
  (hn:l.most=some n) (hdf:d.params.defaults=[])
  (call:∀ (w:World) (s₀ s₁:Shared) (mg mb:Str->Option Value) (fa:Addr) (o:Obj) (pm cd doc:Value) (a:Addr) (vs:List Value) (ns:List Int),
   Ground q loose [] XP w s₀ mg mb s₁.heap->YP w s₁.heap ->
   s₁.heap.get? fa=some o->o.data=.func (docDef d.name d.params d.body d.scope pm cd doc)->s₁.heap.CodeRec cd d.name->mg d.name=some (.ref fa) ->
   s₁.heap.get? a=some { cls:=.type "list",data:=.seq vs.toArray }->IntsAre vs ns->ns.length<=n->s₁.gens=#[] ->
   codeAny (model l.prog w) callerA (.call (.ref fa) ⟨[.ref a],[]⟩) (fun r s'=>r=.ok (.ret (.bool true))/\OldK s₁.heap s'.heap/\s'.os=s₁.os/\AllBare s'.gens) s₁) :
  WalkO q loose XP YP l.row.toRowW d [] (fun f vs=>PySem.call f vs):=by
 intro w s₀ s₁ mg mb G Y fa o pm cd doc dV kV ho hd hcd hD hmg hg args vals as hpre hlay hrd hwl hlo
 obtain rfl:dV=.none:=Dflts.none hD hdf
 obtain rfl:kV=.none:=Dflts.noKw hD
 obtain⟨a,vs,ns,rfl,rfl,hobj,hints,hlen⟩:=script_of hn hpre hwl
 refine enter_call (codeAny_mono (call w s₀ s₁ mg mb fa o pm cd doc a vs ns G Y ho (fd_plain hd) hcd hmg hobj hints hlen hg) fun r s' hq=>?_)
 obtain⟨rfl,h2,h3,h4⟩:=hq
 exact⟨.inl ⟨.bool true,.bool true,[],rfl,fun _=>rfl,.bool true,post_true l _,fun _=>⟨List.Pairwise.nil,fun _ hm=>(nomatch hm)⟩⟩,h2,h3,h4⟩
section
variable {prog:Program}{w:World}{A:Around}{E:Value->Shared->Prop}{s:Shared}{K:Frag}
end
end Att
namespace L2
open PySem PySem.Spec PyProof.Rows
theorem rh:∀ {vs:List Value}{ns:List Int},IntsAre vs ns->aC (ns.map V.int) vs
 | _,_,.nil=>.nil
 | _,_,.cons n t h=>.cons ⟨t,rfl⟩ (rh h)
end L2
namespace L2
open PySem PySem.Spec PyProof.Rows
noncomputable def gp (s:Stmt):Arguments:=match s with
 | .FunctionDef _ a _ _ _ _ _ _ _ _=>a
 | _=>{ posonlyargs:=[],args:=[],vararg:=none,kwonlyargs:=[],kw_defaults:=[],kwarg:=none,defaults:=[] }
noncomputable def bT (s:Stmt):List Stmt:=match s with
 | .FunctionDef _ _ b _ _ _ _ _ _ _=>b
 | _=>[]
noncomputable def aD (s:Stmt):Scope:=match s with
 | .FunctionDef _ _ _ _ _ _ sc _ _ _=>sc
 | _=>{ kind:=.function,names:=[],isGenerator:=false,isCoroutine:=false }
noncomputable abbrev GN:Ap:=fun _ _ _ _ _ _=>False
noncomputable abbrev E0:XK:=fun _ _ _=>False
theorem Kg {X:Cx}:xA GN X E0:=fun _ _ _ _ _ _ _ h=>h.elim
structure Cu (K:PySem.W.Frag) (x qual:Str) (st:Stmt) (f:Addr) (fd:FuncData):Prop where
 ex:∃ (oc:Value) (od:Option Addr) (kV doc pm:Value) (an:Option Addr) (cdv ct:Value) (osl:Array (Option Value)),
  fd=PySem.W.fnOf x qual (gp st) (bT st) (aD st) .none kV doc pm an cdv ct/\K.lookup f=some ⟨oc,od,.func fd,osl⟩/\PySem.W.codeIn K cdv qual=true
 kp:PySem.W.keepIn K (.ref f)=true
section
variable {P:Program}{w:World}{K:PySem.W.Frag}{mg:Str->Option Value}{base:Heap}
theorem Cu.ok {x qual:Str}{st:Stmt}{f:Addr}{fd:FuncData}{N ps:List Str}{k:Nat}{sp:Sp}(F:Cu K x qual st f fd) (S:ee N ps (aD st)) (len:∀vs H Q E,sp vs H Q E->vs.length=ps.length)
  (hbody:∀ (cdv:Value) (A:Around) (outer:List Env) (s:Shared) (H:Hp) (vs:List V) (Q:VK) (E:XK),dN k (A.deeper (envOfC qual (aD st) s.heap.objs.size f cdv))->sp vs H Q E ->
   ∃t,wJ (xg GN P w K mg base N qual (aD st) f cdv A outer s H E).nox (bT st) t/\t { nx:=fun _ H'=>Q .non H',rt:=Q } (start N vs) H):kF P w K mg base GN (k+1) f fd ps sp:=by
 obtain⟨oc,od,kV,doc,pm,an,cdv,ct,osl,rfl,lk,hcd⟩:=F.ex
 refine Gz lk hcd S len fun A outer s H vs Q E hr hsp=>?_
 obtain⟨t,h,q⟩:=hbody cdv A outer s H vs Q E hr hsp
 exact⟨t,h.nox,q⟩
theorem Cu.binds {x qual:Str}{st:Stmt}{f:Addr}{fd:FuncData}{ps:List Str}(F:Cu K x qual st f fd)
  (h:∀ (kV doc pm:Value) (an:Option Addr) (cdv ct:Value) (us:List Value),us.length=ps.length->bindArgs (PySem.W.fnOf x qual (gp st) (bT st) (aD st) .none kV doc pm an cdv ct) ⟨us,[]⟩=pure (ps.zip us)):Binds K fd ps []:=by
 obtain⟨oc,od,kV,doc,pm,an,cdv,ct,osl,rfl,lk,hcd⟩:=F.ex
 exact .all (h kV doc pm an cdv ct)
theorem tU {x qual:Str}{st:Stmt}{f:Addr}{oc:Value}{od an:Option Addr}{osl:Array (Option Value)}{kV doc pm cdv ct:Value}(l:K.lookup f=some ⟨oc,od,.func (PySem.W.fnOf x qual (gp st) (bT st) (aD st) .none kV doc pm an cdv ct),osl⟩)
  (c:PySem.W.codeIn K cdv qual=true) (k:PySem.W.keepIn K (.ref f)=true):Cu K x qual st f (PySem.W.fnOf x qual (gp st) (bT st) (aD st) .none kV doc pm an cdv ct):=⟨⟨oc,od,kV,doc,pm,an,cdv,ct,osl,rfl,l,c⟩,k⟩
end
section
variable {X:Cx}
end
theorem uZ {A B:Prop}(h:B):if false=true then A else B:=by
 rw[if_neg Bool.false_ne_true]
 exact h
theorem vK {A B:Prop}(h:A):if true=true then A else B:=by
 rw[if_pos rfl]
 exact h
noncomputable def aW (H H':Hp):Prop:=∀b o,H b=some o->H' b=some o
theorem aW.refl (H:Hp):aW H H:=fun _ _ h=>h
theorem aW.trans {H H1 H2:Hp}(a:aW H H1) (b:aW H1 H2):aW H H2:=fun c o h=>b c o (a c o h)
theorem aW.free {H H':Hp}(e:aW H H') {l:Addr}(h:H' l=Option.none):H l=Option.none:=by
 cases q:H l with
 | none=>rfl
 | some o =>
  rw[e l o q] at h
  cases h
theorem aW.seq {K:PySem.W.Frag}{H H':Hp}{a:Addr}{xs:List V}(e:aW H H') (h:ib K H a xs):ib K H' a xs:=by
 rcases h with (h|⟨o,h⟩)|h
 ·exact .inl (.inl (e _ _ h))
 ·exact .inl (.inr ⟨o,e _ _ h⟩)
 ·exact .inr h
end L2
namespace Hd
open PySem L2 PySem.Spec PyProof.Rows
noncomputable def en (P:Params) (x:String) (t:Nat) (v:Value):DictEntry:=⟨PyData.keyHash P (Str.ofString x),.str (Str.ofString x) t,v⟩
noncomputable def fo (x:Str) (st:Stmt) (pm:Value) (c:Addr):Obj:=⟨.type "function",none,.func (PySem.W.fnOf x x (gp st) (bT st) (aD st) .none .none .none pm none (.ref c) .none),#[]⟩
noncomputable def co (vs:List Value):Obj:=⟨.type "code",none,.fields vs.toArray,#[]⟩
noncomputable def rfV (n:Nat):Value:=if n=0 then .none else .ref n
noncomputable def cdo (x:Str) (t l n a b c d e f u:Nat):Obj:=co [.str x t,.str x (t+1),.str "/claim/cut.py" (t+2),.int l 0,.int n 0,.int 0 0,.int 0 0,.int 3 0,rfV a,.bool true,.int 181 0,rfV b,rfV c,rfV d,rfV e,rfV f,.int u 0,.int l 0,.str "/claim/cut.py" (u+1)]
end Hd
namespace Hd
theorem lf_all {S A B C D E F J O:Type}{x:Option S}{f:S->A×B×C×D×E×F×J}{o:S->O}{g:A×B×C×D×E×F×J}{v:O}(h0:x.map (fun s=>(f s).1)=some g.1) (h1:x.map (fun s=>((f s).2.1,(f s).2.2.1))=some (g.2.1,g.2.2.1)) (h2:x.map (fun s=>((f s).2.2.2.1,(f s).2.2.2.2.1,(f s).2.2.2.2.2.1))=some (g.2.2.2.1,g.2.2.2.2.1,g.2.2.2.2.2.1)) (h3:x.map (fun s=>((f s).2.2.2.2.2.2,o s))=some (g.2.2.2.2.2.2,v)):x.map (fun s=>(f s,o s))=some (g,v):=by
 obtain⟨a,b,c,d,e,i,j⟩:=g
 cases x with
 | none=>cases h0
 | some s =>
  simp only[Option.map_some,Option.some.injEq,Prod.mk.injEq] at h0 h1 h2 h3 ⊢
  refine⟨?_,h3.2⟩
  generalize f s=t at *
  obtain⟨a',b',c',d',e',i',j'⟩:=t
  dsimp only at *
  obtain⟨h3,_⟩:=h3
  obtain⟨h1,h1'⟩:=h1
  obtain⟨h2,h2',h2''⟩:=h2
  subst h0 h1 h1' h2 h2' h2'' h3
  rfl
end Hd
namespace K12
open PySem L2 PySem.Spec PyProof.Rows Hd PySem.W
noncomputable abbrev top (i:Nat):Stmt:=PySem.Challenge.pw_stillflow_k12_whole_reasons.main.body.getD i (.Pass ⟨0,0,0,0⟩)
noncomputable def vw:Program:=PySem.W.view PySem.Challenge.pw_stillflow_k12_whole_reasons [1,2,3,4,6,7,8,9,10,11,12,13,14,15,16,17,18,19,20,21,22,23,24,25,26,27,28,29,31,32,33,34,35,36,37,38,39,40,42,43,44,45,46,47,48,49,51,52,53,54,55,56,57,58,59]
noncomputable def gq:Value:=(.str "stillflow.worlds" 255)
noncomputable def rG:Value:=(.str "stillflow.flows" 423)
noncomputable def wH:Value:=(.str "stillflow.finding" 502)
noncomputable def uy:Value:=(.str "law_stillflow_k12_whole_reasons" 573)
noncomputable def Kf (P:Params):PySem.W.Frag:=[(3,⟨.type "dict",none,.dict #[en P "__name__" 165 (.str "law_stillflow_k12_whole_reasons" 573),en P "__doc__" 166 .none,en P "__package__" 167 .none,en P "__loader__" 168 (.builtin "__main__.__loader__#opaque"),en P "__spec__" 169 .none,en P "__annotations__" 170 (.ref 6),en P "__builtins__" 171 (.ref 4),en P "__file__" 173 (.str "/claim/cut.py" 172),en P "__cached__" 174 .none,en P "FlowError" 206 (.ref 24),en P "NoWorld" 222 (.ref 37),en P "NoPlan" 238 (.ref 49),en P "NoPlace" 254 (.ref 61),en P "MOST_PLACES" 258 (.int 4 257),en P "MOST" 260 (.int 9 259),en P "is_whole" 269 (.ref 70),en P "is_number" 277 (.ref 77),en P "is_long" 286 (.ref 84),en P "are_likes" 292 (.ref 89),en P "is_end" 300 (.ref 96),en P "is_way" 309 (.ref 103),en P "are_parts" 315 (.ref 108),en P "liked_pairs" 321 (.ref 113),en P "is_world" 327 (.ref 118),en P "through" 333 (.ref 123),en P "keeps_amounts" 339 (.ref 128),en P "is_plan" 345 (.ref 133),en P "check_world" 352 (.ref 140),en P "check_plan" 360 (.ref 147),en P "check_whole" 369 (.ref 154),en P "check_number" 377 (.ref 161),en P "check_side" 384 (.ref 168),en P "check_place" 393 (.ref 175),en P "replaced" 402 (.ref 182),en P "turned_order" 410 (.ref 189),en P "turned" 416 (.ref 194),en P "turned_plan" 422 (.ref 199),en P "ways_of" 430 (.ref 204),en P "chosen_by" 436 (.ref 209),en P "choice" 446 (.ref 216),en P "wants_more" 452 (.ref 221),en P "why_kept" 461 (.ref 228),en P "first_leaving" 470 (.ref 235),en P "is_still" 478 (.ref 242),en P "leaving" 484 (.ref 247),en P "rests" 492 (.ref 254),en P "reason" 501 (.ref 261),en P "chosen_by_all" 509 (.ref 266),en P "limits" 515 (.ref 271),en P "lowered" 524 (.ref 278),en P "refused" 536 (.ref 285),en P "steps" 546 (.ref 292),en P "capped" 557 (.ref 299),en P "givers_best" 564 (.ref 306),en P "takers_best" 572 (.ref 313),en P "_law_cell" 582 (.ref 320),en P "_law_drawn" 592 (.ref 327),en P "_law_orders" 607 (.ref 334),en P "_law_world" 613 (.ref 339),en P "_law_used" 619 (.ref 344),en P "_law_fits" 630 (.ref 351),en P "_law_plans" 636 (.ref 356),en P "_law_plan" 650 (.ref 363),en P "law" 656 (.ref 368)] 64,#[]⟩),
 (69,cdo "is_whole" 261 13 3 64 65 0 66 67 68 267),
 (70,fo "is_whole" (top 8) gq 69),
 (76,cdo "is_number" 270 17 2 71 72 0 73 74 75 275),
 (77,fo "is_number" (top 9) gq 76),
 (83,cdo "is_long" 278 19 3 78 79 0 80 81 82 284),
 (84,fo "is_long" (top 10) gq 83),
 (88,cdo "are_likes" 287 21 2 85 86 0 0 0 87 290),
 (89,fo "are_likes" (top 11) gq 88),
 (95,cdo "is_end" 293 27 2 90 91 0 92 93 94 298),
 (96,fo "is_end" (top 12) gq 95),
 (102,cdo "is_way" 301 29 3 97 98 0 99 100 101 307),
 (103,fo "is_way" (top 13) gq 102),
 (107,cdo "are_parts" 310 33 3 104 105 0 0 0 106 313),
 (108,fo "are_parts" (top 14) gq 107),
 (112,cdo "liked_pairs" 316 41 1 109 110 0 0 0 111 319),
 (113,fo "liked_pairs" (top 15) gq 112),
 (117,cdo "is_world" 322 46 1 114 115 0 0 0 116 325),
 (118,fo "is_world" (top 16) gq 117),
 (122,cdo "through" 328 53 4 119 120 0 0 0 121 331),
 (123,fo "through" (top 17) gq 122),
 (127,cdo "keeps_amounts" 334 55 3 124 125 0 0 0 126 337),
 (128,fo "keeps_amounts" (top 18) gq 127),
 (132,cdo "is_plan" 340 57 2 129 130 0 0 0 131 343),
 (133,fo "is_plan" (top 19) gq 132),
 (139,cdo "check_world" 346 64 1 134 135 0 136 137 138 350),
 (140,fo "check_world" (top 20) gq 139),
 (146,cdo "check_plan" 353 67 2 141 142 0 143 144 145 358),
 (147,fo "check_plan" (top 21) gq 146),
 (153,cdo "check_whole" 361 71 3 148 149 0 150 151 152 367),
 (154,fo "check_whole" (top 22) gq 153),
 (160,cdo "check_number" 370 74 2 155 156 0 157 158 159 375),
 (161,fo "check_number" (top 23) gq 160),
 (167,cdo "check_side" 378 76 1 162 163 0 164 165 166 382),
 (168,fo "check_side" (top 24) gq 167),
 (174,cdo "check_place" 385 78 3 169 170 0 171 172 173 391),
 (175,fo "check_place" (top 25) gq 174),
 (181,cdo "replaced" 394 81 3 176 177 0 178 179 180 400),
 (182,fo "replaced" (top 26) gq 181),
 (188,cdo "turned_order" 403 83 1 183 184 0 185 186 187 408),
 (189,fo "turned_order" (top 27) gq 188),
 (193,cdo "turned" 411 86 1 190 191 0 0 0 192 414),
 (194,fo "turned" (top 28) gq 193),
 (198,cdo "turned_plan" 417 90 2 195 196 0 0 0 197 420),
 (199,fo "turned_plan" (top 29) gq 198),
 (203,cdo "ways_of" 425 94 3 200 201 0 0 0 202 428),
 (204,fo "ways_of" (top 31) rG 203),
 (208,cdo "chosen_by" 431 99 4 205 206 0 0 0 207 434),
 (209,fo "chosen_by" (top 32) rG 208),
 (215,cdo "choice" 437 106 4 210 211 0 212 213 214 444),
 (216,fo "choice" (top 33) rG 215),
 (220,cdo "wants_more" 447 110 4 217 218 0 0 0 219 450),
 (221,fo "wants_more" (top 34) rG 220),
 (227,cdo "why_kept" 453 117 3 222 223 0 224 225 226 459),
 (228,fo "why_kept" (top 35) rG 227),
 (234,cdo "first_leaving" 462 125 2 229 230 0 231 232 233 468),
 (235,fo "first_leaving" (top 36) rG 234),
 (241,cdo "is_still" 471 130 2 236 237 0 238 239 240 476),
 (242,fo "is_still" (top 37) rG 241),
 (246,cdo "leaving" 479 132 2 243 244 0 0 0 245 482),
 (247,fo "leaving" (top 38) rG 246),
 (253,cdo "rests" 485 135 2 248 249 0 250 251 252 490),
 (254,fo "rests" (top 39) rG 253),
 (260,cdo "reason" 493 138 3 255 256 0 257 258 259 499),
 (261,fo "reason" (top 40) rG 260),
 (265,cdo "chosen_by_all" 504 143 3 262 263 0 0 0 264 507),
 (266,fo "chosen_by_all" (top 42) wH 265),
 (270,cdo "limits" 510 149 1 267 268 0 0 0 269 513),
 (271,fo "limits" (top 43) wH 270),
 (277,cdo "lowered" 516 151 3 272 273 0 274 275 276 522),
 (278,fo "lowered" (top 44) wH 277),
 (284,cdo "refused" 525 153 2 279 280 0 281 282 283 534),
 (285,fo "refused" (top 45) wH 284),
 (291,cdo "steps" 537 160 1 286 287 0 288 289 290 544),
 (292,fo "steps" (top 46) wH 291),
 (298,cdo "capped" 547 169 2 293 294 0 295 296 297 555),
 (299,fo "capped" (top 47) wH 298),
 (305,cdo "givers_best" 558 174 1 300 301 0 302 303 304 562),
 (306,fo "givers_best" (top 48) wH 305),
 (312,cdo "takers_best" 565 177 1 307 308 0 309 310 311 570),
 (313,fo "takers_best" (top 49) wH 312),
 (319,cdo "_law_cell" 575 181 2 314 315 0 316 317 318 580),
 (320,fo "_law_cell" (top 51) uy 319),
 (326,cdo "_law_drawn" 583 185 3 321 322 0 323 324 325 590),
 (327,fo "_law_drawn" (top 52) uy 326),
 (333,cdo "_law_orders" 593 189 3 328 329 0 330 331 332 605),
 (334,fo "_law_orders" (top 53) uy 333),
 (338,cdo "_law_world" 608 197 3 335 336 0 0 0 337 611),
 (339,fo "_law_world" (top 54) uy 338),
 (343,cdo "_law_used" 614 213 4 340 341 0 0 0 342 617),
 (344,fo "_law_used" (top 55) uy 343),
 (350,cdo "_law_fits" 620 215 2 345 346 0 347 348 349 628),
 (351,fo "_law_fits" (top 56) uy 350),
 (355,cdo "_law_plans" 631 221 1 352 353 0 0 0 354 634),
 (356,fo "_law_plans" (top 57) uy 355),
 (362,cdo "_law_plan" 637 229 3 357 358 0 359 360 361 648),
 (363,fo "_law_plan" (top 58) uy 362),
 (367,cdo "law" 651 236 1 364 365 0 0 0 366 654),
 (368,fo "law" (top 59) uy 367)]
noncomputable def hk:PySem.W.Hook:=PySem.W.kmHook Kf [3,69,70,76,77,83,84,88,89,95,96,102,103,107,108,112,113,117,118,122,123,127,128,132,133,139,140,146,147,153,154,160,161,167,168,174,175,181,182,188,189,193,194,198,199,203,204,208,209,215,216,220,221,227,228,234,235,241,242,246,247,253,254,260,261,265,266,270,271,277,278,284,285,291,292,298,299,305,306,312,313,319,320,326,327,333,334,338,339,343,344,350,351,355,356,362,363,367,368] (fun _=>rfl) [184,201]
noncomputable abbrev rn (w:World):=openEnds treeTable PySem.Challenge.pw_stillflow_k12_whole_reasons w 6000
noncomputable abbrev sn (s:Shared):=openSeen vw [] (importedModules PySem.Challenge.pw_stillflow_k12_whole_reasons.main.body) (fun s=>xlAt vw [] s&&recOk [] s) true s
noncomputable abbrev gd:=openGood vw []
theorem MI (w:World):(rn w).map (fun s=>(sn s).1)=some (gd.1):=by kernel_rfl
theorem Mr (w:World):(rn w).map (fun s=>((sn s).2.1,(sn s).2.2.1))=some ((gd.2.1,gd.2.2.1)):=by kernel_rfl
theorem Mt (w:World):(rn w).map (fun s=>((sn s).2.2.2.1,(sn s).2.2.2.2.1,(sn s).2.2.2.2.2.1))=some ((gd.2.2.2.1,gd.2.2.2.2.1,gd.2.2.2.2.2.1)):=by kernel_rfl
theorem Mu (w:World):(rn w).map (fun s=>((sn s).2.2.2.2.2.2,hk.obs s))=some ((gd.2.2.2.2.2.2,hk.val w)):=by kernel_rfl
theorem left:LeftO PySem.Challenge.pw_stillflow_k12_whole_reasons vw [] (fun s=>xlAt vw [] s&&recOk [] s) hk.obs hk.val 6000:=fun w=>lf_all (MI w) (Mr w) (Mt w) (Mu w)
theorem Lx:PySem.Challenge.rw_stillflow_k12_whole_reasons.wellSaid=true:=by kernel_rfl
end K12
namespace L2
open PySem PySem.Spec PyProof.Rows
theorem bP:∀ (names:List (Str×NameKind)) (n:Nat) (acc:List (Str×Addr)),cellsFrom n names acc=cellsFrom n names []++acc
 | [],_,_=>rfl
 | (name,kind)::r,n,acc=>by
  unfold cellsFrom
  split
  ·rw[bP r (n+1) ((name,n)::acc),bP r (n+1) [(name,n)]]
   simp
  ·exact bP r n acc
theorem iY {α:Type}{x:Str}{c:α}:∀ {l m:List (Str×α)},(l++m).lookup x=some c->l.lookup x=some c\/(l.lookup x=none/\m.lookup x=some c)
 | [],_,h=>.inr ⟨rfl,h⟩
 | (k,v)::r,m,h=>by
  have ih:=@iY α x c r m
  rw[List.cons_append,List.lookup_cons] at h
  rw[List.lookup_cons]
  cases e:x == k with
  | true=>rw[e] at h;exact .inl h
  | false=>rw[e] at h;exact ih h
theorem iX {α:Type}{x:Str}{c:α}:∀ {l m:List (Str×α)},l.lookup x=some c->(l++m).lookup x=some c
 | [],_,h=>by cases h
 | (k,v)::r,m,h=>by
  have ih:=@iX α x c r m
  rw[List.lookup_cons] at h
  rw[List.cons_append,List.lookup_cons]
  cases e:x == k with
  | true=>rw[e] at h;exact h
  | false=>rw[e] at h;exact ih h
theorem gX {α:Type}{x:Str}:∀ {l m:List (Str×α)},l.lookup x=none->(l++m).lookup x=m.lookup x
 | [],_,_=>rfl
 | (k,v)::r,m,h=>by
  have ih:=@gX α x r m
  rw[List.lookup_cons] at h
  rw[List.cons_append,List.lookup_cons]
  cases e:x == k with
  | true=>rw[e] at h;cases h
  | false=>rw[e] at h;exact ih h
theorem fJ:∀ (names:List (Str×NameKind)) (n:Nat) (x:Str) (c:Addr),(x,c)∈cellsFrom n names []->(x,NameKind.cell)∈names
 | [],_,_,_,h=>by cases h
 | (name,kind)::r,n,x,c,h=>by
  unfold cellsFrom at h
  split at h
  ·rename_i hk
   rw[bP] at h
   rcases List.mem_append.mp h with h|h
   ·exact List.mem_cons_of_mem _ (fJ r _ x c h)
   ·have:(x,c)=(name,n):=by simpa using h
    cases this
    have:kind=.cell:=by simpa using hk
    subst this
    exact List.mem_cons_self
  ·exact List.mem_cons_of_mem _ (fJ r n x c h)
noncomputable def dS (env:Env):List (Str×NameKind)->List (Str×Addr)->List (Str×Addr)
 | [],acc=>acc
 | (n,k)::r,acc=>if k == .free then dS env r ((n,(env.cells.lookup n).getD 0)::acc) else dS env r acc
theorem kb (env:Env):∀ (names:List (Str×NameKind)) (acc:List (Str×Addr)),(∀x∈names,x.2=.free->∃c,env.cells.lookup x.1=some c) ->
  (forIn names acc (fun (p:Str×NameKind) (cs:List (Str×Addr))=>(if p.2 == .free then (do let a <- cellOf env p.1;pure (.yield ((p.1,a)::cs))) else pure (.yield cs):Sem (ForInStep (List (Str×Addr))))))=pure (dS env names acc)
 | [],acc,_=>rfl
 | (n,k)::r,acc,h=>by
  rw[List.forIn_cons]
  have hr:=fun x hx=>h x (List.mem_cons_of_mem _ hx)
  unfold dS
  by_cases hk:k=.free
  ·obtain⟨c,hc⟩:=h (n,k) List.mem_cons_self hk
   subst hk
   have e1:cellOf env n=pure c:=by
    have hc':env.cells.lookup n=some c:=hc
    unfold cellOf;rw[hc']
   have hc':env.cells.lookup n=some c:=hc
   simp only[beq_self_eq_true,if_true,e1,pure_bind,hc',Option.getD_some]
   exact kb env r _ hr
  ·have hb:(k == NameKind.free)=false:=by simpa using hk
   simp only[hb,Bool.false_eq_true,if_false,pure_bind]
   exact kb env r _ hr
theorem ke {env:Env}{scope:Scope}(h:∀x∈scope.names,x.2=.free->∃c,env.cells.lookup x.1=some c):closureFor scope env=pure (dS env scope.names []):=by
 have:=kb env scope.names [] h
 unfold closureFor
 exact (bind_pure _).trans this
theorem jI {env:Env}:∀ {names:List (Str×NameKind)}{acc:List (Str×Addr)},(∀x∈names,x.2=.free->∃c,env.cells.lookup x.1=some c)->(∀x c,(x,c)∈acc->env.cells.lookup x=some c) ->
  ∀x c,(x,c)∈dS env names acc->env.cells.lookup x=some c
 | [],acc,_,ha,x,c,hm=>ha x c hm
 | (n,k)::r,acc,h,ha,x,c,hm=>by
  unfold dS at hm
  have hr:=fun x hx=>h x (List.mem_cons_of_mem _ hx)
  split at hm
  ·rename_i hk
   have hk':k=.free:=by simpa using hk
   obtain⟨c',hc⟩:=h (n,k) List.mem_cons_self hk'
   have hc:env.cells.lookup n=some c':=hc
   refine jI hr (fun y d hy=>?_) x c hm
   rcases List.mem_cons.mp hy with e|hy
   ·cases e;rw[hc];rfl
   ·exact ha y d hy
  ·exact jI hr ha x c hm
theorem fN {env:Env}:∀ {names:List (Str×NameKind)}{acc:List (Str×Addr)}{x:Str},(names.lookup x=some .free\/∃c,acc.lookup x=some c)->∃c,(dS env names acc).lookup x=some c
 | [],acc,x,h=>by
  rcases h with h|h
  ·cases h
  ·exact h
 | (n,k)::r,acc,x,h=>by
  unfold dS
  split
  ·rename_i hk
   refine fN ?_
   rcases h with h|⟨c,h⟩
   ·rw[List.lookup_cons] at h
    cases e:x == n with
    | true=>exact .inr ⟨_,by rw[List.lookup_cons,e]⟩
    | false=>rw[e] at h;exact .inl h
   ·refine .inr ?_
    rw[List.lookup_cons]
    cases e:x == n with
    | true=>exact⟨_,rfl⟩
    | false=>exact⟨c,h⟩
  ·rename_i hk
   refine fN ?_
   rcases h with h|h
   ·rw[List.lookup_cons] at h
    cases e:x == n with
    | true =>
     rw[e] at h
     cases h
     exact absurd rfl hk
    | false=>rw[e] at h;exact .inl h
   ·exact .inr h
theorem kP {env:Env}:∀ {names:List (Str×NameKind)}{x:Str}{k:NameKind},names.lookup x=some k ->
  (names.map fun (n,k)=>if (k == NameKind.free&&env.scope.kind == .function&&env.kindOf n == some .cell) then (n,NameKind.cell) else (n,k)).lookup x=some (if (k == NameKind.free&&env.scope.kind == .function&&env.kindOf x == some .cell) then NameKind.cell else k)
 | [],_,_,h=>by cases h
 | (n,k)::r,x,k',h=>by
  have ih:=@kP env r x k'
  rw[List.map_cons]
  dsimp only
  cases hx:x == n with
  | true =>
   have e:x=n:=by simpa using hx
   subst e
   rw[List.lookup_cons,hx] at h
   cases h
   split<;>simp[List.lookup_cons, *]
  | false =>
   rw[List.lookup_cons,hx] at h
   have ih:=ih h
   split
   ·rw[List.lookup_cons,hx];exact ih
   ·rw[List.lookup_cons,hx];exact ih
theorem m5 {env:Env}:∀ {names:List (Str×NameKind)}{x:Str},names.lookup x=none ->
  (names.map fun (n,k)=>if (k == NameKind.free&&env.scope.kind == .function&&env.kindOf n == some .cell) then (n,NameKind.cell) else (n,k)).lookup x=none
 | [],_,h=>rfl
 | (n,k)::r,x,h=>by
  have ih:=@m5 env r x
  rw[List.map_cons]
  dsimp only
  cases hx:x == n with
  | true=>rw[List.lookup_cons,hx] at h;cases h
  | false =>
   rw[List.lookup_cons,hx] at h
   split
   ·rw[List.lookup_cons,hx];exact ih h
   ·rw[List.lookup_cons,hx];exact ih h
end L2
namespace L2
open PySem PySem.Spec PyProof.Rows
noncomputable def eI (X:Cx) (scope:Scope) (C:Addr):Env :=
 { scope:=relabel scope X.env,locals:=C,globals:=X.env.globals,cells:=cellsFrom (C+1) scope.names (dS X.env scope.names []),qual:=X.env.qual,func:=none,code:=X.env.code,frame:=X.env.frame,builtins:=X.env.builtins }
noncomputable def aR (X:Cx) (scope:Scope) (N:List Str) (fp:List Addr) (s:Shared) (H:Hp):Cx :=
 { X with N:=N,s₀:=s,H₀:=H,env:=eI X scope s.heap.objs.size,outer:=X.stack,ex:=fp,fn:=fun x=>decide (scope.names.lookup x=some .cell),pn:=[],xe:=fun _ _=>False }
theorem xx {M:Model}{A:Around}{E:Value->Shared->Prop}{s:Shared}{scope:Scope}{globals:Addr}{cl:List (Str×Addr)}{qual:Str}{env:Env}{Q:Env->Shared->Prop}
  (hQ:∀h',h'.Ns s.heap.objs.size (fun _=>none)->(∀b o,s.heap.get? b=some o->h'.get? b=some o)->CellsOk h' (s.heap.objs.size+1) (cellsFrom (s.heap.objs.size+1) scope.names []) ->
   Q { scope:=scope,locals:=s.heap.objs.size,globals:=globals,cells:=cellsFrom (s.heap.objs.size+1) scope.names cl,qual:=qual,func:=none,code:=env.code,frame:=env.frame,builtins:=env.builtins } { s with heap:=h' }) :
  wpAny M A (newFunctionEnv scope globals cl [] qual none .none (some env)) Q E s:=by
 simp only[newFunctionEnv,Option.isSome_some,if_true]
 refine wpAny_bind (wpAny_alloc ?_)
 refine wpAny_bind (wpAny_layCells _ (fun name kind cells=>by cases hkc:kind == NameKind.cell<;>simp[hkc]) _ _ _ _ ?_)
 have ok:=cellsFrom_ok scope.names (s.heap.push { cls:=.type "dict",data:=.dict #[] }) (s.heap.objs.size+1) [] ⟨fun _ _ hm=>(nomatch hm),List.Pairwise.nil⟩ (by rw[Heap.size_push];exact Nat.le_refl _)
 rw[Heap.size_push] at ok
 rw[show ({ s with heap:=s.heap.push { cls:=.type "dict",data:=.dict #[] } }:Shared).heap.objs.size=s.heap.objs.size+1 from Heap.size_push ..]
 rw[List.forIn_nil]
 refine wpAny_bind (wpAny_pure (wpAny_pure ?_))
 exact hQ _ ((Heap.Ns.new s.heap (.type "dict")).keeps (pushCells_keeps _ _)) (fun b o e=>pushCells_keeps _ _ b o (Heap.get?_push_of_some _ e)) ok
section
variable {X:Cx}{pins:List (Addr×Obj)}{σ σ':St}{H:Hp}{s:Shared}{fp:List Addr}{scope:Scope}{N:List Str}{h4:Heap}
theorem jr (ok:X.Ok) (hfree:∀x∈scope.names,x.2=.free->X.env.kindOf x.1=some .cell\/X.env.kindOf x.1=some .free):∀x∈scope.names,x.2=.free->∃c,X.env.cells.lookup x.1=some c :=
 fun x hx hk=>ok.has x.1 (hfree x hx hk)
theorem lW {C:Addr}{x:Str}{k:NameKind}(h:scope.names.lookup x=some k):(eI X scope C).kindOf x=some k\/(k=.free/\(eI X scope C).kindOf x=some .cell):=by
 have q:=kP (env:=X.env) h
 have q':(eI X scope C).kindOf x=some (if (k == NameKind.free&&X.env.scope.kind == .function&&X.env.kindOf x == some .cell) then NameKind.cell else k):=q
 rw[q']
 split
 ·rename_i hc
  have:k=.free:=by
   simp only[Bool.and_eq_true,beq_iff_eq] at hc
   exact hc.1.1
  exact .inr ⟨this,rfl⟩
 ·exact .inl rfl
theorem j1 {C:Addr}{x:Str}{k:NameKind}(h:(eI X scope C).kindOf x=some k):scope.names.lookup x=some k\/(k=.cell/\scope.names.lookup x=some .free):=by
 cases e:scope.names.lookup x with
 | none =>
  have q:(eI X scope C).kindOf x=none:=m5 (env:=X.env) e
  rw[q] at h;cases h
 | some k' =>
  rcases lW (X:=X) (C:=C) e with q|⟨q,q'⟩
  ·rw[q] at h;cases h;exact .inl rfl
  ·rw[q'] at h;cases h;subst q;exact .inr ⟨rfl,rfl⟩
theorem Dz (I:Inv X pins σ H s) (hf:∀b∈fp,cw X pins H b) (hfl:∀b∈fp,b < s.heap.objs.size) (hk:scope.kind=.function)
  (hfree:∀x∈scope.names,x.2=.free->X.env.kindOf x.1=some .cell\/X.env.kindOf x.1=some .free)
  (hns:h4.Ns s.heap.objs.size (fun _=>none)) (hkeep:∀b o,s.heap.get? b=some o->h4.get? b=some o) (hco:CellsOk h4 (s.heap.objs.size+1) (cellsFrom (s.heap.objs.size+1) scope.names []))
  (hdup:∀ {x:Str},(x,NameKind.cell)∈scope.names->(x,NameKind.free)∈scope.names->False) (hcap:∀ (i:Nat) (x:Str) (v:V),N[i]?=some x->σ'[i]?=some (some v)->scope.names.lookup x=some .free/\∃j:Nat,X.N[j]?=some x/\σ[j]?=some (some v)) (hlen:σ'.length=N.length) (t':Nat) :
  Inv (aR X scope N fp s H) [] σ' H { s with heap:=h4,toks:=t' }:=by
 have hcl:=jr I.ok hfree
 have clx:∀x c,(dS X.env scope.names []).lookup x=some c->X.env.cells.lookup x=some c:=fun x c e=>jI hcl (fun _ _ z=>by cases z) x c (mem_of_lookup e)
 have look:∀x c,(eI X scope s.heap.objs.size).cells.lookup x=some c->(x,c)∈cellsFrom (s.heap.objs.size+1) scope.names []\/X.env.cells.lookup x=some c:=fun x c e=>by
  have e:(cellsFrom (s.heap.objs.size+1) scope.names (dS X.env scope.names [])).lookup x=some c:=e
  rw[bP] at e
  rcases iY e with q|⟨_,q⟩
  ·exact .inl (mem_of_lookup q)
  ·exact .inr (clx x c q)
 have old:∀x c,X.env.cells.lookup x=some c->c < s.heap.objs.size:=fun x c e=>let ⟨_,q⟩:=I.cell x c e;q.lt
 have new:∀x c,(x,c)∈cellsFrom (s.heap.objs.size+1) scope.names []->s.heap.objs.size < c:=fun x c e=>(hco.empty x c e).2
 refine⟨⟨I.ok.mod,?_,I.ok.glob,I.ok.blt,Nat.le_refl _,?_,?_,?_,I.ok.hd,I.ok.frames,.inl rfl,?_,I.bs,Nat.le_trans I.ok.bsz I.sz,?_,?_,I.stack,I.stkFree⟩,rfl,I.bare,Un.kept hkeep,⟨_,hns,?_⟩,?_,I.hok.fresh (Nat.le_refl _),?_,
  fun p hp=>absurd (show p∈([]:List (Addr×Obj)) from hp) (by simp),I.hok.kept hkeep,hlen⟩
 ·show (relabel scope X.env).kind=_
  exact hk
 ·intro x y c e1 e2
  rcases look x c e1 with a|a<;>rcases look y c e2 with b|b
  ·exact name_of_addr hco.apart a b
  ·exact absurd (Nat.lt_trans (new x c a) (old y c b)) (Nat.lt_irrefl _)
  ·exact absurd (Nat.lt_trans (new y c b) (old x c a)) (Nat.lt_irrefl _)
  ·exact I.ok.inj x y c a b
 ·intro x hx
  show ∃c,(cellsFrom (s.heap.objs.size+1) scope.names (dS X.env scope.names [])).lookup x=some c
  refine Option.isSome_iff_exists.mp (PySem.W.cellsFrom_some _ _ _ ?_)
  rcases hx with hx|hx
  ·rcases j1 hx with q|⟨_,q⟩
   ·exact .inl q
   ·exact .inr (Option.isSome_iff_exists.mpr (fN (.inl q)))
  ·rcases j1 hx with q|⟨q,_⟩
   ·exact .inr (Option.isSome_iff_exists.mpr (fN (.inl q)))
   ·cases q
 ·intro x c hfn e
  have hfn:scope.names.lookup x=some .cell:=of_decide_eq_true hfn
  have e:(cellsFrom (s.heap.objs.size+1) scope.names (dS X.env scope.names [])).lookup x=some c:=e
  obtain⟨c',hc'⟩:=nY (n:=s.heap.objs.size+1) hfn
  rw[bP,iX hc'] at e
  cases e
  exact Nat.le_of_lt (new x c (mem_of_lookup hc'))
 ·intro b hb
  refine⟨Nat.ne_of_lt (hfl b hb),fun x c e z=>?_⟩
  rcases look x c e with a|a
  ·exact absurd (Nat.lt_trans (new x c a) (by rw[z];exact hfl b hb)) (Nat.lt_irrefl _)
  ·exact (hf b hb).2.2.2.2.1 x c a z
 ·intro b o e hb
  obtain⟨f0,f1,f2,f3,f4,f5⟩:=hf b hb
  rcases f3 with z|z
  ·exact I.ok.noex b o e z
  ·exact absurd (Nat.lt_of_lt_of_le (Heap.lt_size (I.ok.bs b o e).1) z) (Nat.lt_irrefl _)
 ·intro b hb hz
  obtain⟨f0,f1,f2,f3,f4,f5⟩:=hf b hb
  rcases List.mem_cons.mp (I.stkSub b hz) with z|z
  ·exact f1 z
  ·exact f2 z
 ·intro i x v e1 e2 e3
  obtain⟨hfr,j,hj,hv⟩:=hcap i x v e1 e2
  have hm:(x,NameKind.free)∈scope.names:=mem_of_lookup hfr
  obtain⟨m,hn,hl⟩:=I.loc
  have kx:=hfree _ hm rfl
  obtain⟨u,ru,lk⟩:=hl j x v hj hv (kx.elim (fun k=>.inr (.inl k)) fun k=>.inr (.inr k))
  refine⟨u,ru,.inr ⟨?_,?_⟩⟩
  ·rcases lW (X:=X) (C:=s.heap.objs.size) hfr with q|⟨_,q⟩
   ·exact .inr q
   ·exact .inl q
  ·rcases lk with ⟨k,_⟩|⟨_,c,ec,ic⟩
   ·have k:X.env.kindOf x=some .local:=k
    rcases kx with k'|k'<;>· rw[k] at k';cases k'
   ·obtain⟨c',hc'⟩:=fN (env:=X.env) (acc:=[]) (.inl hfr)
    have e':=clx x c' hc'
    rw[ec] at e'
    cases e'
    refine⟨c,?_,ic.keeps hkeep⟩
    show (cellsFrom (s.heap.objs.size+1) scope.names (dS X.env scope.names [])).lookup x=some c
    rw[bP]
    cases eo:(cellsFrom (s.heap.objs.size+1) scope.names []).lookup x with
    | none=>rw[gX eo];exact hc'
    | some d =>
     have hcm:=fJ _ _ _ _ (mem_of_lookup eo)
     exact (hdup hcm hm).elim
 ·intro x c e
  rcases look x c e with a|a
  ·exact⟨_,(hco.empty x c a).1⟩
  ·obtain⟨v,q⟩:=I.cell x c a
   exact⟨v,q.keeps hkeep⟩
 ·intro x c e
  rcases look x c e with a|a
  ·exact I.hok.fresh (Nat.le_of_lt (new x c a))
  ·exact I.freeC x c a
end
end L2
namespace L2
open PySem PySem.Spec PyProof.Rows
noncomputable abbrev wg (ifs:List Expr) (env:Env):Sem Bool:=forIn ifs true fun c r=>if r=true then do let ok <- isTrue c env (eval c env);pure (ForInStep.yield ok) else pure (ForInStep.yield r)
noncomputable def JM (X:Cx) (ifs:List Expr) (t:TT):Prop :=
 ∀ (pins:List (Addr×Obj)) (s:Shared) (σ:St) (H:Hp) (Q:Bool->Hp->Prop),Inv X pins σ H s->t σ H Q->wpAny (model X.prog X.w) X.A (wg ifs X.env) (TP X pins σ Q) X.xe s
theorem EG {X:Cx}:JM X [] (fun _ H Q=>Q true H):=fun _ _ _ H _ I h=>wpAny_tests_nil ⟨H,I,h⟩
theorem El {X:Cx}{c:Expr}{t:TT}(h:PT X c t):JM X [c] t:=fun pins s σ H Q I q=>wpAny_tests_one (h pins s σ H Q I q)
theorem uc {prog:Program}{w:World}{A:Around}{R:Result->Shared->Prop}{s:Shared}{elt target iter:Expr}{ifs:List Expr}{scope:Scope}{pos:Pos}{it acc:Value}{env:Env}(I:Nat->Shared->Prop)
  (turn:∀n s,I n s->wpAny (model prog w) A (pyNext it) (fun r s₁=>match r with
   | none=>R (.ok .next) s₁
   | some v=>wpAny (model prog w) A (letOwnedTupleGo target it v) (fun _ s₁'=>wpAny (model prog w) A (assign target env v) (fun _ s₂ =>
     wpAny (model prog w) A (wg ifs env) (fun ok s₃ =>
      if ok=true then wpAny (model prog w) A (eval elt env) (fun x s₄ =>
       wpAny (model prog w) A (call (.builtin "list.append") [acc,x]) (fun _ s₅=>∃m,m < n/\I m s₅) (fun _ _=>False) s₄) (fun _ _=>False) s₃
      else ∃m,m < n/\I m s₃) (fun _ _=>False) s₂) (fun _ _=>False) s₁') (fun _ _=>False) s₁) (fun _ _=>False) s)
  (n:Nat) (h:I n s) :
  codeAny (model prog w) A (.compLoop (.ListComp elt [⟨target,iter,ifs,0⟩] scope pos) 0 it acc env) R s:=by
 refine codeAny_loop rfl I (fun n s hI=>?_) n h
 show wpAny _ A ((compTurn (.ListComp elt [⟨target,iter,ifs,0⟩] scope pos) 0 it acc env).onRaise (fun x=>do noteFrame x env;theTreesLotGoes x)) _ _ s
 refine wpAny_noted ?_
 rw[compTurn_list]
 refine wpAny_bind (wpAny_standAt (wpAny_bind (wpAny_mono (turn n s hI) (fun r s₁ h₁=>?_) fun _ _ h'=>h'.elim)))
 cases r with
 | none=>exact wpAny_pure h₁
 | some v =>
  refine wpAny_bind (wpAny_mono h₁ (fun _ s₁' h₁'=>?_) fun _ _ h'=>h'.elim)
  refine wpAny_bind (wpAny_mono h₁' (fun _ s₂ h₂=>wpAny_bind (wpAny_mono h₂ (fun ok s₃ h₃=>?_) fun _ _ h'=>h'.elim)) fun _ _ h'=>h'.elim)
  cases ok with
  | false=>exact wpAny_pure ⟨rfl,h₃⟩
  | true =>
   exact wpAny_bind (wpAny_bind (wpAny_mono h₃ (fun x s₄ h₄=>wpAny_bind (wpAny_mono h₄ (fun _ s₅ h₅=>wpAny_pure (wpAny_pure ⟨rfl,h₅⟩)) fun _ _ h'=>h'.elim)) fun _ _ h'=>h'.elim))
noncomputable def ze (X:Cx) (pins:List (Addr×Obj)) (σ:St) (Q:VK) (acc:Value) (C:Addr) (r:Result) (s5:Shared):Prop :=
 ∃ (D:Addr) (H5:Hp) (m:Str->Option Value),acc=.ref D/\r=.ok .next/\Inv X pins σ H5 s5/\s5.heap.Ns C m/\cw X pins H5 C/\Q (.ref D) H5
noncomputable def Bg (J:It) (g:TG) (tt:TT) (te:TE) (D:Addr) (σ0:St) (H0:Hp) (Q:VK):Prop :=
 ∃W:Nat->Nat->St->Hp->Prop,(∃m,W 0 m σ0 H0)/\∀i m σ H,W i m σ H ->
  (J.stop i H/\Q (.ref D) H)\/(J.go i H/\∀x H',J.yld i H x H'->g x σ H' fun σ2 H2=>tt σ2 H2 fun b H3 =>
   if b=true then te σ2 H3 fun v H4=>∃ys,H4 D=some (.lst ys)/\ys.length < sizeLine/\∃m',m' < m/\W (i+1) m' σ2 (upd H4 D (.lst (ys++[v])))
   else ∃m',m' < m/\W (i+1) m' σ2 H3)
section
variable {X:Cx}{pins:List (Addr×Obj)}{σ σ':St}{H:Hp}{s:Shared}{scope:Scope}{N:List Str}
 {tg iter elt:Expr}{ifs:List Expr}{pos:Pos}{g:TG}{tt:TT}{te:TE}
theorem qM {J:It}{fp:List Addr}{it:Addr}{tn:Nat->Heap->Prop}{Q:VK}(hc:X.calm=true) (I:Inv X pins σ H s) (T:Turn X.prog X.w X.K tg J fp it tn) (st:tn 0 s.heap) (hf:∀b∈fp,cw X pins H b) (hk:scope.kind=.function)
  (hfree:∀x∈scope.names,x.2=.free->X.env.kindOf x.1=some .cell\/X.env.kindOf x.1=some .free) (hdup:∀ {x:Str},(x,NameKind.cell)∈scope.names->(x,NameKind.free)∈scope.names->False)
  (hcap:∀ (i:Nat) (x:Str) (v:V),N[i]?=some x->σ'[i]?=some (some v)->scope.names.lookup x=some .free/\∃j:Nat,X.N[j]?=some x/\σ[j]?=some (some v)) (hlen:σ'.length=N.length)
  (hY:∀fp s H,PG (aR X scope N fp s H) tg g/\JM (aR X scope N fp s H) ifs tt/\PE (aR X scope N fp s H) elt te)
  (hrd:∀D,H D=none->Bg J g tt te D σ' (upd H D (.lst [])) Q) {E:Value->Shared->Prop} :
  wpAny (model X.prog X.w) X.A (newList []) (fun acc s₃=>wpAny (model X.prog X.w) X.A (newFunctionEnv scope X.env.globals (dS X.env scope.names []) [] X.env.qual none .none (some X.env)) (fun cenv s₄ =>
   codeAny (model X.prog X.w) X.A (.compStart (.ListComp elt [⟨tg,iter,ifs,0⟩] scope pos) 0 (.ref it) acc { cenv with scope:=relabel scope X.env }) (ze X pins σ Q acc cenv.locals) s₄) E s₃) E s:=by
 refine wpAny_newObj_type ?_
 have hfl:∀b∈fp,b < s.heap.objs.size:=fun b hb=>let ⟨o,e,_⟩:=T.obj _ _ st b hb;Heap.lt_size e
 have I3:=I.lnew (ys:=[]) (its:=[]) (t':=s.toks) .nil (Nat.zero_le _)
 have hD:H s.heap.objs.size=none:=I.fresh
 obtain⟨W,⟨m0,w0⟩,turn⟩:=hrd _ hD
 generalize e3:({ s with heap:=s.heap.push { cls:=.type "list",data:=.seq ([]:List Value).toArray },toks:=s.toks }:Shared)=s3 at I3
 have e3h:s3.heap=s.heap.push { cls:=.type "list",data:=.seq ([]:List Value).toArray }:=by rw[<- e3]
 generalize hH3:upd H s.heap.objs.size (.lst [])=H3 at I3 w0 turn
 have hlt:s.heap.objs.size < s3.heap.objs.size:=by rw[e3h,Heap.size_push];exact Nat.lt_succ_self _
 have hk3:∀b o,s.heap.get? b=some o->s3.heap.get? b=some o:=fun b o e=>by rw[e3h];exact Heap.get?_push_of_some _ e
 generalize s.heap.objs.size=D at *
 have f3:∀b∈fp,cw X pins H3 b:=fun b hb=>by
  obtain⟨f0,f⟩:=hf b hb
  refine⟨?_,f⟩
  rw[<- hH3,aB (Nat.ne_of_lt (hfl b hb))]
  exact f0
 have st3:tn 0 s3.heap:=T.keep _ _ _ st fun b _ o e=>hk3 b o e
 refine xx fun h4 hns hkp hco=>?_
 dsimp only
 have I4:=Dz (N:=N) (σ':=σ') (fp:=fp) I3 f3 (fun b hb=>Nat.lt_trans (hfl b hb) hlt) hk hfree hns hkp hco hdup hcap hlen s3.toks
 have fC:∀H',H' s3.heap.objs.size=none->cw X pins H' s3.heap.objs.size:=fun H' hn=>I3.fpOk (Nat.le_refl _) hn
 obtain⟨hg,htt,hte⟩:=hY fp s3 H3
 have efp:∀b∈fp,∀H':Hp,H' b=none->cw (aR X scope N fp s3 H3) [] H' b:=fun b hb H' hn=>by
  refine⟨hn,(I4.ok.exf b hb).1,I4.ok.exfs b hb,.inl hb,(I4.ok.exf b hb).2,fun p hp=>?_⟩
  cases hp
 have loop:codeAny (model X.prog X.w) X.A (.compLoop (.ListComp elt [⟨tg,iter,ifs,0⟩] scope pos) 0 (.ref it) (.ref D) (eI X scope s3.heap.objs.size)) (ze X pins σ Q (.ref D) s3.heap.objs.size) { s3 with heap:=h4 }:=by
  refine uc (fun n s'=>∃i σ' H',Inv (aR X scope N fp s3 H3) [] σ' H' s'/\tn i s'.heap/\(∀b∈fp,H' b=none)/\W i n σ' H') ?_ m0
   ⟨0,σ',H3,I4,T.keep _ _ _ st3 fun b _ o e=>hkp b o e,fun b hb=>(f3 b hb).1,w0⟩
  rintro n s5 ⟨i,σ5,H5,I5,st5,fr5,w5⟩
  rcases turn i n σ5 H5 w5 with ⟨stop,q⟩|⟨go,step⟩
  ·refine bS (T.done (aR X scope N fp s3 H3) rfl rfl rfl hc i [] s5 σ5 H5 _ I5 (fun b hb=>efp b hb H5 (fr5 b hb)) st5 stop) fun r s6 ⟨hr,I6⟩=>?_
   subst hr
   obtain⟨m,hn6,_⟩:=I6.loc
   refine⟨D,H5,m,rfl,rfl,I3.call' I6.os I6.base I6.hok I6.bare (fun b hb=>?_),hn6,fC H5 I6.free,q⟩
   obtain⟨f0,f1,f2,f4,f5,f6⟩:=f3 b hb
   exact⟨f4,f1,f5,f6⟩
  ·refine bS (T.item (aR X scope N fp s3 H3) rfl rfl rfl hc i [] s5 σ5 H5 _ I5 (fun b hb=>efp b hb H5 (fr5 b hb)) st5 go) fun r s6 ⟨u,hr,h6⟩=>?_
   subst hr
   refine bS h6 fun _ s7 ⟨x,H7,I7,r7,y7,st7,fr7⟩=>?_
   have I7':=I7.pinned (fun b hb=>efp b hb H7 (fr7 b hb)) (T.obj _ _ st7)
   have again:∀ {pl:List (Addr×Obj)}{σ9:St}{H9:Hp}{s9:Shared}{n':Nat},Inv (aR X scope N fp s3 H3) ([]++mB fp s7.heap) σ9 H9 s9->W (i+1) n' σ9 H9->∃i σ' H',Inv (aR X scope N fp s3 H3) [] σ' H' s9/\tn i s9.heap/\(∀b∈fp,H' b=none)/\W i n' σ' H':=fun {pl σ9 H9 s9 n'} I9 w9=>by
    refine⟨i+1,σ9,H9,I9.unpinned,T.keep _ _ _ st7 fun b hb o e=>(I9.pin (b,o) (List.mem_append_right _ (List.mem_append_right _ (di hb e)))).1,fun b hb=>?_,w9⟩
    obtain⟨o,e,d⟩:=T.obj _ _ st7 b hb
    exact (I9.pin (b,o) (List.mem_append_right _ (List.mem_append_right _ (di hb e)))).2.1
   refine bS (hg _ s7 σ5 H7 x u _ I7' r7 (step x H7 y7)) fun _ s8 ⟨σ8,H8,I8,q8⟩=>?_
   refine bS (htt _ s8 σ8 H8 _ I8 q8) fun ok s9 ⟨H9,I9,q9⟩=>?_
   cases ok with
   | false =>
    rw[if_neg (by decide)] at q9
    rw[if_neg (by decide)]
    obtain⟨m',hm,w9⟩:=q9
    exact⟨m',hm,again (pl:=[]) I9 w9⟩
   | true =>
    rw[if_pos rfl] at q9
    rw[if_pos rfl]
    refine bS (hte _ s9 σ8 H9 _ I9 q9) fun y s10 ⟨v,H10,I10,r10,ys,hD10,hz,m',hm,w10⟩=>?_
    refine bS (rL (X:=aR X scope N fp s3 H3) _ s10 σ8 H10 (.ref D) [v] (.ref D) [y] (fun _ H'=>W (i+1) m' σ8 H') I10 rfl (.cons r10 .nil) ⟨D,ys,v,rfl,rfl,hD10,hz,w10⟩) fun _ s11 ⟨_,H11,I11,_,w11⟩=>?_
    exact⟨m',hm,again (pl:=[]) I11 w11⟩
 exact codeAny_compStart_list loop (T.self _ 0 _ _ _ (T.keep _ _ _ st3 fun b _ o e=>hkp b o e) loop)
end
end L2
namespace L2
open PySem PySem.Spec PyProof.Rows
noncomputable def Cf (wi:TI) (g:TG) (tt:TT) (te:TE) (caps:St->St):TE:=fun σ H Q=>wi σ H fun J H1=>∀D,H1 D=none->Bg J g tt te D (caps σ) (upd H1 D (.lst [])) Q
structure iB (X:Cx) (scope:Scope) (N:List Str) (caps:St->St):Prop where
 kind:scope.kind=.function
 free:∀x∈scope.names,x.2=.free->X.env.kindOf x.1=some .cell\/X.env.kindOf x.1=some .free
 dup:∀ {x:Str},(x,NameKind.cell)∈scope.names->(x,NameKind.free)∈scope.names->False
 loc:∀x∈scope.names,x.2=.local -> scope.names.lookup x.1=some .local
 cap:∀ (σ:St) (i:Nat) (x:Str) (v:V),N[i]?=some x->(caps σ)[i]?=some (some v)->scope.names.lookup x=some .free/\∃j:Nat,X.N[j]?=some x/\σ[j]?=some (some v)
 len:∀σ:St,(caps σ).length=N.length
section
variable {X:Cx}{scope:Scope}{N:List Str}{caps:St->St}{tg iter elt:Expr}{ifs:List Expr}{pos:Pos}{wi:TI}{g:TG}{tt:TT}{te:TE}
theorem EL (hc:X.calm=true) (S:iB X scope N caps) (hi:PI X tg iter wi)
  (hY:∀fp s H,PG (aR X scope N fp s H) tg g/\JM (aR X scope N fp s H) ifs tt/\PE (aR X scope N fp s H) elt te)
  (hs:∀x,foldedSetIterable iter X.env x=pure x:=by intro _;rfl):PE X (.ListComp elt [⟨tg,iter,ifs,0⟩] scope pos) (Cf wi g tt te caps):=by
 intro pins s σ H Q I h
 rw[eval_ListComp]
 refine wpAny_comprehension_free (use:=none) rfl hs (ke (jr I.ok S.free)) S.kind S.loc (bS (hi pins s σ H _ I h) fun v s1 h1=>bS h1 fun itv s2 h2=>?_)
 obtain⟨it,fp,tn,J,H2,e,I2,T,st2,f2,rd⟩:=h2
 subst e
 refine bS (qM (iter:=iter) (pos:=pos) (E:=X.xe) hc I2 T st2 f2 S.kind S.free S.dup (S.cap σ) (S.len σ) hY rd) fun acc s3 h3=>bS h3 fun cenv s4 h4=>?_
 refine codeAny_mono h4 fun r s5 h5=>?_
 obtain⟨D,H5,m,rfl,rfl,I5,hn,fC,q⟩:=h5
 refine⟨m,hn,fun h' sb=>?_⟩
 obtain⟨f0,f1,f2',f3,f4,f5⟩:=fC
 exact⟨.ref D,H5,I5.turned (t':=s5.toks) (fun b o hb e=>(sb.2 b hb).trans e) f0 f1 f3 f4 f5,rfl,q⟩
theorem ED {i:Nat}{y:Str}{py spos:Pos}(hc:X.calm=true) (S:iB X scope N caps) (hi:PI X tg iter wi)
  (hY:∀fp s H,PG (aR X scope N fp s H) tg g/\JM (aR X scope N fp s H) ifs tt/\PE (aR X scope N fp s H) elt te)
  (hN:X.N.Nodup) (hiy:X.N[i]?=some y) (hy:X.env.scope.names.lookup y=some .local)
  (hsw:swapsWith (.ListComp elt [⟨tg,iter,ifs,0⟩] scope pos) (some (.Name y py)) spos.line X.env=pure true)
  (hs:∀x,foldedSetIterable iter X.env x=pure x:=by intro _;rfl):PS X (.Assign [.Name y py] (.ListComp elt [⟨tg,iter,ifs,0⟩] scope pos) spos) (DD (Cf wi g tt te caps) (v8 i)):=by
 intro pins s σ H D I h
 rw[exec_Assign_Name_used _ _ _ _ hsw]
 refine wpAny_bind (wpAny_standAt (wpAny_bind ?_))
 show wpAny _ X.A (do let _ <- comprehension (.ListComp elt [⟨tg,iter,ifs,0⟩] scope pos) scope X.env _ (newList []) false (eval iter X.env) (some (assign (.Name y py) X.env))) _ _ s
 refine wpAny_bind (wpAny_mono (wpAny_comprehension_free (use:=some (assign (.Name y py) X.env)) (Q:=fun _ s'=>SP X pins D .next s') rfl hs (ke (jr I.ok S.free)) S.kind S.loc
  (bS (hi pins s σ H _ I h) fun v s1 h1=>bS h1 fun itv s2 h2=>?_)) (fun _ s' hq=>wpAny_pure (wpAny_pure hq)) fun _ _ e=>e)
 obtain⟨it,fp,tn,J,H2,e,I2,T,st2,f2,rd⟩:=h2
 subst e
 refine bS (qM (iter:=iter) (pos:=pos) (E:=X.xe) hc I2 T st2 f2 S.kind S.free S.dup (S.cap σ) (S.len σ) hY rd) fun acc s3 h3=>bS h3 fun cenv s4 h4=>?_
 refine codeAny_mono h4 fun r s5 h5=>?_
 obtain⟨D',H5,m,rfl,rfl,I5,hn,fC,q⟩:=h5
 show wpAny _ X.A (assign (.Name y py) X.env (.ref D')) _ _ _
 refine wpAny_assign_Name (rN (v:=.ref D') I5 hN hiy (.inl hy) rfl (fun s6 I6 ⟨a,sa,ha⟩=>?_) (.inr hy))
 obtain⟨f0,f1,f2',f3,f4,f5⟩:=fC
 have hne:cenv.locals≠a:=by
  rcases ha with z|z
  ·rw[z];exact f1
  ·exact fun w=>f4 y a z w.symm
 refine⟨m,hn.sameBut sa hne,fun h' sb=>?_⟩
 exact⟨_,H5,I6.turned (t':=s6.toks) (fun b o hb e=>(sb.2 b hb).trans e) f0 f1 f3 f4 f5,q⟩
end
end L2
namespace L2
open PySem PySem.Spec PyProof.Rows
noncomputable abbrev LO (X:Cx) (qual:Str) (scope:Scope) (f c L:Addr):Env:=PySem.W.envX qual scope L f (.ref c) (dS X.env scope.names [])
noncomputable def gm (X:Cx) (A:Around) (qual:Str) (scope:Scope) (N:List Str) (f c:Addr) (s:Shared) (H:Hp):Cx where
 prog:=X.prog
 w:=X.w
 K:=X.K
 mg:=X.mg
 base:=X.base
 A:=A.deeper (LO X qual scope f c s.heap.objs.size)
 N:=N
 s₀:=s
 H₀:=H
 env:=LO X qual scope f c s.heap.objs.size
 outer:=X.stack
 stack:=LO X qual scope f c s.heap.objs.size::X.stack
 ex:=[]
 fn:=fun _=>false
 calm:=true
 pn:=[]
 xe:=fun _ _=>False
section
variable {X:Cx}{pins:List (Addr×Obj)}{σ:St}{H:Hp}{s:Shared}{scope:Scope}{N:List Str}{h1:Heap}{A:Around}{caps:St->St}{p qual:Str}{f c:Addr}{u:Value}{v:V}
theorem FH (I:Inv X pins σ H s) (hd:A.handled=none) (hA:A.frames=some X.stack) (S:iB X scope N caps) (hnc:∀x∈scope.names,x.2≠.cell) (hN0:N[0]?=some p) (hp:scope.names.lookup p=some .local) (hNd:N.Nodup) (r:RelV v u)
  (hns:h1.Ns s.heap.objs.size (fun x=>[(p,u)].reverse.lookup x)) (hkeep:∀b o,s.heap.get? b=some o->h1.get? b=some o) (t':Nat) :
  Inv (gm X A qual scope N f c s H) [] ((caps σ).set 0 (some v)) H { s with heap:=h1,toks:=t' }:=by
 have hcl:=jr I.ok S.free
 have clx:∀x c,(dS X.env scope.names []).lookup x=some c->X.env.cells.lookup x=some c:=fun x c e=>jI hcl (fun _ _ z=>by cases z) x c (mem_of_lookup e)
 have noA:∀b:Addr,b∉(gm X A qual scope N f c s H).ex:=fun b z=>absurd (show b∈([]:List Addr) from z) (by simp)
 refine⟨⟨I.ok.mod,S.kind,rfl,rfl,Nat.le_refl _,fun x y d e1 e2=>I.ok.inj x y d (clx x d e1) (clx y d e2),fun x hx=>?_,fun x d z=>?_,fun _=>hd,Around.frames_deeper hA,.inr ⟨rfl,rfl⟩,fun b z=>absurd z (noA b),I.bs,Nat.le_trans I.ok.bsz I.sz,fun b _ _=>noA b,fun b z=>absurd z (noA b),I.stack,I.stkFree⟩,
  rfl,I.bare,Un.kept hkeep,⟨_,hns,fun i x w e1 e2 e3=>?_⟩,fun x d e=>?_,I.hok.fresh (Nat.le_refl _),fun x d e=>I.freeC x d (clx x d e),fun q hq=>absurd (show q∈([]:List (Addr×Obj)) from hq) (by simp),I.hok.kept hkeep,?_⟩
 ·rcases hx with hx|hx
  ·exact absurd rfl (hnc _ (mem_of_lookup (show scope.names.lookup x=some .cell from hx)))
  ·exact fN (.inl hx)
 ·cases z
 ·cases i with
  | zero =>
   have e1:N[0]?=some x:=e1
   rw[hN0] at e1
   cases e1
   have hl:0 < (caps σ).length:=by rw[S.len];exact (List.getElem?_eq_some_iff.mp hN0).1
   rw[List.getElem?_set_self hl] at e2
   cases e2
   exact⟨u,r,.inl ⟨hp,by simp⟩⟩
  | succ i =>
   have e2':(caps σ)[i+1]?=some (some w):=by
    rw[List.getElem?_set_ne (by omega)] at e2;exact e2
   obtain⟨hfr,j,hj,hv⟩:=S.cap σ (i+1) x w e1 e2'
   have hm:(x,NameKind.free)∈scope.names:=mem_of_lookup hfr
   obtain⟨m,hn,hl⟩:=I.loc
   have kx:=S.free _ hm rfl
   obtain⟨u',ru,lk⟩:=hl j x w hj hv (kx.elim (fun k=>.inr (.inl k)) fun k=>.inr (.inr k))
   refine⟨u',ru,.inr ⟨.inr hfr,?_⟩⟩
   rcases lk with ⟨k,_⟩|⟨_,c',ec,ic⟩
   ·have k:X.env.kindOf x=some .local:=k
    rcases kx with k'|k'<;>· rw[k] at k';cases k'
   ·obtain⟨c'',hc'⟩:=fN (env:=X.env) (acc:=[]) (.inl hfr)
    have e':=clx x c'' hc'
    rw[ec] at e'
    cases e'
    exact⟨c',hc',ic.keeps hkeep⟩
 ·obtain⟨w,q⟩:=I.cell x d (clx x d e)
  exact⟨w,q.keeps hkeep⟩
 ·rw[List.length_set];exact S.len σ
theorem vz {k:Nat}{params:Arguments}{body:Expr}{pm ctv:Value}{name:Str}{te:TE}{Q:VK}(I:Inv X pins σ H s) (hr:dN (k+1) A) (hA:A.frames=some X.stack) (S:iB X scope N caps) (hnc:∀x∈scope.names,x.2≠.cell)
  (hN0:N[0]?=some p) (hp:scope.names.lookup p=some .local) (hNd:N.Nodup) (hco:scope.isCoroutine=false) (hgen:scope.isGenerator=false)
  (hf:s.heap.get? f=some (PySem.W.kla_obj name qual params body scope (dS X.env scope.names []) pm c ctv)) (hcod:H c=some (.cod qual)) (hb:bindArgs (PySem.W.kla_fn name qual params body scope (dS X.env scope.names []) pm (.ref c) ctv) ⟨[u],[]⟩=pure [(p,u)])
  (r:RelV v u) (hY:PE (gm X A qual scope N f c s H) body te) (q:te ((caps σ).set 0 (some v)) H Q) :
  wpAny (model X.prog X.w) A (call (.ref f) [u]) (EP X pins σ Q) (fun _ _=>False) s:=by
 have hcd:s.heap.CodeRec (.ref c) qual:=I.hok c _ hcod
 refine wpAny_call (PySem.W.kla_callFunE hr.depth hf rfl hco hgen rfl hcd ?_)
 rw[hb]
 refine wpAny_pure (wpAny_newFunctionEnv hnc (fun y hy=>?_) (fun h1 hns hsb=>⟨?_,?_⟩) S.kind)
 ·rw[List.mem_singleton.mp hy];exact hp
 ·exact I.nolimit.fresh _ hsb
 ·have hk1:∀b o,s.heap.get? b=some o->h1.get? b=some o:=fun b o e=>hsb.extBut b o (Nat.ne_of_lt (Heap.lt_size e)) (Heap.get?_push_of_some _ e)
  have I1:=FH (qual:=qual) (f:=f) (c:=c) I hr.hd hA S hnc hN0 hp hNd r hns hk1 (s.toks+[(p,u)].length)
  refine PySem.W.kla_codeExpr (wpAny_mono (hY [] _ _ H Q I1 q) (fun w s' ⟨v',H',I',r',q'⟩=>?_) fun e s' h=>False.elim h)
  exact⟨v',H',I.call' I'.os I'.base I'.hok I'.bare (fun b z=>absurd (show b∈([]:List Addr) from z) (by simp)),r',q'⟩
end
theorem wO {pos pos':Pos}{c v:Value}(l:List Value) (h:TriplesOk l) (e:codeAmong pos' (l++[rawInt pos.line,rawInt pos.col,c])=some v):codeAmong pos' l=some v\/v=c:=by
 fun_induction TriplesOk l with
 | case1 =>
  simp only[List.nil_append,codeAmong,rawInt] at e
  split at e
  ·cases e;exact .inr rfl
  ·cases e
 | case2 a t b u x rest ih =>
  simp only[List.cons_append,codeAmong] at e ⊢
  split at e
  ·rename_i hc;rw[if_pos hc];exact .inl e
  ·rename_i hc;rw[if_neg hc];exact ih h e
 | case3 l h1 h2=>exact h.elim
section
variable {X:Cx}{pins:List (Addr×Obj)}{σ:St}{H:Hp}{s:Shared}{scope:Scope}{N:List Str}{caps:St->St}{qual:Str}{c P:Addr}
theorem wt {params:Arguments}{body:Expr}{lpos:Pos}{Q:Value->Shared->Prop}(I:Inv X pins σ H s) (S:iB X scope N caps) (hq:X.env.qual++"<lambda>"=qual) (hcode:X.env.code=.ref c) (C:PySem.W.CodeHd X.base c P) (hT:H P=some (.tab qual)) (hB:K9 X.mg X.base)
  (hdef:defaultsOf params X.env=([],[]))
  (h:∀ (f c':Addr) (pm ctv:Value) (s':Shared) (H':Hp),Inv X pins σ H' s'->s'.heap.get? f=some (PySem.W.kla_obj "<lambda>" qual params body scope (dS X.env scope.names []) pm c' ctv)->H' f=none->H' c'=some (.cod qual)->aW H H'->cw X pins H' f->(∀b,H' b≠none->H b≠none\/H' b=some (.cod qual))->Q (.ref f) s') :
  wpAny (model X.prog X.w) X.A (eval (.Lambda params body scope lpos) X.env) Q X.xe s:=by
 have hcl:=ke (jr I.ok S.free)
 have hCs:=C.keeps I.bk
 have hg:s.heap.Ns mainGlobals X.mg:=by
  obtain⟨o,es,ep,e,r⟩:=I.ok.mod.glob
  exact⟨o,es,ep,I.bk _ _ e,r⟩
 have hPn:X.base.get? P=none:=by
  cases e:X.base.get? P with
  | none=>rfl
  | some o=>rw[(I.bs P o e).2] at hT;cases hT
 obtain⟨ps,hP,ht,hco⟩:=I.hok P _ hT
 have hb:s.heap.BuiltinsAt X.mg P:=by
  obtain⟨bm,o,b1,b2,b3,b4,b5⟩:=hB
  exact⟨bm,o,b1,b2,b3,(fun z=>by rw[z,hPn] at b4;cases b4),I.bk _ _ b4,b5⟩
 refine PySem.W.kla_eval hdef ?_
 rw[hq]
 cases hf:codeAmong lpos ps.toList with
 | some cv =>
  obtain⟨c',rfl,hc'⟩:=hco lpos cv hf
  refine PySem.W.kla_makeFunctionHit hcl I.ok.glob hg hcode hCs hP ht hf hb fun ctv h' tk kp hz=>?_
  have kp2:∀b o,s.heap.get? b=some o->(h'.push (PySem.W.kla_obj "<lambda>" qual params body scope (dS X.env scope.names []) ((X.mg "__name__").getD .none) c' ctv)).get? b=some o:=fun b o e=>Heap.get?_push_of_some _ (kp b o e)
  have hn:H h'.objs.size=none:=I.hok.fresh hz
  exact h _ c' _ ctv _ H (I.kept (t':=tk) kp2) (Heap.get?_push_size _ rfl) hn hc' (.refl _) (I.fpOk hz hn) fun b z=>.inl z
 | none =>
  have hgP:mainGlobals≠P:=fun z=>by
   obtain⟨o,es,ep,e,r⟩:=I.ok.mod.glob
   rw[z,hPn] at e;cases e
  refine PySem.W.kla_makeFunction hcl I.ok.glob hg hcode hCs hP ht hf hgP hb fun c' ctv h' tk hx hc1 hc2 hcr hP'=>?_
  have hn:H c'=none:=I.hok.fresh hc1
  have hz:s.heap.objs.size<=h'.objs.size:=Nat.le_of_lt (Nat.lt_of_le_of_lt hc1 hc2)
  have nP:∀ {b:Addr}{u:HO},H b=some u->(∀q,u≠.tab q)->b≠P:=fun {b u} e hne z=>by subst z;rw[hT] at e;cases e;exact hne _ rfl
  have kp:∀b o,b≠P->s.heap.get? b=some o->(h'.push (PySem.W.kla_obj "<lambda>" qual params body scope (dS X.env scope.names []) ((X.mg "__name__").getD .none) c' ctv)).get? b=some o:=fun b o hb e=>Heap.get?_push_of_some _ (hx b o hb e)
  have hPc:P≠c':=fun z=>by rw[<- z,hT] at hn;cases hn
  have up:∀b u,H b=some u->upd H c' (.cod qual) b=some u:=fun b u e=>by rw[aB (aM e hn)];exact e
  have un:Un X.fs [] H (upd H c' (.cod qual)) s.heap (h'.push (PySem.W.kla_obj "<lambda>" qual params body scope (dS X.env scope.names []) ((X.mg "__name__").getD .none) c' ctv)):=by
   refine⟨fun b o e n _ _=>kp b o (fun z=>by rw[z,hT] at n;cases n) e,fun b o e n _ _=>⟨o.slots,kp b o (fun z=>by rw[z,hT] at n;cases n) e⟩,fun b o e n _=>?_,fun b o e _=>?_,fun b xs e=>up b _ e,fun b o u e=>up b _ e,⟨fun b u e _=>up b u e,fun b q ps' e z=>?_⟩⟩
   ·rw[aB (Nat.ne_of_lt (Nat.lt_of_lt_of_le (Heap.lt_size e) hc1))];exact n
   ·by_cases hb:b=P
    ·subst hb;exact⟨_,Heap.get?_push_of_some _ hP'⟩
    ·exact⟨o,kp b o hb e⟩
   ·by_cases hb:b=P
    ·subst hb
     rw[hP] at z
     cases z
     exact⟨_,Heap.get?_push_of_some _ hP'⟩
    ·exact⟨#[],by rw[Array.append_empty];exact kp b _ hb z⟩
  have hok:nH X.prog X.w (upd H c' (.cod qual)) (h'.push (PySem.W.kla_obj "<lambda>" qual params body scope (dS X.env scope.names []) ((X.mg "__name__").getD .none) c' ctv)):=by
   intro b u e
   by_cases hbc:b=c'
   ·subst hbc
    rw[aE] at e
    cases e
    obtain⟨c0,oc,vs,t,e0,e1,r⟩:=hcr
    exact⟨c0,oc,vs,t,e0,Heap.get?_push_of_some _ e1,r⟩
   ·rw[aB hbc] at e
    by_cases hb:b=P
    ·subst hb
     rw[hT] at e
     cases e
     refine⟨_,Heap.get?_push_of_some _ hP',?_,fun pos v hv=>?_⟩
     ·have:=TriplesOk_snoc lpos.line lpos.col (.ref c') ps.toList ht
      simpa using this
     ·have hv':codeAmong pos (ps.toList++[rawInt lpos.line,rawInt lpos.col,.ref c'])=some v:=by simpa using hv
      rcases wO ps.toList ht hv' with z|z
      ·obtain⟨c0,z1,z2⟩:=hco pos v z
       exact⟨c0,z1,up _ _ z2⟩
      ·exact⟨c',z,aE⟩
    ·exact (I.hok b u e).stay (fun d o hd eo=>kp d o (by
      rcases hd with rfl|hd
      ·exact hb
      ·exact nP hd fun q z=>by cases z) eo) (fun d hd=>up d _ hd) fun d o hd _=>up d _ hd
  have I':=I.un (t':=tk) un hok
  have hnf:upd H c' (.cod qual) h'.objs.size=none:=by
   rw[aB (Nat.ne_of_gt hc2)];exact I.hok.fresh hz
  refine h _ c' _ ctv _ _ I' (Heap.get?_push_size _ rfl) hnf aE up (I.fpOk hz hnf) fun b z=>?_
  by_cases hbc:b=c'
  ·subst hbc;exact .inr aE
  ·rw[aB hbc] at z;exact .inl z
end
end L2
namespace Dl
open PySem L2 PySem.Spec PyProof.Rows
noncomputable abbrev D:=PyData
mutual
noncomputable def Rep (K:PySem.W.Frag) (H:Hp):D->V->Prop
 | .none,v=>v=.non
 | .bool b,v=>v=.bl b
 | .int i,v=>v=.int i
 | .str x,v=>v=.str x
 | .tuple ds,v=>∃a vs,v=.ref a/\i3 K H a vs/\ar K H ds vs
 | .list ds,v=>∃a vs,v=.ref a/\ib K H a vs/\ar K H ds vs
 | .dict _,_=>False
noncomputable def ar (K:PySem.W.Frag) (H:Hp):List D->List V->Prop
 | [],vs=>vs=[]
 | d::ds,vs=>∃v r,vs=v::r/\Rep K H d v/\ar K H ds r
end
theorem az {K:PySem.W.Frag}{H H':Hp}{a:Addr}{xs:List V}(e:aW H H') (h:i3 K H a xs):i3 K H' a xs:=by
 rcases h with (h|⟨o,h⟩)|h
 ·exact .inl (.inl (e _ _ h))
 ·exact .inl (.inr ⟨o,e _ _ h⟩)
 ·exact .inr h
mutual
theorem Rep.mono {K:PySem.W.Frag}{H H':Hp}(e:aW H H'):∀ {d:D}{v:V},Rep K H d v->Rep K H' d v
 | .none,_,h=>h
 | .bool _,_,h=>h
 | .int _,_,h=>h
 | .str _,_,h=>h
 | .tuple ds,_,h=>by
  simp only[Rep] at h ⊢
  obtain⟨a,vs,rfl,q,r⟩:=h
  exact⟨a,vs,rfl,az e q,ar.mono e r⟩
 | .list ds,_,h=>by
  simp only[Rep] at h ⊢
  obtain⟨a,vs,rfl,q,r⟩:=h
  exact⟨a,vs,rfl,e.seq q,ar.mono e r⟩
 | .dict _,_,h=>h
theorem ar.mono {K:PySem.W.Frag}{H H':Hp}(e:aW H H'):∀ {ds:List D}{vs:List V},ar K H ds vs->ar K H' ds vs
 | [],_,h=>h
 | d::ds,_,h=>by
  simp only[ar] at h ⊢
  obtain⟨v,r,rfl,a,b⟩:=h
  exact⟨v,r,rfl,Rep.mono e a,ar.mono e b⟩
end
section
variable {K:PySem.W.Frag}{H:Hp}
theorem ar.nil:ar K H [] []:=by simp[ar]
theorem ar.cons {d:D}{v:V}{ds:List D}{vs:List V}(a:Rep K H d v) (b:ar K H ds vs):ar K H (d::ds) (v::vs):=by
 simp only[ar];exact⟨v,vs,rfl,a,b⟩
theorem ar.cons_inv {d:D}{ds:List D}{vs:List V}(h:ar K H (d::ds) vs):∃v r,vs=v::r/\Rep K H d v/\ar K H ds r:=by simpa only[ar] using h
theorem ar.nil_inv {vs:List V}(h:ar K H [] vs):vs=[]:=by simpa only[ar] using h
theorem ar.length:∀ {ds:List D}{vs:List V},ar K H ds vs->vs.length=ds.length
 | [],_,h=>by rw[h.nil_inv];rfl
 | d::ds,_,h=>by obtain⟨v,r,rfl,_,b⟩:=h.cons_inv;simp[ar.length b]
theorem ar.get:∀ {ds:List D}{vs:List V}{i:Nat}{v:V},ar K H ds vs->vs[i]?=some v->∃d,ds[i]?=some d/\Rep K H d v
 | [],_,i,v,h,e=>by rw[h.nil_inv] at e;simp at e
 | d::ds,_,i,v,h,e=>by
  obtain⟨v',r,rfl,a,b⟩:=h.cons_inv
  cases i with
  | zero=>simp at e;subst e;exact⟨d,rfl,a⟩
  | succ i=>simp at e;obtain⟨d',h1,h2⟩:=ar.get b e;exact⟨d',by simpa using h1,h2⟩
theorem ar.getD:∀ {ds:List D}{vs:List V}{i:Nat}{d:D},ar K H ds vs->ds[i]?=some d->∃v,vs[i]?=some v/\Rep K H d v
 | [],_,i,d,h,e=>by simp at e
 | d::ds,_,i,d',h,e=>by
  obtain⟨v',r,rfl,a,b⟩:=h.cons_inv
  cases i with
  | zero=>simp at e;subst e;exact⟨v',rfl,a⟩
  | succ i=>simp at e;obtain⟨v,h1,h2⟩:=ar.getD b e;exact⟨v,by simpa using h1,h2⟩
theorem ar.append:∀ {ds es:List D}{vs us:List V},ar K H ds vs->ar K H es us->ar K H (ds++es) (vs++us)
 | [],_,_,_,h,g=>by rw[h.nil_inv];exact g
 | d::ds,_,_,_,h,g=>by obtain⟨v,r,rfl,a,b⟩:=h.cons_inv;exact ar.cons a (ar.append b g)
theorem ar.take:∀ {ds:List D}{vs:List V}(n:Nat),ar K H ds vs->ar K H (ds.take n) (vs.take n)
 | [],_,n,h=>by rw[h.nil_inv];simp[ar]
 | d::ds,_,0,h=>by simp[ar]
 | d::ds,_,n+1,h=>by obtain⟨v,r,rfl,a,b⟩:=h.cons_inv;exact ar.cons a (ar.take n b)
theorem ar.drop:∀ {ds:List D}{vs:List V}(n:Nat),ar K H ds vs->ar K H (ds.drop n) (vs.drop n)
 | [],_,n,h=>by rw[h.nil_inv];simp[ar]
 | d::ds,_,0,h=>h
 | d::ds,_,n+1,h=>by obtain⟨v,r,rfl,a,b⟩:=h.cons_inv;exact ar.drop n b
theorem ar.reverse:∀ {ds:List D}{vs:List V},ar K H ds vs->ar K H ds.reverse vs.reverse
 | [],_,h=>by rw[h.nil_inv];simp[ar]
 | d::ds,_,h=>by
  obtain⟨v,r,rfl,a,b⟩:=h.cons_inv
  rw[List.reverse_cons,List.reverse_cons]
  exact ar.append (ar.reverse b) (ar.cons a ar.nil)
end
structure cq (HF H HF' H':Hp):Prop where
 hh:aW H H'
 ff:aW HF HF'
 fh:aW HF' H'
 nw:∀a o,HF' a=some o->HF a=some o\/H a=none
theorem cq.refl {HF H:Hp}(s:aW HF H):cq HF H HF H:=⟨.refl _,.refl _,s,fun _ _ e=>.inl e⟩
theorem cq.trans {HF H HF1 H1 HF2 H2:Hp}(a:cq HF H HF1 H1) (b:cq HF1 H1 HF2 H2):cq HF H HF2 H2 :=
 ⟨a.hh.trans b.hh,a.ff.trans b.ff,b.fh,fun x o e=>(b.nw x o e).elim (fun z=>a.nw x o z) fun z=>.inr (a.hh.free z)⟩
theorem dF {H:Hp}{p:Addr}{o:HO}(h:H p=none):aW H (upd H p o):=fun b u e=>by rw[aB (aM e h)];exact e
theorem cq.new {HF H:Hp}{p:Addr}{o:HO}(s:aW HF H) (h:H p=none):cq HF H (upd HF p o) (upd H p o):=by
 have hf:HF p=none:=s.free h
 refine⟨dF h,dF hf,fun b u e=>?_,fun b u e=>?_⟩
 ·by_cases hb:b=p
  ·subst hb;rw[aE] at e ⊢;exact e
  ·rw[aB hb] at e ⊢;exact s b u e
 ·by_cases hb:b=p
  ·subst hb;exact .inr h
  ·rw[aB hb] at e;exact .inl e
theorem cq.own {HF H:Hp}{p:Addr}{o:HO}(s:aW HF H) (h:H p=none):cq HF H HF (upd H p o) :=
 ⟨dF h,.refl _,fun b u e=>by rw[aB (aM (s b u e) h)];exact s b u e,fun _ _ e=>.inl e⟩
theorem cq.freeze {HF H HF1 H1:Hp}{p:Addr}{o:HO}(g:cq HF H HF1 H1) (h:H p=none) (h1:H1 p=some o) (hf:HF1 p=none):cq HF H (upd HF1 p o) H1 :=
 ⟨g.hh,g.ff.trans (dF hf),fun b u e=>by
  by_cases hb:b=p
  ·subst hb;rw[aE] at e;rw[h1,<- e]
  ·rw[aB hb] at e;exact g.fh b u e,fun b u e=>by
  by_cases hb:b=p
  ·subst hb;exact .inr h
  ·rw[aB hb] at e;exact g.nw b u e⟩
noncomputable def jc:List Str:=["ways_of","turned_order","fairest"]
noncomputable def fw (K:PySem.W.Frag) (HF:Hp):Prop:=∀ (f:Addr) (oc:Value) (od:Option Addr) (fd:FuncData) (sl:Array (Option Value)) (c P:Addr),K.lookup f=some ⟨oc,od,.func fd,sl⟩->fd.qualname∈jc->fd.code=.ref c->PySem.W.codeHdIn K c P=true->HF P=some (.tab (fd.qualname++".<locals>."++"<lambda>"))
theorem fw.mono {K:PySem.W.Frag}{HF HF':Hp}(h:fw K HF) (e:aW HF HF'):fw K HF':=fun f oc od fd sl c P a b d q=>e _ _ (h f oc od fd sl c P a b d q)
noncomputable abbrev Env:=List (Option D)
structure cG (K:PySem.W.Frag) (HF:Hp) (ρ:Env) (σ:L2.St):Prop where
 get:∀ (i:Nat) (d:D),ρ[i]?=some (some d)->∃v,σ[i]?=some (some v)/\Rep K HF d v
 len:ρ.length<=σ.length
 tb:fw K HF
theorem cG.mono {K:PySem.W.Frag}{HF HF':Hp}{ρ:Env}{σ:L2.St}(h:cG K HF ρ σ) (e:aW HF HF'):cG K HF' ρ σ:=⟨fun i d q=>let ⟨v,a,b⟩:=h.get i d q;⟨v,a,b.mono e⟩,h.len,h.tb.mono e⟩
noncomputable def tD (K:PySem.W.Frag) (f:Env->Option D):TE:=fun σ H Q=>∃HF ρ d,aW HF H/\cG K HF ρ σ/\f ρ=some d/\∀v H' HF',cq HF H HF' H'->Rep K HF' d v->Q v H'
noncomputable def DE (X:Cx) (e:Expr) (f:Env->Option D):Prop:=PE X e (tD X.K f)
noncomputable def tF (K:PySem.W.Frag) (f:Env->Option (List D)):TE:=fun σ H Q=>∃HF ρ ds,aW HF H/\cG K HF ρ σ/\f ρ=some ds /\
 ∀a vs H' HF',cq HF H HF' H'->H a=none->HF' a=none->H' a=some (.lst vs)->ar K HF' ds vs->Q (.ref a) H'
noncomputable def DF (X:Cx) (e:Expr) (f:Env->Option (List D)):Prop:=PE X e (tF X.K f)
noncomputable def Hx (K:PySem.W.Frag) (f:Env->Option Bool):TT:=fun σ H Q=>∃HF ρ b,aW HF H/\cG K HF ρ σ/\f ρ=some b/\∀H' HF',cq HF H HF' H'->Q b H'
noncomputable def DT (X:Cx) (e:Expr) (f:Env->Option Bool):Prop:=PT X e (Hx X.K f)
noncomputable def LP (K:PySem.W.Frag) (f:Env->Option (List D)):TA:=fun σ H Q=>∃HF ρ ds,aW HF H/\cG K HF ρ σ/\f ρ=some ds/\∀vs H' HF',cq HF H HF' H'->ar K HF' ds vs->Q vs H'
noncomputable def DA (X:Cx) (es:List Expr) (f:Env->Option (List D)):Prop:=PA X es (LP X.K f)
section
variable {X:Cx}
theorem aP {e:Expr}{t t':TE}(h:PE X e t) (i:∀σ H Q,t' σ H Q->t σ H Q):PE X e t':=fun pins s σ H Q I q=>h pins s σ H Q I (i σ H Q q)
theorem uh {e:Expr}{t t':TT}(h:PT X e t) (i:∀σ H Q,t' σ H Q->t σ H Q):PT X e t':=fun pins s σ H Q I q=>h pins s σ H Q I (i σ H Q q)
theorem BK {e:List Expr}{t t':TA}(h:PA X e t) (i:∀σ H Q,t' σ H Q->t σ H Q):PA X e t':=fun pos pins s σ H Q I q=>h pos pins s σ H Q I (i σ H Q q)
theorem bs {α β:Type}{x:Option α}{f:α->Option β}{b:β}(h:x.bind f=some b):∃a,x=some a/\f a=some b:=by
 cases x with
 | none=>cases h
 | some a=>exact⟨a,rfl,h⟩
theorem DF.de {e:Expr}{f:Env->Option (List D)}(h:DF X e f):DE X e (fun ρ=>(f ρ).map PyData.list):=aP h fun σ H Q ⟨HF,ρ,d,sm,eo,hf,q⟩=>by
 have hf:(f ρ).map PyData.list=some d:=hf
 cases e1:f ρ with
 | none=>rw[e1] at hf;cases hf
 | some ds =>
  rw[e1] at hf
  obtain rfl:PyData.list ds=d:=Option.some.inj hf
  refine⟨HF,ρ,ds,sm,eo,e1,fun a vs H' HF' g ha hf' h' r=>q _ _ (upd HF' a (.lst vs)) (g.freeze ha h' hf') ?_⟩
  simp only[Rep]
  exact⟨a,vs,rfl,.inl (.inl aE),r.mono (dF hf')⟩
noncomputable def ab (i:Nat):Env->Option D:=fun ρ=>(ρ[i]?).getD none
theorem Ja (i:Nat) {x:Str}{pos:Pos}(hN:X.N[i]?=some x) (hv:GP X.env.scope x) (hd:(x == ("__debug__":Str))=false:=by decide) (hcd:(x == ("__classdict__":Str))=false:=by decide):DE X (.Name x pos) (ab i) :=
 aP (oY hN hv hd hcd) fun σ H Q ⟨HF,ρ,d,sm,eo,hf,q⟩=>by
  have hf:(ρ[i]?).getD none=some d:=hf
  cases e:ρ[i]? with
  | none=>rw[e] at hf;cases hf
  | some o =>
   rw[e] at hf
   have hf:o=some d:=hf
   subst hf
   obtain⟨v,a,b⟩:=eo.get i d e
   exact⟨v,a,q v H HF (.refl sm) b⟩
noncomputable def fC (d:D):Env->Option D:=fun _=>some d
theorem Ib {i j pos}:DE X (.Constant (.int i) j pos) (fC (.int i)):=aP sr fun σ H Q ⟨HF,ρ,d,sm,eo,hf,q⟩=>by cases hf;exact q _ H HF (.refl sm) (by simp[Rep])
theorem JR {b j pos}:DE X (.Constant (.bool b) j pos) (fC (.bool b)):=aP KN fun σ H Q ⟨HF,ρ,d,sm,eo,hf,q⟩=>by cases hf;exact q _ H HF (.refl sm) (by simp[Rep])
theorem Ia {j pos}:DE X (.Constant .none j pos) (fC .none):=aP Jc fun σ H Q ⟨HF,ρ,d,sm,eo,hf,q⟩=>by cases hf;exact q _ H HF (.refl sm) (by simp[Rep])
theorem Ih {x j pos}:DE X (.Constant (.str x) j pos) (fC (.str x)):=aP Hu fun σ H Q ⟨HF,ρ,d,sm,eo,hf,q⟩=>by cases hf;exact q _ H HF (.refl sm) (by simp[Rep])
theorem ES {x:Str}{i:Int}{t:Tok}{pos:Pos}(hg:Gl X x) (hm:X.mg x=some (.int i t)) (hd:(x == ("__debug__":Str))=false:=by decide):DE X (.Name x pos) (fC (.int i)) :=
 aP (EC (v:=.int i) hg hm ⟨t,rfl⟩ hd) fun σ H Q ⟨HF,ρ,d,sm,eo,hf,q⟩=>by cases hf;exact q _ H HF (.refl sm) (by simp[Rep])
noncomputable def e8 (K:PySem.W.Frag) (r:R2) (g:D->D->Option D):Prop:=∀HF H x y v1 v2 d Q,aW HF H->Rep K HF x v1->Rep K HF y v2->g x y=some d->(∀v H' HF',cq HF H HF' H'->Rep K HF' d v->Q v H')->r v1 v2 H Q
noncomputable def f2 (g:D->D->Option D) (f1 f2:Env->Option D):Env->Option D:=fun ρ=>(f1 ρ).bind fun x=>(f2 ρ).bind fun y=>g x y
variable {a b c:Expr}{fa fb fc:Env->Option D}{pos:Pos}
theorem Eu {r:R2}{g:D->D->Option D}(hr:e8 X.K r g):∀σ H Q,tD X.K (f2 g fa fb) σ H Q->JW r (tD X.K fa) (tD X.K fb) σ H Q:=fun σ H Q ⟨HF,ρ,d,sm,eo,hf,q⟩=>by
 obtain⟨x,hx,hf⟩:=bs hf
 obtain⟨y,hy,hg⟩:=bs hf
 exact⟨HF,ρ,x,sm,eo,hx,fun v1 H1 HF1 g1 r1=>⟨HF1,ρ,y,g1.fh,eo.mono g1.ff,hy,fun v2 H2 HF2 g2 r2=>hr HF2 H2 x y v1 v2 d Q g2.fh (r1.mono g2.ff) r2 hg fun v H' HF' g3 r3=>q v H' HF' ((g1.trans g2).trans g3) r3⟩⟩
theorem vE {op:Operator}{r:R2}{g:D->D->Option D}(ho:gS X (binaryOp op) r) (hr:e8 X.K r g) (ha:DE X a fa) (hb:DE X b fb):DE X (.BinOp a op b pos) (f2 g fa fb):=aP (BP ho ha hb) (Eu hr)
theorem iH {op:CmpOp}{r:R2}{g:D->D->Option D}(ho:gS X (compareOp op) r) (hr:e8 X.K r g) (ha:DE X a fa) (hb:DE X b fb) (hm:behindInMarks op b=false):DE X (.Compare a [op] [b] pos) (f2 g fa fb):=aP (F3 ho ha hb hm) (Eu hr)
noncomputable def uo (C:Int->Int->Prop) [∀i j,Decidable (C i j)] (g:Int->Int->D):D->D->Option D
 | .int i,.int j=>if C i j then some (g i j) else none
 | _,_=>none
theorem D1 {K:PySem.W.Frag}{C:Int->Int->Prop}[∀i j,Decidable (C i j)] {gi:Int->Int->Int}:e8 K (rI C fun i j=>.int (gi i j)) (uo C fun i j=>.int (gi i j)):=by
 intro HF H x y v1 v2 d Q sm r1 r2 hg q
 cases x<;>cases y<;>simp only[uo] at hg<;>try cases hg
 rename_i i j
 simp only[Rep] at r1 r2
 by_cases hc:C i j
 ·rw[if_pos hc] at hg
  cases hg
  exact⟨i,j,r1,r2,hc,q _ H HF (.refl sm) (by simp[Rep])⟩
 ·rw[if_neg hc] at hg;cases hg
theorem Dh {K:PySem.W.Frag}{gi:Int->Int->Int}:e8 K (Ea fun i j=>.int (gi i j)) (uo (fun _ _=>True) fun i j=>.int (gi i j)):=by
 intro HF H x y v1 v2 d Q sm r1 r2 hg q
 cases x<;>cases y<;>simp only[uo] at hg<;>try cases hg
 rename_i i j
 simp only[Rep] at r1 r2
 exact⟨i,j,r1,r2,q _ H HF (.refl sm) (by simp[Rep])⟩
theorem gL {K:PySem.W.Frag}{gi:Int->Int->Bool}:e8 K (Ea fun i j=>.bl (gi i j)) (uo (fun _ _=>True) fun i j=>.bool (gi i j)):=by
 intro HF H x y v1 v2 d Q sm r1 r2 hg q
 cases x<;>cases y<;>simp only[uo] at hg<;>try cases hg
 rename_i i j
 simp only[Rep] at r1 r2
 exact⟨i,j,r1,r2,q _ H HF (.refl sm) (by simp[Rep])⟩
noncomputable instance (i j:Int):Decidable (pU i j):=by unfold pU;infer_instance
noncomputable instance (i j:Int):Decidable (EA i j):=by unfold EA;infer_instance
end
end Dl
namespace Dl
open PySem L2 PySem.Spec PyProof.Rows
section
variable {X:Cx}{a b c:Expr}{fa fb fc:Env->Option D}{pos:Pos}{rest:List Expr}
noncomputable def jY (fa fb:Env->Option D):Env->Option D:=fun ρ=>(fa ρ).bind fun|.bool true=>fb ρ|.bool false=>some (.bool false)|_=>none
noncomputable def LG (fa fb:Env->Option D):Env->Option D:=fun ρ=>(fa ρ).bind fun|.bool true=>some (.bool true)|.bool false=>fb ρ|_=>none
noncomputable def KE:D->Option D|.bool b=>some (.bool (!b))|_=>none
noncomputable def JF (fa:Env->Option D):Env->Option D:=fun ρ=>(fa ρ).bind KE
theorem HE {op}(h:DE X a fa):DE X (.BoolOp op [a] pos) fa:=Jo h
theorem Hi (ha:DE X a fa) (hb:DE X (.BoolOp .And (b::rest) pos) fb):DE X (.BoolOp .And (a::b::rest) pos) (jY fa fb):=aP (Ie ha hb) fun σ H Q ⟨HF,ρ,d,sm,eo,hf,q⟩=>by
 obtain⟨x,hx,hf⟩:=bs hf
 refine⟨HF,ρ,x,sm,eo,hx,fun v1 H1 HF1 g1 r1=>?_⟩
 cases x<;>try cases hf
 rename_i k
 simp only[Rep] at r1
 refine⟨k,r1,?_⟩
 cases k with
 | true=>exact vK ⟨HF1,ρ,d,g1.fh,eo.mono g1.ff,hf,fun v H' HF' g r=>q v H' HF' (g1.trans g) r⟩
 | false=>cases hf;exact uZ (q _ H1 HF1 g1 (by simp[Rep]))
theorem JU (ha:DE X a fa) (hb:DE X (.BoolOp .Or (b::rest) pos) fb):DE X (.BoolOp .Or (a::b::rest) pos) (LG fa fb):=aP (D3 ha hb) fun σ H Q ⟨HF,ρ,d,sm,eo,hf,q⟩=>by
 obtain⟨x,hx,hf⟩:=bs hf
 refine⟨HF,ρ,x,sm,eo,hx,fun v1 H1 HF1 g1 r1=>?_⟩
 cases x<;>try cases hf
 rename_i k
 simp only[Rep] at r1
 refine⟨k,r1,?_⟩
 cases k with
 | false=>exact uZ ⟨HF1,ρ,d,g1.fh,eo.mono g1.ff,hf,fun v H' HF' g r=>q v H' HF' (g1.trans g) r⟩
 | true=>cases hf;exact vK (q _ H1 HF1 g1 (by simp[Rep]))
theorem IX (ha:DE X a fa):DE X (.UnaryOp .Not a pos) (JF fa):=aP (Jb ha) fun σ H Q ⟨HF,ρ,d,sm,eo,hf,q⟩=>by
 obtain⟨x,hx,hf⟩:=bs hf
 refine⟨HF,ρ,x,sm,eo,hx,fun v1 H1 HF1 g1 r1=>?_⟩
 cases x<;>try cases hf
 rename_i k
 simp only[Rep] at r1
 exact⟨k,r1,q _ H1 HF1 g1 (by simp[Rep])⟩
noncomputable def gB:D->Option Bool|.bool b=>some b|_=>none
noncomputable def fB (f:Env->Option D):Env->Option Bool:=fun ρ=>(f ρ).bind gB
theorem xq {f:Env->Option D}:∀σ H (Q:Bool->Hp->Prop),Hx X.K (fB f) σ H Q->tD X.K f σ H fun x H1=>∃c,x=.bl c/\Q c H1:=fun σ H Q ⟨HF,ρ,k,sm,eo,hf,q⟩=>by
 obtain⟨x,hx,hf⟩:=bs hf
 refine⟨HF,ρ,x,sm,eo,hx,fun v1 H1 HF1 g1 r1=>?_⟩
 cases x<;>try cases hf
 simp only[Rep] at r1
 exact⟨_,r1,q H1 HF1 g1⟩
theorem Jk {f:Env->Option D}(h:DE X a f) (he:∀whole,isTrue a X.env whole=(do let v <- whole;standAt a.pos;holding [v] (truthy v)):=by intro _;rfl):DT X a (fB f):=uh (IM h he) xq
theorem iA {op:CmpOp}{r:R2}{g:D->D->Option D}(ho:gS X (compareOp op) r) (hr:e8 X.K r g) (ha:DE X a fa) (hb:DE X b fb) (hm:behindInMarks op b=false):DT X (.Compare a [op] [b] pos) (fB (f2 g fa fb)) :=
 uh (Eo ho ha hb hm) fun σ H Q h=>Eu hr σ H _ (xq σ H Q h)
noncomputable def f9 (fa fb:Env->Option Bool):Env->Option Bool:=fun ρ=>(fa ρ).bind fun|true=>fb ρ|false=>some false
noncomputable def ox (fa fb:Env->Option Bool):Env->Option Bool:=fun ρ=>(fa ρ).bind fun|true=>some true|false=>fb ρ
noncomputable def bw (fa:Env->Option Bool):Env->Option Bool:=fun ρ=>(fa ρ).map (!·)
variable {ta tb:Env->Option Bool}
noncomputable def DW (X:Cx) (e:Expr) (f:Env->Option Bool):Prop:=PW X e (Hx X.K f)
theorem Dk {e:Expr}{t t':TT}(h:PW X e t) (i:∀σ H Q,t' σ H Q->t σ H Q):PW X e t':=fun wh pins s σ H Q I q=>h wh pins s σ H Q I (i σ H Q q)
theorem DW.dt (h:DW X a ta):DT X a ta:=PW.pt h
theorem FY (ha:DT X a ta):DW X (.BoolOp .And [a] pos) ta:=Fh ha
theorem Jv (ha:DT X a ta):DW X (.BoolOp .Or [a] pos) ta:=Iz ha
theorem Hc (ha:DT X a ta) (hb:DW X (.BoolOp .And (b::rest) pos) tb):DW X (.BoolOp .And (a::b::rest) pos) (f9 ta tb):=Dk (HV ha hb) fun σ H Q ⟨HF,ρ,d,sm,eo,hf,q⟩=>by
 obtain⟨x,hx,hf⟩:=bs hf
 refine⟨HF,ρ,x,sm,eo,hx,fun H1 HF1 g1=>?_⟩
 cases x with
 | true=>exact vK ⟨HF1,ρ,d,g1.fh,eo.mono g1.ff,hf,fun H' HF' g=>q H' HF' (g1.trans g)⟩
 | false=>cases hf;exact uZ (q H1 HF1 g1)
theorem Kj (ha:DT X a ta) (hb:DW X (.BoolOp .Or (b::rest) pos) tb):DW X (.BoolOp .Or (a::b::rest) pos) (ox ta tb):=Dk (KS ha hb) fun σ H Q ⟨HF,ρ,d,sm,eo,hf,q⟩=>by
 obtain⟨x,hx,hf⟩:=bs hf
 refine⟨HF,ρ,x,sm,eo,hx,fun H1 HF1 g1=>?_⟩
 cases x with
 | false=>exact uZ ⟨HF1,ρ,d,g1.fh,eo.mono g1.ff,hf,fun H' HF' g=>q H' HF' (g1.trans g)⟩
 | true=>cases hf;exact vK (q H1 HF1 g1)
theorem Iw (ha:DT X a ta):DT X (.UnaryOp .Not a pos) (bw ta):=uh (HP ha) fun σ H Q ⟨HF,ρ,d,sm,eo,hf,q⟩=>by
 have hf:(ta ρ).map (!·)=some d:=hf
 cases e:ta ρ with
 | none=>rw[e] at hf;cases hf
 | some k=>rw[e] at hf;cases hf;exact⟨HF,ρ,k,sm,eo,e,fun H1 HF1 g1=>q H1 HF1 g1⟩
noncomputable def rg (tc:Env->Option Bool) (fa fb:Env->Option D):Env->Option D:=fun ρ=>(tc ρ).bind fun|true=>fa ρ|false=>fb ρ
theorem Kv {c:Expr}(hc:DT X c ta) (ha:DE X a fa) (hb:DE X b fb):DE X (.IfExp c a b pos) (rg ta fa fb):=aP (Cq hc ha hb) fun σ H Q ⟨HF,ρ,d,sm,eo,hf,q⟩=>by
 obtain⟨x,hx,hf⟩:=bs hf
 refine⟨HF,ρ,x,sm,eo,hx,fun H1 HF1 g1=>?_⟩
 cases x with
 | true=>exact vK ⟨HF1,ρ,d,g1.fh,eo.mono g1.ff,hf,fun v H' HF' g r=>q v H' HF' (g1.trans g) r⟩
 | false=>exact uZ ⟨HF1,ρ,d,g1.fh,eo.mono g1.ff,hf,fun v H' HF' g r=>q v H' HF' (g1.trans g) r⟩
noncomputable def jd (g g':D->D->Option D) (fa fb fc:Env->Option D):Env->Option D:=fun ρ=>(fa ρ).bind fun x=>(fb ρ).bind fun y=>(g x y).bind fun|.bool true=>(fc ρ).bind fun z=>g' y z|.bool false=>some (.bool false)|_=>none
theorem zw {r r':R2}{g g':D->D->Option D}(hr:e8 X.K r g) (hr':e8 X.K r' g'):∀σ H Q,tD X.K (jd g g' fa fb fc) σ H Q->yq r r' (tD X.K fa) (tD X.K fb) (tD X.K fc) σ H Q:=fun σ H Q ⟨HF,ρ,d,sm,eo,hf,q⟩=>by
 obtain⟨x,hx,hf⟩:=bs hf
 obtain⟨y,hy,hf⟩:=bs hf
 obtain⟨z,hz,hf⟩:=bs hf
 refine⟨HF,ρ,x,sm,eo,hx,fun v1 H1 HF1 g1 r1=>⟨HF1,ρ,y,g1.fh,eo.mono g1.ff,hy,fun v2 H2 HF2 g2 r2=>hr HF2 H2 x y v1 v2 z _ g2.fh (r1.mono g2.ff) r2 hz fun v3 H3 HF3 g3 r3=>?_⟩⟩
 cases z<;>try cases hf
 rename_i k
 simp only[Rep] at r3
 refine⟨k,r3,?_⟩
 have G:=(g1.trans g2).trans g3
 cases k with
 | false=>cases hf;exact uZ (q _ H3 HF3 G (by simp[Rep]))
 | true =>
  obtain⟨w,hw,hg⟩:=bs hf
  exact vK ⟨HF3,ρ,w,G.fh,eo.mono G.ff,hw,fun v4 H4 HF4 g4 r4=>hr' HF4 H4 y w v2 v4 d Q g4.fh (r2.mono (g3.ff.trans g4.ff)) r4 hg fun v H' HF' g5 r5=>q v H' HF' ((G.trans g4).trans g5) r5⟩
theorem CO {op op':CmpOp}{r r':R2}{g g':D->D->Option D}(ho:gS X (compareOp op) r) (hr:e8 X.K r g) (ho':gS X (compareOp op') r') (hr':e8 X.K r' g') (ha:DE X a fa) (hb:DE X b fb) (hc:DE X c fc)
  (hm:lastMarks [op,op'] [b,c]=false:=by with_unfolding_all rfl):DE X (.Compare a [op,op'] [b,c] pos) (jd g g' fa fb fc):=aP (Dj ho ho' ha hb hc hm) (zw hr hr')
theorem DY {op op':CmpOp}{r r':R2}{g g':D->D->Option D}(ho:gS X (compareOp op) r) (hr:e8 X.K r g) (ho':gS X (compareOp op') r') (hr':e8 X.K r' g') (ha:DE X a fa) (hb:DE X b fb) (hc:DE X c fc)
  (hm:lastMarks [op,op'] [b,c]=false:=by with_unfolding_all rfl):DT X (.Compare a [op,op'] [b,c] pos) (fB (jd g g' fa fb fc)) :=
 uh (Ds ho ho' ha hb hc hm) fun σ H Q h=>zw hr hr' σ H _ (xq σ H Q h)
noncomputable def ae:Env->Option (List D):=fun _=>some []
noncomputable def aa (f:Env->Option D) (g:Env->Option (List D)):Env->Option (List D):=fun ρ=>(f ρ).bind fun x=>(g ρ).map (x::·)
theorem C9:DA X [] ae:=BK gH fun σ H Q ⟨HF,ρ,d,sm,eo,hf,q⟩=>by cases hf;exact q [] H HF (.refl sm) ar.nil
theorem yQ {e:Expr}{es:List Expr}{f:Env->Option D}{g:Env->Option (List D)}(he:DE X e f) (hs:DA X es g) (hst:starEach (e::es) X.env=(false,eval e X.env)::starEach es X.env:=by rfl):DA X (e::es) (aa f g) :=
 BK (cZ he hs hst) fun σ H Q ⟨HF,ρ,d,sm,eo,hf,q⟩=>by
  obtain⟨x,hx,hf⟩:=bs hf
  have hf:(g ρ).map (x::·)=some d:=hf
  cases e1:g ρ with
  | none=>rw[e1] at hf;cases hf
  | some xs =>
   rw[e1] at hf;cases hf
   exact⟨HF,ρ,x,sm,eo,hx,fun v1 H1 HF1 g1 r1=>⟨HF1,ρ,xs,g1.fh,eo.mono g1.ff,e1,fun vs H2 HF2 g2 r2=>q (v1::vs) H2 HF2 (g1.trans g2) (ar.cons (r1.mono g2.ff) r2)⟩⟩
variable {es:List Expr}{fs:Env->Option (List D)}
noncomputable def small (ds:List D):Option (List D):=if ds.length<=sizeLine then some ds else none
theorem dX {ds es:List D}(h:small ds=some es):es=ds/\ds.length<=sizeLine:=by
 unfold small at h
 split at h
 ·cases h;exact⟨rfl,‹_›⟩
 ·cases h
noncomputable def aF (g:Env->Option (List D)):Env->Option D:=fun ρ=>(g ρ).bind fun ds=>(small ds).map PyData.tuple
noncomputable def cN (g:Env->Option (List D)):Env->Option (List D):=fun ρ=>(g ρ).bind small
theorem IG {x1}(h:DA X es fs):DE X (.Tuple es x1 pos) (aF fs):=aP (Hj h) fun σ H Q ⟨HF,ρ,d,sm,eo,hf,q⟩=>by
 obtain⟨ds,hx,hf⟩:=bs hf
 have hf:(small ds).map PyData.tuple=some d:=hf
 cases e:small ds with
 | none=>rw[e] at hf;cases hf
 | some es' =>
  rw[e] at hf;cases hf
  obtain⟨rfl,hz⟩:=dX e
  refine⟨HF,ρ,_,sm,eo,hx,fun vs H1 HF1 g1 r1=>⟨by rw[r1.length];exact hz,fun p hp=>q _ _ (upd HF1 p (.tup vs)) (g1.trans (.new g1.fh hp)) ?_⟩⟩
  simp only[Rep]
  exact⟨p,vs,rfl,.inl (.inl aE),r1.mono (dF (g1.fh.free hp))⟩
theorem GX (h:DA X es fs):DF X (.List es pos) (cN fs):=aP (HI h) fun σ H Q ⟨HF,ρ,d,sm,eo,hf,q⟩=>by
 obtain⟨ds,hx,hf⟩:=bs hf
 obtain⟨rfl,hz⟩:=dX hf
 exact⟨HF,ρ,_,sm,eo,hx,fun vs H1 HF1 g1 r1=>⟨by rw[r1.length];exact hz,fun p hp=>q p vs _ HF1 (g1.trans (.own g1.fh hp)) (g1.hh.free hp) (g1.fh.free hp) aE r1⟩⟩
noncomputable def ao:D->D->Option D
 | .tuple ds,.int i=>sV ds i
 | .list ds,.int i=>sV ds i
 | _,_=>none
theorem vT {K:PySem.W.Frag}{HF:Hp}{ds:List D}{vs:List V}{i:Int}{d:D}(r:ar K HF ds vs) (h:sV ds i=some d):∃v,sV vs i=some v/\Rep K HF d v:=by
 unfold sV at h ⊢
 rw[r.length]
 obtain⟨j,hj,h⟩:=bs h
 obtain⟨v,a,b⟩:=r.getD h
 exact⟨v,by rw[hj];exact a,b⟩
theorem Hb {K:PySem.W.Frag}:e8 K (Mg K) ao:=by
 intro HF H x y v1 v2 d Q sm r1 r2 hg q
 cases x<;>cases y<;>simp only[ao] at hg<;>try cases hg
 ·simp only[Rep] at r1 r2
  obtain⟨a,vs,rfl,hs,r⟩:=r1
  obtain⟨v,hv,rv⟩:=vT r hg
  exact .inl ⟨a,vs,_,v,rfl,r2,sm.seq hs,hv,q v H HF (.refl sm) rv⟩
 ·simp only[Rep] at r1 r2
  obtain⟨a,vs,rfl,hs,r⟩:=r1
  obtain⟨v,hv,rv⟩:=vT r hg
  exact .inr (.inl ⟨a,vs,_,v,rfl,r2,az sm hs,hv,q v H HF (.refl sm) rv⟩)
theorem Kl (ha:DE X a fa) (hb:DE X b fb) (hs:tG b:=by intro _ _;rfl):DE X (.Subscript a b pos) (f2 ao fa fb):=aP (Kn IC ha hb hs) (Eu Hb)
mutual
theorem dG {pins:List (Addr×Obj)}{σ:L2.St}{H HF:Hp}{s:Shared}(I:Inv X pins σ H s) (sm:aW HF H):∀ {d:D}{v:V}{u:Value},Rep X.K HF d v->RelV v u->∃as,Reads s.heap u d as
 | .none,_,_,h,r=>by simp only[Rep] at h;subst h;cases r;exact⟨_,.none⟩
 | .bool b,_,_,h,r=>by simp only[Rep] at h;subst h;cases r;exact⟨_,.bool b⟩
 | .int i,_,_,h,r=>by simp only[Rep] at h;subst h;obtain⟨t,rfl⟩:=r;exact⟨_,.int i t⟩
 | .str i,_,_,h,r=>by simp only[Rep] at h;subst h;obtain⟨t,rfl⟩:=r;exact⟨_,.str i t⟩
 | .tuple ds,_,_,h,r=>by
  simp only[Rep] at h
  obtain⟨a,vs,rfl,hs,rr⟩:=h
  cases r
  obtain⟨its,rv,⟨o,ho,hc,n,hd⟩,_⟩:=I.tuple (az sm hs)
  obtain⟨as,q⟩:=lZ I sm rr rv
  exact⟨as,.tuple ho hc hd (by simpa using q)⟩
 | .list ds,_,_,h,r=>by
  simp only[Rep] at h
  obtain⟨a,vs,rfl,hs,rr⟩:=h
  cases r
  obtain⟨its,rv,pl,_⟩:=I.list (sm.seq hs)
  obtain⟨o,ho,hc,n,hd⟩:=pl.isList
  obtain⟨as,q⟩:=lZ I sm rr rv
  exact⟨_,.list ho hc hd (by simpa using q)⟩
 | .dict _,_,_,h,r=>by simp only[Rep] at h
theorem lZ {pins:List (Addr×Obj)}{σ:L2.St}{H HF:Hp}{s:Shared}(I:Inv X pins σ H s) (sm:aW HF H):∀ {ds:List D}{vs:List V}{us:List Value},ar X.K HF ds vs->aC vs us->∃as,ReadsAll s.heap us ds as
 | [],_,_,h,r=>by rw[h.nil_inv] at r;cases r;exact⟨_,.nil⟩
 | d::ds,_,_,h,r=>by
  obtain⟨v,vr,rfl,a,b⟩:=h.cons_inv
  cases r with
  | cons r rr =>
   obtain⟨as,q⟩:=dG I sm a r
   obtain⟨bs,p⟩:=lZ I sm b rr
   exact⟨_,.cons q p⟩
end
noncomputable def Ks (K:PySem.W.Frag) (g:D->D->Option Bool):R2:=fun v1 v2 H Q=>∃HF x y k,aW HF H/\Rep K HF x v1/\Rep K HF y v2/\g x y=some k/\Q (.bl k) H
theorem jD {K:PySem.W.Frag}{g:D->D->Option Bool}:e8 K (Ks K g) (fun x y=>(g x y).map PyData.bool):=by
 intro HF H x y v1 v2 d Q sm r1 r2 hg q
 have hg:(g x y).map PyData.bool=some d:=hg
 cases e:g x y with
 | none=>rw[e] at hg;cases hg
 | some k=>rw[e] at hg;cases hg;exact⟨HF,x,y,k,sm,r1,r2,e,q _ H HF (.refl sm) (by simp[Rep])⟩
noncomputable def Je (x y:D):Option Bool:=if SeqAt.shaped x=true/\SeqAt.shaped y=true then some (PyData.eqv x y) else none
noncomputable def Gb (x y:D):Option Bool:=if SeqAt.shaped x=true/\SeqAt.shaped y=true then some (!PyData.eqv x y) else none
theorem BO (hu:X.A.units+64 < cLine):gS X (compareOp .Eq) (Ks X.K Je):=by
 intro pins s σ H v1 v2 u1 u2 Q I rx ry h
 obtain⟨HF,x,y,k,sm,r1,r2,hg,q⟩:=h
 unfold Je at hg
 split at hg<;>cases hg
 rename_i hh
 obtain⟨as,ra⟩:=dG I sm r1 rx
 obtain⟨bs,rb⟩:=dG I sm r2 ry
 exact eq_dataH ra rb hh.1 hh.2 hu ⟨.bl _,H,I,rfl,q⟩
theorem A7 (hu:X.A.units+64 < cLine):gS X (compareOp .NotEq) (Ks X.K Gb):=by
 intro pins s σ H v1 v2 u1 u2 Q I rx ry h
 obtain⟨HF,x,y,k,sm,r1,r2,hg,q⟩:=h
 unfold Gb at hg
 split at hg<;>cases hg
 rename_i hh
 obtain⟨as,ra⟩:=dG I sm r1 rx
 obtain⟨bs,rb⟩:=dG I sm r2 ry
 exact ne_dataH ra rb hh.1 hh.2 hu ⟨.bl _,H,I,rfl,q⟩
noncomputable def items:D->Option (List D)|.tuple ds=>some ds|.list ds=>some ds|_=>none
noncomputable def Lo (x y:D):Option Bool:=match y with
 | .tuple ds=>if SeqAt.shaped x=true/\SeqAt.shaped y=true then some (ds.any fun z=>PyData.eqv z x) else none
 | .list ds=>if SeqAt.shaped x=true/\SeqAt.shaped y=true then some (ds.any fun z=>PyData.eqv z x) else none
 | _=>none
theorem BN (hu:X.A.units+66 < cLine):gS X (compareOp .In) (Ks X.K Lo):=by
 intro pins s σ H v1 v2 u1 u2 Q I rx ry h
 obtain⟨HF,x,y,k,sm,r1,r2,hg,q⟩:=h
 obtain⟨as,ra⟩:=dG I sm r1 rx
 obtain⟨bs,rb⟩:=dG I sm r2 ry
 cases y<;>simp only[Lo] at hg<;>try cases hg
 all_goals
  split at hg<;>cases hg
  rename_i ds hh
  have c1:=SeqAt.canLay_of_shaped hh.1
  have c2:=SeqAt.canLay_of_shaped hh.2
  have d1:=SeqAt.depth_of_shaped hh.1
  simp only[PyData.canLay0] at c2
  have m:=Nat.min_le_right (PyData.depthAll ds) x.depth
  first
   | exact SeqAt.in_list_reads rb ra c2 c1 (by omega) ⟨.bl _,H,I,rfl,q⟩
   | exact SeqAt.in_tuple_reads rb ra c2 c1 (by omega) ⟨.bl _,H,I,rfl,q⟩
end
end Dl
namespace Dl
open PySem L2 PySem.Spec PyProof.Rows
noncomputable def JX (K:PySem.W.Frag) (n:Nat) (m:List D->Option D):Sp:=fun vs H Q _=>∃HF ds d,aW HF H/\fw K HF/\ar K HF ds vs/\ds.length=n/\m ds=some d/\∀v H' HF',cq HF H HF' H'->Rep K HF' d v->Q v H'
structure dk (P:Program) (w:World) (K:PySem.W.Frag) (mg:Str->Option Value) (base:Heap) (k:Nat) (x:Str) (n:Nat) (m:List D->Option D):Prop where
 ex:∃ (f:Addr) (fd:FuncData) (ps:List Str),kF P w K mg base GN k f fd ps (JX K n m)/\mg x=some (.ref f)/\PySem.W.keepIn K (.ref f)=true/\Binds K fd ps []
theorem dk.mono {P:Program}{w:World}{K:PySem.W.Frag}{mg:Str->Option Value}{base:Heap}{k j:Nat}{x:Str}{n:Nat}{m:List D->Option D}(F:dk P w K mg base k x n m) (h:k<=j):dk P w K mg base j x n m:=by
 obtain⟨f,fd,ps,a,b,c,d⟩:=F.ex
 exact⟨f,fd,ps,a.mono h,b,c,d⟩
theorem dk.imp {P:Program}{w:World}{K:PySem.W.Frag}{mg:Str->Option Value}{base:Heap}{k:Nat}{x:Str}{n:Nat}{m m':List D->Option D}(F:dk P w K mg base k x n m) (h:∀ds d,ds.length=n->m' ds=some d->m ds=some d):dk P w K mg base k x n m':=by
 obtain⟨f,fd,ps,a,b,c,d⟩:=F.ex
 refine⟨f,fd,ps,a.imp fun vs H Q E ⟨HF,ds,d,q1,q0,q2,q3,q4,q5⟩=>⟨HF,ds,d,q1,q0,q2,q3,h ds d q3 q4,q5⟩,b,c,d⟩
section
variable {X:Cx}{a b c e:Expr}{es:List Expr}{fa fb fc:Env->Option D}{fs:Env->Option (List D)}{pos p:Pos}{x:Str}
noncomputable def ag (n:Nat) (m:List D->Option D) (fs:Env->Option (List D)):Env->Option D:=fun ρ=>(fs ρ).bind fun ds=>if ds.length=n then m ds else none
theorem E4 {k n:Nat}{m:List D->Option D}(F:dk X.prog X.w X.K X.mg X.base k x n m) (hr:dN k X.A) (hg:Gl X x) (ha:DA X (e::es) fs) (hdb:(x == ("__debug__":Str))=false:=by decide)
  (he:starEach (e::es) X.env=(false,eval e X.env)::starEach es X.env:=by rfl) (hpl:(backTo pos (starEach es X.env)).any (·.1)=false:=by rfl):DE X (.Call (.Name x p) (e::es) [] pos) (ag n m fs):=by
 obtain⟨f,fd,ps,ok,hm,hk,hb⟩:=F.ex
 refine aP (FX (E:=E0) ok hr hg hm hk hb .nil Kg ha hdb he hpl) fun σ H Q ⟨HF,ρ,d,sm,eo,hf,q⟩=>?_
 obtain⟨ds,hx,hf⟩:=bs hf
 split at hf
 ·rename_i hl
  exact⟨HF,ρ,ds,sm,eo,hx,fun vs H1 HF1 g1 r1=>⟨HF1,ds,d,g1.fh,eo.tb.mono g1.ff,by rw[List.append_nil];exact r1,hl,hf,fun v H' HF' g r=>q v H' HF' (g1.trans g) r⟩⟩
 ·cases hf
noncomputable def z7 (K:PySem.W.Frag) (r:List V->Hp->VK->Prop) (g:List D->Option D):Prop:=∀HF H ds vs d Q,aW HF H->ar K HF ds vs->g ds=some d->(∀v H' HF',cq HF H HF' H'->Rep K HF' d v->Q v H')->r vs H Q
noncomputable def bb (g:List D->Option D) (fs:Env->Option (List D)):Env->Option D:=fun ρ=>(fs ρ).bind g
theorem Ke {r:List V->Hp->VK->Prop}{g:List D->Option D}(hs:z7 X.K r g):∀σ H Q,tD X.K (bb g fs) σ H Q->K1 r (LP X.K fs) σ H Q:=fun σ H Q ⟨HF,ρ,d,sm,eo,hf,q⟩=>by
 obtain⟨ds,hx,hf⟩:=bs hf
 exact⟨HF,ρ,ds,sm,eo,hx,fun vs H1 HF1 g1 r1=>hs HF1 H1 ds vs d Q g1.fh r1 hf fun v H' HF' g2 r2=>q v H' HF' (g1.trans g2) r2⟩
noncomputable def zi (K:PySem.W.Frag) (r:List V->Hp->VK->Prop) (g:List D->Option (List D)):Prop:=∀HF H ds vs es Q,aW HF H->ar K HF ds vs->g ds=some es ->
 (∀a us H' HF',cq HF H HF' H'->H a=none->HF' a=none->H' a=some (.lst us)->ar K HF' es us->Q (.ref a) H')->r vs H Q
noncomputable def ma (g:List D->Option (List D)) (fs:Env->Option (List D)):Env->Option (List D):=fun ρ=>(fs ρ).bind g
theorem Gr {r:List V->Hp->VK->Prop}{g:List D->Option (List D)}(hs:zi X.K r g):∀σ H Q,tF X.K (ma g fs) σ H Q->K1 r (LP X.K fs) σ H Q:=fun σ H Q ⟨HF,ρ,d,sm,eo,hf,q⟩=>by
 obtain⟨ds,hx,hf⟩:=bs hf
 exact⟨HF,ρ,ds,sm,eo,hx,fun vs H1 HF1 g1 r1=>hs HF1 H1 ds vs d Q g1.fh r1 hf fun a us H' HF' g2 ha hf' h' r2=>q a us H' HF' (g1.trans g2) (g1.hh.free ha) hf' h' r2⟩
structure mL (X:Cx) (x:Str) (v:Value):Prop where
 gl:Gl X x
 mg:X.mg x=none
 bt:bootBuiltins x=some v
theorem jf {id:String}{r:List V->Hp->VK->Prop}{g:List D->Option D}(hc:cR X (.builtin id) r) (hs:z7 X.K r g) (B:mL X x (.builtin id)) (ha:DA X (e::es) fs) (hn:x≠"__name__":=by decide) (hdb:(x == ("__debug__":Str))=false:=by decide)
  (he:starEach (e::es) X.env=(false,eval e X.env)::starEach es X.env:=by rfl) (hpl:(backTo pos (starEach es X.env)).any (·.1)=false:=by rfl):DE X (.Call (.Name x p) (e::es) [] pos) (bb g fs) :=
 aP (lT hc B.gl B.mg B.bt ha hn hdb he hpl) (Ke hs)
theorem CI {id:String}{r:List V->Hp->VK->Prop}{g:List D->Option (List D)}(hc:cR X (.builtin id) r) (hs:zi X.K r g) (B:mL X x (.builtin id)) (ha:DA X (e::es) fs) (hn:x≠"__name__":=by decide) (hdb:(x == ("__debug__":Str))=false:=by decide)
  (he:starEach (e::es) X.env=(false,eval e X.env)::starEach es X.env:=by rfl) (hpl:(backTo pos (starEach es X.env)).any (·.1)=false:=by rfl):DF X (.Call (.Name x p) (e::es) [] pos) (ma g fs) :=
 aP (lT hc B.gl B.mg B.bt ha hn hdb he hpl) (Gr hs)
theorem r0 {T:String}{r:List V->Hp->VK->Prop}{g:List D->Option D}(hc:cR X (.type T) r) (hs:z7 X.K r g) (B:mL X x (.type T)) (ha:DA X (e::es) fs) (hn:x≠"__name__":=by decide) (hdb:(x == ("__debug__":Str))=false:=by decide)
  (he:starEach (e::es) X.env=(false,eval e X.env)::starEach es X.env:=by rfl) (hpl:(backTo pos (starEach es X.env)).any (·.1)=false:=by rfl):DE X (.Call (.Name x p) (e::es) [] pos) (bb g fs) :=
 aP (mr hc B.gl B.mg B.bt ha hn hdb he hpl) (Ke hs)
theorem AV {T:String}{r:List V->Hp->VK->Prop}{g:List D->Option (List D)}(hc:cR X (.type T) r) (hs:zi X.K r g) (B:mL X x (.type T)) (ha:DA X (e::es) fs) (hn:x≠"__name__":=by decide) (hdb:(x == ("__debug__":Str))=false:=by decide)
  (he:starEach (e::es) X.env=(false,eval e X.env)::starEach es X.env:=by rfl) (hpl:(backTo pos (starEach es X.env)).any (·.1)=false:=by rfl):DF X (.Call (.Name x p) (e::es) [] pos) (ma g fs) :=
 aP (mr hc B.gl B.mg B.bt ha hn hdb he hpl) (Gr hs)
noncomputable def fM:D->Option (List D)|.tuple ds=>some ds|.list ds=>some ds|_=>none
noncomputable def oneOf:List D->Option D|[d]=>some d|_=>none
theorem fH {ds:List D}{d:D}(h:oneOf ds=some d):ds=[d]:=by
 cases ds with
 | nil=>cases h
 | cons x r=>cases r with
  | nil=>cases h;rfl
  | cons _ _=>cases h
theorem kC {d:D}{ds:List D}(h:fM d=some ds):d=.tuple ds\/d=.list ds:=by
 cases d<;>cases h
 ·exact .inr rfl
 ·exact .inl rfl
noncomputable def cT:List D->Option (List D):=fun ds=>(oneOf ds).bind fM
theorem gw {ds es:List D}(h:cT ds=some es):ds=[.tuple es]\/ds=[.list es]:=by
 obtain⟨d,h1,h2⟩:=bs h
 rw[fH h1]
 rcases kC h2 with rfl|rfl
 ·exact .inl rfl
 ·exact .inr rfl
noncomputable def bz:List D->Option D:=fun ds=>(cT ds).map fun es=>.int es.length
theorem map_some {α β:Type}{x:Option α}{f:α->β}{b:β}(h:x.map f=some b):∃a,x=some a/\f a=b:=by
 cases x with
 | none=>cases h
 | some a=>exact⟨a,rfl,Option.some.inj h⟩
theorem F9 {K:PySem.W.Frag}:z7 K (fun xs H Q=>∃p ys,xs=[.ref p]/\(ib K H p ys\/i3 K H p ys)/\Q (.int ys.length) H) bz:=by
 intro HF H ds vs d Q sm r hg q
 obtain⟨es,h1,rfl⟩:=map_some hg
 rcases gw h1 with rfl|rfl
 all_goals
  obtain⟨v,r',rfl,a,b⟩:=r.cons_inv
  rw[b.nil_inv]
  simp only[Rep] at a
  obtain⟨p,us,rfl,h,rr⟩:=a
 ·exact⟨p,us,rfl,.inr (az sm h),q _ H HF (.refl sm) (by simp[Rep,rr.length])⟩
 ·exact⟨p,us,rfl,.inl (sm.seq h),q _ H HF (.refl sm) (by simp[Rep,rr.length])⟩
theorem He (B:mL X "len" (.builtin "len")) (ha:DA X [e] fs) (he:starEach [e] X.env=(false,eval e X.env)::starEach [] X.env:=by rfl):DE X (.Call (.Name "len" p) [e] [] pos) (bb bz fs) :=
 jf ur F9 B ha (by decide) (by decide) he rfl
theorem Dp {K:PySem.W.Frag}:zi K (fun xs H Q=>∃p ys,xs=[.ref p]/\(ib K H p ys\/i3 K H p ys)/\∀l,H l=none->Q (.ref l) (upd H l (.lst ys))) cT:=by
 intro HF H ds vs d Q sm r hg q
 rcases gw hg with rfl|rfl
 all_goals
  obtain⟨v,r',rfl,a,b⟩:=r.cons_inv
  rw[b.nil_inv]
  simp only[Rep] at a
  obtain⟨p,us,rfl,h,rr⟩:=a
 ·exact⟨p,us,rfl,.inr (az sm h),fun l hl=>q l us _ HF (.own sm hl) hl (sm.free hl) aE rr⟩
 ·exact⟨p,us,rfl,.inl (sm.seq h),fun l hl=>q l us _ HF (.own sm hl) hl (sm.free hl) aE rr⟩
theorem Fx (B:mL X "list" (.type "list")) (ha:DA X [e] fs) (he:starEach [e] X.env=(false,eval e X.env)::starEach [] X.env:=by rfl):DF X (.Call (.Name "list" p) [e] [] pos) (ma cT fs) :=
 AV ub Dp B ha (by decide) (by decide) he rfl
theorem cE {K:PySem.W.Frag}{HF:Hp}{l:Addr}{ds:List D}{vs:List V}(h:HF l=none) (r:ar K HF ds vs):Rep K (upd HF l (.tup vs)) (.tuple ds) (.ref l):=by
 simp only[Rep];exact⟨l,vs,rfl,.inl (.inl aE),r.mono (dF h)⟩
theorem AC {K:PySem.W.Frag}:z7 K (fun xs H Q=>∃p ys,xs=[.ref p]/\((ib K H p ys/\∀l,H l=none->Q (.ref l) (upd H l (.tup ys)))\/(i3 K H p ys/\Q (.ref p) H))) (fun ds=>(cT ds).map PyData.tuple):=by
 intro HF H ds vs d Q sm r hg q
 obtain⟨es,h1,rfl⟩:=map_some hg
 rcases gw h1 with rfl|rfl
 all_goals
  obtain⟨v,r',rfl,a,b⟩:=r.cons_inv
  rw[b.nil_inv]
  have a':=a
  simp only[Rep] at a
  obtain⟨p,us,rfl,h,rr⟩:=a
 ·exact⟨p,us,rfl,.inr ⟨az sm h,q _ H HF (.refl sm) a'⟩⟩
 ·exact⟨p,us,rfl,.inl ⟨sm.seq h,fun l hl=>q _ _ _ (.new sm hl) (cE (sm.free hl) rr)⟩⟩
theorem CF (B:mL X "tuple" (.type "tuple")) (ha:DA X [e] fs) (he:starEach [e] X.env=(false,eval e X.env)::starEach [] X.env:=by rfl):DE X (.Call (.Name "tuple" p) [e] [] pos) (bb (fun ds=>(cT ds).map PyData.tuple) fs) :=
 r0 qu AC B ha (by decide) (by decide) he rfl
noncomputable def gA:D->String|.none=>"NoneType" | .bool _=>"bool" | .int _=>"int" | .str _=>"str" | .tuple _=>"tuple" | .list _=>"list" | .dict _=>"dict"
noncomputable def su (a b:String):Option Bool:=if ((Value.type a) == (Value.type b))=true then some true else if PySem.W.kitMeta b=true then (fastBuiltinMro a).map (·.contains (Value.type b)) else none
theorem F4:∀a∈["NoneType","bool","int","str","tuple","list"],su a "int"=some (a == "int"||a == "bool"):=by decide +kernel
theorem Cd:∀a∈["NoneType","bool","int","str","tuple","list"],su a "bool"=some (a == "bool"):=by decide +kernel
theorem kit_tuple:∀a∈["NoneType","bool","int","str","tuple","list"],su a "tuple"=some (a == "tuple"):=by decide +kernel
theorem BM {pins:List (Addr×Obj)}{σ:L2.St}{H HF:Hp}{s:Shared}{A:Around}{E:Value->Shared->Prop}{Q:Value->Shared->Prop}{d:D}{v:V}{u:Value}{T:String}{k:Bool}(I:Inv X pins σ H s) (sm:aW HF H) (r:Rep X.K HF d v) (rv:RelV v u)
  (e:su (gA d) T=some k) (h:∀tk,Q (.bool k) { s with toks:=tk }):wpAny (model X.prog X.w) A (call (.builtin "isinstance") [u,.type T]) Q E s:=by
 have e':PySem.W.kitOne X.K (.type (gA d)) (.type T)=some k:=e
 cases d<;>simp only[Rep] at r
 ·subst r;cases rv;exact PySem.W.kia_one PySem.W.kitx_none I.kIn True.intro e' (fun z=>nomatch z) h
 ·subst r;cases rv;exact PySem.W.kia_one PySem.W.kitx_bool I.kIn True.intro e' (fun z=>nomatch z) h
 ·subst r;obtain⟨t,rfl⟩:=rv;exact PySem.W.kia_one PySem.W.kitx_int I.kIn True.intro e' (fun z=>nomatch z) h
 ·subst r;obtain⟨t,rfl⟩:=rv;exact PySem.W.kia_one PySem.W.kitx_str I.kIn True.intro e' (fun z=>nomatch z) h
 ·obtain⟨a,vs,rfl,hs,rr⟩:=r
  cases rv
  obtain⟨its,rv,pl,_⟩:=I.list (sm.seq hs)
  obtain⟨o,ho,hc,n,hd⟩:=pl.isList
  exact PySem.W.kia_one PySem.W.kitx_list I.kIn ⟨o,ho,hc⟩ e' (fun z=>nomatch z) h
 ·obtain⟨a,vs,rfl,hs,rr⟩:=r
  cases rv
  obtain⟨its,rv,⟨o,ho,hc,n,hd⟩,_⟩:=I.tuple (az sm hs)
  exact PySem.W.kia_one PySem.W.kitx_tuple I.kIn ⟨o,ho,hc⟩ e' (fun z=>nomatch z) h
noncomputable def GK (T:String) (f:Env->Option D):Env->Option D:=fun ρ=>(f ρ).bind fun d=>(su (gA d) T).map PyData.bool
theorem JT {T:String}{xT:Str}{pT:Pos}{f:Env->Option D}(B:mL X "isinstance" (.builtin "isinstance")) (C:mL X xT (.type T)) (h:DE X e f) (hn:xT≠"__name__":=by decide) (hd:(xT == ("__debug__":Str))=false:=by decide)
  (he:starEach [e,.Name xT pT] X.env=(false,eval e X.env)::starEach [.Name xT pT] X.env:=by rfl):DE X (.Call (.Name "isinstance" p) [e,.Name xT pT] [] pos) (GK T f):=by
 have hc:cR X (.builtin "isinstance") (fun xs H Q=>∃HF d v k,xs=[v,.ty T]/\aW HF H/\Rep X.K HF d v/\su (gA d) T=some k/\Q (.bl k) H):=by
  intro pins s σ H xs us Q I r h
  obtain⟨HF,d,v,k,rfl,sm,rp,hk,q⟩:=h
  cases r with
  | cons ra rr =>
   cases rr with
   | cons rb rn =>
    cases rn
    cases rb
    exact BM I sm rp ra hk fun tk=>⟨.bl k,H,I.tok _,rfl,q⟩
 refine aP (lT hc B.gl B.mg B.bt (cZ h (cZ (FD (v:=.ty T) C.gl C.mg C.bt rfl hn hd) gH) he) (by decide) (by decide) he rfl) fun σ H Q ⟨HF,ρ,d,sm,eo,hf,q⟩=>?_
 obtain⟨x,hx,hf⟩:=bs hf
 obtain⟨k,hk,rfl⟩:=map_some hf
 exact⟨HF,ρ,x,sm,eo,hx,fun v1 H1 HF1 g1 r1=>⟨HF1,x,v1,k,rfl,g1.fh,r1,hk,q _ H1 HF1 g1 (by simp[Rep])⟩⟩
noncomputable def EW:D->D->Option D
 | .tuple xs,.tuple ys=>(small (xs++ys)).map PyData.tuple
 | _,_=>none
noncomputable def yS (K:PySem.W.Frag):R2:=fun x y H Q=>∃a b xs ys,x=.ref a/\y=.ref b/\i3 K H a xs/\i3 K H b ys/\xs.length+ys.length<=sizeLine /\
 (xs=[]->Q (.ref b) H)/\(ys=[]->Q (.ref a) H)/\(∀p,H p=none->Q (.ref p) (upd H p (.tup (xs++ys))))
theorem zU:gS X (binaryOp .Add) (yS X.K):=by
 intro pins s σ H x y v u Q I rx ry h
 obtain⟨a,b,xs,ys,rfl,rfl,ha,hb,hz,q0,q1,q2⟩:=h
 by_cases hx:xs=[]
 ·cases rx
  cases ry
  obtain⟨its,r1,p1,_⟩:=I.tuple ha
  obtain⟨its2,r2,p2,_⟩:=I.tuple hb
  obtain⟨⟨cls,dd,data,sl⟩,ho,hc,n,hd⟩:=id p1
  obtain⟨⟨cls2,dd2,data2,sl2⟩,ho2,hc2,n2,hd2⟩:=id p2
  simp only at hc hd hc2 hd2
  subst hc hd hc2 hd2
  have e:its=[]:=(L2.aC.nil_iff r1).mpr hx
  exact concat_meets ⟨_,ho,rfl⟩ ⟨_,ho2,rfl⟩ noFill_tuple_add seq_tuple_add PySem.F.slot_tuple_add PySem.F.entry_tuple_add (PySem.F.args_tuple_add_2 _ _)
   (tuple_addW0 a b its.toArray its2.toArray n n2 dd dd2 sl sl2 (by simp[e])) ⟨ho,ho2,⟨.ref b,H,I,rfl,q0 hx⟩⟩
 ·exact Fe pins s σ H _ _ v u Q I rx ry ⟨a,b,xs,ys,rfl,rfl,ha,hb,hx,hz,q1,fun _ p hp=>q2 p hp⟩
theorem Ex {K:PySem.W.Frag}:e8 K (yS K) EW:=by
 intro HF H x y v1 v2 d Q sm r1 r2 hg q
 cases x<;>cases y<;>simp only[EW] at hg<;>try cases hg
 rename_i xs ys
 obtain⟨es,h1,rfl⟩:=map_some hg
 obtain⟨rfl,hz⟩:=dX h1
 have r1':=r1
 have r2':=r2
 simp only[Rep] at r1 r2
 obtain⟨a,vs,rfl,ha,ra⟩:=r1
 obtain⟨b,us,rfl,hb,rb⟩:=r2
 refine⟨a,b,vs,us,rfl,rfl,az sm ha,az sm hb,by rw[ra.length,rb.length,<- List.length_append];exact hz,fun e=>?_,fun e=>?_,fun p hp=>q _ _ _ (.new sm hp) (cE (sm.free hp) (ra.append rb))⟩
 ·have:xs=[]:=by have:=ra.length;rw[e] at this;exact List.length_eq_zero_iff.mp this.symm
  subst this
  exact q _ H HF (.refl sm) r2'
 ·have:ys=[]:=by have:=rb.length;rw[e] at this;exact List.length_eq_zero_iff.mp this.symm
  subst this
  rw[List.append_nil] at q
  exact q _ H HF (.refl sm) r1'
end
end Dl
namespace Dl
open PySem L2 PySem.Spec PyProof.Rows
structure rS (K:PySem.W.Frag) (J:It) (HF:Hp) (ds:List D):Prop where
 go:∀i d H₁ HF₁,ds[i]?=some d->aW HF HF₁->aW HF₁ H₁->J.go i H₁/\∀x H₂,J.yld i H₁ x H₂->∃HF₂,cq HF₁ H₁ HF₂ H₂/\Rep K HF₂ d x
 stop:∀H₁ HF₁,aW HF HF₁->aW HF₁ H₁->J.stop ds.length H₁
noncomputable def Mo (K:PySem.W.Frag) (f:Env->Option (List D)):TI:=fun σ H R=>∃HF ρ ds,aW HF H/\cG K HF ρ σ/\f ρ=some ds/\∀J H' HF',cq HF H HF' H'->rS K J HF' ds->R J H'
noncomputable def DI (X:Cx) (tg iter:Expr) (f:Env->Option (List D)):Prop:=PI X tg iter (Mo X.K f)
theorem Ao {K:PySem.W.Frag}{HF:Hp}{a:Addr}{ds:List D}{vs:List V}(h:ib K HF a vs) (r:ar K HF ds vs):rS K (Ma K a) HF ds where
 go:=fun i d H₁ HF₁ e s1 s2=>by
  obtain⟨v,hv,rv⟩:=r.getD e
  have q:=s2.seq (s1.seq h)
  refine⟨⟨vs,v,q,hv⟩,fun x H₂ ⟨e2,hy⟩=>⟨HF₁,by rw[e2];exact .refl s2,?_⟩⟩
  have:=hy vs q
  rw[hv] at this
  cases this
  exact rv.mono s1
 stop:=fun H₁ HF₁ s1 s2=>⟨vs,s2.seq (s1.seq h),by rw[r.length];exact Nat.le_refl _⟩
theorem CS {K:PySem.W.Frag}{HF:Hp}{a:Addr}{ds:List D}{vs:List V}(h:i3 K HF a vs) (r:ar K HF ds vs):rS K (LB K a) HF ds where
 go:=fun i d H₁ HF₁ e s1 s2=>by
  obtain⟨v,hv,rv⟩:=r.getD e
  have q:=az s2 (az s1 h)
  refine⟨⟨vs,v,q,hv⟩,fun x H₂ ⟨e2,hy⟩=>⟨HF₁,by rw[e2];exact .refl s2,?_⟩⟩
  have:=hy vs q
  rw[hv] at this
  cases this
  exact rv.mono s1
 stop:=fun H₁ HF₁ s1 s2=>⟨vs,az s2 (az s1 h),by rw[r.length];exact Nat.le_refl _⟩
theorem yc {K:PySem.W.Frag}{HF:Hp}{lo:Int}{n:Nat}:rS K (Lc lo n) HF ((List.range n).map fun i=>PyData.int (lo+(i:Nat))) where
 go:=fun i d H₁ HF₁ e s1 s2=>by
  rw[List.getElem?_map] at e
  obtain⟨j,hj,rfl⟩:=map_some e
  obtain⟨hi,hj'⟩:=List.getElem?_eq_some_iff.mp hj
  have hi':i < n:=by simpa using hi
  have:j=i:=by rw[<- hj'];simp
  subst this
  exact⟨hi',fun x H₂ ⟨e2,hx⟩=>⟨HF₁,by rw[e2];exact .refl s2,by simp[Rep,hx]⟩⟩
 stop:=fun H₁ HF₁ s1 s2=>by
  show n<=_
  simp
section
variable {X:Cx}{tg l e:Expr}{f:Env->Option D}{fs:Env->Option (List D)}{pos p:Pos}
theorem sY {t t':TI}(h:PI X tg l t) (i:∀σ H R,t' σ H R->t σ H R):PI X tg l t':=fun pins s σ H R I q=>h pins s σ H R I (i σ H R q)
theorem Jy {tl:TE}(hl:PE X l tl):PI X tg l (fun σ H R=>tl σ H fun x H1=>∃a,x=.ref a/\((∃xs,ib X.K H1 a xs/\R (Ma X.K a) H1)\/∃xs,i3 X.K H1 a xs/\R (LB X.K a) H1)):=by
 intro pins s σ H R I h
 refine bS (hl pins s σ H _ I h) fun v s1 ⟨x,H1,I1,r1,q1⟩=>?_
 obtain⟨a,e,q⟩:=q1
 subst e
 cases r1
 rcases q with ⟨xs,hq,q⟩|⟨xs,hq,q⟩
 ·obtain⟨its,rv,pl,hz⟩:=I1.list hq
  refine wpAny_pyIter_list pl.isList ⟨s1.heap.objs.size,[s1.heap.objs.size],_,_,H1,rfl,I1.kept (t':=s1.toks) fun b o e=>Heap.get?_push_of_some _ e,AK a _,⟨_,Heap.get?_push_size _ rfl,rfl,rfl⟩,fun b hb=>?_,q⟩
  cases List.mem_singleton.mp hb
  exact I1.fpOk (Nat.le_refl _) I1.fresh
 ·obtain⟨its,rv,pl,hz⟩:=I1.tuple hq
  refine wpAny_pyIter_tuple (show s1.heap.IsTuple a its.toArray from pl) ⟨s1.heap.objs.size,[s1.heap.objs.size],_,_,H1,rfl,I1.kept (t':=s1.toks) fun b o e=>Heap.get?_push_of_some _ e,xj a _,⟨_,Heap.get?_push_size _ rfl,rfl,rfl⟩,fun b hb=>?_,q⟩
  cases List.mem_singleton.mp hb
  exact I1.fpOk (Nat.le_refl _) I1.fresh
noncomputable def aQ (f:Env->Option D):Env->Option (List D):=fun ρ=>(f ρ).bind fM
theorem C4 (h:DE X l f):DI X tg l (aQ f):=sY (Jy h) fun σ H R ⟨HF,ρ,ds,sm,eo,hf,q⟩=>by
 obtain⟨x,hx,hf⟩:=bs hf
 refine⟨HF,ρ,x,sm,eo,hx,fun v1 H1 HF1 g1 r1=>?_⟩
 rcases kC hf with rfl|rfl
 ·simp only[Rep] at r1
  obtain⟨a,vs,rfl,hs,rr⟩:=r1
  exact⟨a,rfl,.inr ⟨vs,az g1.fh hs,q _ H1 HF1 g1 (CS hs rr)⟩⟩
 ·simp only[Rep] at r1
  obtain⟨a,vs,rfl,hs,rr⟩:=r1
  exact⟨a,rfl,.inl ⟨vs,g1.fh.seq hs,q _ H1 HF1 g1 (Ao hs rr)⟩⟩
noncomputable def uN (i:Int):Bool:=decide (-(2 ^ 62)<=i)&&decide (i < 2 ^ 62)
noncomputable def kl:List D->Option (List D)
 | [.int j]=>if uN j then some ((List.range j.toNat).map fun i=>PyData.int ((i:Nat):Int)) else none
 | _=>none
theorem uX {ds es:List D}(h:kl ds=some es):∃j,ds=[.int j]/\uN j=true/\es=(List.range j.toNat).map fun i=>PyData.int ((i:Nat):Int):=by
 unfold kl at h
 split at h
 ·split at h
  ·cases h;exact⟨_,rfl,‹_›,rfl⟩
  ·cases h
 ·cases h
noncomputable def bQ (fs:Env->Option (List D)):Env->Option (List D):=fun ρ=>(fs ρ).bind kl
theorem B4 (B:mL X "range" (.type "range")) (h:DA X [e] fs) (hs:starEach [e] X.env=[(false,eval e X.env)]:=by rfl):DI X tg (.Call (.Name "range" p) [e] [] pos) (bQ fs) :=
 sY (AS B.gl B.mg h hs) fun σ H R ⟨HF,ρ,ds,sm,eo,hf,q⟩=>by
  obtain⟨x,hx,hf⟩:=bs hf
  obtain⟨j,rfl,hj,rfl⟩:=uX hf
  refine⟨HF,ρ,_,sm,eo,hx,fun vs H1 HF1 g1 r1=>?_⟩
  obtain⟨v,r,rfl,a,b⟩:=r1.cons_inv
  rw[b.nil_inv]
  simp only[Rep] at a
  subst a
  unfold uN at hj
  rw[Bool.and_eq_true] at hj
  refine⟨j,rfl,of_decide_eq_true hj.1,of_decide_eq_true hj.2,q _ H1 HF1 g1 ?_⟩
  have:=yc (K:=X.K) (HF:=HF1) (lo:=0) (n:=j.toNat)
  simpa using this
noncomputable def Lg (K:PySem.W.Frag) (f:Env->D->Option Env):TG:=fun v σ H Q=>∃HF ρ d ρ',aW HF H/\cG K HF ρ σ/\Rep K HF d v/\f ρ d=some ρ'/\∀σ',cG K HF ρ' σ'->cG K HF ρ σ'->Q σ' H
noncomputable def DG (X:Cx) (tg:Expr) (f:Env->D->Option Env):Prop:=PG X tg (Lg X.K f)
theorem mK {t t':TG}(h:PG X tg t) (i:∀v σ H Q,t' v σ H Q->t v σ H Q):PG X tg t':=fun pins s σ H v u Q I r q=>h pins s σ H v u Q I r (i v σ H Q q)
noncomputable def isFree (ρ:Env) (i:Nat):Bool:=((ρ[i]?).getD none).isNone
theorem iG {K:PySem.W.Frag}{HF:Hp}{ρ:Env}{σ:L2.St}{i:Nat}{d:D}{v:V}(eo:cG K HF ρ σ) (r:Rep K HF d v):cG K HF (ρ.set i (some d)) (σ.set i (some v)):=by
 refine⟨fun j e h=>?_,by rw[List.length_set,List.length_set];exact eo.len,eo.tb⟩
 rw[List.getElem?_set] at h ⊢
 by_cases hij:i=j
 ·rw[if_pos hij] at h ⊢
  by_cases hl:i < ρ.length
  ·rw[if_pos hl] at h
   cases h
   rw[if_pos (Nat.lt_of_lt_of_le hl eo.len)]
   exact⟨v,rfl,r⟩
  ·rw[if_neg hl] at h;cases h
 ·rw[if_neg hij] at h ⊢
  exact eo.get j e h
theorem jV {K:PySem.W.Frag}{HF:Hp}{ρ:Env}{σ:L2.St}{i:Nat}{v:V}(eo:cG K HF ρ σ) (hf:isFree ρ i=true):cG K HF ρ (σ.set i (some v)):=by
 refine⟨fun j e h=>?_,by rw[List.length_set];exact eo.len,eo.tb⟩
 have hij:i≠j:=by
  intro z;subst z
  unfold isFree at hf;rw[h] at hf;cases hf
 rw[List.getElem?_set,if_neg hij]
 exact eo.get j e h
noncomputable def fG (i:Nat):Env->D->Option Env:=fun ρ d=>if isFree ρ i=true then some (ρ.set i (some d)) else none
theorem Gd (i:Nat) {x:Str}(hN:X.N.Nodup) (hi:X.N[i]?=some x) (hx:Loc X.env.scope x) (hf:X.fn x=true\/X.env.scope.names.lookup x=some .local:=by first|exact .inl rfl|exact .inr rfl|assumption):DG X (.Name x pos) (fG i) :=
 mK (cO hN hi hx hf) fun v σ H Q ⟨HF,ρ,d,ρ',sm,eo,r,hf,q⟩=>by
  unfold fG at hf
  split at hf
  ·cases hf;exact q _ (iG eo r) (jV eo ‹_›)
  ·cases hf
noncomputable def fY (i j:Nat):Env->D->Option Env:=fun ρ d=>match d with
 | .tuple [x,y]=>if isFree ρ i=true/\isFree ρ j=true then some ((ρ.set i (some x)).set j (some y)) else none
 | _=>none
theorem HH (i j:Nat) {x y:Str}{px py:Pos}{k:Nat}(hc:X.calm=true) (hN:X.N.Nodup) (hi:X.N[i]?=some x) (hx:Loc X.env.scope x) (hj:X.N[j]?=some y) (hy:Loc X.env.scope y)
  (hf:X.fn x=true\/X.env.scope.names.lookup x=some .local:=by first|exact .inl rfl|exact .inr rfl|assumption) (hf':X.fn y=true\/X.env.scope.names.lookup y=some .local:=by first|exact .inl rfl|exact .inr rfl|assumption) :
  DG X (.Tuple [.Name x px,.Name y py] k pos) (fY i j) :=
 mK (oC hc (cx (cO hN hi hx hf) (cx (cO hN hj hy hf') k5))) fun v σ H Q ⟨HF,ρ,d,ρ',sm,eo,r,hf,q⟩=>by
  unfold fY at hf
  split at hf
  ·rename_i x' y'
   split at hf
   ·rename_i hh
    cases hf
    simp only[Rep] at r
    obtain⟨a,vs,rfl,hs,rr⟩:=r
    obtain⟨v1,r1,rfl,a1,b1⟩:=rr.cons_inv
    obtain⟨v2,r2,rfl,a2,b2⟩:=b1.cons_inv
    rw[b2.nil_inv] at hs
    exact⟨a,_,rfl,az sm hs,rfl,v1,_,rfl,v2,_,rfl,rfl,q _ (iG (iG eo a1) a2) (jV (jV eo hh.1) hh.2)⟩
   ·cases hf
  ·cases hf
noncomputable def b0 (tgt:Env->D->Option Env) (tt:Env->Option Bool) (te:Env->Option D) (ρ:Env):List D->Option (List D)
 | []=>some []
 | d::ds=>(tgt ρ d).bind fun ρ'=>(tt ρ').bind fun b=>if b=true then (te ρ').bind fun x=>(b0 tgt tt te ρ ds).map (x::·) else b0 tgt tt te ρ ds
noncomputable def Kb (X:Cx) (ifs:List Expr) (f:Env->Option Bool):Prop:=JM X ifs (Hx X.K f)
theorem FU:Kb X [] (fun _=>some true):=fun pins s σ H Q I ⟨HF,ρ,b,sm,eo,hf,q⟩=>EG pins s σ H Q I (by cases hf;exact q H HF (.refl sm))
theorem E5 {c:Expr}{t:Env->Option Bool}(h:DT X c t):Kb X [c] t:=El h
noncomputable def jj (t:Nat) (cs:List Nat) (σ:L2.St):L2.St:=List.replicate t none++cs.map fun j=>(σ[j]?).getD none
noncomputable def dQ (t:Nat) (cs:List Nat) (ρ:Env):Env:=List.replicate t none++cs.map fun j=>(ρ[j]?).getD none
theorem yX {K:PySem.W.Frag}{HF:Hp}{ρ:Env}{σ:L2.St}{t:Nat}{cs:List Nat}(eo:cG K HF ρ σ):cG K HF (dQ t cs ρ) (jj t cs σ):=by
 refine⟨fun i d h=>?_,by simp[dQ,jj],eo.tb⟩
 unfold dQ at h
 unfold jj
 by_cases hi:i < t
 ·rw[List.getElem?_append_left (by simpa using hi),List.getElem?_replicate,if_pos hi] at h
  cases h
 ·rw[List.getElem?_append_right (by simpa using hi),List.getElem?_map,List.length_replicate] at h
  rw[List.getElem?_append_right (by simpa using hi),List.getElem?_map,List.length_replicate]
  obtain⟨j,hj,h⟩:=map_some h
  rw[hj]
  cases e:ρ[j]? with
  | none=>rw[e] at h;cases h
  | some o =>
   rw[e] at h
   have h:o=some d:=h
   subst h
   obtain⟨v,a,b⟩:=eo.get j d e
   exact⟨v,by show some ((σ[j]?).getD none)=_;rw[a];rfl,b⟩
noncomputable def ak (t:Nat) (cs:List Nat) (fi:Env->Option (List D)) (tgt:Env->D->Option Env) (tt:Env->Option Bool) (te:Env->Option D):Env->Option (List D):=fun ρ=>(fi ρ).bind fun ds=>(b0 tgt tt te (dQ t cs ρ) ds).bind small
variable {elt iter:Expr}{ifs:List Expr}{scope:Scope}{N:List Str}{t:Nat}{cs:List Nat}{fi:Env->Option (List D)}{tgt:Env->D->Option Env}{tt:Env->Option Bool}{te:Env->Option D}
theorem Bi:∀σ H Q,tF X.K (ak t cs fi tgt tt te) σ H Q->Cf (Mo X.K fi) (Lg X.K tgt) (Hx X.K tt) (tD X.K te) (jj t cs) σ H Q:=fun σ H Q ⟨HF,ρ,out,sm,eo,hf,q⟩=>by
 obtain⟨ds,hx,hf⟩:=bs hf
 obtain⟨out',ho,hf⟩:=bs hf
 obtain⟨rfl,hz⟩:=dX hf
 refine⟨HF,ρ,ds,sm,eo,hx,fun J H1 HF1 g1 it Dn hD=>?_⟩
 have eo1:=yX (t:=t) (cs:=cs) (eo.mono g1.ff)
 have hFD:HF1 Dn=none:=g1.fh.free hD
 refine⟨fun i m σ' H'=>m+i=ds.length/\∃HF' xs ys rest,cq HF1 H1 HF' H'/\HF' Dn=none/\H' Dn=some (.lst ys)/\ar X.K HF' xs ys/\cG X.K HF' (dQ t cs ρ) σ'/\b0 tgt tt te (dQ t cs ρ) (ds.drop i)=some rest/\xs++rest=out,
  ⟨ds.length,rfl,HF1,[],[],out,.own g1.fh hD,hFD,aE,ar.nil,eo1,ho,rfl⟩,?_⟩
 rintro i m σ' H' ⟨hm,HF',xs,ys,rest,G,hFD',hHD,rr,eo',hc,hout⟩
 by_cases hi:i < ds.length
 ·refine .inr ?_
  have hd:ds.drop i=ds[i]::ds.drop (i+1):=List.drop_eq_getElem_cons hi
  have he:ds[i]?=some ds[i]:=List.getElem?_eq_some_iff.mpr ⟨hi,rfl⟩
  generalize ds[i]=d at hd he
  rw[hd] at hc
  unfold b0 at hc
  obtain⟨ρ',h1,hc⟩:=bs hc
  obtain⟨b,h2,hc⟩:=bs hc
  obtain⟨go,yld⟩:=it.go i d H' HF' he G.ff G.fh
  refine⟨go,fun x H2 y=>?_⟩
  obtain⟨HF2,G2,rx⟩:=yld x H2 y
  refine⟨HF2,_,d,ρ',G2.fh,eo'.mono G2.ff,rx,h1,fun σ2 eo2 eo2'=>?_⟩
  refine⟨HF2,ρ',b,G2.fh,eo2,h2,fun H3 HF3 G3=>?_⟩
  have nof:∀HF4 H4,cq HF' H' HF4 H4->HF4 Dn=none:=fun HF4 H4 G4=>by
   cases e4:HF4 Dn with
   | none=>rfl
   | some o =>
    rcases G4.nw Dn o e4 with z|z
    ·rw[hFD'] at z;cases z
    ·rw[hHD] at z;cases z
  cases b with
  | false =>
   refine uZ ⟨m - 1,by omega,by omega,HF3,xs,ys,rest,(G.trans G2).trans G3,nof _ _ (G2.trans G3),(G2.trans G3).hh _ _ hHD,rr.mono (G2.trans G3).ff,eo2'.mono G3.ff,by simpa using hc,hout⟩
  | true =>
   rw[if_pos rfl] at hc
   obtain⟨z,h3,hc⟩:=bs hc
   obtain⟨rest',h4,rfl⟩:=map_some hc
   refine vK ⟨HF3,ρ',z,G3.fh,eo2.mono G3.ff,h3,fun v H4 HF4 G4 rv=>?_⟩
   have GG:=(G2.trans G3).trans G4
   have n4:=nof _ _ GG
   have h4D:=GG.hh _ _ hHD
   have hlen:ys.length < sizeLine:=by
    have e1:=rr.length
    have e2:out.length=xs.length+(rest'.length+1):=by rw[<- hout];simp
    omega
   refine⟨ys,h4D,hlen,m - 1,by omega,by omega,HF4,xs++[z],ys++[v],rest',?_,n4,aE,(rr.mono GG.ff).append (ar.cons rv ar.nil),eo2'.mono (G3.ff.trans G4.ff),h4,by simp[<- hout]⟩
   have G5:=G.trans GG
   refine⟨fun b o e=>?_,G5.ff,fun b o e=>?_,G5.nw⟩
   ·rw[aB (aM e hD)];exact G5.hh b o e
   ·rw[aB (aM e n4)];exact G5.fh b o e
 ·have hi':i=ds.length:=by omega
  subst hi'
  rw[List.drop_length] at hc
  cases hc
  rw[List.append_nil] at hout
  subst hout
  exact .inl ⟨it.stop H' HF' G.ff G.fh,q Dn ys H' HF' (g1.trans G) (g1.hh.free hD) hFD' hHD rr⟩
theorem EJ (hc:X.calm=true) (S:iB X scope N (jj t cs)) (hi:DI X tg iter fi)
  (hY:∀fp s H,DG (aR X scope N fp s H) tg tgt/\Kb (aR X scope N fp s H) ifs tt/\DE (aR X scope N fp s H) elt te)
  (hs:∀x,foldedSetIterable iter X.env x=pure x:=by intro _;rfl):DF X (.ListComp elt [⟨tg,iter,ifs,0⟩] scope pos) (ak t cs fi tgt tt te):=aP (EL (g:=Lg X.K tgt) (tt:=Hx X.K tt) (te:=tD X.K te) hc S hi hY hs) Bi
end
end Dl
namespace Dl
open PySem L2 PySem.Spec PyProof.Rows
inductive Slot where
 | non|val (d:D)|own (ds:List D)
noncomputable abbrev ai:=List Slot
noncomputable def Slot.all:Slot->Option D|.non=>none|.val d=>some d|.own ds=>some (.list ds)
noncomputable def Slot.frz:Slot->Option D|.val d=>some d|_=>none
noncomputable def Slot.thaw:Slot->Slot|.own ds=>.val (.list ds)|s=>s
noncomputable def bc (ρ:ai):Env:=ρ.map Slot.all
noncomputable def bJ (ρ:ai):Env:=ρ.map Slot.frz
noncomputable def hand (fz:List Nat):Nat->ai->ai
 | _,[]=>[]
 | k,s::r=>(if fz.contains k=true then s.thaw else s)::hand fz (k+1) r
theorem gW (fz:List Nat):∀ (ρ:ai) (k i:Nat),(hand fz k ρ)[i]?=(ρ[i]?).map fun s=>if fz.contains (k+i)=true then s.thaw else s
 | [],k,i=>by simp[hand]
 | s::r,k,0=>by simp[hand]
 | s::r,k,i+1=>by
  simp only[hand,List.getElem?_cons_succ]
  rw[gW fz r (k+1) i,Nat.add_assoc,Nat.add_comm 1 i]
theorem vq (fz:List Nat):∀ (ρ:ai) (k:Nat),(hand fz k ρ).length=ρ.length
 | [],k=>rfl
 | s::r,k=>by simp[hand,vq fz r (k+1)]
structure j3 (K:PySem.W.Frag) (HF₀ H₀ HF H:Hp) (ρ:ai) (σ:L2.St):Prop where
 gr:cq HF₀ H₀ HF H
 val:∀ (i:Nat) (d:D),ρ[i]?=some (.val d)->∃v,σ[i]?=some (some v)/\Rep K HF d v
 own:∀ (i:Nat) (ds:List D),ρ[i]?=some (.own ds)->∃a vs,σ[i]?=some (some (.ref a))/\H a=some (.lst vs)/\HF a=none/\H₀ a=none/\ar K HF ds vs
 inj:∀ (i j:Nat) (ds es:List D) (a:Addr),ρ[i]?=some (.own ds)->ρ[j]?=some (.own es)->σ[i]?=some (some (.ref a))->σ[j]?=some (some (.ref a))->i=j
 len:ρ.length<=σ.length
 tb:fw K HF
section
variable {K:PySem.W.Frag}{HF₀ H₀ HF H HF' H':Hp}{ρ:ai}{σ:L2.St}
theorem j3.all (S:j3 K HF₀ H₀ HF H ρ σ):cG K H (bc ρ) σ:=by
 refine⟨fun i d h=>?_,by simpa [bc] using S.len,S.tb.mono S.gr.fh⟩
 unfold bc at h
 rw[List.getElem?_map] at h
 obtain⟨s,hs,h⟩:=map_some h
 cases s with
 | non=>cases h
 | val e=>cases h;obtain⟨v,a,b⟩:=S.val i _ hs;exact⟨v,a,b.mono S.gr.fh⟩
 | own ds =>
  cases h
  obtain⟨a,vs,e1,e2,e3,_,e4⟩:=S.own i ds hs
  exact⟨.ref a,e1,by simp only[Rep];exact⟨a,vs,rfl,ib.of e2,e4.mono S.gr.fh⟩⟩
theorem j3.frz (S:j3 K HF₀ H₀ HF H ρ σ):cG K HF (bJ ρ) σ:=by
 refine⟨fun i d h=>?_,by simpa [bJ] using S.len,S.tb⟩
 unfold bJ at h
 rw[List.getElem?_map] at h
 obtain⟨s,hs,h⟩:=map_some h
 cases s with
 | non=>cases h
 | val e=>cases h;exact S.val i _ hs
 | own ds=>cases h
theorem j3.grow (S:j3 K HF₀ H₀ HF H ρ σ) (g:cq HF H HF' H'):j3 K HF₀ H₀ HF' H' ρ σ where
 gr:=S.gr.trans g
 val:=fun i d h=>let ⟨v,a,b⟩:=S.val i d h;⟨v,a,b.mono g.ff⟩
 own:=fun i ds h=>by
  obtain⟨a,vs,e1,e2,e3,e5,e4⟩:=S.own i ds h
  refine⟨a,vs,e1,g.hh _ _ e2,?_,e5,e4.mono g.ff⟩
  cases e:HF' a with
  | none=>rfl
  | some o =>
   rcases g.nw a o e with z|z
   ·rw[e3] at z;cases z
   ·rw[e2] at z;cases z
 inj:=S.inj
 len:=S.len
 tb:=S.tb.mono g.ff
theorem j3.step (S:j3 K HF₀ H₀ HF H ρ σ) (g:aW H H'):j3 K HF₀ H₀ HF H' ρ σ:=S.grow ⟨g,.refl _,S.gr.fh.trans g,fun _ _ e=>.inl e⟩
theorem j3.hand (S:j3 K HF₀ H₀ HF H ρ σ) (fz:List Nat):∃HF1,aW HF HF1/\j3 K HF₀ H₀ HF1 H (hand fz 0 ρ) σ:=by
 let P:Addr->Prop:=fun a=>∃i ds,fz.contains i=true/\ρ[i]?=some (.own ds)/\σ[i]?=some (some (.ref a))
 have cl:=Classical.propDecidable
 let HF1:Hp:=fun a=>if P a then H a else HF a
 have hP:∀a,P a->HF a=none/\H₀ a=none:=fun a ⟨i,ds,_,h1,h2⟩=>by
  obtain⟨a',vs,e1,e2,e3,e5,e4⟩:=S.own i ds h1
  rw[h2] at e1
  cases e1
  exact⟨e3,e5⟩
 have s1:aW HF HF1:=fun b o e=>by
  show (if P b then H b else HF b)=some o
  by_cases h:P b
  ·rw[(hP b h).1] at e;cases e
  ·rw[if_neg h];exact e
 have s2:aW HF1 H:=fun b o e=>by
  have e:(if P b then H b else HF b)=some o:=e
  by_cases h:P b
  ·rw[if_pos h] at e;exact e
  ·rw[if_neg h] at e;exact S.gr.fh b o e
 refine⟨HF1,s1,⟨S.gr.hh,S.gr.ff.trans s1,s2,fun b o e=>?_⟩,fun i d h=>?_,fun i ds h=>?_,fun i j ds es a h1 h2=>?_,by rw[vq];exact S.len,S.tb.mono s1⟩
 ·have e:(if P b then H b else HF b)=some o:=e
  by_cases h:P b
  ·exact .inr (hP b h).2
  ·rw[if_neg h] at e;exact S.gr.nw b o e
 ·rw[gW] at h
  obtain⟨s,hs,h⟩:=map_some h
  rw[Nat.zero_add] at h
  cases s with
  | non=>split at h<;>cases h
  | val e =>
   have:Slot.val e=Slot.val d:=by split at h<;>exact h
   cases this
   obtain⟨v,a,b⟩:=S.val i _ hs
   exact⟨v,a,b.mono s1⟩
  | own ds =>
   split at h
   ·rename_i hc
    cases h
    obtain⟨a,vs,e1,e2,e3,e5,e4⟩:=S.own i ds hs
    refine⟨.ref a,e1,?_⟩
    simp only[Rep]
    refine⟨a,vs,rfl,.inl (.inl ?_),e4.mono s1⟩
    show (if P a then H a else HF a)=_
    rw[if_pos ⟨i,ds,hc,hs,e1⟩]
    exact e2
   ·cases h
 ·rw[gW] at h
  obtain⟨s,hs,h⟩:=map_some h
  rw[Nat.zero_add] at h
  cases s with
  | non=>split at h<;>cases h
  | val e=>split at h<;>cases h
  | own es =>
   split at h
   ·cases h
   ·rename_i hc
    cases h
    obtain⟨a,vs,e1,e2,e3,e5,e4⟩:=S.own i ds hs
    refine⟨a,vs,e1,e2,?_,e5,e4.mono s1⟩
    show (if P a then H a else HF a)=none
    rw[if_neg ?_]
    ·exact e3
    ·rintro⟨j,es,hj,h1,h2⟩
     have:=S.inj i j ds es a hs h1 e1 h2
     subst this
     exact hc hj
 ·rw[gW] at h1 h2
  obtain⟨s,hs,h1⟩:=map_some h1
  obtain⟨s',hs',h2⟩:=map_some h2
  rw[Nat.zero_add] at h1 h2
  cases s with
  | non=>split at h1<;>cases h1
  | val e=>split at h1<;>cases h1
  | own xs =>
   cases s' with
   | non=>split at h2<;>cases h2
   | val e=>split at h2<;>cases h2
   | own ys=>exact S.inj i j _ _ a hs hs'
theorem j3.setV (S:j3 K HF₀ H₀ HF H ρ σ) {i:Nat}{d:D}{v:V}(r:Rep K HF d v):j3 K HF₀ H₀ HF H (ρ.set i (.val d)) (σ.set i (some v)):=by
 have ne:∀ {j:Nat}{s:Slot},(ρ.set i (.val d))[j]?=some s->(∀e,s≠.val e)->i≠j/\ρ[j]?=some s:=fun {j s} h hn=>by
  rw[List.getElem?_set] at h
  by_cases hij:i=j
  ·rw[if_pos hij] at h
   split at h
   ·cases h;exact absurd rfl (hn _)
   ·cases h
  ·rw[if_neg hij] at h;exact⟨hij,h⟩
 refine⟨S.gr,fun j e h=>?_,fun j ds h=>?_,fun j k ds es a h1 h2 h3 h4=>?_,by rw[List.length_set,List.length_set];exact S.len,S.tb⟩
 ·rw[List.getElem?_set] at h ⊢
  by_cases hij:i=j
  ·rw[if_pos hij] at h ⊢
   split at h
   ·rename_i hl
    cases h
    rw[if_pos (Nat.lt_of_lt_of_le hl S.len)]
    exact⟨v,rfl,r⟩
   ·cases h
  ·rw[if_neg hij] at h ⊢
   exact S.val j e h
 ·obtain⟨hij,h⟩:=ne h fun e z=>by cases z
  rw[List.getElem?_set,if_neg hij]
  exact S.own j ds h
 ·obtain⟨n1,h1⟩:=ne h1 fun e z=>by cases z
  obtain⟨n2,h2⟩:=ne h2 fun e z=>by cases z
  rw[List.getElem?_set,if_neg n1] at h3
  rw[List.getElem?_set,if_neg n2] at h4
  exact S.inj j k ds es a h1 h2 h3 h4
theorem j3.setO (S:j3 K HF₀ H₀ HF H ρ σ) {i:Nat}{ds:List D}{a:Addr}{vs:List V}(hs:aW H H') (h1:H' a=some (.lst vs)) (h2:HF a=none) (h3:H₀ a=none) (r:ar K HF ds vs)
  (fr:∀j es,i≠j->ρ[j]?=some (.own es)->σ[j]?≠some (some (.ref a))):j3 K HF₀ H₀ HF H' (ρ.set i (.own ds)) (σ.set i (some (.ref a))):=by
 have S:=S.step hs
 refine⟨S.gr,fun j e h=>?_,fun j es h=>?_,fun j k xs ys b e1 e2 e3 e4=>?_,by rw[List.length_set,List.length_set];exact S.len,S.tb⟩
 ·rw[List.getElem?_set] at h ⊢
  by_cases hij:i=j
  ·rw[if_pos hij] at h
   split at h<;>cases h
  ·rw[if_neg hij] at h ⊢
   exact S.val j e h
 ·rw[List.getElem?_set] at h ⊢
  by_cases hij:i=j
  ·rw[if_pos hij] at h ⊢
   split at h
   ·rename_i hl
    cases h
    rw[if_pos (Nat.lt_of_lt_of_le hl S.len)]
    exact⟨a,vs,rfl,h1,h2,h3,r⟩
   ·cases h
  ·rw[if_neg hij] at h ⊢
   exact S.own j es h
 ·rw[List.getElem?_set] at e1 e2 e3 e4
  by_cases hij:i=j
  ·by_cases hik:i=k
   ·exact hij.symm.trans hik
   ·rw[if_pos hij] at e1 e3
    rw[if_neg hik] at e2 e4
    split at e3
    ·cases e3;exact absurd e4 (fr k ys hik e2)
    ·cases e3
  ·by_cases hik:i=k
   ·rw[if_neg hij] at e1 e3
    rw[if_pos hik] at e2 e4
    split at e4
    ·cases e4;exact absurd e3 (fr j xs hij e1)
    ·cases e4
   ·rw[if_neg hij] at e1 e3
    rw[if_neg hik] at e2 e4
    exact S.inj j k xs ys b e1 e2 e3 e4
end
inductive Out where
 | nx (ρ:ai)|rt (d:D)
noncomputable def yv (K:PySem.W.Frag) (HF₀ H₀ HF:Hp) (E:Ends):Out->Prop
 | .nx ρ'=>∀σ' H' HF',j3 K HF₀ H₀ HF' H' ρ' σ'->aW HF HF'->E.nx σ' H'
 | .rt d=>∀v H' HF',cq HF₀ H₀ HF' H'->Rep K HF' d v->E.rt v H'
noncomputable def tS (K:PySem.W.Frag) (HF₀ H₀:Hp) (g:ai->Option Out):TS:=fun E σ H=>∃HF ρ o,j3 K HF₀ H₀ HF H ρ σ/\g ρ=some o/\yv K HF₀ H₀ HF E o
noncomputable def DS (X:Cx) (HF₀ H₀:Hp) (st:Stmt) (g:ai->Option Out):Prop:=PS X st (tS X.K HF₀ H₀ g)
noncomputable def A5 (X:Cx) (HF₀ H₀:Hp) (st:List Stmt) (g:ai->Option Out):Prop:=wJ X st (tS X.K HF₀ H₀ g)
section
variable {X:Cx}{HF₀ H₀:Hp}{st:Stmt}{rest:List Stmt}{g g1 g2:ai->Option Out}{e:Expr}{pos:Pos}
theorem dE {t t':TS}(h:PS X st t) (i:∀E σ H,t' E σ H->t E σ H):PS X st t':=fun pins s σ H E I q=>h pins s σ H E I (i E σ H q)
theorem yM {t t':TS}(h:wJ X rest t) (i:∀E σ H,t' E σ H->t E σ H):wJ X rest t':=fun pins s σ H E I q=>h pins s σ H E I (i E σ H q)
noncomputable def f7:ai->Option Out:=fun ρ=>some (.nx ρ)
noncomputable def av (g1 g2:ai->Option Out):ai->Option Out:=fun ρ=>(g1 ρ).bind fun|.nx ρ'=>g2 ρ'|.rt d=>some (.rt d)
theorem yv.mono {K:PySem.W.Frag}{HF HF':Hp}{E:Ends}{o:Out}(s:aW HF HF') (h:yv K HF₀ H₀ HF E o):yv K HF₀ H₀ HF' E o:=by
 cases o with
 | nx ρ'=>exact fun σ' H' HF2 S s2=>h σ' H' HF2 S (s.trans s2)
 | rt d=>exact h
theorem FG:A5 X HF₀ H₀ [] f7:=yM E8 fun E σ H ⟨HF,ρ,o,S,hg,q⟩=>by cases hg;exact q σ H HF S (.refl _)
theorem BF (h1:DS X HF₀ H₀ st g1) (h2:A5 X HF₀ H₀ rest g2):A5 X HF₀ H₀ (st::rest) (av g1 g2):=yM (Bx h1 h2) fun E σ H ⟨HF,ρ,o,S,hg,q⟩=>by
 obtain⟨o1,h,hg⟩:=bs hg
 refine⟨HF,ρ,o1,S,h,?_⟩
 cases o1 with
 | nx ρ'=>exact fun σ' H' HF' S' s=>⟨HF',ρ',o,S',hg,q.mono s⟩
 | rt d=>cases hg;exact q
theorem Gc (h1:DS X HF₀ H₀ st g1):A5 X HF₀ H₀ [st] g1:=FL h1
theorem FT:DS X HF₀ H₀ (.Pass pos) f7:=dE Fu fun E σ H ⟨HF,ρ,o,S,hg,q⟩=>by cases hg;exact q σ H HF S (.refl _)
theorem Hg {x j pos pos'}:DS X HF₀ H₀ (.Expr (.Constant (.str x) j pos) pos') f7:=dE HK fun E σ H ⟨HF,ρ,o,S,hg,q⟩=>by cases hg;exact q σ H HF S (.refl _)
noncomputable def fq (t:Env->Option Bool) (g1 g2:ai->Option Out):ai->Option Out:=fun ρ=>(t (bc ρ)).bind fun b=>if b=true then g1 ρ else g2 ρ
theorem J3 {c:Expr}{a b:List Stmt}{t:Env->Option Bool}(hc:DT X c t) (ha:A5 X HF₀ H₀ a g1) (hb:A5 X HF₀ H₀ b g2):DS X HF₀ H₀ (.If c a b pos) (fq t g1 g2):=dE (KI hc ha hb) fun E σ H ⟨HF,ρ,o,S,hg,q⟩=>by
 obtain⟨b,h,hg⟩:=bs hg
 refine⟨H,bc ρ,b,.refl _,S.all,h,fun H' HF' G=>?_⟩
 cases b with
 | true=>exact vK ⟨HF,ρ,o,S.step G.hh,hg,q⟩
 | false=>exact uZ ⟨HF,ρ,o,S.step G.hh,hg,q⟩
theorem vc:∀ (ρ:ai) (k n:Nat),k+ρ.length<=n->bJ (hand (List.range n) k ρ)=bc ρ
 | [],k,n,h=>rfl
 | s::r,k,n,h=>by
  have hk:(List.range n).contains k=true:=by simp at h ⊢;omega
  have ih:=vc r (k+1) n (by simp at h;omega)
  unfold bJ bc at ih ⊢
  rw[hand,if_pos hk,List.map_cons,List.map_cons,ih]
  cases s<;>rfl
noncomputable def aJ (f:Env->Option D):ai->Option Out:=fun ρ=>(f (bc ρ)).map Out.rt
theorem Hn {f:Env->Option D}(h:DE X e f):DS X HF₀ H₀ (.Return (some e) pos) (aJ f):=dE (IL h) fun E σ H ⟨HF,ρ,o,S,hg,q⟩=>by
 obtain⟨d,h,rfl⟩:=map_some hg
 obtain⟨HF1,s1,S1⟩:=S.hand (List.range ρ.length)
 refine⟨HF1,bc ρ,d,S1.gr.fh,?_,h,fun v H' HF' G r=>q v H' HF' (S1.gr.trans G) r⟩
 have:=S1.frz
 rw[vc ρ 0 ρ.length (by omega)] at this
 exact this
noncomputable def kZ:D->Bool|.none=>true|.bool _=>true|.int _=>true|.str _=>true|_=>false
theorem vS {K:PySem.W.Frag}{HF HF':Hp}{d:D}{v:V}(h:kZ d=true) (r:Rep K HF d v):Rep K HF' d v:=by
 cases d<;>cases h<;>(simp only[Rep] at r ⊢;exact r)
noncomputable def ay (i:Nat) (fz:List Nat) (f:Env->Option D):ai->Option Out:=fun ρ=>(f (bc ρ)).bind fun d=>if kZ d=true then some (.nx (ρ.set i (.val d))) else (f (bJ (hand fz 0 ρ))).map fun d'=>.nx ((hand fz 0 ρ).set i (.val d'))
theorem J4 {i:Nat}{fz:List Nat}{f:Env->Option D}:∀E σ H,tS X.K HF₀ H₀ (ay i fz f) E σ H->DD (tD X.K f) (v8 i) E σ H:=fun E σ H ⟨HF,ρ,o,S,hg,q⟩=>by
 obtain⟨d,h,hg⟩:=bs hg
 split at hg
 ·rename_i hs
  cases hg
  exact⟨H,bc ρ,d,.refl _,S.all,h,fun v H' HF' G r=>q _ H' HF ((S.step G.hh).setV (vS hs r)) (.refl _)⟩
 ·obtain⟨d',h',rfl⟩:=map_some hg
  obtain⟨HF1,s1,S1⟩:=S.hand fz
  exact⟨HF1,_,d',S1.gr.fh,S1.frz,h',fun v H' HF' G r=>q _ H' HF' ((S1.grow G).setV r) (s1.trans G.ff)⟩
theorem G0 (i:Nat) (fz:List Nat) {x:Str}{f:Env->Option D}{pos':Pos}(hN:X.N.Nodup) (hi:X.N[i]?=some x) (hx:Loc X.env.scope x) (he:DE X e f) (hs:swapsWith e (some (.Name x pos')) pos.line X.env=pure false:=by rfl)
  (hf:X.fn x=true\/X.env.scope.names.lookup x=some .local:=by first|exact .inl rfl|exact .inr rfl|assumption):DS X HF₀ H₀ (.Assign [.Name x pos'] e pos) (ay i fz f):=dE (Ba hN hi hx he hs hf) J4
noncomputable def aK (i:Nat) (fz:List Nat) (f:Env->Option (List D)):ai->Option Out:=fun ρ=>(f (bJ (hand fz 0 ρ))).map fun ds=>.nx ((hand fz 0 ρ).set i (.own ds))
theorem Dt {i:Nat}{fz:List Nat}{f:Env->Option (List D)}:∀E σ H,tS X.K HF₀ H₀ (aK i fz f) E σ H->DD (tF X.K f) (v8 i) E σ H:=fun E σ H ⟨HF,ρ,o,S,hg,q⟩=>by
 obtain⟨ds,h,rfl⟩:=map_some hg
 obtain⟨HF1,s1,S1⟩:=S.hand fz
 refine⟨HF1,_,ds,S1.gr.fh,S1.frz,h,fun a vs H' HF' G ha hf h' r=>q _ H' HF' ?_ (s1.trans G.ff)⟩
 have S2:=S1.grow G
 refine S2.setO (.refl _) h' hf (S1.gr.hh.free ha) r fun j es _ hj z=>?_
 obtain⟨b,us,e1,e2,_⟩:=S1.own j es hj
 rw[e1] at z
 cases z
 rw[ha] at e2;cases e2
theorem so (i:Nat) (fz:List Nat) {x:Str}{f:Env->Option (List D)}{pos':Pos}(hN:X.N.Nodup) (hi:X.N[i]?=some x) (hx:Loc X.env.scope x) (he:DF X e f) (hs:swapsWith e (some (.Name x pos')) pos.line X.env=pure false:=by rfl)
  (hf:X.fn x=true\/X.env.scope.names.lookup x=some .local:=by first|exact .inl rfl|exact .inr rfl|assumption):DS X HF₀ H₀ (.Assign [.Name x pos'] e pos) (aK i fz f):=dE (Ba hN hi hx he hs hf) Dt
theorem Fp (i:Nat) (fz:List Nat) {y:Str}{py spos:Pos}{tg iter elt:Expr}{ifs:List Expr}{scope:Scope}{N:List Str}{t:Nat}{cs:List Nat}{fi:Env->Option (List D)}{tgt:Env->D->Option Env}{tt:Env->Option Bool}{te:Env->Option D}
  (hc:X.calm=true) (S:iB X scope N (jj t cs)) (hi:DI X tg iter fi)
  (hY:∀fp s H,DG (aR X scope N fp s H) tg tgt/\Kb (aR X scope N fp s H) ifs tt/\DE (aR X scope N fp s H) elt te)
  (hN:X.N.Nodup) (hiy:X.N[i]?=some y) (hy:X.env.scope.names.lookup y=some .local)
  (hsw:swapsWith (.ListComp elt [⟨tg,iter,ifs,0⟩] scope pos) (some (.Name y py)) spos.line X.env=pure true)
  (hs:∀x,foldedSetIterable iter X.env x=pure x:=by intro _;rfl):DS X HF₀ H₀ (.Assign [.Name y py] (.ListComp elt [⟨tg,iter,ifs,0⟩] scope pos) spos) (aK i fz (ak t cs fi tgt tt te)) :=
 dE (ED (g:=Lg X.K tgt) (tt:=Hx X.K tt) (te:=tD X.K te) hc S hi hY hN hiy hy hsw hs) fun E σ H q=>by
  have:=Dt E σ H q
  exact Bi σ H _ this
noncomputable def Mz (K:PySem.W.Frag) (HF₀ H₀:Hp) (f:ai->D->Option ai):TG:=fun v σ H Q=>∃HF ρ d ρ',j3 K HF₀ H₀ HF H ρ σ/\Rep K HF d v/\f ρ d=some ρ'/\∀σ',j3 K HF₀ H₀ HF H ρ' σ'->Q σ' H
noncomputable def KJ (X:Cx) (HF₀ H₀:Hp) (tg:Expr) (f:ai->D->Option ai):Prop:=PG X tg (Mz X.K HF₀ H₀ f)
noncomputable def uv (i:Nat):ai->D->Option ai:=fun ρ d=>some (ρ.set i (.val d))
theorem BB (i:Nat) {x:Str}(hN:X.N.Nodup) (hi:X.N[i]?=some x) (hx:Loc X.env.scope x) (hf:X.fn x=true\/X.env.scope.names.lookup x=some .local:=by first|exact .inl rfl|exact .inr rfl|assumption):KJ X HF₀ H₀ (.Name x pos) (uv i) :=
 mK (cO hN hi hx hf) fun v σ H Q ⟨HF,ρ,d,ρ',S,r,hf,q⟩=>by cases hf;exact q _ (S.setV r)
noncomputable def eY (i j:Nat):ai->D->Option ai:=fun ρ d=>match d with
 | .tuple [x,y]=>some ((ρ.set i (.val x)).set j (.val y))
 | _=>none
theorem Ff (i j:Nat) {x y:Str}{px py:Pos}{k:Nat}(hc:X.calm=true) (hN:X.N.Nodup) (hi:X.N[i]?=some x) (hx:Loc X.env.scope x) (hj:X.N[j]?=some y) (hy:Loc X.env.scope y)
  (hf:X.fn x=true\/X.env.scope.names.lookup x=some .local:=by first|exact .inl rfl|exact .inr rfl|assumption) (hf':X.fn y=true\/X.env.scope.names.lookup y=some .local:=by first|exact .inl rfl|exact .inr rfl|assumption) :
  KJ X HF₀ H₀ (.Tuple [.Name x px,.Name y py] k pos) (eY i j) :=
 mK (oC hc (cx (cO hN hi hx hf) (cx (cO hN hj hy hf') k5))) fun v σ H Q ⟨HF,ρ,d,ρ',S,r,hf,q⟩=>by
  unfold eY at hf
  split at hf
  ·cases hf
   simp only[Rep] at r
   obtain⟨a,vs,rfl,hs,rr⟩:=r
   obtain⟨v1,r1,rfl,a1,b1⟩:=rr.cons_inv
   obtain⟨v2,r2,rfl,a2,b2⟩:=b1.cons_inv
   rw[b2.nil_inv] at hs
   exact⟨a,_,rfl,az S.gr.fh hs,rfl,v1,_,rfl,v2,_,rfl,rfl,q _ ((S.setV a1).setV a2)⟩
  ·cases hf
noncomputable def eQ (tgt:ai->D->Option ai) (gb:ai->Option Out):List D->ai->Option Out
 | [],ρ=>some (.nx ρ)
 | d::ds,ρ=>(tgt ρ d).bind fun ρ1=>(gb ρ1).bind fun|.nx ρ2=>eQ tgt gb ds ρ2|.rt v=>some (.rt v)
noncomputable def dz (fz:List Nat) (fi:Env->Option (List D)) (tgt:ai->D->Option ai) (gb:ai->Option Out):ai->Option Out:=fun ρ=>(fi (bJ (hand fz 0 ρ))).bind fun ds=>eQ tgt gb ds (hand fz 0 ρ)
theorem Jg (fz:List Nat) {tg iter:Expr}{body:List Stmt}{fi:Env->Option (List D)}{tgt:ai->D->Option ai}{gb:ai->Option Out}(hp:PassesOwn (model X.prog X.w) X.A X.env X.xe) (hc:X.calm=true) (hi:DI X tg iter fi) (hg:KJ X HF₀ H₀ tg tgt) (hb:A5 X HF₀ H₀ body gb)
  (hs:∀x,foldedSetIterable iter X.env x=pure x:=by intro _;rfl):DS X HF₀ H₀ (.For tg iter body [] pos) (dz fz fi tgt gb):=dE (Ji hp hc hi hg hb hs) fun E σ H ⟨HF,ρ,o,S,hg,q⟩=>by
 obtain⟨ds,h,hg⟩:=bs hg
 obtain⟨HF1,s1,S1⟩:=S.hand fz
 refine⟨HF1,_,ds,S1.gr.fh,S1.frz,h,fun J H2 HF2 G it=>?_⟩
 refine⟨fun i m σ' H'=>m+i=ds.length/\∃HF' ρ',j3 X.K HF₀ H₀ HF' H' ρ' σ'/\aW HF2 HF'/\eQ tgt gb (ds.drop i) ρ'=some o,⟨ds.length,rfl,HF2,_,S1.grow G,.refl _,hg⟩,?_⟩
 rintro i m σ' H' ⟨hm,HF',ρ',S',s',hf⟩
 by_cases hi:i < ds.length
 ·refine .inr ?_
  have hd:ds.drop i=ds[i]::ds.drop (i+1):=List.drop_eq_getElem_cons hi
  have he:ds[i]?=some ds[i]:=List.getElem?_eq_some_iff.mpr ⟨hi,rfl⟩
  generalize ds[i]=d at hd he
  rw[hd] at hf
  unfold eQ at hf
  obtain⟨ρ1,h1,hf⟩:=bs hf
  obtain⟨o1,h2,hf⟩:=bs hf
  obtain⟨go,yld⟩:=it.go i d H' HF' he s' S'.gr.fh
  refine⟨go,fun σ2 H3=>∃HF3 ρ3,j3 X.K HF₀ H₀ HF3 H3 ρ3 σ2/\aW HF2 HF3/\eQ tgt gb (ds.drop (i+1)) ρ3=some o,fun σ2 H3 ⟨HF3,ρ3,a1,a2,a3⟩=>⟨m - 1,by omega,by omega,HF3,ρ3,a1,a2,a3⟩,fun x H3 y=>?_⟩
  obtain⟨HF3,G3,rx⟩:=yld x H3 y
  refine⟨HF3,ρ',d,ρ1,S'.grow G3,rx,h1,fun σ2 S2=>⟨HF3,ρ1,o1,S2,h2,?_⟩⟩
  cases o1 with
  | nx ρ2=>exact fun σ4 H4 HF4 S4 s4=>⟨HF4,ρ2,S4,(s'.trans G3.ff).trans s4,hf⟩
  | rt d=>cases hf;exact q
 ·have hi':i=ds.length:=by omega
  subst hi'
  rw[List.drop_length] at hf
  cases hf
  exact .inl ⟨it.stop H' HF' s' S'.gr.fh,q σ' H' HF' S' ((s1.trans G.ff).trans s')⟩
end
end Dl
namespace Dl
open PySem L2 PySem.Spec PyProof.Rows
noncomputable def Mb (X:Cx) (sc:Scope):Prop:=∀x k,sc.names.lookup x=some k->X.env.kindOf x=some k\/(k=.free/\X.env.kindOf x=some .cell)
structure Bk (X:Cx) (N:List Str) (sc:Scope) (k:Nat):Prop where
 n:X.N=N
 nd:N.Nodup
 tb:Mb X sc
 calm:X.calm=true
 fn:∀x,sc.names.lookup x=some .cell->X.fn x=true
 room:dN k X.A
 xe:X.xe=fun _ _=>False
 kd:X.env.scope.kind=.function
noncomputable def cI:List Str:=["len","isinstance","int","bool","tuple","list","range","all","any","set","sorted","enumerate","zip","sum","min","max","reversed"]
noncomputable def Bn (X:Cx):Prop:=∀x∈cI,X.mg x=none
noncomputable def zQ (sc:Scope) (x:Str):Bool:=decide (sc.names.lookup x=some .globalImplicit)
noncomputable def AA (N:List Str) (sc:Scope) (i:Nat) (x:Str):Bool:=decide (N[i]?=some x)&&(decide (sc.names.lookup x=some .local)||decide (sc.names.lookup x=some .cell)||decide (sc.names.lookup x=some .free))&&!(x == ("__debug__":Str))&&!(x == ("__classdict__":Str))
noncomputable def o4 (N:List Str) (sc:Scope) (i:Nat) (x:Str):Bool:=decide (N[i]?=some x)&&(decide (sc.names.lookup x=some .local)||decide (sc.names.lookup x=some .cell))
section
variable {X:Cx}{N:List Str}{sc:Scope}{k:Nat}
theorem Bk.gl (C:Bk X N sc k) {x:Str}(h:zQ sc x=true):Gl X x:=by
 rcases C.tb x _ (of_decide_eq_true h) with q|⟨q,_⟩
 ·exact q
 ·cases q
theorem Bk.vis (C:Bk X N sc k) {i:Nat}{x:Str}(h:AA N sc i x=true):X.N[i]?=some x/\GP X.env.scope x/\(x == ("__debug__":Str))=false/\(x == ("__classdict__":Str))=false:=by
 unfold AA at h
 simp only[Bool.and_eq_true,Bool.or_eq_true,decide_eq_true_eq,Bool.not_eq_true'] at h
 obtain⟨⟨⟨h1,h2⟩,h3⟩,h4⟩:=h
 refine⟨by rw[C.n];exact h1,?_,h3,h4⟩
 rcases h2 with (h2|h2)|h2
 ·rcases C.tb x _ h2 with q|⟨q,_⟩
  ·exact .inl q
  ·cases q
 ·rcases C.tb x _ h2 with q|⟨q,_⟩
  ·exact .inr (.inl q)
  ·cases q
 ·rcases C.tb x _ h2 with q|⟨_,q⟩
  ·exact .inr (.inr q)
  ·exact .inr (.inl q)
theorem Bk.loc (C:Bk X N sc k) {i:Nat}{x:Str}(h:o4 N sc i x=true):X.N.Nodup/\X.N[i]?=some x/\Loc X.env.scope x/\(X.fn x=true\/X.env.scope.names.lookup x=some .local):=by
 unfold o4 at h
 simp only[Bool.and_eq_true,Bool.or_eq_true,decide_eq_true_eq] at h
 obtain⟨h1,h2⟩:=h
 refine⟨by rw[C.n];exact C.nd,by rw[C.n];exact h1,?_⟩
 rcases h2 with h2|h2
 ·rcases C.tb x _ h2 with q|⟨q,_⟩
  ·exact⟨.inl q,.inr q⟩
  ·cases q
 ·rcases C.tb x _ h2 with q|⟨q,_⟩
  ·exact⟨.inr q,.inl (C.fn x h2)⟩
  ·cases q
theorem Bk.blt (C:Bk X N sc k) (B:Bn X) {x:Str}{v:Value}(h:zQ sc x=true) (hm:x∈cI) (hv:bootBuiltins x=some v):mL X x v:=⟨C.gl h,B x hm,hv⟩
theorem Bk.v (C:Bk X N sc k) (i:Nat) {x:Str}{pos:Pos}(h:AA N sc i x=true):DE X (.Name x pos) (ab i):=let ⟨a,b,c,d⟩:=C.vis h;Ja i a b c d
theorem Bk.pass (C:Bk X N sc k):PassesOwn (model X.prog X.w) X.A X.env X.xe:=by rw[C.xe];exact PassesOwn.never
noncomputable def iz (sc scope:Scope) (N N':List Str) (t:Nat) (cs:List Nat):Bool :=
 decide (scope.kind=.function)&&scope.names.all (fun p=>(!decide (p.2=NameKind.free)||decide (sc.names.lookup p.1=some .cell)||decide (sc.names.lookup p.1=some .free))&&(!decide (p.2=NameKind.local)||decide (scope.names.lookup p.1=some .local)))
  &&scope.names.all (fun p=>!decide (p.2=NameKind.cell)||!scope.names.any fun q=>decide (q.1=p.1)&&decide (q.2=NameKind.free))
  &&decide (N'.length=t+cs.length)&&decide (N'.drop t=cs.filterMap fun j=>N[j]?)&&cs.all (fun j=>decide (j < N.length))&&(N'.drop t).all (fun x=>decide (scope.names.lookup x=some .free))&&decide N'.Nodup
theorem filterMap_get {α:Type}(N:List α):∀ (cs:List Nat),(∀j∈cs,j < N.length)->∀ (i:Nat),(cs.filterMap fun j=>N[j]?)[i]?=(cs[i]?).bind fun j=>N[j]?
 | [],_,i=>by simp
 | c::cs,h,i=>by
  have hc:=h c List.mem_cons_self
  rw[List.filterMap_cons,List.getElem?_eq_getElem hc]
  cases i with
  | zero=>simp[hc]
  | succ i =>
   simp only[List.getElem?_cons_succ]
   exact filterMap_get N cs (fun j hj=>h j (List.mem_cons_of_mem _ hj)) i
theorem Bk.comp (C:Bk X N sc k) {scope:Scope}{N':List Str}{t:Nat}{cs:List Nat}(h:iz sc scope N N' t cs=true):iB X scope N' (jj t cs)/\∀fp s H,Bk (aR X scope N' fp s H) N' scope k:=by
 unfold iz at h
 simp only[Bool.and_eq_true,decide_eq_true_eq,List.all_eq_true,Bool.or_eq_true,Bool.not_eq_true',decide_eq_false_iff_not] at h
 obtain⟨⟨⟨⟨⟨⟨⟨h1,h2⟩,h3⟩,h4⟩,h5⟩,h6⟩,h7⟩,h8⟩:=h
 refine⟨⟨h1,fun x hx hk=>?_,fun {x} a b=>?_,fun x hx hk=>?_,fun σ i x v e1 e2=>?_,fun σ=>?_⟩,fun fp s H=>⟨rfl,h8,fun x k hx=>lW hx,C.calm,fun x hx=>decide_eq_true hx,C.room,rfl,h1⟩⟩
 ·rcases (h2 x hx).1 with (q|q)|q
  ·exact absurd hk q
  ·rcases C.tb _ _ q with z|⟨z,_⟩
   ·exact .inl z
   ·cases z
  ·rcases C.tb _ _ q with z|⟨_,z⟩
   ·exact .inr z
   ·exact .inl z
 ·rcases h3 _ a with q|q
  ·exact q rfl
  ·have:(scope.names.any fun q=>decide (q.1=x)&&decide (q.2=NameKind.free))=true:=List.any_eq_true.mpr ⟨_,b,by simp⟩
   rw[this] at q
   cases q
 ·rcases (h2 x hx).2 with q|q
  ·exact absurd hk q
  ·exact q
 ·unfold jj at e2
  by_cases hi:i < t
  ·rw[List.getElem?_append_left (by simpa using hi),List.getElem?_replicate,if_pos hi] at e2
   cases e2
  ·rw[List.getElem?_append_right (by simpa using hi),List.getElem?_map,List.length_replicate] at e2
   obtain⟨j,hj,e2⟩:=map_some e2
   have e3:(N'.drop t)[i - t]?=some x:=by rw[List.getElem?_drop];rw[show t+(i - t)=i by omega];exact e1
   refine⟨h7 x (List.mem_of_getElem? e3),j,?_,?_⟩
   ·rw[h5,filterMap_get N cs h6,hj] at e3
    rw[C.n];exact e3
   ·cases e:σ[j]? with
    | none=>rw[e] at e2;cases e2
    | some o=>rw[e] at e2;have e2:o=some v:=e2;rw[e2]
 ·unfold jj
  rw[List.length_append,List.length_replicate,List.length_map,h4]
noncomputable def aZ (g:ai->Option Out) (n:Nat) (args:List D):Option D:=(g (args.map Slot.val++List.replicate (n - args.length) .non)).map fun|.rt d=>d|.nx _=>.none
theorem GI {P:Program}{w:World}{K:PySem.W.Frag}{mg:Str->Option Value}{base:Heap}{x qual:Str}{st:Stmt}{f:Addr}{fd:FuncData}{ps:List Str}{g:ai->Option Out}(F:Cu K x qual st f fd) (S:ee N ps (aD st))
  (body:∀X:Cx,X.prog=P->X.w=w->X.K=K->X.mg=mg->X.base=base->Bk X N (aD st) k->X.env.code=fd.code->X.env.qual=qual++".<locals>."->∀HF₀ H₀,A5 X HF₀ H₀ (bT st) g):kF P w K mg base GN (k+1) f fd ps (JX K ps.length (aZ g N.length)):=by
 obtain⟨oc,od,kV,doc,pm,an,cdv,ct,osl,rfl,lk,hcd⟩:=F.ex
 refine Gz lk hcd S (fun vs H Q E ⟨HF,ds,d,h1,_,h2,h3,_⟩=>by rw[h2.length,h3]) fun A outer s H vs Q E hr ⟨HF,ds,d,sm,tb,rr,hl,hd,q⟩=>?_
 refine⟨_,(body (xg GN P w K mg base N qual (aD st) f cdv A outer s H E).nox rfl rfl rfl rfl rfl ⟨rfl,S.nd,fun y kd hy=>.inl hy,rfl,fun _ _=>rfl,hr,rfl,S.kind⟩ rfl rfl HF H).nox,?_⟩
 unfold aZ at hd
 obtain⟨o,ho,hd⟩:=map_some hd
 have hpl:ps.length<=N.length:=by have:=congrArg List.length S.pre;rw[List.length_take] at this;omega
 refine⟨HF,_,o,⟨.refl sm,fun i e h=>?_,fun i es h=>?_,fun i j es fs a h=>?_,?_,tb⟩,ho,?_⟩
 ·have hi:i < ds.length:=by
   by_cases hi:i < ds.length
   ·exact hi
   ·rw[List.getElem?_append_right (by simpa using hi),List.getElem?_replicate] at h
    split at h<;>cases h
  rw[List.getElem?_append_left (by simpa using hi),List.getElem?_map] at h
  obtain⟨d',hd',h⟩:=map_some h
  cases h
  obtain⟨v,hv,rv⟩:=rr.getD hd'
  refine⟨v,?_,rv⟩
  unfold L2.start
  rw[List.getElem?_append_left (by simpa [rr.length] using hi),List.getElem?_map,hv]
  rfl
 ·exfalso
  by_cases hi:i < ds.length
  ·rw[List.getElem?_append_left (by simpa using hi),List.getElem?_map] at h
   obtain⟨d',hd',h⟩:=map_some h
   cases h
  ·rw[List.getElem?_append_right (by simpa using hi),List.getElem?_replicate] at h
   split at h<;>cases h
 ·exfalso
  by_cases hi:i < ds.length
  ·rw[List.getElem?_append_left (by simpa using hi),List.getElem?_map] at h
   obtain⟨d',hd',h⟩:=map_some h
   cases h
  ·rw[List.getElem?_append_right (by simpa using hi),List.getElem?_replicate] at h
   split at h<;>cases h
 ·unfold L2.start
  rw[List.length_append,List.length_append,List.length_map,List.length_map,List.length_replicate,List.length_replicate,rr.length]
  exact Nat.le_refl _
 ·cases o with
  | rt d'=>cases hd;exact fun v H' HF' G r=>q v H' HF' G r
  | nx ρ'=>cases hd;exact fun σ' H' HF' S' _=>q .non H' HF' S'.gr (by simp[Rep])
theorem Mq {P:Program}{w:World}{K:PySem.W.Frag}{mg:Str->Option Value}{base:Heap}{x qual:Str}{st:Stmt}{f:Addr}{fd:FuncData}{ps:List Str}{g:ai->Option Out}(F:Cu K x qual st f fd) (S:ee N ps (aD st)) (hb:Binds K fd ps []) (hm:mg x=some (.ref f))
  (body:∀X:Cx,X.prog=P->X.w=w->X.K=K->X.mg=mg->X.base=base->Bk X N (aD st) k->X.env.code=fd.code->X.env.qual=qual++".<locals>."->∀HF₀ H₀,A5 X HF₀ H₀ (bT st) g):dk P w K mg base (k+1) x ps.length (aZ g N.length):=⟨f,fd,ps,GI F S body,hm,F.kp,hb⟩
end
section
variable {X:Cx}{HF₀ H₀:Hp}{e e2:Expr}{pos apos cpos px:Pos}{x:Str}
noncomputable def j9 (fz:List Nat) (f:Env->Option D) (ρ:ai):Option (D×ai):=(f (bc ρ)).bind fun d=>if kZ d=true then some (d,ρ) else (f (bJ (hand fz 0 ρ))).map fun d'=>(d',hand fz 0 ρ)
theorem mm {K:PySem.W.Frag}{HF H:Hp}{ρ ρ':ai}{σ:L2.St}{fz:List Nat}{f:Env->Option D}{d:D}(S:j3 K HF₀ H₀ HF H ρ σ) (h:j9 fz f ρ=some (d,ρ')) {Q:VK}
  (q:∀v H' HF',aW HF HF'->j3 K HF₀ H₀ HF' H' ρ' σ->aW H H'->Rep K HF' d v->Q v H'):tD K f σ H Q:=by
 obtain⟨d1,h1,h⟩:=bs h
 split at h
 ·rename_i hs
  cases h
  exact⟨H,bc ρ,d,.refl _,S.all,h1,fun v H' HF' G r=>q v H' HF (.refl _) (S.step G.hh) G.hh (vS hs r)⟩
 ·obtain⟨d2,h2,h⟩:=map_some h
  cases h
  obtain⟨HF1,s1,S1⟩:=S.hand fz
  exact⟨HF1,_,d,S1.gr.fh,S1.frz,h2,fun v H' HF' G r=>q v H' HF' (s1.trans G.ff) (S1.grow G) G.hh r⟩
noncomputable def nu (i:Nat) (m:List D->Option (List D)) (ρ:ai):Option Out:=match ρ[i]? with
 | some (.own ds)=>(m ds).map fun es=>.nx (ρ.set i (.own es))
 | _=>none
theorem jL {i:Nat}{m:List D->Option (List D)}{ρ:ai}{o:Out}(h:nu i m ρ=some o):∃ds es,ρ[i]?=some (.own ds)/\m ds=some es/\o=.nx (ρ.set i (.own es)):=by
 unfold nu at h
 split at h
 ·rename_i ds hd
  obtain⟨es,h1,h2⟩:=map_some h
  exact⟨ds,es,hd,h1,h2.symm⟩
 ·cases h
theorem j3.mut {K:PySem.W.Frag}{HF H:Hp}{ρ:ai}{σ:L2.St}(S:j3 K HF₀ H₀ HF H ρ σ) {i:Nat}{ds es:List D}{a:Addr}{vs us:List V}(h:ρ[i]?=some (.own ds)) (ha:σ[i]?=some (some (.ref a))) (hH:H a=some (.lst vs)) (r:ar K HF es us) :
  j3 K HF₀ H₀ HF (upd H a (.lst us)) (ρ.set i (.own es)) σ:=by
 obtain⟨a',vs',e1,e2,e3,e5,e4⟩:=S.own i ds h
 rw[ha] at e1;cases e1
 have hl:i < ρ.length:=(List.getElem?_eq_some_iff.mp h).1
 have gr:cq HF₀ H₀ HF (upd H a (.lst us)):=⟨fun b o e=>by rw[aB (aM e e5)];exact S.gr.hh b o e,S.gr.ff,fun b o e=>by rw[aB (aM e e3)];exact S.gr.fh b o e,S.gr.nw⟩
 refine⟨gr,fun j d hj=>?_,fun j xs hj=>?_,fun j k xs ys b f1 f2 f3 f4=>?_,by rw[List.length_set];exact S.len,S.tb⟩
 ·rw[List.getElem?_set] at hj
  by_cases hij:i=j
  ·rw[if_pos hij] at hj
   split at hj<;>cases hj
  ·rw[if_neg hij] at hj;exact S.val j d hj
 ·rw[List.getElem?_set] at hj
  by_cases hij:i=j
  ·subst hij
   rw[if_pos rfl,if_pos hl] at hj
   cases hj
   exact⟨a,us,ha,aE,e3,e5,r⟩
  ·rw[if_neg hij] at hj
   obtain⟨b,ws,f1,f2,f3,f5,f4⟩:=S.own j xs hj
   refine⟨b,ws,f1,?_,f3,f5,f4⟩
   rw[aB]
   ·exact f2
   ·rintro rfl
    exact hij (S.inj i j ds xs b h hj ha f1)
 ·have old:∀ {j:Nat}{xs:List D},(ρ.set i (.own es))[j]?=some (.own xs)->∃ys,ρ[j]?=some (.own ys):=fun {j xs} hj=>by
   rw[List.getElem?_set] at hj
   by_cases hij:i=j
   ·subst hij;exact⟨ds,h⟩
   ·rw[if_neg hij] at hj;exact⟨xs,hj⟩
  obtain⟨xs',g1⟩:=old f1
  obtain⟨ys',g2⟩:=old f2
  exact S.inj j k xs' ys' b g1 g2 f3 f4
noncomputable def kH (i:Nat) (fz:List Nat) (f:Env->Option D):ai->Option Out:=fun ρ=>(j9 fz f ρ).bind fun p=>nu i (fun ds=>if ds.length < sizeLine then some (ds++[p.1]) else none) p.2
theorem zR (i:Nat) (fz:List Nat) {f:Env->Option D}(hN:X.N[i]?=some x) (hv:GP X.env.scope x) (h:DE X e f) (hd:(x == ("__debug__":Str))=false:=by decide) (hcd:(x == ("__classdict__":Str))=false:=by decide)
  (hfew:((backTo cpos (starEach [e] X.env)).all (fun x=>!x.1)&&(backToKw cpos (keywordEach [] X.env)).all (fun x=>x.1.isSome)&&decide ([e].length+([]:List Keyword).length+(if ([]:List Keyword).isEmpty then 0 else 1) < 30))=true:=by rfl)
  (hline:(apos.endLine == cpos.line)=true:=by rfl) (hs:starEach [e] X.env=(false,eval e X.env)::starEach [] X.env:=by rfl) :
  DS X HF₀ H₀ (.Expr (.Call (.Attribute (.Name x px) "append" apos) [e] [] cpos) pos) (kH i fz f) :=
 dE (nM (qZ PySem.F.plainAttrs_list PySem.F.slot_list_append PySem.F.type_list_append rL (oY hN hv hd hcd) (cZ h gH hs) rfl hfew hline hs rfl)) fun E σ H ⟨HF,ρ,o,S,hg,q⟩=>by
  obtain⟨⟨d,ρ'⟩,h1,hg⟩:=bs hg
  obtain⟨ds,es,h2,h3,rfl⟩:=jL hg
  have hown:∃ds',ρ[i]?=some (.own ds'):=by
   obtain⟨d1,_,h1⟩:=bs h1
   split at h1
   ·cases h1;exact⟨ds,h2⟩
   ·obtain⟨d2,_,h1⟩:=map_some h1
    cases h1
    rw[gW] at h2
    obtain⟨s,hs,h2⟩:=map_some h2
    cases s with
    | non=>split at h2<;>cases h2
    | val _=>split at h2<;>cases h2
    | own xs=>exact⟨xs,hs⟩
  obtain⟨ds',hown⟩:=hown
  obtain⟨a,vs,e1,e2,e3,e5,e4⟩:=S.own i ds' hown
  refine⟨.ref a,e1,.inl ⟨rfl,vs,ib.of e2⟩,mm S h1 fun v H' HF' s1 S' sh r=>?_⟩
  obtain⟨a',vs',f1,f2,f3,f5,f4⟩:=S'.own i ds h2
  rw[e1] at f1;cases f1
  split at h3
  ·rename_i hz
   cases h3
   exact⟨a,vs',v,rfl,rfl,f2,by rw[f4.length];exact hz,q σ _ HF' (S'.mut h2 e1 f2 (f4.append (ar.cons r ar.nil))) s1⟩
  ·cases h3
end
end Dl
namespace Dl
open PySem L2 PySem.Spec PyProof.Rows
noncomputable def sL (K:PySem.W.Frag) (o:Obj):Option (Addr×Str):=match o.data with
 | .func fd=>if jc.contains fd.qualname=true then (match fd.code with
   | .ref c=>(match K.lookup c with
    | some ⟨_,_,.fields vs,_⟩=>(match (vs[11]?:Option Value) with
     | some (.ref P)=>if PySem.W.codeHdIn K c P=true then some (P,fd.qualname++".<locals>."++"<lambda>") else none
     | _=>none)
    | _=>none)
   | _=>none) else none
 | _=>none
noncomputable def gG (K:PySem.W.Frag):List (Addr×Str):=K.filterMap fun p=>sL K p.2
noncomputable def lL (K:PySem.W.Frag) (ts:List Addr):Bool:=(gG K).all fun p=>ts.contains p.1&&(K.lookup p.1).isNone&&decide ((gG K).lookup p.1=some p.2)
theorem vL {K:PySem.W.Frag}{o:Obj}{P:Addr}{q:Str}(h:sL K o=some (P,q)):∃c,PySem.W.codeHdIn K c P=true:=by
 unfold sL at h
 split at h
 ·split at h
  ·split at h
   ·split at h
    ·split at h
     ·split at h
      ·cases h;exact⟨_,‹_›⟩
      ·cases h
     ·cases h
    ·cases h
   ·cases h
  ·cases h
 ·cases h
theorem vA {K:PySem.W.Frag}{P:Addr}{q:Str}(h:(P,q)∈gG K):∃c,PySem.W.codeHdIn K c P=true:=by
 obtain⟨p,_,e⟩:=List.mem_filterMap.mp h
 exact vL e
theorem xt {K:PySem.W.Frag}{f c P:Addr}{oc:Value}{od:Option Addr}{fd:FuncData}{sl:Array (Option Value)}(a:K.lookup f=some ⟨oc,od,.func fd,sl⟩) (b:fd.qualname∈jc) (d:fd.code=.ref c) (e:PySem.W.codeHdIn K c P=true) :
  (P,fd.qualname++".<locals>."++"<lambda>")∈gG K:=by
 refine List.mem_filterMap.mpr ⟨(f,_),PySem.W.mem_of_lookupK a,?_⟩
 have e':=e
 unfold PySem.W.codeHdIn at e'
 unfold sL
 simp only[d,List.contains_iff_mem,b,if_true]
 split at e'
 ·rename_i vs sl' hl
  simp only[hl]
  simp only[Bool.and_eq_true] at e'
  have e1:=e'.1.1.1.1.1
  split at e1
  ·rename_i P' hv
   have:P'=P:=by simpa using e1
   subst this
   simp only[hv,e,if_true]
  ·cases e1
 ·cases e'
theorem Bb {α:Type}{b:Addr}{q:α}:∀ {l:List (Addr×α)},l.lookup b=some q->(b,q)∈l
 | [],e=>by cases e
 | (c,x)::r,e=>by
  rw[List.lookup_cons] at e
  cases h:b == c with
  | true=>rw[h] at e;cases e;rw[eq_of_beq h];exact List.mem_cons_self
  | false=>rw[h] at e;exact List.mem_cons_of_mem _ (Bb e)
noncomputable def eC (K:PySem.W.Frag) (h0:Hp):Hp:=fun b=>match (gG K).lookup b with|some q=>some (.tab q)|none=>h0 b
theorem zB {K:PySem.W.Frag}{ts:List Addr}{h0:Hp}(h:lL K ts=true):fw K (eC K h0):=fun f oc od fd sl c P a b d e=>by
 have hm:=xt a b d e
 have:=List.all_eq_true.mp h _ hm
 simp only[Bool.and_eq_true,decide_eq_true_eq] at this
 unfold eC
 rw[this.2]
theorem AW {P:Program}{w:World}{K:PySem.W.Frag}{mg mb:Str->Option Value}{CX:Ap}{k:Nat}{fa a:Addr}{fd:FuncData}{x:Str}{sp:Sp}{s₁:Shared}{vs:List Value}{ns:List Int}{ts:List Addr}
  (KX:K.In s₁.heap) (hns:s₁.heap.Ns mainGlobals mg) (hb:s₁.heap.Ns builtinsNs mb) (hbb:∀x:Str,x≠"__name__"->mb x=bootBuiltins x) (hlim:s₁.heap.NoLimit) (hbm:K9 mg s₁.heap) (hg:s₁.gens=#[])
  (ht:lL K ts=true) (hts:∀P∈ts,s₁.heap.get? P=some (PySem.W.tabObj #[]))
  (ha:s₁.heap.get? a=some { cls:=.type "list",data:=.seq vs.toArray }) (hi:IntsAre vs ns) (hl:ns.length<=sizeLine) (hr:dN k callerA)
  (F:∀base:Heap,K.In base->base.Ns mainGlobals mg->kF P w K mg base CX k fa fd [x] sp) (hbind:∀ (s:Shared) (u:Value),BindsTo s fd ⟨[u],[]⟩ [(x,u)])
  (hsp:∀H:Hp,fw K H->ib K H a (ns.map V.int)->sp [.ref a] H (fun v _=>v=.bl true) fun _ _ _=>False)
  (hCX:∀H e s',CX [] H s₁ (fun _ _ _=>False) e s'->False) :
  codeAny (model P w) callerA (.call (.ref fa) ⟨[.ref a],[]⟩) (fun r s'=>r=.ok (.ret (.bool true))/\OldK s₁.heap s'.heap/\s'.os=s₁.os/\AllBare s'.gens) s₁:=by
 have rv:=rh hi
 have lenV:=hi.length
 have tabAt:∀b q,(gG K).lookup b=some q->s₁.heap.get? b=some (PySem.W.tabObj #[])/\K.lookup b=none/\∃c,PySem.W.CodeHd s₁.heap c b:=fun b q e=>by
  have hm:=Bb e
  have:=List.all_eq_true.mp ht _ hm
  simp only[Bool.and_eq_true,decide_eq_true_eq,List.contains_iff_mem,Option.isNone_iff_eq_none] at this
  obtain⟨c,hc⟩:=vA hm
  exact⟨hts b this.1.1,this.1.2,c,PySem.W.codeHd_of_K KX hc⟩
 have aT:(gG K).lookup a=none:=by
  cases e:(gG K).lookup a with
  | none=>rfl
  | some q=>have:=(tabAt a q e).1;rw[ha] at this;cases this
 have core:∀h0:Hp,ib K (eC K h0) a (ns.map V.int)->nH P w (eC K h0) s₁.heap->(∀b,h0 b≠none->b=a)->(h0 a≠none->K.lookup a=none)->(∀b,h0 b=none\/∃o xs,h0 b=some (.frz o (.lst xs))) ->
   codeAny (model P w) callerA (.call (.ref fa) ⟨[.ref a],[]⟩) (fun r s'=>r=.ok (.ret (.bool true))/\OldK s₁.heap s'.heap/\s'.os=s₁.os/\AllBare s'.gens) s₁:=by
  intro h0 hS hok hA hK hO
  have look:∀b u,eC K h0 b=some u->(∃q,(gG K).lookup b=some q/\u=.tab q)\/(b=a/\h0 b=some u):=fun b u e=>by
   unfold eC at e
   split at e
   ·rename_i q hq;cases e;exact .inl ⟨q,hq,rfl⟩
   ·exact .inr ⟨hA b (by rw[e];simp),e⟩
  have jM:∀ {b:Addr}{o:Obj},s₁.heap.get? b=some o->eC K h0 b=none->(tJ s₁.heap (eC K h0)).get? b=some o:=fun e n=>BL e n
  have noA:∀ {b:Addr}{o:Obj},s₁.heap.get? b=some o->(∀vs n,o.data≠.seq vs n)->(∀vs,o.data≠.fields vs)->eC K h0 b=none:=fun {b o} e d d2=>by
   cases q:eC K h0 b with
   | none=>rfl
   | some u =>
    rcases look b u q with ⟨q',z,_⟩|⟨z,_⟩
    ·rw[(tabAt b q' z).1] at e;cases e;exact absurd rfl (d2 _)
    ·subst z;rw[ha] at e;cases e;exact absurd rfl (d _ _)
  have nsK:∀ {b:Addr}{m:Str->Option Value},s₁.heap.Ns b m->(tJ s₁.heap (eC K h0)).Ns b m:=fun {b m} ⟨o,es,ep,e,d,r⟩=>⟨o,es,ep,jM e (noA e (fun _ _ z=>by rw[d] at z;cases z) fun _ z=>by rw[d] at z;cases z),d,r⟩
  have hKb:K.In (tJ s₁.heap (eC K h0)):=fun b o e=>jM (KX b o e) (by
   cases q:eC K h0 b with
   | none=>rfl
   | some u =>
    rcases look b u q with ⟨q',z,_⟩|⟨z,z2⟩
    ·rw[(tabAt b q' z).2.1] at e;cases e
    ·subst z;rw[hK (by rw[z2];simp)] at e;cases e)
  have hM:Mod K mg (tJ s₁.heap (eC K h0)):=⟨hKb,nsK hns,⟨mb,nsK hb,hbb⟩,let ⟨mc,h1,h2⟩:=hlim;⟨mc,nsK h1,h2⟩,
   let ⟨bm,o,b1,b2,b3,b4,b5,b6,b7⟩:=hbm;⟨bm,o,b1,b2,b3,jM b4 (noA b4 (fun _ _ z=>by rw[b7] at z;cases z) fun _ z=>by rw[b7] at z;cases z),b5,b6,b7⟩⟩
  have e0:xU P w K mg (tJ s₁.heap (eC K h0)) callerA [] s₁ (eC K h0):=⟨rfl,hM,fun b o e=>FJ e,Nat.le_of_eq (zJ _ _),trivial,fun b hb=>absurd (show b∈([]:List Addr) from hb) (by simp),hok,.of_eq hg⟩
  refine codeAny_mono ((F _ hKb (nsK hns)).run callerA [] s₁ (eC K h0) ⟨[.ref a],[]⟩ [.ref a] [.ref a] _ _ hr e0 (hbind s₁ (.ref a)) (.cons rfl .nil) (hsp _ (zB ht) hS)) fun r s' h=>?_
  cases r with
  | error e=>exact (hCX _ e s' h).elim
  | ok fl =>
   cases fl with
   | next=>exact False.elim h
   | brk=>exact False.elim h
   | cont=>exact False.elim h
   | ret u =>
    obtain⟨v,H',os,bare,un,hok',r',q⟩:=h
    have q':v=.bl true:=q
    subst q'
    obtain rfl:u=Value.bool true:=r'
    have key:∀b o,s₁.heap.get? b=some o->s'.heap.get? b=some o\/(isCodeTable s₁.heap b/\o=PySem.W.tabObj #[]/\∃ps,s'.heap.get? b=some (PySem.W.tabObj ps)):=fun b o e=>by
     cases q:eC K h0 b with
     | none=>exact .inl (un.keep b o e q (by intro z;exact absurd (show b∈([]:List Addr) from z) (by simp)) (by simp))
     | some u =>
      rcases look b u q with ⟨q',z,rfl⟩|⟨z,z2⟩
      ·obtain⟨t1,_,c,t3⟩:=tabAt b q' z
       obtain⟨more,m1⟩:=un.tbls.gr b q' #[] q t1
       rw[e] at t1
       cases t1
       exact .inr ⟨(t3.tab e).isCodeTable,rfl,_,m1⟩
      ·rcases hO b with z3|⟨ob,xs,z3⟩
       ·rw[z2] at z3;cases z3
       ·rw[z2] at z3
        cases z3
        have z4:=un.frzs b ob _ q
        obtain⟨e1,_⟩:=hok b _ q
        obtain⟨e2,_⟩:=hok' b _ z4
        rw[e] at e1;cases e1
        exact .inl e2
    refine⟨rfl,⟨fun b o e=>?_,fun b o e=>?_⟩,os,bare⟩
    ·rcases key b o e with z|⟨t,rfl,ps,z⟩
     ·exact .inl z
     ·exact .inr (.inl ⟨t,rfl,#[],ps,rfl,by rw[Array.empty_append];exact z⟩)
    ·rcases key b o e with z|⟨_,_,ps,z⟩
     ·exact⟨o,z⟩
     ·exact⟨_,z⟩
 have hoT:∀ (h0:Hp) b q,(gG K).lookup b=some q->eE P w (eC K h0) s₁.heap b (.tab q):=fun h0 b q e=>⟨#[],(tabAt b q e).1,trivial,fun pos v z=>by cases z⟩
 cases hk:K.lookup a with
 | some o =>
  have e:=KX a o hk
  rw[ha] at e
  cases e
  refine core (fun _=>none) (.inr ⟨_,vs.toArray,_,hk,rfl,rfl,rfl,by rw[List.size_toArray,lenV];exact hl,by simpa using rv⟩) (fun b u z=>?_) (fun b z=>absurd rfl z) (fun z=>absurd rfl z) fun _=>.inl rfl
  unfold eC at z
  split at z
  ·rename_i q hq;cases z;exact hoT _ b q hq
  ·cases z
 | none =>
  refine core (fun b=>if b=a then some (.frz { cls:=.type "list",data:=.seq vs.toArray } (.lst (ns.map V.int))) else none) (.inl (.inr ⟨{ cls:=.type "list",data:=.seq vs.toArray },?_⟩)) (fun b u z=>?_) (fun b z=>?_) (fun _=>hk) fun b=>?_
  ·unfold eC;rw[aT];exact if_pos rfl
  ·unfold eC at z
   split at z
   ·rename_i q hq;cases z;exact hoT _ b q hq
   ·by_cases hb:b=a
    ·replace z:=(if_pos hb).symm.trans z
     cases z
     subst hb
     exact⟨ha,by rw[List.length_map];exact hl,vs,_,rv,ha⟩
    ·replace z:=(if_neg hb).symm.trans z;cases z
  ·by_cases hb:b=a
   ·exact hb
   ·exact absurd (if_neg hb) z
  ·by_cases hb:b=a
   ·exact .inr ⟨_,_,if_pos hb⟩
   ·exact .inl (if_neg hb)
theorem Bq {l:PySem.W.OpenLaw}{n k:Nat}{q:Program}{loose:List Str}{XP:(Str->Option Value)->Heap->Prop}{YP:World->Heap->Prop}{d:DefRec}{K:Params->PySem.W.Frag}{CX:World->Ap}{sp:World->Sp}{x:Str}{ts:List Addr}
  (hn:l.most=some n) (hn2:n<=sizeLine) (hdf:d.params.defaults=[]) (hr:dN k callerA)
  (hY:∀ (w:World) (h:Heap),YP w h->(K w.params).In h/\∀P∈ts,h.get? P=some (PySem.W.tabObj #[])) (ht:∀w:World,lL (K w.params) ts=true)
  (F:∀ (w:World) (mg:Str->Option Value) (fa:Addr) (h:Heap),(K w.params).In h->h.Ns mainGlobals mg->mg d.name=some (.ref fa) ->
   ∃fd:FuncData,(∀ (s:Shared) (u:Value),BindsTo s fd ⟨[u],[]⟩ [(x,u)]) /\
    ∀base:Heap,(K w.params).In base->base.Ns mainGlobals mg->kF l.prog w (K w.params) mg base (CX w) k fa fd [x] (sp w))
  (hsp:∀ (w:World) (H:Hp) (a:Addr) (ns:List Int),ns.length<=n->fw (K w.params) H->ib (K w.params) H a (ns.map V.int)->sp w [.ref a] H (fun v _=>v=.bl true) fun _ _ _=>False)
  (hCX:∀ (w:World) (H:Hp) (s:Shared) (e:Value) (s':Shared),CX w [] H s (fun _ _ _=>False) e s'->False) :
  PySem.W.WalkO q loose XP YP l.row.toRowW d [] (fun f vs=>PySem.call f vs):=by
 refine Att.attach_call hn hdf fun w s₀ s₁ mg mb fa o pm cd doc a vs ns G Y ho hd hcd hmg hobj hints hlen hg=>?_
 obtain⟨KX,hts⟩:=hY w _ Y
 obtain⟨fd,hb,hF⟩:=F w mg fa _ KX G.T.g hmg
 have hbm:K9 mg s₁.heap:=by
  obtain⟨bm,ob,b1,b2,b3,b4,b5,b6⟩:=G.T.bmain
  refine⟨bm,ob,b1,b2,fun z=>?_,b3,b4,b5,b6⟩
  obtain⟨o',es,ep,e1,e2,_⟩:=G.T.g
  rw[<- z,b3] at e1
  cases e1
  rw[b6] at e2;cases e2
 exact AW KX G.T.g G.T.b G.T.builtins G.T.nolimit hbm hg (ht w) hts hobj hints (Nat.le_trans hlen hn2) hr hF hb (fun H hT hS=>hsp w H a ns hlen hT hS) fun H e s'=>hCX w H s₁ e s'
end Dl
namespace SP
open PySem PySem.W PyProof.Rows
noncomputable def run {α:Type}(lt:Nat->Nat->Bool):KasT α->α
 | .ret a=>a
 | .ask i j k=>run lt (k (lt i j))
theorem g8 {α β:Type}(lt:Nat->Nat->Bool) (f:α->KasT β):∀t:KasT α,run lt (t.bind f)=run lt (f (run lt t))
 | .ret a=>rfl
 | .ask i j k=>by
  show run lt ((k (lt i j)).bind f)=run lt (f (run lt (k (lt i j))))
  exact g8 lt f (k (lt i j))
noncomputable def JL (n:Nat) {α:Type}:KasT α->Prop
 | .ret _=>True
 | .ask i j k=>i < n/\j < n/\∀b,JL n (k b)
theorem wp_run {α:Type}{n:Nat}{cmp:Nat->Nat->(Bool->Shared->Prop)->Shared->Prop}{lt:Nat->Nat->Bool}{s:Shared}(hc:∀i j C,i < n->j < n->C (lt i j) s->cmp i j C s):∀ (t:KasT α) {Q:α->Shared->Prop},JL n t->Q (run lt t) s->t.kasWp cmp Q s
 | .ret a,Q,_,h=>h
 | .ask i j k,Q,b,h=>hc i j _ b.1 b.2.1 (wp_run hc (k (lt i j)) (b.2.2 _) h)
noncomputable def pF (n:Nat) {α:Type}(R:α->Prop):KasT α->Prop
 | .ret a=>R a
 | .ask i j k=>i < n/\j < n/\∀b,pF n R (k b)
theorem lX {α β:Type}{n:Nat}{R:α->Prop}{f:α->KasT β}:∀ {t:KasT α},pF n R t->(∀a,R a->JL n (f a))->JL n (t.bind f)
 | .ret a,b,h=>h a b
 | .ask i j k,b,h=>⟨b.1,b.2.1,fun c=>lX (b.2.2 c) h⟩
theorem iO {α β:Type}{n:Nat}{R:α->Prop}{S:β->Prop}{f:α->KasT β}:∀ {t:KasT α},pF n R t->(∀a,R a->pF n S (f a))->pF n S (t.bind f)
 | .ret a,b,h=>h a b
 | .ask i j k,b,h=>⟨b.1,b.2.1,fun c=>iO (b.2.2 c) h⟩
noncomputable def Bd (n:Nat) (p:Array Nat):Prop:=∀a,p.getD a 0 < n
theorem Bd.perm {n:Nat}{p q:Array Nat}(h:Bd n p) (e:q.Perm p):Bd n q:=by
 intro a
 rw[Array.getD_eq_getD_getElem?]
 cases ha:q[a]? with
 | none=>have:=h p.size;rw[Array.getD_eq_getD_getElem?] at this;simpa using this
 | some x =>
  have hx:x∈q:=Array.mem_of_getElem? ha
  have hx':x∈p:=e.mem_iff.mp hx
  obtain⟨i,hi,rfl⟩:=Array.mem_iff_getElem.mp hx'
  have:=h i
  rw[Array.getD_eq_getD_getElem?] at this
  simpa [hi] using this
theorem Cg {n:Nat}{p:Array Nat}(h:Bd n p):∀f m,pF n (fun _=>True) (kas_asc p f m)
 | 0,m=>trivial
 | f+1,m=>⟨h _,h _,fun c=>by
  dsimp only
  split
  ·trivial
  ·exact Cg h f (m+1)⟩
theorem u6 {n:Nat}{p:Array Nat}(h:Bd n p) (i j:Nat):Bd n (kas_rev p i j):=h.perm (mirror_perm _ _ _ _)
theorem uj {n:Nat}:∀ (f:Nat) {p:Array Nat}(h:Bd n p) (m q:Nat),pF n (fun r=>Bd n r.1) (kas_desc f p m q)
 | 0,p,h,m,q=>h
 | f+1,p,h,m,q=>⟨h _,h _,fun c=>by
  dsimp only
  split
  ·split
   ·exact uj f (u6 h _ _) (m+1) 0
   ·exact uj f h (m+1) 0
  ·exact⟨h _,h _,fun d=>by
    dsimp only
    split
    ·exact h
    ·exact uj f h (m+1) (q+1)⟩⟩
theorem yL {n:Nat}{p:Array Nat}(h:Bd n p) (m nrem:Nat):pF n (fun r=>Bd n r.2) (kas_tail3 m nrem p):=iO (Cg (u6 h 0 m) _ _) fun _ _=>u6 h 0 m
theorem pe {n:Nat}{p:Array Nat}(h:Bd n p) (m nrem:Nat):pF n (fun r=>Bd n r.2) (kas_descPart m nrem p):=iO (uj _ h _ _) fun r hr=>by
 split
 ·exact yL (u6 hr _ _) _ _
 ·exact yL hr _ _
theorem Gf {n:Nat}{p:Array Nat}(h:Bd n p) (nrem:Nat):pF n (fun r=>Bd n r.2) (kas_count nrem p):=iO (Cg h _ _) fun m _=>by
 split
 ·exact h
 ·split
  ·exact⟨h _,h _,fun c=>by
    dsimp only
    split
    ·exact h
    ·exact pe (u6 h _ _) _ _⟩
  ·exact pe h _ _
theorem tM {n:Nat}{p:Array Nat}(h:Bd n p) (k:Nat):∀f l r,pF n (fun _=>True) (kas_place p k f l r)
 | 0,l,r=>trivial
 | f+1,l,r=>by
  unfold kas_place
  split
  ·trivial
  ·exact⟨h _,h _,fun c=>by
    dsimp only
    split
    ·exact tM h k f _ _
    ·exact tM h k f _ _⟩
theorem GE {n:Nat}:∀ (f:Nat) {p:Array Nat}(h:Bd n p) (k:Nat),JL n (kas_bin f p k)
 | 0,p,h,k=>trivial
 | f+1,p,h,k=>lX (tM h k _ _ _) fun l _=>GE f (h.perm (bubble_perm _ _ _)) (k+1)
theorem CW {n:Nat}(h1:1<=n):JL n (kas_sort n):=by
 have h:Bd n (List.toArray (List.range n)):=fun a=>by
  rw[Array.getD_eq_getD_getElem?]
  by_cases ha:a < n
  ·simp[ha]
  ·simp[ha];omega
 refine lX (Gf h n) fun r hr=>?_
 split
 ·exact GE _ hr _
 ·trivial
section
variable (z:Nat->Int)
noncomputable def Z (p:Array Nat) (a:Nat):Int:=z (p.getD a 0)
noncomputable def dR:Nat->Nat->Bool:=fun i j=>decide (z i < z j)
theorem lj {p q:Array Nat}{a b:Nat}(h:p[a]?=q[b]?):Z z p a=Z z q b:=by
 unfold Z
 rw[Array.getD_eq_getD_getElem?,Array.getD_eq_getD_getElem?,h]
theorem CT {p:Array Nat}{i j:Nat}(hj:j<=p.size) (k:Nat):Z z (kas_rev p i j) k=if i<=k/\k < j then Z z p (i+j - 1 - k) else Z z p k:=by
 have e:=getElem?_mirror_all (xs:=p) (i:=i) hj k
 unfold kas_rev
 by_cases h1:i<=k/\k < j
 ·rw[if_pos h1] at e ⊢;exact lj z e
 ·rw[if_neg h1] at e ⊢;exact lj z e
theorem BA {p:Array Nat}{src d:Nat}(hs:src < p.size) (hd:d<=src) (k:Nat):Z z (bubble p src d) k=if k=src - d then Z z p src else if src - d < k/\k<=src then Z z p (k - 1) else Z z p k:=by
 have e:=getElem?_bubble hs d hd k
 by_cases h1:k=src - d
 ·rw[if_pos h1] at e ⊢;exact lj z e
 ·rw[if_neg h1] at e ⊢
  by_cases h2:src - d < k/\k<=src
  ·rw[if_pos h2] at e ⊢;exact lj z e
  ·rw[if_neg h2] at e ⊢;exact lj z e
noncomputable def Up (p:Array Nat) (n:Nat):Prop:=∀a b,a<=b->b < n->Z z p a<=Z z p b
noncomputable def Dn (p:Array Nat) (n:Nat):Prop:=∀a b,a<=b->b < n->Z z p b<=Z z p a
variable {z}
theorem Fz {p:Array Nat}{n:Nat}(h:Up z p n) (hn:1<=n) (h1:Z z p (n - 1)<=Z z p n):Up z p (n+1):=by
 intro a b hab hb
 by_cases hbn:b < n
 ·exact h a b hab hbn
 ·have e:b=n:=by omega
  subst e
  by_cases ha:a=b
  ·subst ha;exact Int.le_refl _
  ·exact Int.le_trans (h a (b - 1) (by omega) (by omega)) h1
theorem L9 {p:Array Nat}:∀ (f n:Nat),1<=n->Up z p n->n<=run (dR z) (kas_asc p f n)/\run (dR z) (kas_asc p f n)<=n+f/\Up z p (run (dR z) (kas_asc p f n))/\(run (dR z) (kas_asc p f n) < n+f->Z z p (run (dR z) (kas_asc p f n)) < Z z p (run (dR z) (kas_asc p f n) - 1))
 | 0,n,hn,h=>⟨Nat.le_refl _,Nat.le_refl _,h,fun q=>absurd q (Nat.lt_irrefl _)⟩
 | f+1,n,hn,h=>by
  unfold kas_asc
  show n<=run (dR z) (if dR z (p.getD n 0) (p.getD (n - 1) 0)=true then .ret n else kas_asc p f (n+1))/\run (dR z) (if dR z (p.getD n 0) (p.getD (n - 1) 0)=true then .ret n else kas_asc p f (n+1))<=n+(f+1)/\Up z p (run (dR z) (if dR z (p.getD n 0) (p.getD (n - 1) 0)=true then .ret n else kas_asc p f (n+1)))/\(run (dR z) (if dR z (p.getD n 0) (p.getD (n - 1) 0)=true then .ret n else kas_asc p f (n+1)) < n+(f+1)->Z z p (run (dR z) (if dR z (p.getD n 0) (p.getD (n - 1) 0)=true then .ret n else kas_asc p f (n+1))) < Z z p (run (dR z) (if dR z (p.getD n 0) (p.getD (n - 1) 0)=true then .ret n else kas_asc p f (n+1)) - 1))
  by_cases hc:dR z (p.getD n 0) (p.getD (n - 1) 0)=true
  ·rw[if_pos hc]
   exact⟨Nat.le_refl _,Nat.le_add_right _ _,h,fun _=>of_decide_eq_true hc⟩
  ·rw[if_neg hc]
   have h1:Z z p (n - 1)<=Z z p n:=by
    have:¬ (Z z p n < Z z p (n - 1)):=fun q=>hc (decide_eq_true q)
    omega
   obtain⟨a,b,c,d⟩:=L9 f (n+1) (by omega) (Fz h hn h1)
   exact⟨by omega,by omega,c,fun q=>d (by omega)⟩
theorem xv {p:Array Nat}{i j:Nat}(hj:j<=p.size) (h:∀a b,i<=a->a < j->i<=b->b < j->Z z p a=Z z p b) (k:Nat):Z z (kas_rev p i j) k=Z z p k:=by
 rw[CT z hj]
 split
 ·rename_i hk
  exact h _ _ (by omega) (by omega) hk.1 hk.2
 ·rfl
theorem CZ {p q:Array Nat}{n:Nat}(e:∀k,Z z q k=Z z p k) (h:Dn z p n):Dn z q n:=fun a b hab hb=>by rw[e,e];exact h a b hab hb
theorem HG {p:Array Nat}{n:Nat}(hn:n<=p.size) (h:Dn z p n):Up z (kas_rev p 0 n) n:=by
 intro a b hab hb
 rw[CT z hn,CT z hn,if_pos ⟨Nat.zero_le _,by omega⟩,if_pos ⟨Nat.zero_le _,hb⟩]
 exact h _ _ (by omega) (by omega)
theorem k3 (p:Array Nat) (i j:Nat):(kas_rev p i j).size=p.size:=mirror_size _ _ _ _
theorem k4 (p:Array Nat) (i j:Nat):(kas_rev p i j).Perm p:=mirror_perm _ _ _ _
structure IH (z:Nat->Int) (p₀ p:Array Nat) (n q nrem:Nat):Prop where
 perm:p.Perm p₀
 size:p.size=p₀.size
 le:n<=nrem
 qn:q+1<=n
 dn:Dn z p n
 eq:∀a b,n - (q+1)<=a->a < n->n - (q+1)<=b->b < n->Z z p a=Z z p b
theorem Fs {p₀:Array Nat}{nrem:Nat}(hz:nrem<=p₀.size):∀ (f:Nat) (p:Array Nat) (n q:Nat),n+f<=nrem->IH z p₀ p n q nrem ->
  let r:=run (dR z) (kas_desc f p n q);IH z p₀ r.1 r.2.1 r.2.2 nrem
 | 0,p,n,q,hn,h=>h
 | f+1,p,n,q,hn,h=>by
  intro r
  have hr:r=run (dR z) (if dR z (p.getD n 0) (p.getD (n - 1) 0)=true then (if q > 0 then kas_desc f (kas_rev p (n - (q+1)) n) (n+1) 0 else kas_desc f p (n+1) 0)
   else .ask (p.getD (n - 1) 0) (p.getD n 0) fun d=>if d=true then .ret (p,n,q) else kas_desc f p (n+1) (q+1)):=rfl
  have hq:=h.qn
  by_cases hc:dR z (p.getD n 0) (p.getD (n - 1) 0)=true
  ·rw[if_pos hc] at hr
   have hlt:Z z p n < Z z p (n - 1):=of_decide_eq_true hc
   have step:∀p':Array Nat,p'.Perm p₀->p'.size=p₀.size->(∀k,Z z p' k=Z z p k)->IH z p₀ p' (n+1) 0 nrem:=fun p' a1 a2 a3=>by
    refine⟨a1,a2,by omega,by omega,fun a b hab hb=>?_,fun a b h1 h2 h3 h4=>by rw[show a=b by omega]⟩
    rw[a3,a3]
    by_cases hbn:b < n
    ·exact h.dn a b hab hbn
    ·have e:b=n:=by omega
     subst e
     by_cases ha:a=b
     ·subst ha;exact Int.le_refl _
     ·exact Int.le_trans (Int.le_of_lt hlt) (h.dn a (b - 1) (by omega) (by omega))
   by_cases hq0:q > 0
   ·rw[if_pos hq0] at hr
    rw[hr]
    exact Fs hz f _ (n+1) 0 (by omega) (step _ ((k4 _ _ _).trans h.perm) (by rw[k3,h.size]) (xv (by rw[h.size];omega) h.eq))
   ·rw[if_neg hq0] at hr
    rw[hr]
    exact Fs hz f p (n+1) 0 (by omega) (step p h.perm h.size fun _=>rfl)
  ·rw[if_neg hc] at hr
   have hge:Z z p (n - 1)<=Z z p n:=by
    have:¬ (Z z p n < Z z p (n - 1)):=fun q=>hc (decide_eq_true q)
    omega
   have hr':r=run (dR z) (if dR z (p.getD (n - 1) 0) (p.getD n 0)=true then .ret (p,n,q) else kas_desc f p (n+1) (q+1)):=hr
   by_cases hd:dR z (p.getD (n - 1) 0) (p.getD n 0)=true
   ·rw[if_pos hd] at hr'
    rw[hr']
    exact h
   ·rw[if_neg hd] at hr'
    rw[hr']
    have heq:Z z p n=Z z p (n - 1):=by
     have:¬ (Z z p (n - 1) < Z z p n):=fun q=>hd (decide_eq_true q)
     omega
    refine Fs hz f p (n+1) (q+1) (by omega) ⟨h.perm,h.size,by omega,by omega,fun a b hab hb=>?_,fun a b h1 h2 h3 h4=>?_⟩
    ·by_cases hbn:b < n
     ·exact h.dn a b hab hbn
     ·have e:b=n:=by omega
      subst e
      by_cases ha:a=b
      ·subst ha;exact Int.le_refl _
      ·rw[heq];exact h.dn a (b - 1) (by omega) (by omega)
    ·have key:∀c,n+1 - (q+1+1)<=c->c < n+1->Z z p c=Z z p (n - 1):=fun c c1 c2=>by
      by_cases hcn:c < n
      ·exact h.eq c (n - 1) (by omega) hcn (by omega) (by omega)
      ·have e:c=n:=by omega
       subst e;exact heq
     rw[key a h1 h2,key b h3 h4]
structure KY (z:Nat->Int) (p₀:Array Nat) (nrem:Nat) (r:Nat×Array Nat):Prop where
 perm:r.2.Perm p₀
 size:r.2.size=p₀.size
 ge:1<=r.1
 le:r.1<=nrem
 up:Up z r.2 r.1
theorem tail3 {p₀ p:Array Nat}{n nrem:Nat}(hz:nrem<=p₀.size) (h1:1<=n) (hn:n<=nrem) (hp:p.Perm p₀) (hs:p.size=p₀.size) (hd:Dn z p n):KY z p₀ nrem (run (dR z) (kas_tail3 n nrem p)):=by
 unfold kas_tail3
 rw[g8]
 obtain⟨a,b,c,_⟩:=L9 (nrem - n) n h1 (HG (by omega) hd)
 exact⟨(k4 _ _ _).trans hp,by show (kas_rev p 0 n).size=_;rw[k3,hs],by show 1<=run _ (kas_asc _ _ _);omega,by show run _ (kas_asc _ _ _)<=nrem;omega,c⟩
theorem descPart {p₀ p:Array Nat}{n nrem:Nat}(hz:nrem<=p₀.size) (h1:1<=n) (hn:n < nrem) (hp:p.Perm p₀) (hs:p.size=p₀.size) (hd:Dn z p n) (hlt:Z z p n<=Z z p (n - 1)):KY z p₀ nrem (run (dR z) (kas_descPart n nrem p)):=by
 unfold kas_descPart
 rw[g8]
 have D:=Fs (z:=z) hz (nrem - (n+1)) p (n+1) 0 (by omega) ⟨hp,hs,by omega,by omega,fun a b hab hb=>by
  by_cases hbn:b < n
  ·exact hd a b hab hbn
  ·have e:b=n:=by omega
   subst e
   by_cases ha:a=b
   ·subst ha;exact Int.le_refl _
   ·exact Int.le_trans hlt (hd a (b - 1) (by omega) (by omega)),fun a b h1 h2 h3 h4=>by rw[show a=b by omega]⟩
 dsimp only at D
 generalize run (dR z) (kas_desc (nrem - (n+1)) p (n+1) 0)=r at D
 have hq:=D.qn
 split
 ·exact tail3 hz (by omega) D.le ((k4 _ _ _).trans D.perm) (by rw[k3,D.size]) (CZ (xv (by have:=D.size;have:=D.le;omega) D.eq) D.dn)
 ·exact tail3 hz (by omega) D.le D.perm D.size D.dn
theorem count {p:Array Nat}{nrem:Nat}(hz:nrem<=p.size) (h1:1<=nrem):KY z p nrem (run (dR z) (kas_count nrem p)):=by
 unfold kas_count
 rw[g8]
 obtain⟨a,b,c,d⟩:=L9 (z:=z) (p:=p) (nrem - 1) 1 (Nat.le_refl _) (fun x y hxy hy=>by rw[show x=y by omega];exact Int.le_refl _)
 generalize run (dR z) (kas_asc p (nrem - 1) 1)=n at a b c d
 split
 ·exact⟨Array.Perm.refl _,rfl,a,by show n<=nrem;omega,c⟩
 ·rename_i hne
  have hlt:n < nrem:=by
   have:n≠nrem:=fun e=>hne (by simp[e])
   omega
  have hd:=d (by omega)
  split
  ·rename_i hn1
   show KY z p nrem (run (dR z) (if dR z (p.getD 0 0) (p.getD (n - 1) 0)=true then .ret (n,p) else kas_descPart n nrem (kas_rev p 0 n)))
   by_cases hc:dR z (p.getD 0 0) (p.getD (n - 1) 0)=true
   ·rw[if_pos hc]
    exact⟨Array.Perm.refl _,rfl,a,by show n<=nrem;omega,c⟩
   ·rw[if_neg hc]
    have hge:Z z p (n - 1)<=Z z p 0:=by
     have:¬ (Z z p 0 < Z z p (n - 1)):=fun q=>hc (decide_eq_true q)
     omega
    have all:∀x,x < n->Z z p x=Z z p 0:=fun x hx=>by
     have e1:=c 0 x (Nat.zero_le _) hx
     have e2:=c x (n - 1) (by omega) (by omega)
     omega
    have same:=xv (z:=z) (p:=p) (i:=0) (j:=n) (by omega) fun x y _ hx _ hy=>by rw[all x hx,all y hy]
    refine descPart hz (by omega) hlt (k4 _ _ _) (by rw[k3]) (fun x y hxy hy=>?_) ?_
    ·rw[same,same,all x (by omega),all y hy];exact Int.le_refl _
    ·rw[same,same];omega
  ·exact descPart hz (by omega) hlt (Array.Perm.refl _) rfl (fun x y hxy hy=>by rw[show x=y by omega];exact Int.le_refl _) (by omega)
theorem place {p:Array Nat}{k:Nat}(hu:Up z p k):∀ (f l r:Nat),r - l<=f->l<=r->r<=k->(∀a,a < l->Z z p a<=Z z p k)->(∀a,r<=a->a < k->Z z p k<=Z z p a) ->
  let m:=run (dR z) (kas_place p k f l r);m<=k/\(∀a,a < m->Z z p a<=Z z p k)/\(∀a,m<=a->a < k->Z z p k<=Z z p a)
 | 0,l,r,hf,hl,hr,h1,h2=>by
  intro m
  have e:l=r:=by omega
  subst e
  exact⟨hr,h1,h2⟩
 | f+1,l,r,hf,hl,hr,h1,h2=>by
  intro m
  have hm:m=run (dR z) (if l >= r then .ret l else .ask (p.getD k 0) (p.getD ((l+r) / 2) 0) fun c=>if c=true then kas_place p k f l ((l+r) / 2) else kas_place p k f ((l+r) / 2+1) r):=rfl
  by_cases hlr:l >= r
  ·rw[if_pos hlr] at hm
   rw[hm]
   have e:l=r:=by omega
   subst e
   exact⟨hr,h1,h2⟩
  ·rw[if_neg hlr] at hm
   have hm':m=run (dR z) (if dR z (p.getD k 0) (p.getD ((l+r) / 2) 0)=true then kas_place p k f l ((l+r) / 2) else kas_place p k f ((l+r) / 2+1) r):=hm
   by_cases hc:dR z (p.getD k 0) (p.getD ((l+r) / 2) 0)=true
   ·rw[if_pos hc] at hm'
    rw[hm']
    have hlt:Z z p k < Z z p ((l+r) / 2):=of_decide_eq_true hc
    exact place hu f l ((l+r) / 2) (by omega) (by omega) (by omega) h1 fun a ha hak=>Int.le_trans (Int.le_of_lt hlt) (hu _ a ha hak)
   ·rw[if_neg hc] at hm'
    rw[hm']
    have hge:Z z p ((l+r) / 2)<=Z z p k:=by
     have:¬ (Z z p k < Z z p ((l+r) / 2)):=fun q=>hc (decide_eq_true q)
     omega
    exact place hu f ((l+r) / 2+1) r (by omega) (by omega) hr (fun a ha=>Int.le_trans (hu a ((l+r) / 2) (by omega) (by omega)) hge) h2
theorem bin {p₀:Array Nat}:∀ (f:Nat) (p:Array Nat) (k:Nat),p.Perm p₀->p.size=p₀.size->k+f<=p₀.size->Up z p k ->
  (run (dR z) (kas_bin f p k)).Perm p₀/\(run (dR z) (kas_bin f p k)).size=p₀.size/\Up z (run (dR z) (kas_bin f p k)) (k+f)
 | 0,p,k,hp,hs,hk,hu=>⟨hp,hs,hu⟩
 | f+1,p,k,hp,hs,hk,hu=>by
  unfold kas_bin
  rw[g8]
  have P:=place hu k 0 k (by omega) (by omega) (Nat.le_refl _) (fun a ha=>absurd ha (Nat.not_lt_zero _)) fun a ha hak=>absurd ha (by omega)
  dsimp only at P
  generalize run (dR z) (kas_place p k k 0 k)=l at P
  obtain⟨p1,p2,p3⟩:=P
  have zb:=BA z (p:=p) (src:=k) (d:=k - l) (by omega) (by omega)
  have e:k - (k - l)=l:=by omega
  rw[e] at zb
  obtain⟨q1,q2,q3⟩:=bin f (bubble p k (k - l)) (k+1) ((bubble_perm _ _ _).trans hp) (by rw[bubble_size,hs]) (by omega) fun a b hab hb=>by
   rw[zb,zb]
   by_cases ha1:a=l
   ·rw[if_pos ha1]
    by_cases hb1:b=l
    ·rw[if_pos hb1];exact Int.le_refl _
    ·rw[if_neg hb1]
     rw[if_pos (by omega)]
     exact p3 _ (by omega) (by omega)
   ·rw[if_neg ha1]
    by_cases hb1:b=l
    ·rw[if_pos hb1,if_neg (by omega)]
     exact p2 a (by omega)
    ·rw[if_neg hb1]
     by_cases ha2:l < a/\a<=k
     ·rw[if_pos ha2,if_pos (by omega)]
      exact hu _ _ (by omega) (by omega)
     ·rw[if_neg ha2]
      by_cases hb2:l < b/\b<=k
      ·rw[if_pos hb2]
       exact hu _ _ (by omega) (by omega)
      ·rw[if_neg hb2]
       exact hu _ _ hab (by omega)
  exact⟨q1,q2,by rw[show k+(f+1)=k+1+f by omega];exact q3⟩
theorem gv {n:Nat}(h1:1<=n):(run (dR z) (kas_sort n)).toList.Perm (List.range n)/\((run (dR z) (kas_sort n)).toList.map z).Pairwise (·<=·):=by
 have hsz:(List.toArray (List.range n)).size=n:=by simp
 have C:=count (z:=z) (p:=List.toArray (List.range n)) (nrem:=n) (by omega) h1
 have fin:∀p:Array Nat,p.Perm (List.toArray (List.range n))->p.size=n->Up z p n->p.toList.Perm (List.range n)/\(p.toList.map z).Pairwise (·<=·):=fun p a b c=>by
  refine⟨by have:=a.toList;simpa using this,?_⟩
  rw[List.pairwise_iff_getElem]
  intro i j hi hj hij
  have hi':i < n:=by simpa [b] using hi
  have hj':j < n:=by simpa [b] using hj
  have:=c i j (Nat.le_of_lt hij) hj'
  unfold Z at this
  have e1:p.getD i 0=p[i]:=by simp[Array.getD,b,hi']
  have e2:p.getD j 0=p[j]:=by simp[Array.getD,b,hj']
  rw[e1,e2] at this
  simpa using this
 unfold kas_sort
 rw[g8]
 generalize run (dR z) (kas_count n (List.toArray (List.range n)))=r at C
 obtain⟨k,p⟩:=r
 have hs:=C.size
 rw[hsz] at hs
 split
 ·rename_i hlt
  have hge:=C.ge
  have e:max k 1=k:=by have:1<=k:=hge;omega
  rw[e]
  obtain⟨q1,q2,q3⟩:=bin (z:=z) (n - k) p k C.perm C.size (by rw[hsz];have:k < n:=hlt;omega) C.up
  refine fin _ q1 (by rw[q2,hsz]) ?_
  rw[show k+(n - k)=n by have:k < n:=hlt;omega] at q3
  exact q3
 ·rename_i hnlt
  have hle:=C.le
  have e:k=n:=by have h3:k<=n:=hle;have h4:¬ k < n:=hnlt;omega
  subst e
  exact fin p C.perm hs C.up
end
end SP
namespace Srt
open PySem PySem.W PySem.Calls PyProof.Rows
noncomputable def outV (z:Nat->Int) (vs:List Value):List Value:=if vs.length < 2 then vs else (SP.run (SP.dR z) (kas_sort vs.length)).toList.map fun i=>vs.getD i Value.none
theorem outV_len (z:Nat->Int) (vs:List Value):(outV z vs).length=vs.length:=by
 unfold outV
 split
 ·rfl
 ·rename_i h
  have:=(SP.gv (z:=z) (n:=vs.length) (by omega)).1.length_eq
  simpa using this
section
variable {prog:Program}{w:World}{A:Around}{E:Value->Shared->Prop}{s:Shared}
theorem list_sortG {a:Addr}{vs:List Value}{n:Nat}{P:PySem.Fin->Shared->Prop}(ho:s.heap.get? a=some (seqObj "list" vs.toArray n)) (h64:vs.length < 64) (z:Nat->Int) (κ:SortKind)
  (hk:2<=vs.length->∀h':Heap,(∀b o,b≠a->s.heap.get? b=some o->h'.get? b=some o)->∀Q':SortKind->Shared->Prop,Q' κ { s with heap:=h' }->wpAny (model prog w) A (keyKind' vs.toArray) Q' (fun _ _=>False) { s with heap:=h' })
  (hlt:2<=vs.length->∀h':Heap,(∀b o,b≠a->s.heap.get? b=some o->h'.get? b=some o)->∀i j C,i < vs.length->j < vs.length->C (SP.dR z i j) { s with heap:=h' }->kas_ask prog w A κ vs i j C { s with heap:=h' })
  (h:∀ (h':Heap) (c:Nat),(∀b o,b≠a->s.heap.get? b=some o->h'.get? b=some o)->h'.get? a=some (seqObj "list" (outV z vs).toArray c)->P (.done (.ret .none)) { s with heap:=h' }) :
  wpAny (model prog w) A (Builtin.«list.sort» ⟨[.ref a],[]⟩) P E s:=by
 rw[list_sort_plain]
 have ha:a < s.heap.objs.size:=Heap.lt_size ho
 have hsl:vs.length<=sizeLine:=by rw[sizeLine_eq];omega
 refine wpAny_bind (listItems_at ho rfl (wpAny_bind (listUpdate_at ho rfl ?_ (by simpa using hsl) (Nat.zero_le _))))
 obtain⟨e1,ho1⟩:∃e,(s.heap.update a (Obj.mapSeq fun _=>(#[]:Array Value))).get? a=some (seqObj "list" #[] e):=⟨_,get?_update_seq ho fun _=>#[]⟩
 have kp1:∀b o,b≠a->s.heap.get? b=some o->(s.heap.update a (Obj.mapSeq fun _=>(#[]:Array Value))).get? b=some o:=fun b o hb e=>(Heap.get?_update_other _ _ (Ne.symm hb)).trans e
 refine wpAny_bind (seqEpoch_at ho1 rfl (wpAny_bind (wpAny_newTuple ?_ (by simpa using hsl))))
 refine wpAny_bind (wpAny_newList (wpAny_holding ?_) (Nat.zero_le _))
 have ho3:(((s.heap.update a (Obj.mapSeq fun _=>(#[]:Array Value))).push (seqObj "tuple" vs.toArray 0)).push (seqObj "list" #[] 0)).get? a=some (seqObj "list" #[] e1):=Heap.get?_push_of_some _ (Heap.get?_push_of_some _ ho1)
 have kp3:∀b o,b≠a->s.heap.get? b=some o->(((s.heap.update a (Obj.mapSeq fun _=>(#[]:Array Value))).push (seqObj "tuple" vs.toArray 0)).push (seqObj "list" #[] 0)).get? b=some o:=fun b o hb e=>Heap.get?_push_of_some _ (Heap.get?_push_of_some _ (kp1 b o hb e))
 show wpAny _ A _ P E { s with heap:=((s.heap.update a (Obj.mapSeq fun _=>(#[]:Array Value))).push (seqObj "tuple" vs.toArray 0)).push (seqObj "list" #[] 0) }
 generalize ((s.heap.update a (Obj.mapSeq fun _=>(#[]:Array Value))).push (seqObj "tuple" vs.toArray 0)).push (seqObj "list" #[] 0)=h3 at ho3 kp3
 clear ho1 kp1
 dsimp only
 have fin:∀st':SortSt,(arrOf st').map (·.2)=(outV z vs).toArray->failedOf st'=none ->
   wpAny (model prog w) A (do
    let sorted:=(arrOf st').map (·.2)
    let touched:=(<- seqEpoch a) != e1
    Builtin.List.listUpdate (.ref a) fun _=>sorted
    if let some e:=failedOf st' then rule "list.sort.comparison-raised";throw e
    if touched then rule "list.sort.modified";raiseError "ValueError" "list modified during sort"
    ret .none) P E { s with heap:=h3 }:=fun st' h1 h2=>by
  dsimp only
  rw[h1,h2]
  refine wpAny_bind (seqEpoch_at ho3 rfl ?_)
  refine wpAny_bind (listUpdate_at ho3 rfl ?_ (Nat.zero_le _) (by show (outV z vs).toArray.size<=_;rw[List.size_toArray,outV_len];omega))
  obtain⟨c,hc⟩:∃c,(h3.update a (Obj.mapSeq fun _=>(outV z vs).toArray)).get? a=some (seqObj "list" (outV z vs).toArray c):=⟨_,get?_update_seq ho3 fun _=>(outV z vs).toArray⟩
  have q:=h _ c (fun b o hb e=>(Heap.get?_update_other _ _ (Ne.symm hb)).trans (kp3 b o hb e)) hc
  simp only[bne_self_eq_false,Bool.false_eq_true,if_false]
  exact wpAny_pure q
 by_cases h2:vs.toArray.size < 2
 ·rw[if_pos h2,if_pos h2]
  refine wpAny_bind (wpAny_pure ?_)
  rw[StateT.run_pure]
  refine wpAny_bind (wpAny_pure (fin _ ?_ rfl))
  have h2':vs.length < 2:=by simpa using h2
  unfold outV
  rw[if_pos h2']
  show ((vs.toArray.zip vs.toArray).map (·.2))=vs.toArray
  apply Array.toList_inj.mp
  simp only[Array.toList_map,Array.toList_zip]
  exact List.map_snd_zip (Nat.le_refl _)
 ·rw[if_neg h2,if_neg h2]
  have h2':2<=vs.length:=by
   have:¬ vs.length < 2:=by simpa using h2
   omega
  refine wpAny_bind (wpAny_mono (hk h2' h3 kp3 (fun κ' s'=>κ'=κ/\s'={ s with heap:=h3 }) ⟨rfl,rfl⟩) (fun κ' s' hs=>?_) fun _ _ x=>x.elim)
  obtain⟨rfl,rfl⟩:=hs
  refine wpAny_bind (wpAny_mono (kat_run (Q:=fun st' s'=>s'={ s with heap:=h3 }/\(arrOf st').map (·.2)=(outV z vs).toArray/\failedOf st'=none) (G:=fun p s'=>s'={ s with heap:=h3 }/\p=SP.run (SP.dR z) (kas_sort vs.length))
   rfl h2' h64 (fun p st' s' a1 a2 a3 a4=>⟨a4.1,?_,a3⟩) (SP.wp_run (hlt h2' h3 kp3) (kas_sort vs.length) (SP.CW (by omega)) ⟨rfl,rfl⟩)) ?_ fun _ _ e=>e)
  ·rw[kat_snds rfl a2,a4.2]
   unfold outV
   rw[if_neg (by omega)]
  ·rintro⟨⟨⟩,st'⟩ s' ⟨hs,h4,h5⟩
   subst hs
   exact fin st' h4 h5
theorem sortedG {l:Addr}{vs:List Value}{Q:Value->Shared->Prop}(hl:s.heap.IsList l vs.toArray) (h64:vs.length < 64) (z:Nat->Int) (κ:SortKind)
  (hk:2<=vs.length->∀h':Heap,(∀b o,s.heap.get? b=some o->h'.get? b=some o)->∀Q':SortKind->Shared->Prop,Q' κ { s with heap:=h' }->wpAny (model prog w) A.in1.in1 (keyKind' vs.toArray) Q' (fun _ _=>False) { s with heap:=h' })
  (hlt:2<=vs.length->∀h':Heap,(∀b o,s.heap.get? b=some o->h'.get? b=some o)->∀i j C,i < vs.length->j < vs.length->C (SP.dR z i j) { s with heap:=h' }->kas_ask prog w A.in1.in1 κ vs i j C { s with heap:=h' })
  (h:∀ (h':Heap) (D:Addr) (c:Nat),(∀b o,s.heap.get? b=some o->h'.get? b=some o)->s.heap.objs.size<=D->h'.get? D=some (seqObj "list" (outV z vs).toArray c)->Q (.ref D) { s with heap:=h' }) :
  wpAny (model prog w) A (call (.builtin "sorted") [.ref l]) Q E s:=by
 have hsl:vs.length<=sizeLine:=by rw[sizeLine_eq];omega
 refine Calls.call_function_entry kind_sorted plain_sorted entry_sorted (args_sorted1 _) ?_
 unfold Builtin.«sorted»
 refine wpAny_bind (m:=checkCount "sorted" 1 1 _) (wpAny_pure (wpAny_bind (collect_list hl ?_ hsl)))
 refine wpAny_bind (wpAny_newList ?_ (by simpa using hsl))
 have hsz:((s.heap.push (seqObj "list" #[] 0)).update s.heap.objs.size (Obj.mapSeq (·++vs.toArray))).objs.size=s.heap.objs.size+1:=by rw[Heap.size_update,size_push']
 have kp:∀b o,s.heap.get? b=some o->(((s.heap.push (seqObj "list" #[] 0)).update s.heap.objs.size (Obj.mapSeq (·++vs.toArray))).push (seqObj "list" vs.toArray 0)).get? b=some o:=fun b o e =>
  Heap.get?_push_of_some _ ((Heap.get?_update_other _ _ (Nat.ne_of_gt (Heap.lt_size e))).trans (Heap.get?_push_of_some _ e))
 have hoD:(((s.heap.push (seqObj "list" #[] 0)).update s.heap.objs.size (Obj.mapSeq (·++vs.toArray))).push (seqObj "list" vs.toArray 0)).get? (s.heap.objs.size+1)=some (seqObj "list" vs.toArray 0):=by
  rw[<- hsz];exact Heap.get?_push_size _ rfl
 show wpAny _ _ _ _ _ { s with heap:=((s.heap.push (seqObj "list" #[] 0)).update s.heap.objs.size (Obj.mapSeq (·++vs.toArray))).push (seqObj "list" vs.toArray 0) }
 rw[hsz]
 generalize ((s.heap.push (seqObj "list" #[] 0)).update s.heap.objs.size (Obj.mapSeq (·++vs.toArray))).push (seqObj "list" vs.toArray 0)=h1 at kp hoD
 have kk:∀h':Heap,(∀b o,b≠s.heap.objs.size+1->h1.get? b=some o->h'.get? b=some o)->∀b o,s.heap.get? b=some o->h'.get? b=some o:=fun h' q b o e=>q b o (Nat.ne_of_lt (Nat.lt_succ_of_lt (Heap.lt_size e))) (kp b o e)
 refine wpAny_bind (wpAny_holding (wpAny_call_entry slot_list_sort ⟨_,hoD,rfl⟩ entry_list_sort (list_sortG hoD h64 z κ (fun a h' q=>hk a h' (kk h' q)) (fun a h' q=>hlt a h' (kk h' q)) fun h' c q e=>⟨_,rfl,?_⟩) (args_list_sort _)))
 exact wpAny_pure ⟨_,rfl,h h' _ c (kk h' q) (by omega) e⟩
end
end Srt
namespace Dl
open PySem L2 PySem.Spec PyProof.Rows
section
variable {X:Cx}{HF₀ H₀:Hp}{e e2:Expr}{es:List Expr}{pos apos cpos px p:Pos}{x:Str}{fs:Env->Option (List D)}
noncomputable def zI (i:Nat) (fz:List Nat) (f:Env->Option (List D)):ai->Option Out:=fun ρ=>(f (bJ (hand fz 0 ρ))).bind fun us=>nu i (fun ds=>if ds.length+us.length<=sizeLine then some (ds++us) else none) (hand fz 0 ρ)
theorem zH (i:Nat) (fz:List Nat) {f:Env->Option (List D)}(hN:X.N[i]?=some x) (hv:GP X.env.scope x) (h:DF X e f) (hd:(x == ("__debug__":Str))=false:=by decide) (hcd:(x == ("__classdict__":Str))=false:=by decide)
  (hfew:((backTo cpos (starEach [e] X.env)).all (fun x=>!x.1)&&(backToKw cpos (keywordEach [] X.env)).all (fun x=>x.1.isSome)&&decide ([e].length+([]:List Keyword).length+(if ([]:List Keyword).isEmpty then 0 else 1) < 30))=true:=by rfl)
  (hline:(apos.endLine == cpos.line)=true:=by rfl) (hs:starEach [e] X.env=(false,eval e X.env)::starEach [] X.env:=by rfl) :
  DS X HF₀ H₀ (.Expr (.Call (.Attribute (.Name x px) "extend" apos) [e] [] cpos) pos) (zI i fz f) :=
 dE (nM (qZ PySem.F.plainAttrs_list PySem.F.slot_list_extend PySem.F.type_list_extend AR (oY hN hv hd hcd) (cZ h gH hs) rfl hfew hline hs rfl)) fun E σ H ⟨HF,ρ,o,S,hg,q⟩=>by
  obtain⟨us,h1,hg⟩:=bs hg
  obtain⟨ds,es,h2,h3,rfl⟩:=jL hg
  obtain⟨HF1,s1,S1⟩:=S.hand fz
  obtain⟨a,vs,e1,e2,e3,e5,e4⟩:=S1.own i ds h2
  refine⟨.ref a,e1,.inl ⟨rfl,vs,ib.of e2⟩,HF1,_,us,S1.gr.fh,S1.frz,h1,fun b ws H' HF' G hb hf h' r=>?_⟩
  have S2:=S1.grow G
  obtain⟨a',vs',f1,f2,f3,f5,f4⟩:=S2.own i ds h2
  rw[e1] at f1;cases f1
  split at h3
  ·rename_i hz
   cases h3
   exact⟨a,b,vs',ws,rfl,rfl,f2,h',by rw[f4.length,r.length];exact hz,q σ _ HF' (S2.mut h2 e1 f2 (f4.append r)) (s1.trans G.ff)⟩
  ·cases h3
noncomputable def zm (ds:List D) (k:Int) (d:D):List D:=let j:=if k < 0 then (k+(ds.length:Int)).toNat else min k.toNat ds.length;ds.take j++d::ds.drop j
noncomputable def FQ:V->List V->Hp->VK->Prop:=fun x vs H Q=>∃l xs k y,x=.ref l/\vs=[.int k,y]/\H l=some (.lst xs)/\xs.length < sizeLine/\-(2 ^ 62)<=k/\k < 2 ^ 62 /\
 Q .non (upd H l (.lst (xs.take (if k < 0 then (k+(xs.length:Int)).toNat else min k.toNat xs.length)++y::xs.drop (if k < 0 then (k+(xs.length:Int)).toNat else min k.toNat xs.length))))
theorem As:JK X "list.insert" FQ:=by
 intro pins s σ H x vs v us Q I rx rv h
 obtain⟨l,xs,k,y,rfl,rfl,hH,hz,k1,k2,q⟩:=h
 cases rx
 obtain⟨u1,u2,rfl,⟨t,rfl⟩,ru⟩:=L2.aC.two rv
 obtain⟨z,its,n,r,hl,e⟩:=I.lstM hH
 have hfit:¬(!Builtin.List.listFitsIndex k)=true:=by
  have:Builtin.List.listFitsIndex k=true:=by
   unfold Builtin.List.listFitsIndex
   simp only[Bool.and_eq_true,decide_eq_true_eq]
   omega
  rw[this];simp
 refine call_meets F.slot_list_insert ⟨_,e,rfl⟩ F.entry_list_insert (F.args_list_insert_3 _ _ _) (AutoListH.list_insert_list_int_val_1 l its.toArray n k t u2 hfit (by rw[List.size_toArray];omega)) ⟨e,?_⟩
 have hlen:its.length=xs.length:=hl.symm
 refine⟨.non,_,I.lset (its':=its.take (if k < 0 then (k+(xs.length:Int)).toNat else min k.toNat xs.length)++u2::its.drop (if k < 0 then (k+(xs.length:Int)).toNat else min k.toNat xs.length)) hH e ?_ ((r.take _).append (.cons ru (r.drop _))) ?_,rfl,q⟩
 ·dsimp only
  rw[List.size_toArray,hlen]
  apply Array.toList_inj.mp
  simp
  exact List.take_of_length_le (by rw[List.length_drop,hlen];exact Nat.le_refl _)
 ·rw[List.length_append,List.length_cons,List.length_take,List.length_drop]
  omega
noncomputable def DR (i:Nat) (fz:List Nat) (fk f:Env->Option D):ai->Option Out:=fun ρ=>(fk (bc ρ)).bind fun kd=>match kd with
 | .int k=>(j9 fz f ρ).bind fun p=>nu i (fun ds=>if uN k=true/\ds.length < sizeLine then some (zm ds k p.1) else none) p.2
 | _=>none
theorem zD (i:Nat) (fz:List Nat) {fk f:Env->Option D}(hN:X.N[i]?=some x) (hv:GP X.env.scope x) (hk:DE X e fk) (h:DE X e2 f) (hd:(x == ("__debug__":Str))=false:=by decide) (hcd:(x == ("__classdict__":Str))=false:=by decide)
  (hfew:((backTo cpos (starEach [e,e2] X.env)).all (fun x=>!x.1)&&(backToKw cpos (keywordEach [] X.env)).all (fun x=>x.1.isSome)&&decide ([e,e2].length+([]:List Keyword).length+(if ([]:List Keyword).isEmpty then 0 else 1) < 30))=true:=by rfl)
  (hline:(apos.endLine == cpos.line)=true:=by rfl) (hs:starEach [e,e2] X.env=(false,eval e X.env)::starEach [e2] X.env:=by rfl) (hs2:starEach [e2] X.env=(false,eval e2 X.env)::starEach [] X.env:=by rfl) :
  DS X HF₀ H₀ (.Expr (.Call (.Attribute (.Name x px) "insert" apos) [e,e2] [] cpos) pos) (DR i fz fk f) :=
 dE (nM (qZ PySem.F.plainAttrs_list PySem.F.slot_list_insert PySem.F.type_list_insert As (oY hN hv hd hcd) (cZ hk (cZ h gH hs2) hs) rfl hfew hline hs (by rw[hs2];rfl))) fun E σ H ⟨HF,ρ,o,S,hg,q⟩=>by
  obtain⟨kd,hkd,hg⟩:=bs hg
  cases kd<;>try cases hg
  rename_i k
  obtain⟨⟨d,ρ'⟩,h1,hg⟩:=bs hg
  obtain⟨ds,es,h2,h3,rfl⟩:=jL hg
  have hown:∃ds',ρ[i]?=some (.own ds'):=by
   obtain⟨d1,_,h1⟩:=bs h1
   split at h1
   ·cases h1;exact⟨ds,h2⟩
   ·obtain⟨d2,_,h1⟩:=map_some h1
    cases h1
    rw[gW] at h2
    obtain⟨s,hs,h2⟩:=map_some h2
    cases s with
    | non=>split at h2<;>cases h2
    | val _=>split at h2<;>cases h2
    | own xs=>exact⟨xs,hs⟩
  obtain⟨ds',hown⟩:=hown
  obtain⟨a,vs,e1,e2,e3,e5,e4⟩:=S.own i ds' hown
  refine⟨.ref a,e1,.inl ⟨rfl,vs,ib.of e2⟩,H,bc ρ,_,.refl _,S.all,hkd,fun vk Hk HFk Gk rk=>?_⟩
  simp only[Rep] at rk
  subst rk
  refine mm (S.step Gk.hh) h1 fun v H' HF' s1 S' sh r=>?_
  obtain⟨a',vs',f1,f2,f3,f5,f4⟩:=S'.own i ds h2
  rw[e1] at f1;cases f1
  split at h3
  ·rename_i hz
   cases h3
   have ok:=hz.1
   unfold uN at ok
   rw[Bool.and_eq_true] at ok
   refine⟨a,vs',k,v,rfl,rfl,f2,by rw[f4.length];exact hz.2,of_decide_eq_true ok.1,of_decide_eq_true ok.2,q σ _ HF' (S'.mut h2 e1 f2 ?_) s1⟩
   unfold zm
   rw[f4.length]
   exact (f4.take _).append (ar.cons r (f4.drop _))
  ·cases h3
noncomputable def jv:D->D->Option (List D)
 | .list xs,.list ys=>small (xs++ys)
 | _,_=>none
noncomputable def D5 (K:PySem.W.Frag):R2:=fun x y H Q=>∃a b xs ys,x=.ref a/\y=.ref b/\ib K H a xs/\ib K H b ys/\xs.length+ys.length<=sizeLine/\∀p,H p=none->Q (.ref p) (upd H p (.lst (xs++ys)))
theorem uU:gS X (binaryOp .Add) (D5 X.K):=by
 intro pins s σ H x y v u Q I rx ry h
 obtain⟨a,b,xs,ys,rfl,rfl,ha,hb,hz,q⟩:=h
 cases rx
 cases ry
 obtain⟨its,r1,p1,_⟩:=I.list ha
 obtain⟨its2,r2,p2,_⟩:=I.list hb
 obtain⟨⟨cls,dd,data,sl⟩,ho,hc,n,hd⟩:=id p1.isList
 obtain⟨⟨cls2,dd2,data2,sl2⟩,ho2,hc2,n2,hd2⟩:=id p2.isList
 simp only at hc hd hc2 hd2
 subst hc hd hc2 hd2
 refine concat_meets ⟨_,ho,rfl⟩ ⟨_,ho2,rfl⟩ noFill_list_add seq_list_add PySem.F.slot_list_add PySem.F.entry_list_add (PySem.F.args_list_add_2 _ _) (list_addW a b its.toArray its2.toArray n n2 dd dd2 sl sl2 (by rw[List.size_toArray,List.size_toArray,<- r1.length,<- r2.length];exact hz)) ⟨ho,ho2,?_⟩
 have e:its.toArray++its2.toArray=(its++its2).toArray:=by simp
 rw[e]
 exact⟨.ref s.heap.objs.size,_,I.lnew (t':=s.toks) (r1.append r2) (by rw[List.length_append];exact hz),rfl,q _ I.fresh⟩
noncomputable def Hz (g:D->D->Option (List D)) (f1 f2:Env->Option D):Env->Option (List D):=fun ρ=>(f1 ρ).bind fun x=>(f2 ρ).bind fun y=>g x y
theorem HA {a b:Expr}{fa fb:Env->Option D}(ha:DE X a fa) (hb:DE X b fb):DF X (.BinOp a .Add b pos) (Hz jv fa fb):=aP (BP uU ha hb) fun σ H Q ⟨HF,ρ,d,sm,eo,hf,q⟩=>by
 obtain⟨x,hx,hf⟩:=bs hf
 obtain⟨y,hy,hg⟩:=bs hf
 refine⟨HF,ρ,x,sm,eo,hx,fun v1 H1 HF1 g1 r1=>⟨HF1,ρ,y,g1.fh,eo.mono g1.ff,hy,fun v2 H2 HF2 g2 r2=>?_⟩⟩
 have r1:=r1.mono g2.ff
 cases x<;>cases y<;>simp only[jv] at hg<;>try cases hg
 rename_i xs ys
 obtain⟨rfl,hz⟩:=dX hg
 simp only[Rep] at r1 r2
 obtain⟨a,vs,rfl,ha,ra⟩:=r1
 obtain⟨b,us,rfl,hb,rb⟩:=r2
 have G:=g1.trans g2
 exact⟨a,b,vs,us,rfl,rfl,g2.fh.seq ha,g2.fh.seq hb,by rw[ra.length,rb.length,<- List.length_append];exact hz,fun p hp=>q p _ _ HF2 (G.trans (.own G.fh hp)) (G.hh.free hp) (G.fh.free hp) aE (ra.append rb)⟩
noncomputable def boolsOf:List D->Option (List Bool)
 | []=>some []
 | .bool b::r=>(boolsOf r).map (b::·)
 | _::_=>none
theorem iI:∀ {ds:List D}{bs:List Bool},boolsOf ds=some bs->ds=bs.map PyData.bool
 | [],bs,h=>by cases h;rfl
 | d::r,bs,h=>by
  cases d<;>simp only[boolsOf] at h<;>try cases h
  obtain⟨bs',h1,rfl⟩:=map_some h
  rw[iI h1]
  rfl
theorem kh {K:PySem.W.Frag}{H:Hp}:∀ {bs:List Bool}{vs:List V},ar K H (bs.map PyData.bool) vs->vs=bs.map V.bl
 | [],vs,h=>h.nil_inv
 | b::bs,vs,h=>by
  obtain⟨v,r,rfl,a,c⟩:=h.cons_inv
  simp only[Rep] at a
  rw[a,kh c]
  rfl
theorem kn:∀ {bs:List Bool}{us:List Value},aC (bs.map V.bl) us->us=bs.map Value.bool
 | [],us,h=>by cases h;rfl
 | b::bs,us,h=>by
  cases h with
  | cons r rr=>cases r;rw[kn rr];rfl
theorem range_all (bs:List Bool):(List.range bs.length).all (fun i=>bs.getD i false)=bs.all id:=by
 induction bs with
 | nil=>rfl
 | cons b bs ih=>rw[List.length_cons,List.range_succ_eq_map,List.all_cons,List.all_map,List.all_cons];simpa [Function.comp_def] using congrArg (b&&·) ih
theorem range_any (bs:List Bool):(List.range bs.length).any (fun i=>bs.getD i false)=bs.any id:=by
 induction bs with
 | nil=>rfl
 | cons b bs ih=>rw[List.length_cons,List.range_succ_eq_map,List.any_cons,List.any_map,List.any_cons];simpa [Function.comp_def] using congrArg (b||·) ih
theorem wM (hc:X.calm=true):cR X (.builtin "all") (fun xs H Q=>∃ (a:Addr) (bs:List Bool),xs=[.ref a]/\ib X.K H a (bs.map V.bl)/\Q (.bl (bs.all id)) H):=by
 intro pins s σ H xs us Q I r h
 obtain⟨a,bs,rfl,hq,q⟩:=h
 obtain⟨u,rfl,rx⟩:=vals1 r
 cases rx
 obtain⟨its,rv,pl,hz⟩:=I.list hq
 have hv:=kn rv
 subst hv
 have hh:X.A.in1.handled=none:=I.ok.hd hc
 refine call_all_walk (wpAny_pyIter_list pl.isList ?_)
 obtain⟨o,ho,hcl,n,hd⟩:=pl.isList
 have hne:a≠s.heap.objs.size:=Nat.ne_of_lt (Heap.lt_size ho)
 refine⟨_,_,_,_,_,_,fun i=>bs.getD i false,rfl,Walks.list hh s.heap.objs.size a hne (bs.map Value.bool).toArray,⟨⟨_,Heap.get?_push_size _ rfl,rfl,rfl⟩,pl.isList.push _⟩,fun i v s' Q' E' hP hQ=>?_,fun h' tk kp=>?_⟩
 ·have e:v=Value.bool (bs.getD i false):=by
   have hP:(bs.map Value.bool).toArray[i]?=some v:=hP
   rw[List.getElem?_toArray,List.getElem?_map] at hP
   obtain⟨b,hb,rfl⟩:=map_some hP
   rw[List.getD_eq_getElem?_getD,hb]
   rfl
  subst e
  exact wpAny_truthy_bool hQ
 ·refine⟨.bl (bs.all id),H,?_,?_,q⟩
  ·exact I.kept (t':=tk) fun b o' e=>kp b o' (by simp;exact Nat.ne_of_lt (Heap.lt_size e)) (Heap.get?_push_of_some _ e)
  ·show Value.bool _=Value.bool _
   have:=range_all bs
   simp only[List.size_toArray,List.length_map]
   rw[this]
noncomputable def lF:List D->Option D:=fun ds=>(oneOf ds).bind fun d=>match d with
 | .list es=>(boolsOf es).map fun bs=>.bool (bs.all id)
 | _=>none
theorem IW (hc:X.calm=true) (B:mL X "all" (.builtin "all")) (ha:DA X [e] fs) (he:starEach [e] X.env=(false,eval e X.env)::starEach [] X.env:=by rfl):DE X (.Call (.Name "all" p) [e] [] pos) (bb lF fs) :=
 jf (wM hc) (by
  intro HF H ds vs d Q sm r hg q
  obtain⟨x,hx,hg⟩:=bs hg
  rw[fH hx] at r
  cases x<;>try cases hg
  obtain⟨bs,hb,rfl⟩:=map_some hg
  obtain⟨v,r',rfl,a,b⟩:=r.cons_inv
  rw[b.nil_inv]
  simp only[Rep] at a
  obtain⟨p,us,rfl,h,rr⟩:=a
  rw[iI hb] at rr
  have:=kh rr
  subst this
  exact⟨p,bs,rfl,sm.seq h,q _ H HF (.refl sm) (by simp[Rep])⟩) B ha (by decide) (by decide) he rfl
end
end Dl
namespace Dl
open PySem L2 PySem.Spec PyProof.Rows
noncomputable abbrev lexLt:=HT.lexLt
theorem fA:∀a:List Int,lexLt a a=false
 | []=>rfl
 | x::a=>by show HT.lexLt (x::a) (x::a)=false;rw[HT.dh,if_pos rfl];exact fA a
theorem dw:∀ {a b c:List Int},lexLt a b=true->lexLt b c=true->lexLt a c=true
 | [],[],_,h,_=>by cases h
 | [],_::_,[],_,h=>by cases h
 | [],_::_,_::_,_,_=>rfl
 | _::_,[],_,h,_=>by cases h
 | _::_,_::_,[],_,h=>by cases h
 | x::a,y::b,z::c,h1,h2=>by
  have h1:HT.lexLt (x::a) (y::b)=true:=h1
  have h2:HT.lexLt (y::b) (z::c)=true:=h2
  show HT.lexLt (x::a) (z::c)=true
  rw[HT.dh] at h1 h2 ⊢
  by_cases e1:x=y
  ·rw[if_pos e1] at h1
   by_cases e2:y=z
   ·rw[if_pos e2] at h2
    rw[if_pos (e1.trans e2)]
    exact dw h1 h2
   ·rw[if_neg e2] at h2
    rw[if_neg (by omega)]
    have:=of_decide_eq_true h2
    exact decide_eq_true (by omega)
  ·rw[if_neg e1] at h1
   have q1:=of_decide_eq_true h1
   by_cases e2:y=z
   ·rw[if_neg (by omega)]
    exact decide_eq_true (by omega)
   ·rw[if_neg e2] at h2
    have q2:=of_decide_eq_true h2
    rw[if_neg (by omega)]
    exact decide_eq_true (by omega)
theorem ij:∀ {a b:List Int},lexLt a b=false->lexLt b a=false->a=b
 | [],[],_,_=>rfl
 | [],_::_,h,_=>by cases h
 | _::_,[],_,h=>by cases h
 | x::a,y::b,h1,h2=>by
  have h1:HT.lexLt (x::a) (y::b)=false:=h1
  have h2:HT.lexLt (y::b) (x::a)=false:=h2
  rw[HT.dh] at h1 h2
  by_cases e:x=y
  ·rw[if_pos e] at h1
   rw[if_pos e.symm] at h2
   rw[e,ij h1 h2]
  ·rw[if_neg e] at h1
   rw[if_neg (fun z=>e z.symm)] at h2
   have:=of_decide_eq_false h1
   have:=of_decide_eq_false h2
   omega
noncomputable def lexLe (a b:List Int):Bool:=!lexLt b a
theorem vJ (a b c:List Int) (h1:lexLe a b=true) (h2:lexLe b c=true):lexLe a c=true:=by
 unfold lexLe at *
 rw[Bool.not_eq_true'] at *
 cases e:lexLt c a with
 | false=>rfl
 | true =>
  cases e1:lexLt a b with
  | true=>rw[dw e e1] at h2;cases h2
  | false =>
   have:=ij e1 h1
   subst this
   rw[e] at h2;cases h2
theorem uF (a b:List Int):(lexLe a b||lexLe b a)=true:=by
 unfold lexLe
 cases e1:lexLt b a with
 | false=>rfl
 | true =>
  cases e2:lexLt a b with
  | false=>rfl
  | true=>have:=dw e1 e2;rw[fA] at this;cases this
theorem xX {a b:List Int}(h1:lexLe a b=true) (h2:lexLe b a=true):a=b:=by
 unfold lexLe at *
 rw[Bool.not_eq_true'] at *
 exact ij h2 h1
theorem r6 {α:Type}{le:α->α->Bool}(anti:∀a b,le a b=true->le b a=true->a=b):∀ {l m:List α},l.Perm m->l.Pairwise (fun a b=>le a b=true)->m.Pairwise (fun a b=>le a b=true)->l=m
 | [],m,p,_,_=>p.nil_eq
 | a::l,[],p,_,_=>by have:=p.length_eq;simp at this
 | a::l,b::m,p,h1,h2=>by
  obtain⟨h1a,h1b⟩:=List.pairwise_cons.mp h1
  obtain⟨h2a,h2b⟩:=List.pairwise_cons.mp h2
  have e:a=b:=by
   have ha:a∈b::m:=p.mem_iff.mp List.mem_cons_self
   have hb:b∈a::l:=p.mem_iff.mpr List.mem_cons_self
   rcases List.mem_cons.mp ha with e|ha
   ·exact e
   ·rcases List.mem_cons.mp hb with e|hb
    ·exact e.symm
    ·exact anti a b (h1a b hb) (h2a a ha)
  subst e
  rw[r6 anti (List.perm_cons a |>.mp p) h1b h2b]
noncomputable def uw (l:List (List Int)):List (List Int):=l.mergeSort lexLe
theorem ou (l:List (List Int)):(uw l).Perm l:=List.mergeSort_perm l lexLe
theorem Di (l:List (List Int)):(uw l).Pairwise (fun a b=>lexLe a b=true):=List.pairwise_mergeSort vJ uF l
theorem xM {l m:List (List Int)}(p:l.Perm m) (h:l.Pairwise (fun a b=>lexLe a b=true)):l=uw m:=r6 (fun _ _=>xX) (p.trans (ou m).symm) h (Di m)
noncomputable def rk (l:List (List Int)) (a:List Int):Int:=((l.countP fun b=>lexLt b a:Nat):Int)
theorem yD {l:List (List Int)}{a b:List Int}(ha:a∈l):lexLt a b=decide (rk l a < rk l b):=by
 unfold rk
 have mono:∀ {a b:List Int},lexLt a b=true->(l.countP fun c=>lexLt c a)<=l.countP fun c=>lexLt c b:=fun {a b} h=>List.countP_mono_left fun c _ hc=>dw hc h
 have strict:∀ {a b:List Int}(ha:a∈l),lexLt a b=true->(l.countP fun c=>lexLt c a) < l.countP fun c=>lexLt c b:=fun {a b} ha h=>by
  have key:∀m:List (List Int),a∈m->(m.countP fun c=>lexLt c a) < m.countP fun c=>lexLt c b:=fun m hm=>by
   induction m with
   | nil=>cases hm
   | cons x m ih =>
    rw[List.countP_cons,List.countP_cons]
    have mo:(m.countP fun c=>lexLt c a)<=m.countP fun c=>lexLt c b:=List.countP_mono_left fun c _ hc=>dw hc h
    rcases List.mem_cons.mp hm with e|hm
    ·subst e
     rw[fA,h]
     simp only[Bool.false_eq_true,if_false,if_true]
     omega
    ·have:=ih hm
     by_cases hx:lexLt x a=true
     ·rw[hx,dw hx h];simp only[if_true];omega
     ·have hx':lexLt x a=false:=by simpa using hx
      rw[hx']
      simp only[Bool.false_eq_true,if_false]
      split<;>omega
  exact key l ha
 cases e:lexLt a b with
 | true=>exact (decide_eq_true (by have:=strict ha e;omega)).symm
 | false =>
  refine (decide_eq_false ?_).symm
  cases e2:lexLt b a with
  | true=>have:=mono e2;omega
  | false=>rw[ij e e2];omega
end Dl
namespace Dl
open PySem L2 PySem.Spec PyProof.Rows
section
variable {prog:Program}{w:World}{A:Around}{E:Value->Shared->Prop}{s:Shared}
theorem oR {Q:Bool->Shared->Prop}:∀ {us ws:List Value}{ns ms:List Int}(i:Nat),IntsAre us ns->IntsAre ws ms->Q (lexLt ns ms) s->PySem.W.KatLex prog w A true (decide (ns.length < ms.length)) Q (us.zip ws) i s
 | [],[],_,_,i,.nil,.nil,h=>h
 | [],_::_,_,_,i,.nil,.cons _ _ _,h=>by
  show Q (decide (0 < _+1)) s
  rw[decide_eq_true (Nat.succ_pos _)]
  exact h
 | _::_,[],_,_,i,.cons _ _ _,.nil,h=>by
  show Q (decide (_+1 < 0)) s
  rw[decide_eq_false (Nat.not_lt_zero _)]
  exact h
 | _::us,_::ws,_,_,i,.cons n t r1,.cons m u r2,h=>by
  have h:Q (HT.lexLt (n::_) (m::_)) s:=h
  rw[HT.dh] at h
  refine PySem.W.kat_cons (SeqAt.EqAt.int_int n t m u prog w _ _ ?_)
  cases e:(n == m) with
  | true =>
   have e':n=m:=eq_of_beq e
   rw[if_pos e'] at h
   refine PySem.W.kat_yes ?_
   have:=oR (i+1) r1 r2 h
   simp only[List.length_cons,Nat.add_lt_add_iff_right]
   exact this
  | false =>
   have e':¬ n=m:=fun q=>by rw[q] at e;simp at e
   rw[if_neg e'] at h
   refine PySem.W.kat_no ?_
   by_cases hi:(true&&i == 0)=true
   ·rw[hi]
    exact oneLt_int h
   ·have hi':(true&&i == 0)=false:=by simpa using hi
    rw[hi']
    refine PySem.W.kat_one _ _ (lt_int ?_)
    exact h
end
noncomputable def af (ns:List Int):D:=.tuple (ns.map PyData.int)
noncomputable def intsOf:List D->Option (List Int)
 | []=>some []
 | .int n::r=>(intsOf r).map (n::·)
 | _::_=>none
theorem du:∀ {ds:List D}{ns:List Int},intsOf ds=some ns->ds=ns.map PyData.int
 | [],ns,h=>by cases h;rfl
 | d::r,ns,h=>by
  cases d<;>simp only[intsOf] at h<;>try cases h
  obtain⟨ns',h1,rfl⟩:=map_some h
  rw[du h1]
  rfl
theorem cJ:∀ns:List Int,intsOf (ns.map PyData.int)=some ns
 | []=>rfl
 | n::ns=>by simp[intsOf,cJ ns]
noncomputable def yw:D->Option (List Int)|.tuple ds=>(intsOf ds).bind fun ns=>if ns=[] then none else some ns|_=>none
theorem xr {d:D}{ns:List Int}(h:yw d=some ns):d=af ns/\ns≠[]:=by
 cases d<;>try cases h
 obtain⟨ms,h1,h2⟩:=bs h
 split at h2
 ·cases h2
 ·rename_i hn
  cases h2
  rw[du h1]
  exact⟨rfl,hn⟩
theorem zT {ns:List Int}(h:ns≠[]):yw (af ns)=some ns:=by
 unfold af yw
 simp only[cJ,Option.bind_some]
 rw[if_neg h]
noncomputable def rowsOf:List D->Option (List (List Int))
 | []=>some []
 | d::r=>(yw d).bind fun ns=>(rowsOf r).map (ns::·)
theorem jx:∀ {ds:List D}{nss:List (List Int)},rowsOf ds=some nss->ds=nss.map af/\∀ns∈nss,ns≠[]
 | [],nss,h=>by cases h;exact⟨rfl,fun _ z=>by cases z⟩
 | d::r,nss,h=>by
  obtain⟨ns,h1,h⟩:=bs h
  obtain⟨rest,h2,rfl⟩:=map_some h
  obtain⟨e,hn⟩:=xr h1
  obtain⟨e2,hn2⟩:=jx h2
  refine⟨by rw[e,e2];rfl,fun m hm=>?_⟩
  rcases List.mem_cons.mp hm with q|q
  ·subst q;exact hn
  ·exact hn2 m q
theorem kG:∀ {nss:List (List Int)},(∀ns∈nss,ns≠[])->rowsOf (nss.map af)=some nss
 | [],_=>rfl
 | ns::r,h=>by
  simp only[List.map_cons,rowsOf,zT (h ns List.mem_cons_self),Option.bind_some,kG fun m hm=>h m (List.mem_cons_of_mem _ hm),Option.map_some]
structure uY (h:Heap) (v:Value) (ns:List Int):Prop where
 ex:∃ (a:Addr) (o:Obj) (its:Array Value) (n:Nat),v=.ref a/\h.get? a=some o/\o.cls=.type "tuple"/\o.data=.seq its n/\IntsAre its.toList ns
theorem uY.keep {h h':Heap}{v:Value}{ns:List Int}(r:uY h v ns) (k:∀b o,h.get? b=some o->h'.get? b=some o):uY h' v ns:=let ⟨a,o,its,n,e,e1,e2,e3,e4⟩:=r.ex;⟨a,o,its,n,e,k _ _ e1,e2,e3,e4⟩
section
variable {prog:Program}{w:World}{A:Around}{E:Value->Shared->Prop}{s:Shared}
theorem oI {h:Heap}:∀ {vs:List Value}{nss:List (List Int)},Paired (uY h) vs nss->(∀ns∈nss,ns≠[])->∃fs:List Value,PySem.W.KatTups h vs fs/\fs.length=vs.length/\∀f∈fs,∃n t,f=Value.int n t
 | _,_,.nil,_=>⟨[],trivial,rfl,fun _ z=>by cases z⟩
 | _,_,.cons (a:=v) (b:=ns) r p,hn=>by
  obtain⟨fs,h1,h2,h3⟩:=oI p fun m hm=>hn m (List.mem_cons_of_mem _ hm)
  obtain⟨a,o,its,n,rfl,e1,e2,e3,e4⟩:=r.ex
  cases hits:its.toList with
  | nil =>
   rw[hits] at e4
   cases e4
   exact absurd rfl (hn [] List.mem_cons_self)
  | cons f rest =>
   rw[hits] at e4
   cases e4 with
   | cons m t e5 =>
    have h0:its[0]?=some (.int m t):=by
     have:its.toList[0]?=some (Value.int m t):=by rw[hits];rfl
     simpa using this
    exact⟨.int m t::fs,PySem.W.KatTups.cons e1 e2 e3 h0 h1,by simp[h2],fun g hg=>by
     rcases List.mem_cons.mp hg with q|q
     ·exact⟨m,t,q⟩
     ·exact h3 g q⟩
theorem fS {α β:Type}{R:α->β->Prop}{d:α}{d':β}:∀ {l:List α}{m:List β}{i:Nat},Paired R l m->i < l.length->R (l.getD i d) (m.getD i d')
 | _,_,i,.nil,h=>by simp at h
 | _,_,0,.cons r _,_=>r
 | _,_,i+1,.cons _ p,h=>by simpa using fS (i:=i) (d:=d) (d':=d') p (by simpa using h)
theorem wy {l:Addr}{vs:List Value}{nss:List (List Int)}{Q:Value->Shared->Prop}(hl:s.heap.IsList l vs.toArray) (hp:Paired (uY s.heap) vs nss) (hn:∀ns∈nss,ns≠[]) (h64:vs.length < 64)
  (h:∀ (h':Heap) (D:Addr) (c:Nat),(∀b o,s.heap.get? b=some o->h'.get? b=some o)->s.heap.objs.size<=D->h'.get? D=some (seqObj "list" (Srt.outV (fun i=>rk nss (nss.getD i [])) vs).toArray c)->Q (.ref D) { s with heap:=h' }) :
  wpAny (model prog w) A (call (.builtin "sorted") [.ref l]) Q E s:=by
 refine Srt.sortedG hl h64 (fun i=>rk nss (nss.getD i [])) (tuples' true) (fun h2 h' kp Q' q=>?_) (fun h2 h' kp i j C hi hj q=>?_) h
 ·have hp':Paired (uY h') vs nss:=Paired.mapP hp fun _ _ r=>r.keep kp
  obtain⟨fs,t,hlen,hf⟩:=oI hp' hn
  refine PySem.W.kat_kind (s:={ s with heap:=h' }) (T:=.type "int") t (by omega) (fun v hv=>?_) (by decide) q
  obtain⟨n,t,rfl⟩:=hf v hv
  exact PySem.W.Looks.of_pure rfl
 ·have ri:=(fS (d:=Value.none) (d':=[]) hp hi).keep kp
  have rj:=(fS (d:=Value.none) (d':=[]) hp hj).keep kp
  have hlen:=hp.length
  obtain⟨a,o,its,n,ea,e1,e2,e3,e4⟩:=ri.ex
  obtain⟨b,o',its',n',eb,f1,f2,f3,f4⟩:=rj.ex
  unfold PySem.W.kas_ask
  rw[ea,eb]
  have hmem:nss.getD i []∈nss:=by
   rw[List.getD_eq_getElem?_getD,List.getElem?_eq_getElem (by omega)]
   exact List.getElem_mem _
  have q':C (lexLt (nss.getD i []) (nss.getD j [])) { s with heap:=h' }:=by
   rw[yD hmem]
   exact q
  refine PySem.W.kat_lt (s:={ s with heap:=h' }) e1 e3 f1 f3 ?_
  have:=oR (prog:=prog) (w:=w) (A:=A.in1.in1) (s:={ s with heap:=h' }) 0 e4 f4 q'
  have l1:its.size=(nss.getD i []).length:=by have:=IntsAre.length e4;simpa using this
  have l2:its'.size=(nss.getD j []).length:=by have:=IntsAre.length f4;simpa using this
  rw[l1,l2]
  exact this
end
end Dl
namespace Dl
open PySem L2 PySem.Spec PyProof.Rows
noncomputable def nK {α:Type}(z:Nat->Int) (l:List α) (d:α):List α:=if l.length < 2 then l else (SP.run (SP.dR z) (PySem.W.kas_sort l.length)).toList.map fun i=>l.getD i d
theorem jq {α:Type}(l:List α) (d:α):(List.range l.length).map (fun i=>l.getD i d)=l:=by
 apply List.ext_getElem
 ·simp
 ·intro i h1 h2
  simp[h2]
theorem fy {α:Type}(z:Nat->Int) (l:List α) (d:α):(nK z l d).Perm l:=by
 unfold nK
 split
 ·exact List.Perm.refl _
 ·rename_i h
  have:=((SP.gv (z:=z) (n:=l.length) (by omega)).1).map fun i=>l.getD i d
  rw[jq] at this
  exact this
theorem FO (nss:List (List Int)):nK (fun i=>rk nss (nss.getD i [])) nss []=uw nss:=by
 refine xM (fy _ _ _) ?_
 unfold nK
 split
 ·rename_i h
  match nss,h with
  | [],_=>exact List.Pairwise.nil
  | [a],_=>exact List.pairwise_singleton _ _
 ·rename_i h
  obtain⟨hp,hs⟩:=SP.gv (z:=fun i=>rk nss (nss.getD i [])) (n:=nss.length) (by omega)
  rw[List.pairwise_map] at hs ⊢
  refine hs.imp_of_mem fun {i j} hi hj hij=>?_
  have hj':j < nss.length:=by have:=hp.mem_iff.mp hj;simpa using this
  unfold lexLe
  rw[yD (l:=nss) (a:=nss.getD j []) (by rw[List.getD_eq_getElem?_getD,List.getElem?_eq_getElem hj'];exact List.getElem_mem _)]
  simp only[Bool.not_eq_true',decide_eq_false_iff_not]
  omega
section
variable {X:Cx}
theorem pA {K:PySem.W.Frag}{HF:Hp}{ds:List D}{vs:List V}(z:Nat->Int) (r:ar K HF ds vs):ar K HF (nK z ds .none) (nK z vs .non):=by
 unfold nK
 rw[r.length]
 split
 ·exact r
 ·rename_i h
  obtain⟨hp,_⟩:=SP.gv (z:=z) (n:=ds.length) (by omega)
  have key:∀l:List Nat,(∀i∈l,i < ds.length)->ar K HF (l.map fun i=>ds.getD i .none) (l.map fun i=>vs.getD i .non):=fun l=>by
   induction l with
   | nil=>exact fun _=>ar.nil
   | cons i l ih =>
    intro hl
    have hi:=hl i List.mem_cons_self
    obtain⟨v,e1,e2⟩:=r.getD (List.getElem?_eq_getElem hi)
    refine ar.cons ?_ (ih fun j hj=>hl j (List.mem_cons_of_mem _ hj))
    dsimp only
    rw[List.getD_eq_getElem?_getD,List.getD_eq_getElem?_getD,e1,List.getElem?_eq_getElem hi]
    exact e2
  exact key _ fun i hi=>by have:=hp.mem_iff.mp hi;simpa using this
theorem oZ {vs:List V}{us:List Value}(z:Nat->Int) (r:aC vs us):aC (nK z vs .non) (Srt.outV z us):=by
 unfold nK Srt.outV
 rw[r.length]
 split
 ·exact r
 ·rename_i h
  obtain⟨hp,_⟩:=SP.gv (z:=z) (n:=us.length) (by omega)
  have key:∀l:List Nat,(∀i∈l,i < vs.length)->aC (l.map fun i=>vs.getD i .non) (l.map fun i=>us.getD i Value.none):=fun l=>by
   induction l with
   | nil=>exact fun _=>.nil
   | cons i l ih =>
    intro hl
    have hi:=hl i List.mem_cons_self
    obtain⟨v,e1,e2⟩:=r.get (List.getElem?_eq_getElem hi)
    refine .cons ?_ (ih fun j hj=>hl j (List.mem_cons_of_mem _ hj))
    dsimp only
    rw[List.getD_eq_getElem?_getD,List.getD_eq_getElem?_getD,e1,List.getElem?_eq_getElem hi]
    exact e2
  exact key _ fun i hi=>by have:=hp.mem_iff.mp hi;rw[r.length];simpa using this
theorem EI (z:Nat->Int) (nss:List (List Int)):nK z (nss.map af) .none=(nK z nss []).map af:=by
 unfold nK
 rw[List.length_map]
 split
 ·rfl
 ·rename_i h
  rw[List.map_map]
  obtain⟨hp,_⟩:=SP.gv (z:=z) (n:=nss.length) (by omega)
  refine List.map_congr_left fun i hi=>?_
  have hi':i < nss.length:=by have:=hp.mem_iff.mp hi;simpa using this
  simp[hi']
theorem lD {pins:List (Addr×Obj)}{σ:L2.St}{H HF:Hp}{s:Shared}(I:Inv X pins σ H s) (sm:aW HF H):∀ {nss:List (List Int)}{vs:List V}{us:List Value},ar X.K HF (nss.map af) vs->aC vs us->Paired (uY s.heap) us nss
 | [],_,_,h,r=>by rw[h.nil_inv] at r;cases r;exact .nil
 | ns::nss,_,_,h,r=>by
  obtain⟨v,vr,rfl,a,b⟩:=h.cons_inv
  cases r with
  | cons r rr =>
   refine .cons ?_ (lD I sm b rr)
   unfold af at a
   simp only[Rep] at a
   obtain⟨p,ws,rfl,hs,rw'⟩:=a
   cases r
   obtain⟨its,rv,⟨o,ho,hc,n,hd⟩,_⟩:=I.tuple (az sm hs)
   have:ws=ns.map V.int:=by
    have key:∀ {ns:List Int}{ws:List V},ar X.K HF (ns.map PyData.int) ws->ws=ns.map V.int:=fun {ns}=>by
     induction ns with
     | nil=>exact fun h=>h.nil_inv
     | cons n ns ih =>
      intro ws h
      obtain⟨v,r,rfl,a,b⟩:=h.cons_inv
      simp only[Rep] at a
      rw[a,ih b]
      rfl
    exact key rw'
   subst this
   exact⟨p,o,its.toArray,n,rfl,ho,hc,hd,intsAre_of rv⟩
theorem lU:cR X (.builtin "sorted") (fun xs H Q=>∃ (HF:Hp) (a:Addr) (vs:List V) (nss:List (List Int)),xs=[.ref a]/\aW HF H/\ib X.K HF a vs/\ar X.K HF (nss.map af) vs/\(∀ns∈nss,ns≠[])/\nss.length < 64 /\
  ∀ (Dn:Addr) (us:List V),H Dn=none->ar X.K HF ((uw nss).map af) us->Q (.ref Dn) (upd H Dn (.lst us))):=by
 intro pins s σ H xs us Q I r h
 obtain⟨HF,a,vs,nss,rfl,sm,hq,rr,hn,h64,q⟩:=h
 obtain⟨u,rfl,rx⟩:=vals1 r
 cases rx
 obtain⟨its,rv,pl,hz⟩:=I.list (sm.seq hq)
 have hl1:=rr.length
 rw[List.length_map] at hl1
 refine wy pl.isList (lD I sm rr rv) hn (by have:=rv.length;omega) fun h' Dn c kp hD e=>?_
 have hv:=oZ (fun i=>rk nss (nss.getD i [])) rv
 have hr:=pA (fun i=>rk nss (nss.getD i [])) rr
 rw[EI,FO] at hr
 refine⟨.ref Dn,_,I.laid (t':=s.toks) (o:=.lst (nK (fun i=>rk nss (nss.getD i [])) vs .non)) kp hD ⟨?_,_,c,hv,e⟩,rfl,q Dn _ (I.hok.fresh hD) hr⟩
 rw[(fy _ _ _).length_eq]
 exact hz
noncomputable def gg:List D->Option (List D):=fun ds=>(oneOf ds).bind fun d=>match d with
 | .list es=>(rowsOf es).bind fun nss=>if nss.length < 64 then some ((uw nss).map af) else none
 | _=>none
variable {e:Expr}{fs:Env->Option (List D)}{p pos:Pos}
theorem Ac (B:mL X "sorted" (.builtin "sorted")) (ha:DA X [e] fs) (he:starEach [e] X.env=(false,eval e X.env)::starEach [] X.env:=by rfl):DF X (.Call (.Name "sorted" p) [e] [] pos) (ma gg fs) :=
 CI lU (by
  intro HF H ds vs d Q sm r hg q
  obtain⟨x,hx,hg⟩:=bs hg
  rw[fH hx] at r
  cases x<;>try cases hg
  obtain⟨nss,hb,hg⟩:=bs hg
  split at hg
  ·rename_i h64
   cases hg
   obtain⟨v,r',rfl,a,b⟩:=r.cons_inv
   rw[b.nil_inv]
   simp only[Rep] at a
   obtain⟨p,us,rfl,h,rr⟩:=a
   obtain⟨e1,e2⟩:=jx hb
   rw[e1] at rr
   exact⟨HF,p,us,nss,rfl,sm,h,rr,e2,h64,fun Dn ws hD hr=>q Dn ws _ HF (.own sm hD) hD (sm.free hD) aE hr⟩
  ·cases hg) B ha (by decide) (by decide) he rfl
end
end Dl
namespace En
open PySem PyProof.Rows
open AutoSeq1 (wpAny_loadPart')
section
variable {prog:Program}{w:World}{A:Around}{E:Value->Shared->Prop}{s:Shared}
theorem nextT_item {j t:Addr}{k:Nat}{its:Array Value}{v:Value}{Q:Value->Shared->Prop}(hj:s.heap.IsTupleIter j t k) (ht:s.heap.IsTuple t its) (hv:its[k]?=some v)
  (hQ:∀g,g.IsTupleIter j t (k+1)->Heap.SameBut j s.heap g->Q v { s with heap:=g }):wpAny (model prog w) A (Builtin.SmallTypes.nextOf (.ref j)) Q E s:=by
 obtain⟨oj,gj,cj,dj⟩:=id hj
 obtain⟨ot,gt,_,nt,dt⟩:=ht
 unfold Builtin.SmallTypes.nextOf
 refine wpAny_bind (wpAny_callSpecial?_slot (name:=Str.ofString "__next__") hj.typeIs F.slot_tuple_iterator_next (wpAny_call_entry F.slot_tuple_iterator_next hj.typeIs F.entry_tuple_iterator_next ?_ (F.args_tuple_iterator_next_1 _)))
 refine wpAny_bind (m:=field (.ref j) 0) (wpAny_field gj dj (x:=.ref t) rfl ?_)
 show wpAny _ _ (if (Value.ref t == Value.none)=true then _ else _) _ _ s
 rw[if_neg (show ¬ ((Value.ref t == Value.none)=true) by exact Bool.false_ne_true)]
 refine wpAny_bind (m:=field (.ref j) 1) (wpAny_field gj dj (x:=.int k 0) rfl ?_)
 refine wpAny_bind (m:=seqItems? (.ref t)) (wpAny_seqItems gt dt ?_)
 simp only[Int.toNat_natCast,hv]
 refine wpAny_bind (wpAny_setField gj dj (by simp) (wpAny_pure ⟨v,rfl,wpAny_pure (hQ _ ⟨_,Heap.get?_update_self _ gj (Obj.isFreed_of_fields (Obj.data_mapFields dj _)),(Obj.cls_mapFields ..).trans cj,?_⟩ (Heap.SameBut.update ..))⟩))
 rw[Obj.data_mapFields dj];simp[rawInt]
theorem nextT_end {j t:Addr}{k:Nat}{its:Array Value}{Q:Value->Shared->Prop}(hh:A.handled=none) (hj:s.heap.IsTupleIter j t k) (ht:s.heap.IsTuple t its) (hv:its[k]?=none)
  (hE:∀g x,Heap.ExtBut j s.heap g->(∃o,g.get? x=some o/\o.cls=.type "StopIteration")->E (.ref x) { s with heap:=g }):wpAny (model prog w) A (Builtin.SmallTypes.nextOf (.ref j)) Q E s:=by
 obtain⟨oj,gj,cj,dj⟩:=id hj
 obtain⟨ot,gt,_,nt,dt⟩:=ht
 unfold Builtin.SmallTypes.nextOf
 refine wpAny_bind (wpAny_callSpecial?_slot (name:=Str.ofString "__next__") hj.typeIs F.slot_tuple_iterator_next (wpAny_call_entry F.slot_tuple_iterator_next hj.typeIs F.entry_tuple_iterator_next ?_ (F.args_tuple_iterator_next_1 _)))
 refine wpAny_bind (m:=field (.ref j) 0) (wpAny_field gj dj (x:=.ref t) rfl ?_)
 show wpAny _ _ (if (Value.ref t == Value.none)=true then _ else _) _ _ s
 rw[if_neg (show ¬ ((Value.ref t == Value.none)=true) by exact Bool.false_ne_true)]
 refine wpAny_bind (m:=field (.ref j) 1) (wpAny_field gj dj (x:=.int k 0) rfl ?_)
 refine wpAny_bind (m:=seqItems? (.ref t)) (wpAny_seqItems gt dt ?_)
 simp only[Int.toNat_natCast,hv]
 refine wpAny_bind (wpAny_rule (wpAny_bind (wpAny_setField gj dj (by simp) (wpAny_bind (m:=newExc (.type "StopIteration") []) ?_))))
 simp only[newExc,newTuple]
 refine wpAny_bind (wpAny_newObj_type (wpAny_bind (m:=firstArgMember _ _) (wpAny_of_eq (a:=Value.none) (by first|rfl|(simp only[firstArgMember];rfl)) ?_)) (by size_fits))
 refine wpAny_newObj_type ?_ (by size_fits);simp only[raiseNew]
 refine wpAny_bind (wpAny_handled ?_)
 first|rw[show A.in1.handled=none from hh]|rw[hh]
 exact wpAny_bind (wpAny_pure (wpAny_throw (hE _ _ (((Heap.SameBut.update ..).extBut.push _).push _) ⟨_,Heap.get?_push_size _ rfl,rfl⟩)))
theorem meets_enumT (t:Addr) (its:Array Value) (n:Nat) (dd:Option Addr) (sl:Array (Option Value)) :
  Meets (Builtin.«enumerate.__new__» ⟨[.type "enumerate",.ref t],[]⟩) (fun _ R s=>s.heap.get? t=some { cls:=.type "tuple",dict:=dd,data:=.seq its n,slots:=sl } /\
   R (.ok (.ret (.ref (s.heap.push { cls:=.type "tuple_iterator",data:=.fields #[.ref t,.int 0 0] }).objs.size)))
    { s with heap:=(s.heap.push { cls:=.type "tuple_iterator",data:=.fields #[.ref t,.int 0 0] }).push { cls:=.type "enumerate",data:=.fields #[.none,.bool false,.ref s.heap.objs.size,rawInt 0,.none,.none] } }) :=
 .of_wp fun prog w A R s h=>by
  obtain⟨hp,g,d,tk,os⟩:=s
  obtain⟨hl,h⟩:=h
  have hsub:=sub_enumerate
  have hL:Heap.IsTuple (Shared.heap ⟨hp,g,d,tk,os⟩) t its:=⟨_,hl,rfl,n,rfl⟩
  wp_walk using wpAny_loadPart' hl
  refine wpAny_stack_any fun st=>wpAny_pure ?_
  split
  ·rename_i c _ _ _ _ _
   cases (c == Value.type "enumerate")
   ·wp_walk using wpAny_loadPart' hl,wpAny_pyIter_tuple hL
    exact⟨_,rfl,h⟩
   ·wp_walk using wpAny_loadPart' hl,wpAny_pyIter_tuple hL
    exact⟨_,rfl,h⟩
  ·wp_walk using wpAny_loadPart' hl,wpAny_pyIter_tuple hL
   exact⟨_,rfl,h⟩
theorem call_enumT {t:Addr}{its:Array Value}{Q:Value->Shared->Prop}(ht:s.heap.IsTuple t its)
  (h:∀h',IsEnum h' (s.heap.objs.size+1) s.heap.objs.size 0 .none->h'.IsTupleIter s.heap.objs.size t 0->h'.objs.size=s.heap.objs.size+2->(∀b o,s.heap.get? b=some o->h'.get? b=some o)->Q (.ref (s.heap.objs.size+1)) { s with heap:=h' }) :
  wpAny (model prog w) A (call (.type "enumerate") [.ref t]) Q E s:=by
 obtain⟨⟨c,dct,dt,sl⟩,hl,hc,n,hd⟩:=ht
 simp only at hc hd
 subst hc hd
 refine callType_new F.called_enumerate (by decide) (F.typeCall_enumerate_1 _) (F.newCall_enumerate_1 _) (fun obj=>F.args_object_init_2 obj _) F.entry_enumerate_new (meets_enumT t its n dct sl) ⟨hl,?_⟩
 have hz:(s.heap.push { cls:=.type "tuple_iterator",data:=.fields #[.ref t,.int 0 0] }).objs.size=s.heap.objs.size+1:=by rw[Heap.size_push]
 have he:=Heap.get?_push_size (s.heap.push { cls:=.type "tuple_iterator",data:=.fields #[.ref t,.int 0 0] }) (o:={ cls:=.type "enumerate",data:=.fields #[.none,.bool false,.ref s.heap.objs.size,rawInt 0,.none,.none] }) rfl
 show _/\_
 rw[hz] at he ⊢
 refine⟨⟨_,he,rfl⟩,h _ he ⟨_,Heap.get?_push_of_some _ (Heap.get?_push_size _ rfl),rfl,rfl⟩ ?_ fun b o x=>Heap.get?_push_of_some _ (Heap.get?_push_of_some _ x)⟩
 show (Heap.push _ _).objs.size=_
 rw[Heap.size_push,hz]
end
end En
namespace Dl
open PySem L2 PySem.Spec PyProof.Rows
section
variable {X:Cx}{pins:List (Addr×Obj)}{σ:L2.St}{H:Hp}{s:Shared}{h':Heap}{t':Nat}{ch:List Addr}
theorem we (I:Inv X pins σ H s) (hch:∀b∈ch,cw X pins H b) (k:∀b o,b∉ch->s.heap.get? b=some o->h'.get? b=some o) {T:Addr}{vals:List Value}{xs:List V}(hT:s.heap.objs.size<=T) (ht:l6 h' T vals.toArray)
  (rv:aC xs vals) (hz:xs.length<=sizeLine):Inv X pins σ (upd H T (.tup xs)) { s with heap:=h',toks:=t' }:=by
 have nT:H T=none:=I.hok.fresh hT
 have ne:∀b o,s.heap.get? b=some o->b≠T:=fun b o e=>Nat.ne_of_lt (Nat.lt_of_lt_of_le (Heap.lt_size e) hT)
 have ne2:∀b o,H b=some o->b≠T:=fun b o e=>aM e nT
 have nch:∀b o,H b=some o->b∉ch:=fun b o e z=>by rw[(hch b z).1] at e;cases e
 refine I.step (g':=s.gens) (d':=s.drawn) (ch:=ch) (fun b hb=>?_) (fun b o _ _ hc e _=>k b o hc e) (fun b o _ _ hc e _=>⟨o.slots,k b o hc e⟩) (fun b o _ e n=>by rw[aB (ne b o e)];exact n)
  (fun b o hc e=>⟨o,k b o hc e⟩) (fun b ys e=>by rw[aB (ne2 b _ e)];exact e) (fun b o u e=>by rw[aB (ne2 b _ e)];exact e) (.kept (fun b u ⟨q,z⟩ e=>k b u (nch b _ z) e) fun b u e _=>by rw[aB (ne2 b _ e)];exact e) (fun m hm=>?_) (fun b u e=>?_) I.bare
 ·obtain⟨f0,f1,f2,f3,f4,f5⟩:=hch b hb
  exact⟨f3,f1,f4,f5⟩
 ·obtain⟨o,es,ep,ho,r⟩:=hm
  exact⟨o,es,ep,k _ o (fun z=>(hch _ z).2.1 rfl) ho,r⟩
 ·by_cases hb:b=T
  ·subst hb
   rw[aE] at e
   cases e
   exact⟨hz,vals,rv,ht⟩
  ·rw[aB hb] at e
   refine (I.hok b u e).stay (fun c v hc q=>k c v ?_ q) (fun _ q=>?_) fun c v q _=>?_
   ·rcases hc with z|z
    ·rw[z];exact nch b u e
    ·exact nch c _ z
   all_goals first
    | (rw[aB (ne2 _ _ q)];exact q)
    | exact q
theorem Kh (I:Inv X pins σ H s) {a b:Addr}{o:Obj}(hf:cw X pins H b) (h:X.K.lookup a=some o):a≠b:=by
 rintro rfl
 have hb:=I.ok.mod.kin a o h
 rcases hf.2.2.2.1 with z|z
 ·exact I.ok.noex a o hb z
 ·exact absurd (Nat.lt_of_lt_of_le (Heap.lt_size (I.ok.bs a o hb).1) z) (Nat.lt_irrefl _)
theorem Ij (I:Inv X pins σ H s) {a b:Addr}{xs:List V}(hf:cw X pins H b) (h:ib X.K H a xs):a≠b:=by
 rcases h with (h|⟨o,h⟩)|⟨o,its,n,h,_⟩
 ·exact aM h hf.1
 ·exact aM h hf.1
 ·exact Kh I hf h
theorem Ig (I:Inv X pins σ H s) {a b:Addr}{xs:List V}(hf:cw X pins H b) (h:i3 X.K H a xs):a≠b:=by
 rcases h with (h|⟨o,h⟩)|⟨o,its,n,h,_⟩
 ·exact aM h hf.1
 ·exact aM h hf.1
 ·exact Kh I hf h
end
noncomputable def L4 (sq:Hp->List V->Prop):It:=⟨fun i H=>∃xs x,sq H xs/\xs[i]?=some x,fun i H v H'=>∃T y,v=.ref T/\H T=none/\H'=upd H T (.tup [.int (i:Nat),y])/\∀xs,sq H xs->xs[i]?=some y,fun i H=>∃xs,sq H xs/\xs.length<=i⟩
noncomputable def bu (k:Nat):List D->List D
 | []=>[]
 | d::ds=>.tuple [.int (k:Nat),d]::bu (k+1) ds
theorem rT:∀ {ds:List D}{k i:Nat}{d:D},(bu k ds)[i]?=some d->∃x,ds[i]?=some x/\d=.tuple [.int ((k+i:Nat):Int),x]
 | [],k,i,d,h=>by simp[bu] at h
 | x::ds,k,0,d,h=>by simp[bu] at h;exact⟨x,rfl,h.symm⟩
 | x::ds,k,i+1,d,h=>by
  simp only[bu,List.getElem?_cons_succ] at h
  obtain⟨y,h1,h2⟩:=rT h
  refine⟨y,by simpa using h1,?_⟩
  rw[h2,show k+1+i=k+(i+1) by omega]
theorem jJ:∀ (ds:List D) (k:Nat),(bu k ds).length=ds.length
 | [],k=>rfl
 | x::ds,k=>by simp[bu,jJ ds (k+1)]
theorem zC {K:PySem.W.Frag}{HF:Hp}{sq:Hp->List V->Prop}{ds:List D}{vs:List V}(h:sq HF vs) (mo:∀H H',aW H H'->sq H vs->sq H' vs) (r:ar K HF ds vs):rS K (L4 sq) HF (bu 0 ds) where
 go:=fun i d H₁ HF₁ e s1 s2=>by
  obtain⟨x,hx,rfl⟩:=rT e
  rw[Nat.zero_add]
  obtain⟨v,hv,rv⟩:=r.getD hx
  have q:=mo _ _ s2 (mo _ _ s1 h)
  refine⟨⟨vs,v,q,hv⟩,fun y H₂ ⟨T,z,e1,hT,e2,hy⟩=>?_⟩
  have:=hy vs q
  rw[hv] at this
  cases this
  subst e1 e2
  exact⟨_,.new s2 hT,cE (s2.free hT) (ar.cons (by simp[Rep]) (ar.cons (rv.mono s1) ar.nil))⟩
 stop:=fun H₁ HF₁ s1 s2=>⟨vs,mo _ _ s2 (mo _ _ s1 h),by rw[jJ,r.length];exact Nat.le_refl _⟩
end Dl
namespace Dl
open PySem L2 PySem.Spec PyProof.Rows
noncomputable def LM (sq1 sq2:Hp->List V->Prop):It:=⟨fun i H=>∃xs ys x y,sq1 H xs/\sq2 H ys/\xs[i]?=some x/\ys[i]?=some y,
 fun i H v H'=>∃T x y,v=.ref T/\H T=none/\H'=upd H T (.tup [x,y])/\(∀xs,sq1 H xs->xs[i]?=some x)/\∀ys,sq2 H ys->ys[i]?=some y,
 fun i H=>∃xs ys,sq1 H xs/\sq2 H ys/\(xs.length<=i\/ys.length<=i)⟩
section
variable {X:Cx}{pins:List (Addr×Obj)}{σ:L2.St}{H:Hp}{s:Shared}{h':Heap}{t':Nat}{ch:List Addr}
theorem AD (I:Inv X pins σ H s) (hch:∀b∈ch,cw X pins H b) (k:∀b o,b∉ch->s.heap.get? b=some o->h'.get? b=some o):Inv X pins σ H { s with heap:=h',toks:=t' }:=by
 have nch:∀b o,H b=some o->b∉ch:=fun b o e z=>by rw[(hch b z).1] at e;cases e
 refine I.step (g':=s.gens) (d':=s.drawn) (ch:=ch) (fun b hb=>?_) (fun b o _ _ hc e _=>k b o hc e) (fun b o _ _ hc e _=>⟨o.slots,k b o hc e⟩) (fun b o _ e n=>n)
  (fun b o hc e=>⟨o,k b o hc e⟩) (fun b ys e=>e) (fun b o u e=>e) (.kept (fun b u ⟨q,z⟩ e=>k b u (nch b _ z) e) fun b u e _=>e) (fun m hm=>?_) (fun b u e=>?_) I.bare
 ·obtain⟨f0,f1,f2,f3,f4,f5⟩:=hch b hb
  exact⟨f3,f1,f4,f5⟩
 ·obtain⟨o,es,ep,ho,r⟩:=hm
  exact⟨o,es,ep,k _ o (fun z=>(hch _ z).2.1 rfl) ho,r⟩
 ·refine (I.hok b u e).stay (fun c v hc q=>k c v ?_ q) (fun _ q=>q) fun c v q _=>q
  rcases hc with z|z
  ·rw[z];exact nch b u e
  ·exact nch c _ z
end
structure ME (z TI TO i1 i2:Addr):Prop where
 a1:TI≠z
 a2:TO≠z
 a3:i1≠z
 a4:i2≠z
 a5:TI≠TO
 a6:TI≠i1
 a7:TI≠i2
 a8:TO≠i1
 a9:TO≠i2
 a0:i1≠i2
section
variable {X:Cx}{l l':Expr}{fs:Env->Option (List D)}{elts:List Expr}{k:Nat}{pos p tp:Pos}
noncomputable def gT:List D->List D->List D
 | x::xs,y::ys=>.tuple [x,y]::gT xs ys
 | _,_=>[]
theorem o3:∀ {xs ys:List D}{i:Nat}{d:D},(gT xs ys)[i]?=some d->∃x y,xs[i]?=some x/\ys[i]?=some y/\d=.tuple [x,y]
 | [],_,i,d,h=>by simp[gT] at h
 | _::_,[],i,d,h=>by simp[gT] at h
 | x::xs,y::ys,0,d,h=>by simp[gT] at h;exact⟨x,y,rfl,rfl,h.symm⟩
 | x::xs,y::ys,i+1,d,h=>by
  simp only[gT,List.getElem?_cons_succ] at h
  obtain⟨a,b,h1,h2,h3⟩:=o3 h
  exact⟨a,b,by simpa using h1,by simpa using h2,h3⟩
theorem lM:∀ (xs ys:List D),(gT xs ys).length=min xs.length ys.length
 | [],_=>by simp[gT]
 | _::_,[]=>by simp[gT]
 | x::xs,y::ys=>by simp[gT,lM xs ys]
theorem BY {K:PySem.W.Frag}{HF:Hp}{sq1 sq2:Hp->List V->Prop}{xs ys:List D}{vs us:List V}(h1:sq1 HF vs) (mo1:∀H H',aW H H'->sq1 H vs->sq1 H' vs) (h2:sq2 HF us) (mo2:∀H H',aW H H'->sq2 H us->sq2 H' us) (r1:ar K HF xs vs) (r2:ar K HF ys us) :
  rS K (LM sq1 sq2) HF (gT xs ys) where
 go:=fun i d H₁ HF₁ e s1 s2=>by
  obtain⟨x,y,hx,hy,rfl⟩:=o3 e
  obtain⟨v,hv,rv⟩:=r1.getD hx
  obtain⟨u,hu,ru⟩:=r2.getD hy
  have q1:=mo1 _ _ s2 (mo1 _ _ s1 h1)
  have q2:=mo2 _ _ s2 (mo2 _ _ s1 h2)
  refine⟨⟨vs,us,v,u,q1,q2,hv,hu⟩,fun w H₂ ⟨T,a,b,e1,hT,e2,ha,hb⟩=>?_⟩
  have ea:=ha vs q1
  have eb:=hb us q2
  rw[hv] at ea
  rw[hu] at eb
  cases ea
  cases eb
  subst e1 e2
  exact⟨_,.new s2 hT,cE (s2.free hT) (ar.cons (rv.mono s1) (ar.cons (ru.mono s1) ar.nil))⟩
 stop:=fun H₁ HF₁ s1 s2=>⟨vs,us,mo1 _ _ s2 (mo1 _ _ s1 h1),mo2 _ _ s2 (mo2 _ _ s1 h2),by rw[lM,r1.length,r2.length];omega⟩
end
end Dl
namespace Dl
open PySem L2 PySem.Spec PyProof.Rows
noncomputable def cut {α:Type}(xs:List α) (lo hi:Option Int):List α:=(xs.drop (HT.cA xs.length 0 lo)).take (HT.cA xs.length xs.length hi - HT.cA xs.length 0 lo)
theorem Ft {α:Type}(xs:List α) (lo hi:Option Int):(cut xs lo hi).length<=xs.length:=by
 unfold cut;rw[List.length_take,List.length_drop];omega
theorem oU {K:PySem.W.Frag}{H:Hp}{ds:List D}{vs:List V}(r:ar K H ds vs) (lo hi:Option Int):ar K H (cut ds lo hi) (cut vs lo hi):=by
 unfold cut;rw[r.length];exact (r.drop _).take _
section
variable {X:Cx}
theorem AM {prog:Program}{w:World}{A:Around}{E:Value->Shared->Prop}{s:Shared}{t sl:Addr}{its:Array Value}{vl vu:Value}{lo hi:Option Int}{Q:Value->Shared->Prop}(ht:IsTup s.heap t its) (hs:s.heap.IsSliceOf sl vl vu .none) (pl:IsPart vl lo) (pu:IsPart vu hi)
  (hw:HT.cA its.size 0 lo=0/\HT.cA its.size its.size hi=its.size) (h:Q (.ref t) s):wpAny (model prog w) A (getItem (.ref t) (.ref sl)) Q E s:=by
 obtain⟨os,hos,hcs,hds⟩:=id hs
 have hTs:s.TypeIs (.ref sl) "slice":=⟨os,hos,hcs⟩
 unfold getItem
 try with_reducible refine wpAny_holding ?_
 first|refine wpAny_bind (wpAny_pure ?_)|skip
 refine wpAny_bind (wpAny_sequenceKey ht.typeIs (by decide) (wpAny_bind (wpAny_callSpecial?_slot (name:=Str.ofString "__getitem__") ht.typeIs PyProof.Rows.slot_tuple_getitem (wpAny_call_entry PyProof.Rows.slot_tuple_getitem ht.typeIs entry_tuple_getitem ?_ (args_tuple_getitem _ _)))))
 refine wpAny_bind (m:=Builtin.Tuple.tupleItemsOf (.ref t)) (tupleItemsOf_ ht (wpAny_bind (wpAny_typeOf hTs ?_)))
 rw[if_pos (by decide)]
 refine wpAny_bind (HT.hJ hs pl pu ?_)
 show wpAny _ _ (if (((HT.cA its.size 0 lo:Nat):Int) == 0&&(1:Int) == 1&&(HT.cA its.size its.size hi - HT.cA its.size 0 lo) == its.size)=true then _ else _) _ _ s
 rw[hw.1,hw.2,if_pos (by simp)]
 unfold Builtin.Tuple.tupleIsExact
 refine wpAny_bind (wpAny_bind (wpAny_typeOf ht.typeIs (wpAny_pure ?_)))
 rw[if_pos (by decide)]
 first
  | exact wpAny_bind (wpAny_rule (wpAny_pure ⟨_,rfl,wpAny_pure h⟩))
  | exact wpAny_bind (wpAny_rule (wpAny_bind (wpAny_pure (wpAny_pure ⟨_,rfl,wpAny_pure h⟩))))
noncomputable def L6 (K:PySem.W.Frag):V->Option Int->Option Int->Hp->VK->Prop:=fun x lo hi H Q=>∃a xs,x=.ref a/\i3 K H a xs/\(cut xs lo hi=xs->Q (.ref a) H)/\∀p,H p=none->Q (.ref p) (upd H p (.tup (cut xs lo hi)))
theorem HM:Fk X (L6 X.K):=by
 intro pins s σ H x v vl vu lo hi sl Q I rx hs pl pu h
 obtain⟨a,xs,rfl,hx,q1,q2⟩:=h
 by_cases hw:HT.cA xs.length 0 lo=0/\HT.cA xs.length xs.length hi=xs.length
 ·cases rx
  obtain⟨its,r,ht,hz⟩:=I.tuple hx
  have hlen:its.toArray.size=xs.length:=by rw[List.size_toArray];exact r.length.symm
  refine⟨"tuple",_,PyProof.Rows.slot_tuple_getitem.lookup,ht.typeIs,AM ht hs pl pu (by rw[hlen];exact hw) ⟨.ref a,H,I,rfl,q1 ?_⟩⟩
  unfold cut
  rw[hw.1,hw.2,List.drop_zero,Nat.sub_zero,List.take_length]
 ·exact Ic pins s σ H (.ref a) v vl vu lo hi sl Q I rx hs pl pu ⟨a,xs,rfl,hx,hw,q2⟩
noncomputable def Jz (K:PySem.W.Frag):V->Option Int->Option Int->Hp->VK->Prop:=fun x lo hi H Q=>∃a xs,x=.ref a/\ib K H a xs/\∀p,H p=none->Q (.ref p) (upd H p (.lst (cut xs lo hi)))
theorem yn (lo hi:Option Int) (n:Nat):sliceBounds lo hi none n=(((HT.cA n 0 lo:Nat):Int),((HT.cA n n hi:Nat):Int),1):=by
 have h1:(1:Int) > 0:=by omega
 refine Prod.ext ?_ (Prod.ext ?_ rfl)
 ·cases lo with
  | none=>simp[sliceBounds,HT.cA]
  | some x =>
   by_cases h:x < 0
   ·simp only[sliceBounds,HT.cA,Option.getD_none,h1,if_true,if_pos h];omega
   ·simp only[sliceBounds,HT.cA,Option.getD_none,h1,if_true,if_neg h];omega
 ·cases hi with
  | none=>simp[sliceBounds,HT.cA]
  | some x =>
   by_cases h:x < 0
   ·simp only[sliceBounds,HT.cA,Option.getD_none,h1,if_true,if_pos h];omega
   ·simp only[sliceBounds,HT.cA,Option.getD_none,h1,if_true,if_neg h];omega
theorem zp:Fk X (Jz X.K):=by
 intro pins s σ H x v vl vu lo hi sl Q I rx hs pl pu h
 obtain⟨a,xs,rfl,hx,q⟩:=h
 cases rx
 obtain⟨its,r,p,hz⟩:=I.list hx
 have hlen:=r.length
 refine⟨"list",_,slot_list_getitem.lookup,p.isList.typeIs,wpAny_getItem_list_slice p.isList hs pl pu .none (by simp) ?_ (by rw[List.size_toArray];omega)⟩
 rw[PySem.W.kmk_pick_nat its.toArray (yn lo hi its.toArray.size)]
 have e:((its.toArray.toList.drop (HT.cA its.toArray.size 0 lo)).take (HT.cA its.toArray.size its.toArray.size hi - HT.cA its.toArray.size 0 lo))=cut its lo hi:=by unfold cut;simp
 rw[e]
 have rc:aC (cut xs lo hi) (cut its lo hi):=by unfold cut;rw[hlen];exact (r.drop _).take _
 exact⟨.ref s.heap.objs.size,_,I.lnew (t':=s.toks) rc (Nat.le_trans (Ft xs lo hi) hz),rfl,q _ I.fresh⟩
noncomputable def MJ (K:PySem.W.Frag) (f:Env->Option (Option Int)):TO:=fun σ H Q=>∃HF ρ o,aW HF H/\cG K HF ρ σ/\f ρ=some o/\∀H' HF',cq HF H HF' H'->Q o H'
noncomputable def DO (X:Cx) (e:Option Expr) (f:Env->Option (Option Int)):Prop:=PO X e (MJ X.K f)
noncomputable def fW:Env->Option (Option Int):=fun _=>some none
noncomputable def gI:D->Option Int|.int i=>some i|_=>none
noncomputable def pO (f:Env->Option D):Env->Option (Option Int):=fun ρ=>(f ρ).bind fun d=>(gI d).map some
theorem FR:DO X none fW:=fun pins s σ H Q I ⟨HF,ρ,o,sm,eo,hf,q⟩=>Ej pins s σ H Q I (by cases hf;exact q H HF (.refl sm))
theorem EE {e:Expr}{f:Env->Option D}(h:DE X e f):DO X (some e) (pO f):=fun pins s σ H Q I ⟨HF,ρ,o,sm,eo,hf,q⟩=>nO h pins s σ H Q I (by
 obtain⟨d,hd,hf⟩:=bs hf
 obtain⟨i,hi,rfl⟩:=map_some hf
 cases d<;>try cases hi
 exact⟨HF,ρ,_,sm,eo,hd,fun v H1 HF1 g1 r1=>⟨_,by simpa only[Rep] using r1,q H1 HF1 g1⟩⟩)
variable {a:Expr}{lo hi:Option Expr}{fa:Env->Option D}{fl fh:Env->Option (Option Int)}{pos p2:Pos}
noncomputable def fV {β:Type}(g:D->Option Int->Option Int->Option β) (fa:Env->Option D) (fl fh:Env->Option (Option Int)):Env->Option β:=fun ρ=>(fa ρ).bind fun x=>(fl ρ).bind fun l=>(fh ρ).bind fun h=>g x l h
end
end Dl
namespace Dl
open PySem L2 PySem.Spec PyProof.Rows
theorem vi {α β:Type}{f g:α->Option β}:∀ {l:List α},(∀x∈l,f x=g x)->l.filterMap f=l.filterMap g
 | [],_=>rfl
 | x::l,h=>by rw[List.filterMap_cons,List.filterMap_cons,h x List.mem_cons_self,vi fun y hy=>h y (List.mem_cons_of_mem _ hy)]
theorem DZ (xs:List Value):((List.range xs.length).filterMap fun (k:Nat)=>xs.toArray[(((xs.length:Nat):Int) - 1+(k:Int) * (-1)).toNat]?)=xs.reverse:=by
 have e:∀k∈List.range xs.length,xs.toArray[(((xs.length:Nat):Int) - 1+(k:Int) * (-1)).toNat]?=xs.reverse[k]?:=fun k hk=>by
  have hk':k < xs.length:=by simpa using hk
  have:(((xs.length:Nat):Int) - 1+(k:Int) * (-1)).toNat=xs.length - 1 - k:=by omega
  rw[this,List.getElem?_toArray,List.getElem?_reverse hk']
 rw[vi e]
 have:=xs.length_reverse
 apply List.ext_getElem?
 intro i
 have key:∀ (l:List Value),(List.range l.length).filterMap (fun (k:Nat)=>l[k]?)=l:=fun l=>by
  induction l with
  | nil=>rfl
  | cons x l ih =>
   rw[List.length_cons,List.range_succ_eq_map,List.filterMap_cons]
   simp only[List.getElem?_cons_zero]
   rw[List.filterMap_map]
   congr 1
 have k2:=key xs.reverse
 rw[List.length_reverse] at k2
 rw[k2]
theorem FC {prog:Program}{w:World}{A:Around}{E:Value->Shared->Prop}{s:Shared}{t sl:Addr}{its:List Value}{tk:Tok}{Q:Value->Shared->Prop}(ht:IsTup s.heap t its.toArray) (hs:s.heap.IsSliceOf sl .none .none (.int (-1) tk))
  (hz:its.length<=sizeLine) (h:Q (.ref s.heap.objs.size) { s with heap:=s.heap.push { cls:=.type "tuple",data:=.seq its.reverse.toArray } }):wpAny (model prog w) A (getItem (.ref t) (.ref sl)) Q E s:=by
 obtain⟨os,hos,hcs,hds⟩:=id hs
 have hTs:s.TypeIs (.ref sl) "slice":=⟨os,hos,hcs⟩
 unfold getItem
 try with_reducible refine wpAny_holding ?_
 first|refine wpAny_bind (wpAny_pure ?_)|skip
 refine wpAny_bind (wpAny_sequenceKey ht.typeIs (by decide) (wpAny_bind (wpAny_callSpecial?_slot (name:=Str.ofString "__getitem__") ht.typeIs PyProof.Rows.slot_tuple_getitem (wpAny_call_entry PyProof.Rows.slot_tuple_getitem ht.typeIs entry_tuple_getitem ?_ (args_tuple_getitem _ _)))))
 refine wpAny_bind (m:=Builtin.Tuple.tupleItemsOf (.ref t)) (tupleItemsOf_ ht (wpAny_bind (wpAny_typeOf hTs ?_)))
 rw[if_pos (by decide)]
 have hap:∀ {R:Int×Int×Nat->Shared->Prop},R (((its.length:Nat):Int) - 1,-1,its.length) s->wpAny (model prog w) A.in1 (Builtin.Slice.sliceApplied (.ref sl) (pure ((its.toArray.size:Nat):Int))) R E s:=fun {R} hR=>by
  unfold Builtin.Slice.sliceApplied Builtin.Slice.sliceFields
  refine wpAny_bind (wpAny_bind (wpAny_field hos hds (x:=.none) rfl (wpAny_bind (wpAny_field hos hds (x:=.none) rfl (wpAny_bind (wpAny_field hos hds (x:=.int (-1) tk) rfl (wpAny_pure ?_)))))))
  refine wpAny_bind (slicePart_int ?_)
  show wpAny _ _ (if ((-1:Int) == 0)=true then _ else _) _ _ s
  rw[if_neg (by decide)]
  refine wpAny_bind (slicePart_none (wpAny_bind (slicePart_none (wpAny_bind (wpAny_pure ?_)))))
  have e1:Builtin.Slice.sliceAdjust none none (-1) ((its.toArray.size:Nat):Int)=(((its.length:Nat):Int) - 1,-1):=by simp[Builtin.Slice.sliceAdjust]
  show wpAny _ _ (match Builtin.Slice.sliceAdjust none none (-1) ((its.toArray.size:Nat):Int) with|(lo,hi)=>pure (lo,(-1:Int),Builtin.Slice.slicePlaces lo hi (-1))) _ _ s
  rw[e1]
  have e2:Builtin.Slice.slicePlaces (((its.length:Nat):Int) - 1) (-1) (-1)=its.length:=by
   unfold Builtin.Slice.slicePlaces
   rw[if_neg (by decide)]
   simp only[Int.neg_neg,Int.ediv_one]
   split<;>omega
  show wpAny _ _ (pure (((its.length:Nat):Int) - 1,(-1:Int),Builtin.Slice.slicePlaces (((its.length:Nat):Int) - 1) (-1) (-1))) _ _ s
  rw[e2]
  exact wpAny_pure hR
 first
  | refine wpAny_bind (hap ?_)
  | refine wpAny_bind (wpAny_of_in1 (hap ?_))
 show wpAny _ _ (if ((((its.length:Nat):Int) - 1) == 0&&(-1:Int) == 1&&its.length == its.toArray.size)=true then _ else _) _ _ s
 rw[if_neg (by simp),DZ]
 have hz':sizeOk (.seq its.reverse.toArray):=by show its.reverse.toArray.size<=sizeLine;simpa using hz
 first
  | exact wpAny_bind (m:=Builtin.Tuple.tupleExact _) (wpAny_newObj_type (wpAny_pure ⟨_,rfl,wpAny_pure h⟩) hz')
  | exact wpAny_bind (m:=Builtin.Tuple.tupleExact _) (wpAny_newObj_type (wpAny_bind (wpAny_pure (wpAny_pure ⟨_,rfl,wpAny_pure h⟩))) hz')
  | exact wpAny_bind (wpAny_bind (m:=Builtin.Tuple.tupleExact _) (wpAny_newObj_type (wpAny_pure (wpAny_pure ⟨_,rfl,wpAny_pure h⟩)) hz'))
  | exact wpAny_bind (wpAny_bind (m:=Builtin.Tuple.tupleExact _) (wpAny_newObj_type (wpAny_pure ⟨_,rfl,wpAny_pure h⟩) hz'))
section
variable {X:Cx}{a:Expr}{fa:Env->Option D}{pos p2 p3 p4:Pos}{j:Nat}
theorem GW {ta:TE}(ha:PE X a ta):PE X (.Subscript a (.Slice none none (some (.UnaryOp .USub (.Constant (.int 1) j p4) p3)) p2) pos) (fun σ H Q=>ta σ H fun x H1=>∃b xs,x=.ref b/\i3 X.K H1 b xs/\∀p,H1 p=none->Q (.ref p) (upd H1 p (.tup xs.reverse))):=by
 intro pins s σ H Q I h
 refine Subscript_ (bS (ha pins s σ H _ I h) fun v s1 ⟨x,H1,I1,r1,b,xs,e,hq,q⟩=>?_)
 subst e
 cases r1
 refine wpAny_Slice ?_
 rw[evalPart_none]
 refine wpAny_pure (wpAny_pure ?_)
 have hst:=nO (X:=X) (CC (op:=.USub) wY (sr (X:=X) (i:=1) (j:=j) (pos:=p4)) (pos:=p3)) pins s1 σ H1 (fun o H'=>o=some (-1)/\H'=H1) I1 ⟨1,rfl,-1,rfl,rfl,rfl⟩
 refine bS hst fun vst s2 ⟨o,H2,I2,pst,e1,e2⟩=>?_
 subst e1 e2
 cases pst with
 | int _ tk =>
 obtain⟨its,r,ht,hz⟩:=I2.tuple hq
 have I4:Inv X pins σ H2 { s2 with heap:=s2.heap.push { cls:=.type "slice",data:=.fields #[.none,.none,.int (-1) tk] } }:=I2.kept (t':=s2.toks) fun b ob q=>Heap.get?_push_of_some _ q
 obtain⟨its',r',ht',_⟩:=I4.tuple hq
 refine tail_any (ops:=[.ref b,.ref s2.heap.objs.size]) ht'.typeIs PyProof.Rows.slot_tuple_getitem.lookup (FC ht' (Heap.IsSliceOf.new ..) (by rw[<- r'.length];exact hz) ?_) (by with_unfolding_all rfl)
 have hv:aC xs.reverse its'.reverse:=L2.aC.reverse r'
 exact⟨.ref _,_,I4.laid (t':=s2.toks) (o:=.tup xs.reverse) (fun b ob q=>Heap.get?_push_of_some _ q) (Nat.le_refl _) ⟨by rw[List.length_reverse];exact hz,_,hv,l6.new _ _⟩,rfl,q _ I4.fresh⟩
noncomputable def J7:D->Option D|.tuple ds=>some (.tuple ds.reverse)|_=>none
noncomputable def f1 (g:D->Option D) (f:Env->Option D):Env->Option D:=fun ρ=>(f ρ).bind g
theorem Jd (ha:DE X a fa):DE X (.Subscript a (.Slice none none (some (.UnaryOp .USub (.Constant (.int 1) j p4) p3)) p2) pos) (f1 J7 fa):=aP (GW ha) fun σ H Q ⟨HF,ρ,d,sm,eo,hf,q⟩=>by
 obtain⟨x,hx,hf⟩:=bs hf
 refine⟨HF,ρ,x,sm,eo,hx,fun v1 H1 HF1 g1 r1=>?_⟩
 cases x<;>try cases hf
 simp only[Rep] at r1
 obtain⟨b,vs,rfl,hs,rr⟩:=r1
 exact⟨b,vs,rfl,az g1.fh hs,fun p hp=>q _ _ _ (g1.trans (.new g1.fh hp)) (cE (g1.fh.free hp) rr.reverse)⟩
end
end Dl
namespace HT
open PySem PyProof.Rows
section
open PySem.SeqAt
open PySem.AutoSeq1 (wpAny_loadPart')
open PySem.MeetsSeq PySem.MeetsSeq2 PySem.MeetsSeq3
theorem De (A:Around) (s:Shared) (a:Int) (t:Tok) (c:Int) (u:Tok) (prog:Program) (w:World) (E:Value->Shared->Prop) (Q:Value->Shared->Prop) (h:Q (.bool (decide (c<=a))) s) :
  wpAny (model prog w) A (richCompare .GtE (.int a t) (.int c u)) Q E s :=
 (PyProof.Rows.ge_int h:wpAny (model prog w) A (compareOp .GtE (.int a t) (.int c u)) Q E s)
theorem qm (l b:Addr) (items items2:Array Value) (n n2:Nat) (dd dd2:Option Addr) (sl sl2:Array (Option Value)) (ns ms:List Int) (hi:IntsAre items.toList ns) (hj:IntsAre items2.toList ms) :
  Meets (Builtin.«tuple.__ge__» ⟨[.ref l,.ref b],[]⟩)
   (fun _ R s=>s.heap.get? l=some { cls:=.type "tuple",dict:=dd,data:=.seq items n,slots:=sl }/\s.heap.get? b=some { cls:=.type "tuple",dict:=dd2,data:=.seq items2 n2,slots:=sl2 } /\
    R (.ok (.ret (.bool (!lexLt ns ms)))) s) :=
 .of_wp fun prog w A R s h=>by
  obtain⟨hp,g,d,tk,os⟩:=s;obtain⟨hl,hb,h⟩:=h
  have f2:=AutoSeq1.sub_tuple_tuple
  have z1:items.size=ns.length:=by rw[<- hi.length];simp
  have z2:items2.size=ms.length:=by rw[<- hj.length];simp
  wp_walk using wpAny_loadPart' hl,wpAny_loadPart' hb,wpAny_forIn_list _ (fun rest b s'=>b.1=none/\s'=⟨hp,g,d,tk,os⟩/\∃ (vs ws:List Value) (ns' ms':List Int),rest=vs.zip ws /\
   IntsAre vs ns'/\IntsAre ws ms'/\ns'.length+items2.size=ms'.length+items.size/\R (.ok (.ret (.bool (!lexLt ns' ms')))) ⟨hp,g,d,tk,os⟩) _
  case turn =>
   rintro⟨y,x⟩ rest b s' ⟨hb',rfl,vs,ws,ns',ms',hz,hvi,hwi,hlen,hR⟩
   cases hvi with
   | nil=>rw[List.zip_nil_left] at hz;cases hz
   | cons a t hvi' =>
    cases hwi with
    | nil=>rw[List.zip_nil_right] at hz;cases hz
    | cons c u hwi' =>
     rw[List.zip_cons_cons] at hz
     injection hz with hyx hrest
     injection hyx with hy hx
     subst hy hx
     rw[dh] at hR
     simp only[List.length_cons] at hlen
     obtain⟨e,he,hiff⟩:=Cr A.in1 ⟨hp,g,d,tk,os⟩ a t c u
     refine wpAny_bind (he prog w _ _ ?_)
     cases e with
     | true =>
      rw[if_pos (hiff.mp rfl)] at hR
      wp_walk
      exact⟨rfl,rfl,_,_,_,_,hrest,hvi',hwi',by omega,hR⟩
     | false =>
      rw[if_neg (fun q=>absurd (hiff.mpr q) Bool.false_ne_true)] at hR
      have hri:=De A.in1 ⟨hp,g,d,tk,os⟩ a t c u prog w
      have e1:(!decide (a < c))=decide (c<=a):=by
       rw[<- decide_not]
       exact decide_eq_decide.mpr (by omega)
      rw[e1] at hR
      wp_walk using hri
      exact⟨_,rfl,hR⟩
  case fin =>
   rintro⟨b1,b2⟩ s' ⟨hb',rfl,vs,ws,ns',ms',hz,hvi,hwi,hlen,hR⟩
   simp only at hb'
   subst hb'
   have hv:lexLt ns' ms'=decide (items.size < items2.size):=by
    cases hvi with
    | nil =>
     cases hwi with
     | nil =>
      simp only[List.length_nil] at hlen
      rw[qf]
      exact (decide_eq_false (by omega)).symm
     | cons c u hw =>
      simp only[List.length_nil,List.length_cons] at hlen
      rw[oE]
      exact (decide_eq_true (by omega)).symm
    | cons a t hv =>
     cases hwi with
     | nil =>
      simp only[List.length_nil,List.length_cons] at hlen
      rw[og]
      exact (decide_eq_false (by omega)).symm
     | cons c u hw =>
      rw[List.zip_cons_cons] at hz
      cases hz
   have hv2:(!lexLt ns' ms')=decide (items.size >= items2.size):=by
    rw[hv,<- decide_not]
    exact decide_eq_decide.mpr (by omega)
   rw[hv2] at hR
   wp_walk
   exact⟨_,rfl,hR⟩
  case h =>
   exact⟨rfl,rfl,items.toList,items2.toList,ns,ms,rfl,hi,hj,by omega,h⟩
end
end HT
namespace Dl
open PySem L2 PySem.Spec PyProof.Rows
section
variable {X:Cx}
noncomputable def lP:D->Option (List Int)|.tuple ds=>intsOf ds|_=>none
theorem iU {x:D}{ns:List Int}(h:lP x=some ns):x=.tuple (ns.map PyData.int):=by
 cases x<;>try cases h
 rename_i xs
 have h:intsOf xs=some ns:=h
 rw[du h]
noncomputable def KM:D->D->Option Bool:=fun x y=>(lP x).bind fun ns=>(lP y).map fun ms=>!lexLt ns ms
theorem DH (hu:X.A.units < cLine):gS X (compareOp .GtE) (Ks X.K KM):=by
 intro pins s σ H v1 v2 u1 u2 Q I rx ry h
 obtain⟨HF,x,y,k,sm,r1,r2,hg,q⟩:=h
 obtain⟨ns,h1,hg⟩:=bs hg
 obtain⟨ms,h2,rfl⟩:=map_some hg
 rw[iU h1] at r1
 rw[iU h2] at r2
 have key:∀ {ns:List Int}{v:V}{u:Value},Rep X.K HF (.tuple (ns.map PyData.int)) v->RelV v u->∃a its,u=.ref a/\IsTup s.heap a its/\IntsAre its.toList ns:=fun {ns v u} r rv=>by
  have p:uY s.heap u ns:=by
   cases lD (X:=X) (us:=[u]) (vs:=[v]) (nss:=[ns]) I sm (ar.cons r ar.nil) (.cons rv .nil) with
   | cons p _=>exact p
  obtain⟨a,o,its,n,rfl,e1,e2,e3,e4⟩:=p.ex
  exact⟨a,its,rfl,⟨o,e1,e2,n,e3⟩,e4⟩
 obtain⟨a,its,rfl,⟨⟨cls,dd,data,sl⟩,ho,hc,n,hd⟩,i1⟩:=key r1 rx
 obtain⟨b,its2,rfl,⟨⟨cls2,dd2,data2,sl2⟩,ho2,hc2,n2,hd2⟩,i2⟩:=key r2 ry
 simp only at hc hd hc2 hd2
 subst hc hd hc2 hd2
 exact richCompare_meets_room (op:=.GtE) ⟨_,ho,rfl⟩ ⟨_,ho2,rfl⟩ PySem.F.slot_tuple_ge PySem.F.entry_tuple_ge (PySem.F.args_tuple_ge_2 _ _) (HT.qm a b its its2 n n2 dd dd2 sl sl2 ns ms i1 i2)
  ⟨ho,ho2,show Value.bool (!lexLt ns ms)≠Value.notImplemented/\EP X pins σ Q (.bool (!lexLt ns ms)) s from ⟨(fun x=>nomatch x),⟨.bl _,H,I,rfl,q⟩⟩⟩ hu
end
end Dl
namespace En
open PySem PyProof.Rows
open AutoSeq1 (wpAny_loadPart')
theorem noFill_tup:fillsNumberSlot (.type "tuple") "mul"=pure false:=PySem.fillsNumberSlot_seq (id:="tuple.__mul__") (r:=some (.builtin "tuple.__rmul__")) F.slot_tuple_mul.lookup (by decide +kernel) F.slot_tuple_rmul.lookup (by decide +kernel)
theorem repeat_tup:seqRepeat? (.type "tuple")=pure (some (.builtin "tuple.__mul__")):=by
 unfold seqRepeat?
 rw[PySem.seqSlot_of (T:="tuple") (name:="__mul__") (id:="tuple.__mul__") F.slot_tuple_mul.lookup (by decide +kernel),PySem.seqSlot_of (T:="tuple") (name:="__rmul__") (id:="tuple.__rmul__") F.slot_tuple_rmul.lookup (by decide +kernel)];rfl
theorem rmul_tup (a:Int) (t:Tok) (l:Addr) (its:Array Value) (n:Nat) (dd:Option Addr) (sl:Array (Option Value)) :
  Meets (Builtin.«int.__rmul__» ⟨[.int a t,.ref l],[]⟩) (fun _ R s=>s.heap.get? l=some { cls:=.type "tuple",dict:=dd,data:=.seq its n,slots:=sl }/\R (.ok (.ret Value.notImplemented)) s) :=
 .of_wp fun prog w A R s h=>by
  obtain⟨hp,g,d,tk,os⟩:=s;obtain⟨hl,h⟩:=h
  wp_walk
  exact⟨_,rfl,h⟩
end En
namespace En
open PySem PyProof.Rows
open AutoSeq1 (wpAny_loadPart')
theorem mulT_same (l:Addr) (its:Array Value) (n:Nat) (dd:Option Addr) (sl:Array (Option Value)) (k:Int) (t:Tok) (h1:¬ (decide (k < -(2 ^ 63))||decide (k >= 2 ^ 63))=true) (h2:(its.isEmpty||k == 1)=true) :
  Meets (Builtin.«tuple.__mul__» ⟨[.ref l,.int k t],[]⟩) (fun _ R s=>s.heap.get? l=some { cls:=.type "tuple",dict:=dd,data:=.seq its n,slots:=sl }/\R (.ok (.ret (.ref l))) s) :=
 .of_wp fun prog w A R s h=>by
  obtain⟨hp,g,d,tk,os⟩:=s;obtain⟨hl,h⟩:=h
  have f1:=AutoSeq1.idx_int
  wp_walk using wpAny_loadPart' hl
  rw[if_neg h1]
  wp_walk using wpAny_loadPart' hl
  exact⟨_,rfl,h⟩
theorem mulT_none (l:Addr) (its:Array Value) (n:Nat) (dd:Option Addr) (sl:Array (Option Value)) (k:Int) (t:Tok) (h1:¬ (decide (k < -(2 ^ 63))||decide (k >= 2 ^ 63))=true) (h2:¬ (its.isEmpty||k == 1)=true) (h3:(decide (k<=0)||its.isEmpty)=true) :
  Meets (Builtin.«tuple.__mul__» ⟨[.ref l,.int k t],[]⟩) (fun _ R s=>s.heap.get? l=some { cls:=.type "tuple",dict:=dd,data:=.seq its n,slots:=sl }/\R (.ok (.ret (.ref s.heap.objs.size))) { s with heap:=s.heap.push { cls:=.type "tuple",data:=.seq #[] } }) :=
 .of_wp fun prog w A R s h=>by
  obtain⟨hp,g,d,tk,os⟩:=s;obtain⟨hl,h⟩:=h
  have f1:=AutoSeq1.idx_int
  wp_walk using wpAny_loadPart' hl
  rw[if_neg h1]
  wp_walk using wpAny_loadPart' hl
  exact⟨_,rfl,h⟩
theorem mulT_many (l:Addr) (its:Array Value) (n:Nat) (dd:Option Addr) (sl:Array (Option Value)) (k:Int) (t:Tok) (h1:¬ (decide (k < -(2 ^ 63))||decide (k >= 2 ^ 63))=true) (h2:¬ (its.isEmpty||k == 1)=true) (h3:¬ (decide (k<=0)||its.isEmpty)=true)
  (h4:¬ ((its.size:Nat):Int) * k > (2 ^ 63 - 1) / 8) (h5:¬ Builtin.Tuple.tupleTooMany (((its.size:Nat):Int) * k)=true) (hz:((List.replicate k.toNat its).foldl (·++·) #[]).size<=sizeLine) :
  Meets (Builtin.«tuple.__mul__» ⟨[.ref l,.int k t],[]⟩) (fun _ R s=>s.heap.get? l=some { cls:=.type "tuple",dict:=dd,data:=.seq its n,slots:=sl }/\R (.ok (.ret (.ref s.heap.objs.size))) { s with heap:=s.heap.push { cls:=.type "tuple",data:=.seq ((List.replicate k.toNat its).foldl (·++·) #[]) } }) :=
 .of_wp fun prog w A R s h=>by
  obtain⟨hp,g,d,tk,os⟩:=s;obtain⟨hl,h⟩:=h
  have f1:=AutoSeq1.idx_int
  wp_walk using wpAny_loadPart' hl
  rw[if_neg h1]
  wp_walk using wpAny_loadPart' hl
  rw[if_neg h4]
  wp_walk using wpAny_loadPart' hl
  exact⟨_,rfl,h⟩
end En
namespace Dl
open PySem L2 PySem.Spec PyProof.Rows
section
variable {X:Cx}
noncomputable def GQ (K:PySem.W.Frag):R2:=fun x y H Q=>∃a k xs,x=.ref a/\y=.int k/\i3 K H a xs/\-(2 ^ 62)<=k/\k < 2 ^ 62/\xs.length * k.toNat<=sizeLine/\((List.replicate k.toNat xs).flatten=xs->Q (.ref a) H) /\
 ∀p,H p=none->Q (.ref p) (upd H p (.tup (List.replicate k.toNat xs).flatten))
theorem Ga:gS X (binaryOp .Mult) (GQ X.K):=by
 intro pins s σ H x y v u Q I rx ry h
 obtain⟨a,k,xs,rfl,rfl,hq,k1,k2,hz,q1,q2⟩:=h
 cases rx
 obtain⟨t,rfl⟩:=ry
 obtain⟨its,r,pl,hzx⟩:=I.tuple hq
 have hl:=r.length
 obtain⟨⟨cls,dd,data,sl⟩,ho,hc,n,hd⟩:=id pl
 simp only at hc hd
 subst hc hd
 have b1:¬ (decide (k < -(2 ^ 63))||decide (k >= 2 ^ 63))=true:=by
  simp only[Bool.or_eq_true,decide_eq_true_eq]
  omega
 refine wpAny_binaryOp_repeat_ref (T:="tuple") (U:="int") (by decide) ⟨_,ho,rfl⟩ (fun s'=>typeIs_int s' k t) En.noFill_tup F.fills_int_mul F.slot_int_rmul En.repeat_tup F.slot_int_index.lookup
  (call_meets F.slot_int_rmul (typeIs_int s k t) F.entry_int_rmul (F.args_int_rmul_2 _ _) (En.rmul_tup k t a its.toArray n dd sl) ⟨ho,rfl,⟨_,ho,rfl⟩,?_⟩)
 have hfl:∀m:Nat,List.foldl (fun x1 x2=>x1++x2) #[] (List.replicate m its.toArray)=(List.replicate m its).flatten.toArray:=fun m=>by
  have:=foldl_rep its m []
  rw[List.nil_append] at this
  exact this
 by_cases h2:(its.toArray.isEmpty||k == 1)=true
 ·refine call_meets F.slot_tuple_mul ⟨_,ho,rfl⟩ F.entry_tuple_mul (F.args_tuple_mul_2 _ _) (En.mulT_same a its.toArray n dd sl k t b1 h2) ⟨ho,⟨.ref a,H,I,rfl,q1 ?_⟩⟩
  rw[Bool.or_eq_true] at h2
  rcases h2 with h2|h2
  ·have:xs=[]:=by
    have e:its=[]:=by simpa using h2
    rw[e] at hl
    exact List.length_eq_zero_iff.mp hl
   rw[this]
   simp
  ·have:k=1:=eq_of_beq h2
   subst this
   simp
 ·by_cases h3:(decide (k<=0)||its.toArray.isEmpty)=true
  ·refine call_meets F.slot_tuple_mul ⟨_,ho,rfl⟩ F.entry_tuple_mul (F.args_tuple_mul_2 _ _) (En.mulT_none a its.toArray n dd sl k t b1 h2 h3) ⟨ho,?_⟩
   have hk0:k.toNat=0:=by
    simp only[Bool.or_eq_true,decide_eq_true_eq] at h3 h2
    rcases h3 with h3|h3
    ·omega
    ·exact absurd (.inl h3) h2
   have q3:=q2 s.heap.objs.size I.fresh
   rw[hk0] at q3
   exact⟨.ref s.heap.objs.size,_,I.laid (t':=s.toks) (o:=.tup []) (fun b ob q=>Heap.get?_push_of_some _ q) (Nat.le_refl _) ⟨Nat.zero_le _,[],.nil,l6.new _ _⟩,rfl,q3⟩
  ·have hm:its.length * k.toNat<=sizeLine:=by rw[<- hl];exact hz
   have hkn:(k.toNat:Int)=k:=by
    simp only[Bool.or_eq_true,decide_eq_true_eq,not_or] at h3
    omega
   have hmi:((its.toArray.size:Nat):Int) * k=((its.length * k.toNat:Nat):Int):=by rw[List.size_toArray,Int.natCast_mul,hkn]
   have hv:=L2.aC.rep r k.toNat
   have hlen2:(List.replicate k.toNat xs).flatten.length<=sizeLine:=by rw[len_rep,Nat.mul_comm];exact hz
   have hs8:(sizeLine:Nat)<=(2 ^ 63 - 1) / 8:=by decide
   have h4:¬ ((its.toArray.size:Nat):Int) * k > (2 ^ 63 - 1) / 8:=by rw[hmi];omega
   have h5:¬ Builtin.Tuple.tupleTooMany (((its.toArray.size:Nat):Int) * k)=true:=by
    unfold Builtin.Tuple.tupleTooMany
    rw[hmi]
    simp only[decide_eq_true_eq]
    omega
   refine call_meets F.slot_tuple_mul ⟨_,ho,rfl⟩ F.entry_tuple_mul (F.args_tuple_mul_2 _ _) (En.mulT_many a its.toArray n dd sl k t b1 h2 h3 h4 h5 (by rw[hfl,List.size_toArray,<- hv.length];exact hlen2)) ⟨ho,?_⟩
   rw[hfl]
   exact⟨.ref s.heap.objs.size,_,I.laid (t':=s.toks) (o:=.tup (List.replicate k.toNat xs).flatten) (fun b ob q=>Heap.get?_push_of_some _ q) (Nat.le_refl _) ⟨hlen2,_,hv,l6.new _ _⟩,rfl,q2 _ I.fresh⟩
noncomputable def uB:D->D->Option D
 | .tuple ds,.int k=>if uN k=true/\ds.length * k.toNat<=sizeLine then some (.tuple (List.replicate k.toNat ds).flatten) else none
 | _,_=>none
theorem lS {K:PySem.W.Frag}{HF:Hp}{ds:List D}{vs:List V}(r:ar K HF ds vs):∀k:Nat,ar K HF (List.replicate k ds).flatten (List.replicate k vs).flatten
 | 0=>ar.nil
 | k+1=>by rw[List.replicate_succ,List.replicate_succ,List.flatten_cons,List.flatten_cons];exact r.append (lS r k)
theorem D4 {K:PySem.W.Frag}:e8 K (GQ K) uB:=by
 intro HF H x y v1 v2 d Q sm r1 r2 hg q
 cases x<;>cases y<;>simp only[uB] at hg<;>try cases hg
 split at hg
 ·rename_i xs k hh
  cases hg
  simp only[Rep] at r1 r2
  obtain⟨a,vs,rfl,ha,ra⟩:=r1
  have ok:=hh.1
  unfold uN at ok
  rw[Bool.and_eq_true] at ok
  refine⟨a,k,vs,rfl,r2,az sm ha,of_decide_eq_true ok.1,of_decide_eq_true ok.2,by rw[ra.length];exact hh.2,fun e=>q _ H HF (.refl sm) ?_,fun p hp=>q _ _ _ (.new sm hp) (cE (sm.free hp) (lS ra _))⟩
  simp only[Rep]
  refine⟨a,vs,rfl,ha,?_⟩
  have:=lS ra k.toNat
  rw[e] at this
  exact this
 ·cases hg
end
end Dl
namespace En
open PySem PyProof.Rows
section
variable {prog:Program}{w:World}{A:Around}{E:Value->Shared->Prop}{s:Shared}
theorem call_setT {l:Addr}{its:Array Value}{ns:List Int}{Q:Value->Shared->Prop}(hh:A.handled=none) (hl:s.heap.IsTuple l its) (hi:IntsAre its.toList ns) (hb:its.size+1 < scanBound)
  (h:∀ (h':Heap) (tk:Nat),h'.SetOf (intKind prog w) s.heap.objs.size (fun k'=>(firstMet (fun i=>ns.getD i 0) its.size).any (· == k')) (firstMet (fun i=>ns.getD i 0) its.size).length->(∀b o,b < s.heap.objs.size->s.heap.get? b=some o->h'.get? b=some o)->Q (.ref s.heap.objs.size) { s with heap:=h',toks:=tk }) :
  wpAny (model prog w) A (call (.type "set") [.ref l]) Q E s:=by
 obtain⟨c,tl,hmro⟩:=F.called_set.mro
 have hmade:=F.called_set.made
 have hsub:=F.called_set.sub
 refine wpAny_call (codeAny_of_tree ?_);show wpAny _ _ (callAny (.type "set") _) _ _ _
 refine wpAny_pure ⟨Code.quiet_builtin _ (by decide +kernel),codeAny_builtin F.entry_type_call ?_⟩
 rw[Around.under_plain (weight_type_call_type "set" [.ref l] []) rfl]
 have h1:=F.called_set.notType
 have h2:=F.called_set.canCreate
 have hct:=F.typeCall_set_1 (.ref l)
 repeat (any_goals (first|assumption|wp_step))
 refine codeAny_mono (code_set_new_1 (.ref l) (E:=E) (Q₁:=fun obj s1=>∃led:Bool,obj=.ref s.heap.objs.size/\s1={ s with heap:=s.heap.push { cls:=.type "set",dict:=none,data:=.set #[] 0 (.fresh 0 0 led) } }) fun led=>⟨led,rfl,rfl⟩) fun r s1 hr=>?_
 cases r with
 | error e=>exact hr
 | ok fl =>
  cases fl with
  | ret obj =>
   obtain⟨led,rfl,rfl⟩:=hr
   have hS:(s.heap.push { cls:=.type "set",dict:=none,data:=.set #[] 0 (.fresh 0 0 led) }).get? s.heap.objs.size=some { cls:=.type "set",dict:=none,data:=.set #[] 0 (.fresh 0 0 led) }:=by exact Heap.get?_push_size _ rfl
   have hT:Shared.TypeIs { s with heap:=s.heap.push { cls:=.type "set",dict:=none,data:=.set #[] 0 (.fresh 0 0 led) } } (.ref s.heap.objs.size) "set":=⟨_,hS,rfl⟩
   have hli:=F.called_set.init.lookup
   have hbi:=F.called_set.init.bind (.ref s.heap.objs.size)
   repeat (any_goals (first|assumption|wp_step))
   refine codeAny_mono (codeAny_call_builtin (R:=wants (fun r s2=>r=.none/\∃h' tk,s2={ s with heap:=h',toks:=tk }/\h'.SetOf (intKind prog w) s.heap.objs.size (fun k'=>(firstMet (fun i=>ns.getD i 0) its.size).any (· == k')) (firstMet (fun i=>ns.getD i 0) its.size).length /\
     (∀b o,b < s.heap.objs.size->s.heap.get? b=some o->h'.get? b=some o)) E) F.called_set.init.plain F.entry_set_init (check_set_init_1 hT ?_)) fun r2 s2 hr2=>?_
   ·obtain⟨ol,hol,hcl,nl,hdl⟩:=hl
    obtain⟨ocls,odict,odata,oslots⟩:=ol
    simp only at hcl hdl
    subst hcl hdl
    have hol':(s.heap.push { cls:=.type "set",dict:=none,data:=.set #[] 0 (.fresh 0 0 led) }).get? l=some { cls:=.type "tuple",dict:=odict,data:=.seq its nl,slots:=oslots }:=Heap.get?_push_of_some _ hol
    have hsls:=F.sub_tuple_set
    have hslf:=F.sub_tuple_frozenset
    have hne:(Value.type "tuple" == Value.type "dict")=false:=by decide
    have hl1:(s.heap.push { cls:=.type "set",dict:=none,data:=.set #[] 0 (.fresh 0 0 led) }).IsTuple l its:=⟨_,hol',rfl,nl,rfl⟩
    unfold Builtin.«set.__init__» noKeywords Builtin.Frozenset.updateFrom
    generalize hPI:pyIter=PI
    wp_walk
    subst hPI
    refine wpAny_pyIter_tuple hl1 (wpAny_bind (wpAny_runValue ?_))
    have hlS:l < s.heap.objs.size:=Heap.lt_size hol
    have hh3:A.in1.in1.in1.handled=none:=by simp[hh]
    have hneI:l≠(s.heap.push { cls:=.type "set",dict:=none,data:=.set #[] 0 (.fresh 0 0 led) }).objs.size:=by rw[Heap.size_push];exact Nat.ne_of_lt (Nat.lt_succ_of_lt hlS)
    have hSf:s.heap.objs.size∉[(s.heap.push { cls:=.type "set",dict:=none,data:=.set #[] 0 (.fresh 0 0 led) }).objs.size,l]:=by
     rw[Heap.size_push];simp only[List.mem_cons,List.not_mem_nil,or_false,not_or]
     exact⟨Nat.ne_of_lt (Nat.lt_succ_self _),Nat.ne_of_gt hlS⟩
    have hval:∀ (i:Nat) (v:Value),its[i]?=some v->∃t,v=.int ((fun i=>ns.getD i 0) i) t:=fun i v hv=>IntsAre.int_at hi i v (by rw[Array.getElem?_toList];exact hv)
    refine codeAny_set_update_loopS ((Walks.tuple hh3 _ l hneI its).toS) s.heap.objs.size hSf (fun i=>ns.getD i 0) hval hb (its.size - 0) 0 _ (by omega) (Nat.zero_le _) ⟨⟨_,Heap.get?_push_size _ rfl,rfl,rfl⟩,?ht⟩ ?hS0 ?hR
    case ht=>exact⟨_,Heap.get?_push_of_some _ hol',rfl,nl,rfl⟩
    case hS0 =>
     have hget:((s.heap.push { cls:=.type "set",dict:=none,data:=.set #[] 0 (.fresh 0 0 led) }).push { cls:=.type "tuple_iterator",data:=.fields #[.ref l,.int 0 0] }).get? s.heap.objs.size=some { cls:=.type "set",dict:=none,data:=.set #[] 0 (.fresh 0 0 led) }:=by exact Heap.get?_push_of_some _ hS
     exact SetOf_congr ((setObjOf_fresh (knd:=intKind prog w) led).setOf hget (by unfold scanBound;omega)) (fun _=>rfl) rfl
    case hR =>
     intro s' hm hS'
     obtain⟨h',g',d',tk',os'⟩:=s'
     have eg:g'=s.gens:=hm.gens
     have ed:d'=s.drawn:=hm.drawn
     have eo:os'=s.os:=hm.os
     subst eg ed eo
     show wpAny _ _ _ _ _ _
     refine wpAny_pure ?_
     show wpAny _ _ (ret Value.none) _ _ _
     refine wpAny_pure ⟨rfl,h',tk',rfl,hS',fun b o hb' e=>?_⟩
     refine hm.heap b o ?_ (Heap.get?_push_of_some _ (Heap.get?_push_of_some _ e))
     simp only[List.mem_cons,List.not_mem_nil,or_false,not_or]
     exact⟨Nat.ne_of_lt hb',by rw[Heap.size_push];exact Nat.ne_of_lt (Nat.lt_succ_of_lt hb')⟩
   ·cases r2 with
    | error e=>exact hr2
    | ok fl2 =>
     cases fl2 with
     | ret r =>
      obtain⟨rfl,h',tk,rfl,hS',hk'⟩:=hr2
      repeat (any_goals (first|assumption|wp_step))
      exact h _ _ hS' hk'
     | _=>exact hr2.elim
  | _=>exact hr.elim
end
end En
namespace Dl
open PySem L2 PySem.Spec PyProof.Rows
noncomputable def many (ns:List Int):Nat:=(firstMet (fun i=>ns.getD i 0) ns.length).length
section
variable {X:Cx}{e:Expr}{f:Env->Option D}{pos p p' pos':Pos}
theorem zV (hc:X.calm=true):cR X (.type "set") (fun xs H Q=>∃ (a:Addr) (ns:List Int),xs=[.ref a]/\i3 X.K H a (ns.map V.int)/\ns.length+1 < scanBound/\∀q S,H q=none->Q (.ref q) (upd H q (.set S (many ns)))):=by
 intro pins s σ H xs us Q I r h
 obtain⟨a,ns,rfl,hq,hb,q⟩:=h
 obtain⟨u,rfl,rx⟩:=vals1 r
 cases rx
 obtain⟨its,rv,pl,hz⟩:=I.tuple hq
 have hi:IntsAre its.toArray.toList ns:=intsAre_of rv
 have hlen:its.toArray.size=ns.length:=by have:=rv.length;simpa using this.symm
 refine En.call_setT (I.ok.hd hc) (show s.heap.IsTuple a its.toArray from pl) hi (by rw[hlen];exact hb) fun h' tk hS hk=>?_
 rw[hlen] at hS
 exact⟨.ref s.heap.objs.size,_,I.laid (t':=tk) (fun b o e=>hk b o (Heap.lt_size e) e) (Nat.le_refl _) (show eE X.prog X.w _ h' _ (.set _ (many ns)) from hS),rfl,q _ _ I.fresh⟩
theorem Am:cR X (.builtin "len") (fun xs H Q=>∃ (a:Addr) (S:Int->Bool) (n:Nat),xs=[.ref a]/\H a=some (.set S n)/\Q (.int n) H):=by
 intro pins s σ H xs us Q I r h
 obtain⟨a,S,n,rfl,hq,q⟩:=h
 obtain⟨u,rfl,rx⟩:=vals1 r
 cases rx
 obtain⟨o,es,ep,t,ho,hex,hd,hel,hmem,hlt,hf,hn⟩:=(show s.heap.SetOf (intKind X.prog X.w) a S n from I.hok a _ hq)
 have hfit:((es.size:Nat):Int) < 2 ^ 63:=by unfold scanBound at hlt;omega
 refine call_len_set ho hex hd hf hfit ⟨.int n,H,I.tok _,⟨s.toks+1,by rw[hn]⟩,q⟩
noncomputable def jO:D->Option D:=fun d=>(lP d).bind fun ns=>if ns.length+1 < scanBound then some (.int (many ns)) else none
theorem Ab (hc:X.calm=true) (B:mL X "len" (.builtin "len")) (C:mL X "set" (.type "set")) (h:DE X e f) (he:starEach [e] X.env=(false,eval e X.env)::starEach [] X.env:=by rfl) :
  DE X (.Call (.Name "len" p) [.Call (.Name "set" p') [e] [] pos'] [] pos) (f1 jO f) :=
 aP (lT Am B.gl B.mg B.bt (cZ (mr (zV hc) C.gl C.mg C.bt (cZ h gH he) (by decide) (by decide) he rfl) gH) (by decide) (by decide) rfl rfl) fun σ H Q ⟨HF,ρ,d,sm,eo,hf,q⟩=>by
  obtain⟨x,hx,hf⟩:=bs hf
  obtain⟨ns,h1,hf⟩:=bs hf
  split at hf
  ·rename_i hb
   cases hf
   refine⟨HF,ρ,x,sm,eo,hx,fun v1 H1 HF1 g1 r1=>?_⟩
   rw[iU h1] at r1
   simp only[Rep] at r1
   obtain⟨a,vs,rfl,hs,rr⟩:=r1
   have key:∀ {ns:List Int}{ws:List V},ar X.K HF1 (ns.map PyData.int) ws->ws=ns.map V.int:=fun {ns}=>by
    induction ns with
    | nil=>exact fun h=>h.nil_inv
    | cons n ns ih =>
     intro ws h
     obtain⟨v,r,rfl,a,b⟩:=h.cons_inv
     simp only[Rep] at a
     rw[a,ih b]
     rfl
   have:=key rr
   subst this
   refine⟨a,ns,rfl,az g1.fh hs,hb,fun b S hb'=>⟨b,S,_,rfl,aE,q _ _ HF1 (g1.trans (.own g1.fh hb')) (by simp[Rep])⟩⟩
  ·cases hf
end
theorem ja (val:Nat->Int):∀i,(firstMet val i).length=i↔((List.range i).map val).Nodup
 | 0=>by simp[firstMet]
 | i+1=>by
  have hle:=firstMet_length_le val i
  rw[firstMet_succ,step_length,List.range_succ,List.map_append,List.nodup_append]
  have ha:=firstMet_any val i (val i)
  have ih:=ja val i
  constructor
  ·intro h
   by_cases hin:(firstMet val i).any (· == val i)=true
   ·rw[if_pos hin] at h;omega
   ·rw[if_neg hin] at h
    refine⟨ih.mp (by omega),by simp,fun a hm b hb z=>?_⟩
    have hb':b=val i:=by simpa using hb
    subst z hb'
    rw[ha] at hin
    exact hin (List.any_eq_true.mpr ⟨_,hm,by simp⟩)
  ·rintro⟨h1,_,h3⟩
   rw[if_neg ?_]
   ·rw[ih.mpr h1]
   ·rw[ha]
    intro hin
    obtain⟨x,hx,he⟩:=List.any_eq_true.mp hin
    have he':x=val i:=by simpa using he
    exact h3 x hx (val i) (by simp) he'
theorem w4 (ns:List Int):many ns=ns.length↔ns.Nodup:=by
 unfold many
 rw[ja]
 have:(List.range ns.length).map (fun i=>ns.getD i 0)=ns:=jq ns 0
 rw[this]
end Dl
namespace Dl
open PySem L2 PySem.Spec PyProof.Rows
section
variable {X:Cx}{N:List Str}{sc:Scope}{k:Nat}{a b c e e2:Expr}{es:List Expr}{fa fb fc f:Env->Option D}{fs:Env->Option (List D)}{pos p p' pos' p2 p3 p4 px apos cpos tp:Pos}{x y:Str}{HF₀ H₀:Hp}
theorem oe {K:PySem.W.Frag}{r r':R2}{g g':D->D->Option D}(h:e8 K r g) (h':e8 K r' g'):e8 K (fun x y H Q=>r x y H Q\/r' x y H Q) (fun x y=>(g x y).or (g' x y)):=by
 intro HF H x y v1 v2 d Q sm r1 r2 hg q
 cases e:g x y with
 | some d' =>
  have hg:(g x y).or (g' x y)=some d:=hg
  rw[e] at hg
  cases hg
  exact .inl (h HF H x y v1 v2 d Q sm r1 r2 e q)
 | none =>
  have hg:(g x y).or (g' x y)=some d:=hg
  rw[e] at hg
  exact .inr (h' HF H x y v1 v2 d Q sm r1 r2 hg q)
theorem zZ {K:PySem.W.Frag}:e8 K (D5 K) (fun x y=>(jv x y).map PyData.list):=by
 intro HF H x y v1 v2 d Q sm r1 r2 hg q
 obtain⟨zs,hg',rfl⟩:=map_some hg
 clear hg
 cases x<;>cases y<;>simp only[jv] at hg'<;>try cases hg'
 obtain⟨rfl,hz⟩:=dX hg'
 simp only[Rep] at r1 r2
 obtain⟨a,vs,rfl,ha,ra⟩:=r1
 obtain⟨b,us,rfl,hb,rb⟩:=r2
 refine⟨a,b,vs,us,rfl,rfl,sm.seq ha,sm.seq hb,by rw[ra.length,rb.length,<- List.length_append];exact hz,fun p hp=>q _ _ _ (.new sm hp) ?_⟩
 simp only[Rep]
 exact⟨p,_,rfl,.inl (.inl aE),(ra.append rb).mono (dF (sm.free hp))⟩
noncomputable def aA:D->D->Option D:=fun x y=>((uo (fun _ _=>True) fun i j=>.int (i+j)) x y).or ((EW x y).or ((jv x y).map PyData.list))
theorem Bk.add (C:Bk X N sc k) (ha:DE X a fa) (hb:DE X b fb):DE X (.BinOp a .Add b pos) (f2 aA fa fb):=vE (JE.or (zU.or uU)) (oe Dh (oe Ex zZ)) ha hb
noncomputable def gK:D->D->Option D:=uo (fun _ _=>True) fun i j=>.int (i - j)
theorem Bk.sub (C:Bk X N sc k) (ha:DE X a fa) (hb:DE X b fb):DE X (.BinOp a .Sub b pos) (f2 gK fa fb):=vE IS Dh ha hb
noncomputable def dU:D->D->Option D:=fun x y=>((uo pU fun i j=>.int (i * j)) x y).or (uB x y)
theorem Bk.mul (C:Bk X N sc k) (ha:DE X a fa) (hb:DE X b fb):DE X (.BinOp a .Mult b pos) (f2 dU fa fb):=vE (IT.or Ga) (oe D1 D4) ha hb
noncomputable def kU:D->D->Option D:=uo EA fun i j=>.int (i / j)
theorem Bk.div (C:Bk X N sc k) (ha:DE X a fa) (hb:DE X b fb):DE X (.BinOp a .FloorDiv b pos) (f2 kU fa fb):=vE F1 D1 ha hb
noncomputable def jZ:D->D->Option D:=uo (fun _ j=>0 < j) fun i j=>.int (i % j)
theorem Bk.mod (C:Bk X N sc k) (ha:DE X a fa) (hb:DE X b fb):DE X (.BinOp a .Mod b pos) (f2 jZ fa fb):=vE Hr D1 ha hb
noncomputable def zh:D->D->Option D:=uo (fun _ _=>True) fun i j=>.bool (decide (i < j))
noncomputable def yA:D->D->Option D:=uo (fun _ _=>True) fun i j=>.bool (decide (i<=j))
noncomputable def sS:D->D->Option D:=uo (fun _ _=>True) fun i j=>.bool (decide (j < i))
noncomputable def LV:D->D->Option D:=fun x y=>((uo (fun _ _=>True) fun i j=>.bool (decide (j<=i))) x y).or ((KM x y).map PyData.bool)
noncomputable def bI:D->D->Option D:=fun x y=>(Je x y).map PyData.bool
noncomputable def ie:D->D->Option D:=fun x y=>(Gb x y).map PyData.bool
noncomputable def HY:D->D->Option D:=fun x y=>(Lo x y).map PyData.bool
theorem Bk.u64 (C:Bk X N sc k):X.A.units+64 < cLine:=C.room.units
theorem Bk.u66 (C:Bk X N sc k):X.A.units+66 < cLine:=by have:=C.room.un;omega
theorem Bk.lt (C:Bk X N sc k) (ha:DE X a fa) (hb:DE X b fb):DE X (.Compare a [.Lt] [b] pos) (f2 zh fa fb):=iH D2 gL ha hb (cS _)
theorem Bk.le (C:Bk X N sc k) (ha:DE X a fa) (hb:DE X b fb):DE X (.Compare a [.LtE] [b] pos) (f2 yA fa fb):=iH Cb gL ha hb (cS _)
theorem Bk.gt (C:Bk X N sc k) (ha:DE X a fa) (hb:DE X b fb):DE X (.Compare a [.Gt] [b] pos) (f2 sS fa fb):=iH Gp gL ha hb (cS _)
theorem Bk.ge (C:Bk X N sc k) (ha:DE X a fa) (hb:DE X b fb):DE X (.Compare a [.GtE] [b] pos) (f2 LV fa fb):=iH (GJ.or (DH C.room.units0)) (oe gL jD) ha hb (cS _)
theorem Bk.eq (C:Bk X N sc k) (ha:DE X a fa) (hb:DE X b fb):DE X (.Compare a [.Eq] [b] pos) (f2 bI fa fb):=iH (BO C.u64) jD ha hb (cS _)
theorem Bk.ne (C:Bk X N sc k) (ha:DE X a fa) (hb:DE X b fb):DE X (.Compare a [.NotEq] [b] pos) (f2 ie fa fb):=iH (A7 C.u64) jD ha hb (cS _)
theorem Bk.isin (C:Bk X N sc k) (ha:DE X a fa) (hb:DE X b fb) (hm:behindInMarks .In b=false:=by rfl):DE X (.Compare a [.In] [b] pos) (f2 HY fa fb):=iH (BN C.u66) jD ha hb hm
theorem Bk.tlt (C:Bk X N sc k) (ha:DE X a fa) (hb:DE X b fb):DT X (.Compare a [.Lt] [b] pos) (fB (f2 zh fa fb)):=iA D2 gL ha hb (cS _)
theorem Bk.tle (C:Bk X N sc k) (ha:DE X a fa) (hb:DE X b fb):DT X (.Compare a [.LtE] [b] pos) (fB (f2 yA fa fb)):=iA Cb gL ha hb (cS _)
theorem Bk.tgt (C:Bk X N sc k) (ha:DE X a fa) (hb:DE X b fb):DT X (.Compare a [.Gt] [b] pos) (fB (f2 sS fa fb)):=iA Gp gL ha hb (cS _)
theorem Bk.tge (C:Bk X N sc k) (ha:DE X a fa) (hb:DE X b fb):DT X (.Compare a [.GtE] [b] pos) (fB (f2 LV fa fb)):=iA (GJ.or (DH C.room.units0)) (oe gL jD) ha hb (cS _)
theorem Bk.teq (C:Bk X N sc k) (ha:DE X a fa) (hb:DE X b fb):DT X (.Compare a [.Eq] [b] pos) (fB (f2 bI fa fb)):=iA (BO C.u64) jD ha hb (cS _)
theorem Bk.tne (C:Bk X N sc k) (ha:DE X a fa) (hb:DE X b fb):DT X (.Compare a [.NotEq] [b] pos) (fB (f2 ie fa fb)):=iA (A7 C.u64) jD ha hb (cS _)
theorem Bk.tin (C:Bk X N sc k) (ha:DE X a fa) (hb:DE X b fb) (hm:behindInMarks .In b=false:=by rfl):DT X (.Compare a [.In] [b] pos) (fB (f2 HY fa fb)):=iA (BN C.u66) jD ha hb hm
noncomputable def cQ:D->Option Int->Option Int->Option D|.tuple ds,lo,hi=>some (.tuple (cut ds lo hi))|.list ds,lo,hi=>some (.list (cut ds lo hi))|_,_,_=>none
theorem Bk.cut (C:Bk X N sc k) {lo hi:Option Expr}{fl fh:Env->Option (Option Int)}(ha:DE X a fa) (hl:DO X lo fl) (hh:DO X hi fh):DE X (.Subscript a (.Slice lo hi none p2) pos) (fV cQ fa fl fh):=aP (CD (HM.or zp) ha hl hh) fun σ H Q ⟨HF,ρ,d,sm,eo,hf,q⟩=>by
 obtain⟨x,hx,hf⟩:=bs hf
 obtain⟨l,hl,hf⟩:=bs hf
 obtain⟨u,hu,hf⟩:=bs hf
 refine⟨HF,ρ,x,sm,eo,hx,fun v1 H1 HF1 g1 r1=>⟨HF1,ρ,l,g1.fh,eo.mono g1.ff,hl,fun H2 HF2 g2=>⟨HF2,ρ,u,g2.fh,eo.mono (g1.ff.trans g2.ff),hu,fun H3 HF3 g3=>?_⟩⟩⟩
 have G:=(g1.trans g2).trans g3
 have r3:=r1.mono (g2.ff.trans g3.ff)
 cases x<;>try cases hf
 ·simp only[Rep] at r3
  obtain⟨b,vs,rfl,hs,rr⟩:=r3
  refine .inr ⟨b,vs,rfl,G.fh.seq hs,fun p hp=>q _ _ _ (G.trans (.new G.fh hp)) ?_⟩
  simp only[Rep]
  exact⟨p,_,rfl,.inl (.inl aE),(oU rr l u).mono (dF (G.fh.free hp))⟩
 ·simp only[Rep] at r3
  obtain⟨b,vs,rfl,hs,rr⟩:=r3
  refine .inl ⟨b,vs,rfl,az G.fh hs,fun e=>q _ H3 HF3 G ?_,fun p hp=>q _ _ _ (G.trans (.new G.fh hp)) (cE (G.fh.free hp) (oU rr l u))⟩
  simp only[Rep]
  refine⟨b,vs,rfl,hs,?_⟩
  have:=oU rr l u
  rw[e] at this
  exact this
noncomputable def Kd:D->Option D|.int i=>some (.int (-i))|_=>none
theorem Bk.neg (C:Bk X N sc k) (ha:DE X a fa):DE X (.UnaryOp .USub a pos) (f1 Kd fa):=aP (CC wY ha) fun σ H Q ⟨HF,ρ,d,sm,eo,hf,q⟩=>by
 obtain⟨x,hx,hf⟩:=bs hf
 refine⟨HF,ρ,x,sm,eo,hx,fun v1 H1 HF1 g1 r1=>?_⟩
 cases x<;>try cases hf
 exact⟨_,by simpa only[Rep] using r1,q _ H1 HF1 g1 (by simp[Rep])⟩
theorem CH:bootBuiltins "len"=some (.builtin "len"):=by decide +kernel
theorem qd:bootBuiltins "isinstance"=some (.builtin "isinstance"):=by decide +kernel
theorem Hh:bootBuiltins "int"=some (.type "int"):=by decide +kernel
theorem Dr:bootBuiltins "tuple"=some (.type "tuple"):=by decide +kernel
theorem Et:bootBuiltins "list"=some (.type "list"):=by decide +kernel
theorem vU:bootBuiltins "range"=some (.type "range"):=by decide +kernel
theorem IB:bootBuiltins "all"=some (.builtin "all"):=by decide +kernel
theorem GY:bootBuiltins "set"=some (.type "set"):=by decide +kernel
theorem mJ:bootBuiltins "sorted"=some (.builtin "sorted"):=by decide +kernel
theorem sQ:bootBuiltins "enumerate"=some (.type "enumerate"):=by decide +kernel
theorem Im:bootBuiltins "zip"=some (.type "zip"):=by decide +kernel
end
end Dl
namespace Dl
open PySem L2 PySem.Spec PyProof.Rows
noncomputable abbrev cf (f:Env->Option (List D)):Env->Option D:=fun ρ=>(f ρ).map PyData.list
noncomputable abbrev bG:List D->Option D:=fun ds=>(cT ds).map PyData.tuple
section
variable {X:Cx}{N:List Str}{sc:Scope}{k:Nat}
theorem Bk.locl (C:Bk X N sc k) {x:Str}(h:decide (sc.names.lookup x=some .local)=true):X.env.scope.names.lookup x=some .local:=by
 rcases C.tb x _ (of_decide_eq_true h) with q|⟨q,_⟩
 ·exact q
 ·cases q
noncomputable def isStar:Expr->Bool|.Starred ..=>true|_=>false
theorem bp {e:Expr}{es:List Expr}{env:PySem.Env}(h:isStar e=false):starEach (e::es) env=(false,eval e env)::starEach es env:=by
 cases e<;>first|rfl|cases h
theorem Jx {e:Expr}{es:List Expr}{f:Env->Option D}{g:Env->Option (List D)}(he:DE X e f) (hs:DA X es g) (h:isStar e=false:=by rfl):DA X (e::es) (aa f g):=yQ he hs (bp h)
theorem pG {elt:Expr}{gens:List Comprehension}{scope:Scope}{pos py:Pos}{x:Str}{line:Nat}{env:PySem.Env}:swapsWith (.ListComp elt gens scope pos) (some (.Name x py)) line env=pure (env.blockKind == .function&&env.kindOf x == some .local && py.line == pos.line
     &&!(scope.names.any fun (n,k)=>n == x&&(k == .local || k == .cell))):=rfl
theorem GT {env:PySem.Env}(h:env.scope.kind=.function):env.blockKind=.function:=by unfold PySem.Env.blockKind;rw[h];rfl
theorem Bk.swap (C:Bk X N sc k) {elt:Expr}{gens:List Comprehension}{scope:Scope}{pos py:Pos}{x:Str}{line:Nat}(h:decide (sc.names.lookup x=some .local)=true) (h2:(py.line == pos.line&&!(scope.names.any fun (n,k)=>n == x&&(k == .local || k == .cell)))=true) :
  swapsWith (.ListComp elt gens scope pos) (some (.Name x py)) line X.env=pure true:=by
 rw[pG,GT C.kd,show X.env.kindOf x=some .local from C.locl h]
 rw[Bool.and_assoc,h2]
 rfl
theorem Bk.noswap (C:Bk X N sc k) {elt:Expr}{gens:List Comprehension}{scope:Scope}{pos py:Pos}{x:Str}{line:Nat}(h:decide (sc.names.lookup x=some .cell)=true) :
  swapsWith (.ListComp elt gens scope pos) (some (.Name x py)) line X.env=pure false:=by
 have q:X.env.kindOf x=some .cell:=by
  rcases C.tb x _ (of_decide_eq_true h) with q|⟨q,_⟩
  ·exact q
  ·cases q
 rw[pG,q,GT C.kd]
 rfl
end
end Dl
namespace Dl
open PySem L2 PySem.Spec PyProof.Rows
section
variable {K:PySem.W.Frag}
structure aH (K:PySem.W.Frag) (x:Str) (st:Stmt) (ps:List Str):Prop where
 ex:∃ (f:Addr) (fd:FuncData),PySem.W.nsIn K mainGlobals x=some (some (.ref f))/\Cu K x x st f fd/\Binds K fd ps []
structure bx (K:PySem.W.Frag) (mg:Str->Option Value) (x:Str) (st:Stmt) (ps:List Str):Prop where
 ex:∃ (f:Addr) (fd:FuncData),mg x=some (.ref f)/\Cu K x x st f fd/\Binds K fd ps []
theorem aH.mg {h:Heap}{mg:Str->Option Value}{x:Str}{st:Stmt}{ps:List Str}(D:aH K x st ps) (X:K.In h) (G:h.Ns mainGlobals mg):bx K mg x st ps:=by
 obtain⟨f,fd,a,b,c⟩:=D.ex
 exact⟨f,fd,PySem.W.mg_of X G a,b,c⟩
noncomputable def gN (st:Stmt) (ps:List Str):Prop:=∀ (x qual:Str) (kV doc pm:Value) (an:Option Addr) (cdv ct:Value) (us:List Value),us.length=ps.length->bindArgs (PySem.W.fnOf x qual (gp st) (bT st) (aD st) .none kV doc pm an cdv ct) ⟨us,[]⟩=pure (ps.zip us)
theorem Ka {x:Str}{st:Stmt}{ps:List Str}{f:Addr}{oc:Value}{od an:Option Addr}{osl:Array (Option Value)}{kV doc pm cdv ct:Value}(hb:gN st ps) (a:PySem.W.nsIn K mainGlobals x=some (some (.ref f))) (l:K.lookup f=some ⟨oc,od,.func (PySem.W.fnOf x x (gp st) (bT st) (aD st) .none kV doc pm an cdv ct),osl⟩)
  (c:PySem.W.codeIn K cdv x=true) (k:PySem.W.keepIn K (.ref f)=true):aH K x st ps:=⟨f,_,a,tU (st:=st) l c k,(tU (st:=st) l c k).binds fun kV doc pm an cdv ct us h=>hb _ _ kV doc pm an cdv ct us h⟩
structure m8 (K:PySem.W.Frag) (x:Str) (st:Stmt) (ps:List Str):Prop where
 ex:∃ (f:Addr) (fd:FuncData) (c P:Addr),PySem.W.nsIn K mainGlobals x=some (some (.ref f))/\Cu K x x st f fd/\Binds K fd ps []/\fd.code=.ref c/\PySem.W.codeHdIn K c P=true
structure CP (K:PySem.W.Frag) (mg:Str->Option Value) (x:Str) (st:Stmt) (ps:List Str):Prop where
 ex:∃ (f:Addr) (fd:FuncData) (c P:Addr),mg x=some (.ref f)/\Cu K x x st f fd/\Binds K fd ps []/\fd.code=.ref c/\PySem.W.codeHdIn K c P=true
theorem m8.mg {h:Heap}{mg:Str->Option Value}{x:Str}{st:Stmt}{ps:List Str}(D:m8 K x st ps) (X:K.In h) (G:h.Ns mainGlobals mg):CP K mg x st ps:=by
 obtain⟨f,fd,c,P,a,b⟩:=D.ex
 exact⟨f,fd,c,P,PySem.W.mg_of X G a,b⟩
noncomputable def CY (K:PySem.W.Frag) (c:Addr):Addr:=match K.lookup c with
 | some ⟨_,_,.fields vs,_⟩=>(match (vs[11]?:Option Value) with|some (.ref P)=>P|_=>0)
 | _=>0
theorem KP {x:Str}{st:Stmt}{ps:List Str}{f c:Addr}{oc:Value}{od an:Option Addr}{osl:Array (Option Value)}{kV doc pm ct:Value}(hb:gN st ps) (a:PySem.W.nsIn K mainGlobals x=some (some (.ref f))) (l:K.lookup f=some ⟨oc,od,.func (PySem.W.fnOf x x (gp st) (bT st) (aD st) .none kV doc pm an (.ref c) ct),osl⟩)
  (cd:PySem.W.codeIn K (.ref c) x=true) (k:PySem.W.keepIn K (.ref f)=true) (hh:PySem.W.codeHdIn K c (CY K c)=true):m8 K x st ps:=⟨f,_,c,CY K c,a,tU (st:=st) l cd k,(tU (st:=st) l cd k).binds fun kV doc pm an cdv ct us h=>hb _ _ kV doc pm an cdv ct us h,rfl,hh⟩
theorem Gq {x:Str}{i:Int}{t:Tok}(h:PySem.W.nsIn K mainGlobals x=some (some (.int i t))):∃t,PySem.W.nsIn K mainGlobals x=some (some (.int i t)):=⟨t,h⟩
theorem HZ {K:PySem.W.Frag}(h0:PySem.W.nsIn K mainGlobals "len"=some none) (h1:PySem.W.nsIn K mainGlobals "isinstance"=some none) (h2:PySem.W.nsIn K mainGlobals "int"=some none) (h3:PySem.W.nsIn K mainGlobals "bool"=some none) (h4:PySem.W.nsIn K mainGlobals "tuple"=some none) (h5:PySem.W.nsIn K mainGlobals "list"=some none) (h6:PySem.W.nsIn K mainGlobals "range"=some none) (h7:PySem.W.nsIn K mainGlobals "all"=some none) (h8:PySem.W.nsIn K mainGlobals "any"=some none) (h9:PySem.W.nsIn K mainGlobals "set"=some none) (h10:PySem.W.nsIn K mainGlobals "sorted"=some none) (h11:PySem.W.nsIn K mainGlobals "enumerate"=some none) (h12:PySem.W.nsIn K mainGlobals "zip"=some none) (h13:PySem.W.nsIn K mainGlobals "sum"=some none) (h14:PySem.W.nsIn K mainGlobals "min"=some none) (h15:PySem.W.nsIn K mainGlobals "max"=some none) (h16:PySem.W.nsIn K mainGlobals "reversed"=some none):∀x∈cI,PySem.W.nsIn K mainGlobals x=some none:=by
 intro x hx
 simp only[cI,List.mem_cons,List.not_mem_nil,or_false] at hx
 rcases hx with rfl|rfl|rfl|rfl|rfl|rfl|rfl|rfl|rfl|rfl|rfl|rfl|rfl|rfl|rfl|rfl|rfl<;>assumption
theorem yr {K:PySem.W.Frag}{H:Hp}{a:Addr}{ns:List Int}{m:List D->Option D}(hS:ib K H a (ns.map V.int)) (hT:fw K H) (h:m [.list (ns.map PyData.int)]=some (.bool true)) {X:_}:JX K 1 m [.ref a] H (fun v _=>v=.bl true) X:=by
 refine⟨H,[.list (ns.map PyData.int)],.bool true,.refl _,hT,ar.cons ?_ ar.nil,rfl,h,fun v H' HF' G r=>by simpa only[Rep] using r⟩
 simp only[Rep]
 refine⟨a,_,rfl,hS,?_⟩
 clear h hS hT
 induction ns with
 | nil=>exact ar.nil
 | cons n ns ih=>exact ar.cons (by simp[Rep]) ih
end
end Dl
namespace Dl
open PySem L2 PySem.Spec PyProof.Rows
end Dl
namespace Dl
open PySem L2 PySem.Spec PyProof.Rows
theorem LI {X:Cx}{e:Expr}{es:List Expr}{f:Env->Option D}{g:Env->Option (List D)}(h:isStar e=false) (he:DE X e f) (hs:DA X es g):DA X (e::es) (aa f g):=Jx he hs h
end Dl
namespace Dl
open PySem L2 PySem.Spec PyProof.Rows
section
variable {X:Cx}{N:List Str}{sc:Scope}{k:Nat}{HF₀ H₀:Hp}{e c:Expr}{es:List Expr}{fs:Env->Option (List D)}{pos p:Pos}
noncomputable def J9:ai->Option Out:=fun _=>none
theorem J2 {st:Stmt}:DS X HF₀ H₀ st J9:=fun pins s σ H E I ⟨HF,ρ,o,S,hg,q⟩=>by cases hg
noncomputable def i4 (f:Env->Option D):ai->Option Out:=fun ρ=>(f (bc ρ)).map fun _=>.nx ρ
theorem E7 {f:Env->Option D}(hs:swapsWith e none pos.line X.env=pure false) (h:DE X e f):DS X HF₀ H₀ (.Expr e pos) (i4 f):=dE (nM h hs) fun E σ H ⟨HF,ρ,o,S,hg,q⟩=>by
 obtain⟨d,h,rfl⟩:=map_some hg
 exact⟨H,bc ρ,d,.refl _,S.all,h,fun v H' HF' G r=>q σ H' HF (S.step G.hh) (.refl _)⟩
noncomputable def Ee (t:Env->Option Bool) (gb:ai->Option Out):Nat->ai->Option Out
 | 0,_=>none
 | n+1,ρ=>(t (bc ρ)).bind fun b=>if b=true then (gb ρ).bind fun|.nx ρ'=>Ee t gb n ρ'|.rt d=>some (.rt d) else some (.nx ρ)
theorem Bf (n:Nat) {body:List Stmt}{t:Env->Option Bool}{gb:ai->Option Out}(hp:PassesOwn (model X.prog X.w) X.A X.env X.xe) (hc:DT X c t) (hb:A5 X HF₀ H₀ body gb):DS X HF₀ H₀ (.While c body [] pos) (Ee t gb n) :=
 dE (Bz hp hc hb) fun E σ H ⟨HF,ρ,o,S,hg,q⟩=>by
  refine⟨fun m σ' H'=>∃HF' ρ',j3 X.K HF₀ H₀ HF' H' ρ' σ'/\aW HF HF'/\Ee t gb m ρ'=some o,⟨n,HF,ρ,S,.refl _,hg⟩,?_⟩
  rintro m σ' H' ⟨HF',ρ',S',s',hf⟩
  cases m with
  | zero=>cases hf
  | succ m =>
   unfold Ee at hf
   obtain⟨b,hb,hf⟩:=bs hf
   refine⟨H',bc ρ',b,.refl _,S'.all,hb,fun H1 HF1 G=>?_⟩
   cases b with
   | false =>
    rw[if_neg Bool.false_ne_true] at hf ⊢
    cases hf
    exact q σ' H1 HF' (S'.step G.hh) s'
   | true =>
    rw[if_pos rfl] at hf ⊢
    obtain⟨o1,h2,hf⟩:=bs hf
    refine⟨fun σ2 H3=>∃HF3 ρ3,j3 X.K HF₀ H₀ HF3 H3 ρ3 σ2/\aW HF HF3/\Ee t gb m ρ3=some o,fun σ2 H3 ⟨HF3,ρ3,a1,a2,a3⟩=>⟨m,Nat.lt_succ_self _,HF3,ρ3,a1,a2,a3⟩,HF',ρ',o1,S'.step G.hh,h2,?_⟩
    cases o1 with
    | nx ρ2=>exact fun σ4 H4 HF4 S4 s4=>⟨HF4,ρ2,S4,s'.trans s4,hf⟩
    | rt d=>cases hf;exact q
noncomputable def wB:List D->Option D
 | [.int a,.int b]=>some (.int (min a b))
 | [.int a,.int b,.int c]=>some (.int (min (min a b) c))
 | _=>none
theorem C8 (hc:X.calm=true):cR X (.builtin "min") (fun xs H Q=>(∃a b:Int,xs=[.int a,.int b]/\Q (.int (min a b)) H)\/(∃a b c:Int,xs=[.int a,.int b,.int c]/\Q (.int (min (min a b) c)) H)):=by
 intro pins s σ H xs us Q I r h
 have hh:X.A.handled=none:=I.ok.hd hc
 rcases h with ⟨a,b,rfl,q⟩|⟨a,b,c,rfl,q⟩
 ·cases r with
  | cons r1 r =>
   cases r with
   | cons r2 r =>
    cases r
    obtain⟨t,rfl⟩:=r1
    obtain⟨u,rfl⟩:=r2
    refine min_two_ints hh fun h' tk kp=>⟨.int (min a b),H,I.kept (t':=tk) kp,?_,q⟩
    by_cases h:b < a
    ·rw[if_pos h,show min a b=b by omega];exact⟨_,rfl⟩
    ·rw[if_neg h,show min a b=a by omega];exact⟨_,rfl⟩
 ·cases r with
  | cons r1 r =>
   cases r with
   | cons r2 r =>
    cases r with
    | cons r3 r =>
     cases r
     obtain⟨t,rfl⟩:=r1
     obtain⟨u,rfl⟩:=r2
     obtain⟨x,rfl⟩:=r3
     refine min_three_ints hh fun h' tk kp=>⟨.int (min (min a b) c),H,I.kept (t':=tk) kp,?_,q⟩
     by_cases h:b < a
     ·rw[if_pos h]
      by_cases h2:c < b
      ·rw[if_pos h2,show min (min a b) c=c by omega];exact⟨_,rfl⟩
      ·rw[if_neg h2,show min (min a b) c=b by omega];exact⟨_,rfl⟩
     ·rw[if_neg h]
      by_cases h2:c < a
      ·rw[if_pos h2,show min (min a b) c=c by omega];exact⟨_,rfl⟩
      ·rw[if_neg h2,show min (min a b) c=a by omega];exact⟨_,rfl⟩
theorem wF {K:PySem.W.Frag}{H:Hp}{d:D}{v:V}(r:Rep K H d v):∀ {ds:List D}{vs:List V}(j:Nat),ar K H ds vs->ar K H (ds.set j d) (vs.set j v)
 | [],vs,j,h=>by rw[h.nil_inv];exact ar.nil
 | x::ds,vs,j,h=>by
  obtain⟨u,us,rfl,a,b⟩:=h.cons_inv
  cases j with
  | zero=>exact ar.cons r b
  | succ j=>exact ar.cons a (wF r j b)
noncomputable def yg (i:Nat) (fz:List Nat) (fk f:Env->Option D):ai->Option Out:=fun ρ=>(j9 fz f ρ).bind fun p=>(fk (bc p.2)).bind fun kd=>match kd with
 | .int k=>nu i (fun ds=>(Eb ds.length k).map fun j=>ds.set j p.1) p.2
 | _=>none
theorem C2 (i:Nat) (fz:List Nat) {x:Str}{e2:Expr}{px spos:Pos}{fk f:Env->Option D}(hN:X.N[i]?=some x) (hv:GP X.env.scope x) (hk:DE X e fk) (h:DE X e2 f) (hd:(x == ("__debug__":Str))=false:=by decide) (hcd:(x == ("__classdict__":Str))=false:=by decide)
  (ha:∀v,assign (.Subscript (.Name x px) e spos) X.env v=(do
   let ov <- holding [v] (eval (.Name x px) X.env)
   let iv <- holding [v,ov] (eval e X.env)
   standAt spos
   holding [v,ov,iv] (setItem ov iv v)
   release [v,ov,iv] []):=by intro _;rfl)
  (hs:swapsWithSole [.Subscript (.Name x px) e spos] e2 pos.line X.env=pure false:=by rfl) (hw:swappedStores [.Subscript (.Name x px) e spos] e2 X.env=pure none:=by rfl)
  (h1:(assignEach [.Subscript (.Name x px) e spos] X.env).map (·.2)=[assign (.Subscript (.Name x px) e spos) X.env]:=by rfl):DS X HF₀ H₀ (.Assign [.Subscript (.Name x px) e spos] e2 pos) (yg i fz fk f) :=
 dE (Jh h (IY (oY hN hv hd hcd) hk set_list ha) hs hw h1) fun E σ H ⟨HF,ρ,o,S,hg,q⟩=>by
  obtain⟨⟨d,ρ'⟩,h1,hg⟩:=bs hg
  obtain⟨kd,h2,hg⟩:=bs hg
  cases kd<;>try cases hg
  rename_i k
  obtain⟨ds,es,h3,h4,rfl⟩:=jL hg
  obtain⟨j,hj,rfl⟩:=map_some h4
  refine mm S h1 fun v H1 HF1 s1 S1 s2 r=>?_
  obtain⟨a,vs,e1,e2,e3,e5,e4⟩:=S1.own i ds h3
  refine⟨.ref a,e1,H1,bc ρ',.int k,.refl _,S1.all,h2,fun kv H2 HF2 G rk=>?_⟩
  simp only[Rep] at rk
  have S2:=S1.step G.hh
  obtain⟨a',vs',f1,f2,f3,f5,f4⟩:=S2.own i ds h3
  rw[e1] at f1;cases f1
  exact⟨a,vs',k,j,rfl,rk,f2,by rw[f4.length];exact hj,q σ _ HF1 (S2.mut h3 e1 f2 (wF r j f4)) s1⟩
end
end Dl
namespace Dl
open PySem L2 PySem.Spec PyProof.Rows
section
variable {X:Cx}{N:List Str}{sc:Scope}{k:Nat}{HF₀ H₀:Hp}{a b e c:Expr}{es:List Expr}{fa fb:Env->Option D}{fs:Env->Option (List D)}{pos p:Pos}
noncomputable def J8:D->Bool|.none=>true|_=>false
theorem nJ {K:PySem.W.Frag}{HF:Hp}{d:D}{v:V}(r:Rep K HF d v):decide (v=.non)=J8 d:=by
 cases d<;>simp only[Rep] at r<;>first
  | (subst r;rfl)
  | (obtain⟨a,vs,rfl,_⟩:=r;rfl)
  | exact r.elim
noncomputable def i6:D->D->Option D:=fun x y=>if J8 y=true then some (.bool (J8 x)) else none
noncomputable def mX:D->D->Option D:=fun x y=>if J8 y=true then some (.bool (!J8 x)) else none
theorem yY {K:PySem.W.Frag}:e8 K (fun x y H Q=>y=.non/\Q (.bl (decide (x=.non))) H) i6:=by
 intro HF H x y v1 v2 d Q sm r1 r2 hg q
 unfold i6 at hg
 split at hg
 ·rename_i h
  cases hg
  have h2:=nJ r2
  rw[h,decide_eq_true_eq] at h2
  refine⟨h2,?_⟩
  rw[nJ r1]
  exact q _ H HF (.refl sm) (by simp[Rep])
 ·cases hg
theorem wa {K:PySem.W.Frag}:e8 K (fun x y H Q=>y=.non/\Q (.bl (!decide (x=.non))) H) mX:=by
 intro HF H x y v1 v2 d Q sm r1 r2 hg q
 unfold mX at hg
 split at hg
 ·rename_i h
  cases hg
  have h2:=nJ r2
  rw[h,decide_eq_true_eq] at h2
  refine⟨h2,?_⟩
  rw[nJ r1]
  exact q _ H HF (.refl sm) (by simp[Rep])
 ·cases hg
theorem Bk.is0 (C:Bk X N sc k) (ha:DE X a fa) (hb:DE X b fb):DE X (.Compare a [.Is] [b] pos) (f2 i6 fa fb):=iH CU yY ha hb (cS _)
theorem Bk.not0 (C:Bk X N sc k) (ha:DE X a fa) (hb:DE X b fb):DE X (.Compare a [.IsNot] [b] pos) (f2 mX fa fb):=iH zc wa ha hb (cS _)
theorem Bk.tis0 (C:Bk X N sc k) (ha:DE X a fa) (hb:DE X b fb):DT X (.Compare a [.Is] [b] pos) (fB (f2 i6 fa fb)):=iA CU yY ha hb (cS _)
theorem Bk.tnot0 (C:Bk X N sc k) (ha:DE X a fa) (hb:DE X b fb):DT X (.Compare a [.IsNot] [b] pos) (fB (f2 mX fa fb)):=iA zc wa ha hb (cS _)
theorem IE (hc:X.calm=true) (B:mL X "min" (.builtin "min")) (he:starEach (e::es) X.env=(false,eval e X.env)::starEach es X.env) (hpl:(backTo pos (starEach es X.env)).any (·.1)=false) (ha:DA X (e::es) fs):DE X (.Call (.Name "min" p) (e::es) [] pos) (bb wB fs) :=
 jf (C8 hc) (by
  intro HF H ds vs d Q sm r hg q
  unfold wB at hg
  split at hg
  ·cases hg
   obtain⟨v1,r1,rfl,a1,b1⟩:=r.cons_inv
   obtain⟨v2,r2,rfl,a2,b2⟩:=b1.cons_inv
   rw[b2.nil_inv]
   simp only[Rep] at a1 a2
   exact .inl ⟨_,_,by rw[a1,a2],q _ H HF (.refl sm) (by simp[Rep])⟩
  ·cases hg
   obtain⟨v1,r1,rfl,a1,b1⟩:=r.cons_inv
   obtain⟨v2,r2,rfl,a2,b2⟩:=b1.cons_inv
   obtain⟨v3,r3,rfl,a3,b3⟩:=b2.cons_inv
   rw[b3.nil_inv]
   simp only[Rep] at a1 a2 a3
   exact .inr ⟨_,_,_,by rw[a1,a2,a3],q _ H HF (.refl sm) (by simp[Rep])⟩
  ·cases hg) B ha (by decide) (by decide) he hpl
end
end Dl
namespace Dl
open PySem L2 PySem.Spec PyProof.Rows
section
variable {X:Cx}{a b e c:Expr}{es:List Expr}{fa fb:Env->Option D}{fl fs:Env->Option (List D)}{pos p:Pos}
noncomputable def wb (ds:List D):D->Option (List D)
 | .int k=>if uN k=true/\ds.length * k.toNat<=sizeLine then some (List.replicate k.toNat ds).flatten else none
 | _=>none
noncomputable def mO (fl:Env->Option (List D)) (fb:Env->Option D):Env->Option (List D):=fun ρ=>(fl ρ).bind fun ds=>(fb ρ).bind (wb ds)
theorem Ht (ha:DF X a fl) (hb:DE X b fb):DF X (.BinOp a .Mult b pos) (mO fl fb):=aP (BP Hq ha hb) fun σ H Q ⟨HF,ρ,d,sm,eo,hf,q⟩=>by
 obtain⟨ds,hx,hf⟩:=bs hf
 obtain⟨y,hy,hg⟩:=bs hf
 refine⟨HF,ρ,ds,sm,eo,hx,fun l vs H1 HF1 g1 h0 hn h1 r1=>⟨HF1,ρ,y,g1.fh,eo.mono g1.ff,hy,fun v2 H2 HF2 g2 r2=>?_⟩⟩
 cases y<;>try cases hg
 rename_i k
 have hg:(if uN k=true/\ds.length * k.toNat<=sizeLine then some (List.replicate k.toNat ds).flatten else none)=some d:=hg
 split at hg
 ·rename_i hz
  cases hg
  simp only[Rep] at r2
  have r1:=r1.mono g2.ff
  have G:=g1.trans g2
  have ok:=hz.1
  simp only[uN,Bool.and_eq_true,decide_eq_true_eq] at ok
  exact⟨l,k,vs,rfl,r2,g2.hh _ _ h1,by omega,by omega,by rw[r1.length];exact hz.2,fun p hp=>q p _ _ HF2 (G.trans (.own G.fh hp)) (G.hh.free hp) (G.fh.free hp) aE (lS r1 _)⟩
 ·cases hg
theorem xi (hc:X.calm=true):cR X (.builtin "any") (fun xs H Q=>∃ (a:Addr) (bs:List Bool),xs=[.ref a]/\ib X.K H a (bs.map V.bl)/\Q (.bl (bs.any id)) H):=by
 intro pins s σ H xs us Q I r h
 obtain⟨a,bs,rfl,hq,q⟩:=h
 obtain⟨u,rfl,rx⟩:=vals1 r
 cases rx
 obtain⟨its,rv,pl,hz⟩:=I.list hq
 have hv:=kn rv
 subst hv
 have hh:X.A.in1.handled=none:=I.ok.hd hc
 refine call_any_walk (wpAny_pyIter_list pl.isList ?_)
 obtain⟨o,ho,hcl,n,hd⟩:=pl.isList
 have hne:a≠s.heap.objs.size:=Nat.ne_of_lt (Heap.lt_size ho)
 refine⟨_,_,_,_,_,_,fun i=>bs.getD i false,rfl,Walks.list hh s.heap.objs.size a hne (bs.map Value.bool).toArray,⟨⟨_,Heap.get?_push_size _ rfl,rfl,rfl⟩,pl.isList.push _⟩,fun i v s' Q' E' hP hQ=>?_,fun h' tk kp=>?_⟩
 ·have e:v=Value.bool (bs.getD i false):=by
   have hP:(bs.map Value.bool).toArray[i]?=some v:=hP
   rw[List.getElem?_toArray,List.getElem?_map] at hP
   obtain⟨b,hb,rfl⟩:=map_some hP
   rw[List.getD_eq_getElem?_getD,hb]
   rfl
  subst e
  exact wpAny_truthy_bool hQ
 ·refine⟨.bl (bs.any id),H,?_,?_,q⟩
  ·exact I.kept (t':=tk) fun b o' e=>kp b o' (by simp;exact Nat.ne_of_lt (Heap.lt_size e)) (Heap.get?_push_of_some _ e)
  ·show Value.bool _=Value.bool _
   have:=range_any bs
   simp only[List.size_toArray,List.length_map]
   rw[this]
end
end Dl
namespace Dl
open PySem L2 PySem.Spec PyProof.Rows
section
variable {X:Cx}{e:Expr}{fs:Env->Option (List D)}{pos p:Pos}
theorem G1 (hc:X.calm=true) (B:mL X "any" (.builtin "any")) (he:starEach [e] X.env=(false,eval e X.env)::starEach [] X.env) (ha:DA X [e] fs):DE X (.Call (.Name "any" p) [e] [] pos) (bb (fun ds=>(oneOf ds).bind fun d=>match d with
 | .list es=>(boolsOf es).map fun bs=>.bool (bs.any id)
 | _=>none) fs) :=
 jf (xi hc) (by
  intro HF H ds vs d Q sm r hg q
  obtain⟨x,hx,hg⟩:=bs hg
  rw[fH hx] at r
  cases x<;>try cases hg
  obtain⟨bs,hb,rfl⟩:=map_some hg
  obtain⟨v,r',rfl,a,b⟩:=r.cons_inv
  rw[b.nil_inv]
  simp only[Rep] at a
  obtain⟨p,us,rfl,h,rr⟩:=a
  rw[iI hb] at rr
  have:=kh rr
  subst this
  exact⟨p,bs,rfl,sm.seq h,q _ H HF (.refl sm) (by simp[Rep])⟩) B ha (by decide) (by decide) he rfl
theorem mZ (ns:List Int):∀j:Nat,preSum (fun i=>ns.getD i 0) j=(ns.take j).sum
 | 0=>by simp[preSum]
 | j+1=>by
  rw[preSum,mZ ns j,List.take_add_one,List.sum_append]
  congr 1
  rw[List.getD_eq_getElem?_getD]
  cases ns[j]?<;>simp
theorem rM (val:Nat->Int) (B:Int) (h:∀i,-B<=val i/\val i<=B):∀j:Nat,-(B * j)<=preSum val j/\preSum val j<=B * j
 | 0=>by simp[preSum]
 | j+1=>by
  have ih:=rM val B h j
  have:=h j
  rw[preSum]
  have e:B * ((j+1:Nat):Int)=B * (j:Int)+B:=by rw[Int.natCast_add,Int.mul_add];simp
  rw[e]
  omega
noncomputable def Ho (ns:List Int):Bool:=decide (ns.length<=1000)&&ns.all fun n=>decide (-1000000<=n)&&decide (n<=1000000)
theorem Ju {ns:List Int}(h:Ho ns=true):ns.length<=1000/\∀i,-1000000<=ns.getD i 0/\ns.getD i 0<=1000000:=by
 unfold Ho at h
 rw[Bool.and_eq_true,decide_eq_true_eq,List.all_eq_true] at h
 refine⟨h.1,fun i=>?_⟩
 rw[List.getD_eq_getElem?_getD]
 cases e:ns[i]? with
 | none=>simp
 | some n =>
  have:=h.2 n (List.mem_of_getElem? e)
  simpa using this
theorem nS {ns:List Int}{its:List Value}(r:aC (ns.map V.int) its) {i:Nat}{v:Value}(h:its.toArray[i]?=some v):∃t,v=.int (ns.getD i 0) t:=by
 rw[List.getElem?_toArray] at h
 induction ns generalizing its i with
 | nil=>cases r;simp at h
 | cons n ns ih =>
  cases r with
  | cons r1 rr =>
   cases i with
   | zero =>
    simp only[List.getElem?_cons_zero,Option.some.injEq] at h
    subst h
    obtain⟨t,rfl⟩:=r1
    exact⟨t,rfl⟩
   | succ i =>
    simp only[List.getElem?_cons_succ] at h
    exact ih rr h
theorem xR (hc:X.calm=true):cR X (.builtin "sum") (fun xs H Q=>∃ (a:Addr) (ns:List Int),xs=[.ref a]/\(ib X.K H a (ns.map V.int)\/i3 X.K H a (ns.map V.int))/\Ho ns=true/\Q (.int ns.sum) H):=by
 intro pins s σ H xs us Q I r h
 obtain⟨a,ns,rfl,hq,hok,q⟩:=h
 obtain⟨u,rfl,rx⟩:=vals1 r
 cases rx
 have hh:X.A.in1.handled=none:=I.ok.hd hc
 obtain⟨hlen,hbd⟩:=Ju hok
 have hin:∀n:Nat,n<=1000->∀j,j < n->InLong ((fun i=>ns.getD i 0) j)/\InLong (preSum (fun i=>ns.getD i 0) (j+1)):=fun n hn j hj=>by
  have h1:=hbd j
  have h2:=rM (fun i=>ns.getD i 0) 1000000 hbd (j+1)
  refine⟨⟨?_,?_⟩,?_,?_⟩
  ·show -(2 ^ 63)<=ns.getD j 0
   omega
  ·show ns.getD j 0 < 2 ^ 63
   omega
  ·omega
  ·omega
 have hsum:preSum (fun i=>ns.getD i 0) ns.length=ns.sum:=by rw[mZ,List.take_length]
 rcases hq with hq|hq
 ·obtain⟨its,rv,pl,hz⟩:=I.list hq
  have hl:its.length=ns.length:=by rw[<- rv.length,List.length_map]
  refine call_sum_walk (wpAny_pyIter_list pl.isList ?_)
  obtain⟨o,ho,hcl,n,hd⟩:=pl.isList
  have hlt:=Heap.lt_size ho
  have hne:a≠s.heap.objs.size:=Nat.ne_of_lt hlt
  refine⟨_,_,_,_,_,_,fun i=>ns.getD i 0,rfl,Walks.list hh s.heap.objs.size a hne its.toArray,⟨⟨_,Heap.get?_push_size _ rfl,rfl,rfl⟩,pl.isList.push _⟩,fun b hb=>?_,fun i v hP=>nS rv hP,by rw[List.size_toArray,hl];exact hin _ hlen,fun h' tk t' kp=>?_⟩
  ·show b < (s.heap.push _).objs.size
   rw[Heap.size_push]
   simp only[List.mem_cons,List.not_mem_nil,or_false] at hb
   rcases hb with rfl|rfl
   ·exact Nat.lt_succ_self _
   ·exact Nat.lt_succ_of_lt hlt
  ·refine⟨.int ns.sum,H,I.kept (t':=tk) fun b o' e=>kp b o' (by simp;exact Nat.ne_of_lt (Heap.lt_size e)) (Heap.get?_push_of_some _ e),⟨t',?_⟩,q⟩
   rw[List.size_toArray,hl,hsum]
 ·obtain⟨its,rv,pl,hz⟩:=I.tuple hq
  have pl:s.heap.IsTuple a its.toArray:=pl
  have hl:its.length=ns.length:=by rw[<- rv.length,List.length_map]
  refine call_sum_walk (wpAny_pyIter_tuple pl ?_)
  obtain⟨o,ho,hcl,n,hd⟩:=id pl
  have hlt:=Heap.lt_size ho
  have hne:a≠s.heap.objs.size:=Nat.ne_of_lt hlt
  refine⟨_,_,_,_,_,_,fun i=>ns.getD i 0,rfl,Walks.tuple hh s.heap.objs.size a hne its.toArray,⟨⟨_,Heap.get?_push_size _ rfl,rfl,rfl⟩,pl.push _⟩,fun b hb=>?_,fun i v hP=>nS rv hP,by rw[List.size_toArray,hl];exact hin _ hlen,fun h' tk t' kp=>?_⟩
  ·show b < (s.heap.push _).objs.size
   rw[Heap.size_push]
   simp only[List.mem_cons,List.not_mem_nil,or_false] at hb
   rcases hb with rfl|rfl
   ·exact Nat.lt_succ_self _
   ·exact Nat.lt_succ_of_lt hlt
  ·refine⟨.int ns.sum,H,I.kept (t':=tk) fun b o' e=>kp b o' (by simp;exact Nat.ne_of_lt (Heap.lt_size e)) (Heap.get?_push_of_some _ e),⟨t',?_⟩,q⟩
   rw[List.size_toArray,hl,hsum]
end
end Dl
namespace Dl
open PySem L2 PySem.Spec PyProof.Rows
section
variable {X:Cx}{e:Expr}{fs:Env->Option (List D)}{pos p:Pos}
noncomputable def qb:List D->Option D:=fun ds=>(cT ds).bind fun es=>(intsOf es).bind fun ns=>if Ho ns=true then some (.int ns.sum) else none
theorem jH {K:PySem.W.Frag}{H:Hp}:∀ {ns:List Int}{vs:List V},ar K H (ns.map PyData.int) vs->vs=ns.map V.int
 | [],vs,h=>h.nil_inv
 | b::bs,vs,h=>by
  obtain⟨v,r,rfl,a,c⟩:=h.cons_inv
  simp only[Rep] at a
  rw[a,jH c]
  rfl
theorem Iq (hc:X.calm=true) (B:mL X "sum" (.builtin "sum")) (he:starEach [e] X.env=(false,eval e X.env)::starEach [] X.env) (ha:DA X [e] fs):DE X (.Call (.Name "sum" p) [e] [] pos) (bb qb fs) :=
 jf (xR hc) (by
  intro HF H ds vs d Q sm r hg q
  obtain⟨es,h1,hg⟩:=bs hg
  obtain⟨ns,h2,hg⟩:=bs hg
  have hg:(if Ho ns=true then some (PyData.int ns.sum) else none)=some d:=hg
  split at hg
  ·rename_i hok
   cases hg
   have e2:=du h2
   subst e2
   rcases gw h1 with rfl|rfl
   all_goals
    obtain⟨v,r',rfl,a,b⟩:=r.cons_inv
    rw[b.nil_inv]
    simp only[Rep] at a
    obtain⟨p,us,rfl,h,rr⟩:=a
    have:=jH rr
    subst this
   ·exact⟨p,ns,rfl,.inr (az sm h),hok,q _ H HF (.refl sm) (by simp[Rep])⟩
   ·exact⟨p,ns,rfl,.inl (sm.seq h),hok,q _ H HF (.refl sm) (by simp[Rep])⟩
  ·cases hg) B ha (by decide) (by decide) he rfl
end
end Dl
namespace Dl
open PySem L2 PySem.Spec PyProof.Rows
section
variable {X:Cx}
noncomputable def JO (i:Int):Value->Bool|.int a _=>a == i|_=>false
theorem Aj:JK X "list.index" (fun x vs H Q=>∃ (l:Addr) (ns:List Int) (i:Int) (j:Nat),x=.ref l/\vs=[.int i]/\ib X.K H l (ns.map V.int)/\ns[j]?=some i/\(∀m,m < j->ns[m]?≠some i)/\Q (.int j) H):=by
 intro pins s σ H x vs v us Q I rx rv h
 obtain⟨l,ns,i,j,rfl,rfl,hq,hj,hno,q⟩:=h
 cases rx
 obtain⟨u,rfl,ru⟩:=rv.one
 obtain⟨t,rfl⟩:=ru
 obtain⟨its,r,pl,hz⟩:=I.list hq
 obtain⟨⟨cls,dd,data,sl⟩,ho,hc,n,hd⟩:=id pl.isList
 simp only at hc hd
 subst hc hd
 have hl:its.length=ns.length:=by rw[<- r.length,List.length_map]
 have hj1:j < ns.length:=(List.getElem?_eq_some_iff.mp hj).1
 have hz':ns.length<=sizeLine:=by rw[List.length_map] at hz;exact hz
 have hs63:(sizeLine:Nat) < 2 ^ 62:=by decide
 have at_:∀m (hm:m < its.toArray.size),∃t',its.toArray[m]=.int (ns.getD m 0) t':=fun m hm=>nS r (Array.getElem?_eq_getElem hm)
 refine call_meets F.slot_list_index ⟨_,ho,rfl⟩ F.entry_list_index (F.args_list_index_2 _ _) (PySem.SeqAt.list_indexAt l its.toArray n dd sl (.int i t) (JO i) j (by rw[List.size_toArray,hl];exact hj1) (by omega) ?_ ?_) ⟨ho,?_,?_⟩
 ·obtain⟨t',e⟩:=at_ j (by rw[List.size_toArray,hl];exact hj1)
  rw[e,JO,List.getD_eq_getElem?_getD,hj]
  simp
 ·intro m hm hmj
  obtain⟨t',e⟩:=at_ m hm
  have hm':m < ns.length:=by omega
  have:=hno m hmj
  rw[e,JO,List.getD_eq_getElem?_getD]
  rw[List.getElem?_eq_getElem hm'] at this ⊢
  simp only[Option.getD_some,beq_eq_false_iff_ne]
  exact fun h=>this (by rw[h])
 ·intro y hy
  obtain⟨m,hm,rfl⟩:=Array.getElem_of_mem hy
  obtain⟨t',e⟩:=at_ m hm
  rw[e]
  exact PySem.SeqAt.EqAt.int_int _ _ _ _
 ·exact⟨.int j,H,I.tok _,⟨_,rfl⟩,q⟩
noncomputable def wo (i:Int):List Int->Option Nat
 | []=>none
 | n::ns=>if n=i then some 0 else (wo i ns).map (·+1)
theorem mH {i:Int}:∀ {ns:List Int}{j:Nat},wo i ns=some j->ns[j]?=some i/\∀m,m < j->ns[m]?≠some i
 | [],j,h=>by cases h
 | n::ns,j,h=>by
  unfold wo at h
  split at h
  ·cases h
   rename_i e
   exact⟨by rw[e];rfl,fun m hm=>absurd hm (Nat.not_lt_zero _)⟩
  ·rename_i e
   obtain⟨k,hk,rfl⟩:=map_some h
   obtain⟨a,b⟩:=mH hk
   refine⟨by simpa using a,fun m hm=>?_⟩
   cases m with
   | zero=>simpa using e
   | succ m=>simpa using b m (by omega)
noncomputable def LR:D->D->Option D
 | .list es,.int i=>(intsOf es).bind fun ns=>(wo i ns).map fun j=>.int ((j:Nat):Int)
 | _,_=>none
theorem Cp {o e:Expr}{apos cpos:Pos}{fo fe:Env->Option D}(hbase:attributeBase o "index" X.env (eval o X.env)=eval o X.env)
  (hfew:((backTo cpos (starEach [e] X.env)).all (fun x=>!x.1)&&(backToKw cpos (keywordEach [] X.env)).all (fun x=>x.1.isSome)&&decide ([e].length+([]:List Keyword).length+(if ([]:List Keyword).isEmpty then 0 else 1) < 30))=true)
  (hline:(apos.endLine == cpos.line)=true) (hs:starEach [e] X.env=(false,eval e X.env)::starEach [] X.env) (ho:DE X o fo) (he:DE X e fe):DE X (.Call (.Attribute o "index" apos) [e] [] cpos) (f2 LR fo fe) :=
 aP (qZ PySem.F.plainAttrs_list PySem.F.slot_list_index PySem.F.type_list_index Aj ho (cZ he gH hs) hbase hfew hline hs rfl) fun σ H Q ⟨HF,ρ,d,sm,eo,hf,q⟩=>by
  obtain⟨x,hx,hf⟩:=bs hf
  obtain⟨y,hy,hg⟩:=bs hf
  refine⟨HF,ρ,x,sm,eo,hx,fun v1 H1 HF1 g1 r1=>?_⟩
  cases x<;>try cases hg
  cases y<;>try cases hg
  rename_i es i
  obtain⟨ns,h1,hg⟩:=bs hg
  obtain⟨j,h2,rfl⟩:=map_some hg
  have e1:=du h1
  subst e1
  simp only[Rep] at r1
  obtain⟨l,us,rfl,hq,rr⟩:=r1
  have:=jH rr
  subst this
  refine⟨.inl ⟨rfl,_,g1.fh.seq hq⟩,HF1,ρ,.int i,g1.fh,eo.mono g1.ff,hy,fun v2 H2 HF2 g2 r2=>?_⟩
  simp only[Rep] at r2
  obtain⟨a,b⟩:=mH h2
  exact⟨l,ns,i,j,rfl,by rw[r2],g2.fh.seq (g2.ff.seq hq),a,b,q _ H2 HF2 (g1.trans g2) (by simp[Rep])⟩
end
end Dl
namespace Tx
open PySem PySem.SeqAt PyProof.Rows
open PySem.AutoSeq1 (wpAny_loadPart')
open PySem.MeetsSeq PySem.MeetsSeq2 PySem.MeetsSeq3
theorem wpR {M:Model}{A:Around}{E:Value->Shared->Prop}{s:Shared}{β:Type}(f:Nat->β->Sem (ForInStep β)) (I:List Nat->β->Shared->Prop) (Q:β->Shared->Prop)
  (turn:∀x rest b s,I (x::rest) b s->wpAny M A (f x b) (fun r s'=>match r with|.yield b'=>I rest b' s'|.done b'=>Q b' s') E s)
  (fin:∀b s,I [] b s->Q b s) (n:Nat) (b:β) (h:I (List.range' 0 n 1) b s):wpAny M A (forIn [:n] b f) Q E s:=by
 have e:forIn [:n] b f=forIn (List.range' 0 n 1) b f:=by
  rw[Std.Legacy.Range.forIn_eq_forIn_range']
  simp[Std.Legacy.Range.size]
 rw[e]
 exact wpAny_forIn_list f I Q turn fin _ b h
theorem tuple_indexAt (l:Addr) (items:Array Value) (n:Nat) (dd:Option Addr) (sl:Array (Option Value)) (x:Value) (e:Value->Bool) (j:Nat) (hj:j < items.size) (h1:e items[j]=true) (h2:∀m (hm:m < items.size),m < j->e items[m]=false) :
  Meets (Builtin.«tuple.index» ⟨[.ref l,x],[]⟩)
   (fun A R s=>s.heap.get? l=some { cls:=.type "tuple",dict:=dd,data:=.seq items n,slots:=sl }/\(∀y,y∈items->EqAt A.in1 s y x (e y))/\R (.ok (.ret (.int (j:Nat) s.toks))) { s with toks:=s.toks+1 }) :=
 .of_wp fun prog w A R s h=>by
  obtain⟨hp,g,d,tk,os⟩:=s;obtain⟨hl,he,h⟩:=h
  wp_walk using wpAny_loadPart' hl,wpR _ (fun rest b s'=>s'=⟨hp,g,d,tk,os⟩/\b.1=none/\∃i,i<=j/\rest=List.range' i (items.size - i) 1) _
  case turn =>
   rintro i rest b s' ⟨rfl,hb,i',hi,e1⟩
   have hlt:i' < items.size:=by omega
   rw[show items.size - i'=(items.size - (i'+1))+1 by omega,List.range'_succ] at e1
   injection e1 with e2 e3
   subst e2
   subst e3
   simp only[Array.getElem?_eq_getElem hlt]
   refine wpAny_bind (he _ (Array.getElem_mem hlt) prog w _ _ ?_)
   by_cases hij:i=j
   ·subst hij
    rw[h1]
    wp_walk
    exact⟨_,rfl,h⟩
   ·rw[h2 i hlt (by omega)]
    wp_walk
    exact⟨rfl,rfl,i+1,by omega,rfl⟩
  case fin =>
   rintro b s' ⟨rfl,hb,i,hi,e1⟩
   have:=congrArg List.length e1
   simp at this
   omega
  case h =>
   exact⟨rfl,rfl,0,Nat.zero_le _,by simp⟩
end Tx
namespace Dl
open PySem L2 PySem.Spec PyProof.Rows
section
variable {X:Cx}
theorem zK:JK X "tuple.index" (fun x vs H Q=>∃ (l:Addr) (ns:List Int) (i:Int) (j:Nat),x=.ref l/\vs=[.int i]/\i3 X.K H l (ns.map V.int)/\ns[j]?=some i/\(∀m,m < j->ns[m]?≠some i)/\Q (.int j) H):=by
 intro pins s σ H x vs v us Q I rx rv h
 obtain⟨l,ns,i,j,rfl,rfl,hq,hj,hno,q⟩:=h
 cases rx
 obtain⟨u,rfl,ru⟩:=rv.one
 obtain⟨t,rfl⟩:=ru
 obtain⟨its,r,pl,hz⟩:=I.tuple hq
 obtain⟨⟨cls,dd,data,sl⟩,ho,hc,n,hd⟩:=id pl
 simp only at hc hd
 subst hc hd
 have hl:its.length=ns.length:=by rw[<- r.length,List.length_map]
 have hj1:j < ns.length:=(List.getElem?_eq_some_iff.mp hj).1
 have at_:∀m (hm:m < its.toArray.size),∃t',its.toArray[m]=.int (ns.getD m 0) t':=fun m hm=>nS r (Array.getElem?_eq_getElem hm)
 refine call_meets F.slot_tuple_index ⟨_,ho,rfl⟩ F.entry_tuple_index (F.args_tuple_index_2 _ _) (Tx.tuple_indexAt l its.toArray n dd sl (.int i t) (JO i) j (by rw[List.size_toArray,hl];exact hj1) ?_ ?_) ⟨ho,?_,?_⟩
 ·obtain⟨t',e⟩:=at_ j (by rw[List.size_toArray,hl];exact hj1)
  rw[e,JO,List.getD_eq_getElem?_getD,hj]
  simp
 ·intro m hm hmj
  obtain⟨t',e⟩:=at_ m hm
  have hm':m < ns.length:=by
   rw[List.size_toArray] at hm
   omega
  have:=hno m hmj
  rw[e,JO,List.getD_eq_getElem?_getD]
  rw[List.getElem?_eq_getElem hm'] at this ⊢
  simp only[Option.getD_some,beq_eq_false_iff_ne]
  exact fun h=>this (by rw[h])
 ·intro y hy
  obtain⟨m,hm,rfl⟩:=Array.getElem_of_mem hy
  obtain⟨t',e⟩:=at_ m hm
  rw[e]
  exact PySem.SeqAt.EqAt.int_int _ _ _ _
 ·exact⟨.int j,H,I.tok _,⟨_,rfl⟩,q⟩
theorem D3 {e:Expr}{t u:TE}(h:PE X e t) (g:PE X e u):PE X e (fun σ H Q=>t σ H Q\/u σ H Q):=fun pins s σ H Q I q=>q.elim (h pins s σ H Q I) (g pins s σ H Q I)
noncomputable def nA:D->D->Option D
 | .list es,.int i=>(intsOf es).bind fun ns=>(wo i ns).map fun j=>.int ((j:Nat):Int)
 | .tuple es,.int i=>(intsOf es).bind fun ns=>(wo i ns).map fun j=>.int ((j:Nat):Int)
 | _,_=>none
theorem Aa {o e:Expr}{apos cpos:Pos}{fo fe:Env->Option D}(hbase:attributeBase o "index" X.env (eval o X.env)=eval o X.env)
  (hfew:((backTo cpos (starEach [e] X.env)).all (fun x=>!x.1)&&(backToKw cpos (keywordEach [] X.env)).all (fun x=>x.1.isSome)&&decide ([e].length+([]:List Keyword).length+(if ([]:List Keyword).isEmpty then 0 else 1) < 30))=true)
  (hline:(apos.endLine == cpos.line)=true) (hs:starEach [e] X.env=(false,eval e X.env)::starEach [] X.env) (ho:DE X o fo) (he:DE X e fe):DE X (.Call (.Attribute o "index" apos) [e] [] cpos) (f2 nA fo fe) :=
 aP (D3 (Cp hbase hfew hline hs ho he) (qZ PySem.F.plainAttrs_tuple PySem.F.slot_tuple_index PySem.F.type_tuple_index zK ho (cZ he gH hs) hbase hfew hline hs rfl)) fun σ H Q ⟨HF,ρ,d,sm,eo,hf,q⟩=>by
  obtain⟨x,hx,hf⟩:=bs hf
  obtain⟨y,hy,hg⟩:=bs hf
  cases x<;>try cases hg
  ·cases y<;>try cases hg
   rename_i es i
   exact .inl ⟨HF,ρ,d,sm,eo,by simp only[f2,hx,hy,Option.bind_some];exact hg,q⟩
  ·cases y<;>try cases hg
   rename_i es i
   obtain⟨ns,h1,hg⟩:=bs hg
   obtain⟨j,h2,rfl⟩:=map_some hg
   have e1:=du h1
   subst e1
   refine .inr ⟨HF,ρ,_,sm,eo,hx,fun v1 H1 HF1 g1 r1=>?_⟩
   simp only[Rep] at r1
   obtain⟨l,us,rfl,hq,rr⟩:=r1
   have:=jH rr
   subst this
   refine⟨?_,HF1,ρ,.int i,g1.fh,eo.mono g1.ff,hy,fun v2 H2 HF2 g2 r2=>?_⟩
   ·first|exact .inr (.inl ⟨rfl,_,az g1.fh hq⟩)|exact .inl ⟨rfl,_,az g1.fh hq⟩|exact .inr ⟨rfl,_,az g1.fh hq⟩
   ·simp only[Rep] at r2
    obtain⟨a,b⟩:=mH h2
    exact⟨l,ns,i,j,rfl,by rw[r2],az g2.fh (az g2.ff hq),a,b,q _ H2 HF2 (g1.trans g2) (by simp[Rep])⟩
end
end Dl
namespace Zp
open PySem PyProof.Rows
noncomputable def IsI (b:Bool) (h:Heap) (it l:Addr) (k:Nat):Prop:=match b with|true=>h.IsTupleIter it l k|false=>h.IsListIter it l k
noncomputable def IsS (b:Bool) (h:Heap) (l:Addr) (xs:Array Value):Prop:=match b with|true=>h.IsTuple l xs|false=>h.IsList l xs
theorem IsI.obj {b:Bool}{h:Heap}{it l:Addr}{k:Nat}(x:IsI b h it l k):∃o,h.get? it=some o/\∀v,o.data≠.cell v:=by
 cases b
 ·obtain⟨o,e,_,d⟩:=(show h.IsListIter it l k from x);exact⟨o,e,fun v q=>by rw[d] at q;cases q⟩
 ·obtain⟨o,e,_,d⟩:=(show h.IsTupleIter it l k from x);exact⟨o,e,fun v q=>by rw[d] at q;cases q⟩
theorem IsI.at {b:Bool}{h h':Heap}{it l:Addr}{k:Nat}(x:IsI b h it l k) (e:∀o,h.get? it=some o->h'.get? it=some o):IsI b h' it l k:=by
 cases b
 ·exact Heap.IsListIter.at x e
 ·exact Heap.IsTupleIter.at x e
theorem IsI.extBut {b:Bool}{h h':Heap}{a it l:Addr}{k:Nat}(x:IsI b h it l k) (e:Heap.ExtBut a h h') (n:it≠a):IsI b h' it l k:=x.at fun o q=>e it o n q
theorem IsS.at {b:Bool}{h h':Heap}{l:Addr}{xs:Array Value}(x:IsS b h l xs) (e:∀o,h.get? l=some o->h'.get? l=some o):IsS b h' l xs:=by
 cases b
 ·obtain⟨o,q,r⟩:=(show h.IsList l xs from x);exact⟨o,e o q,r⟩
 ·obtain⟨o,q,r⟩:=(show h.IsTuple l xs from x);exact⟨o,e o q,r⟩
theorem IsS.extBut {b:Bool}{h h':Heap}{a l:Addr}{xs:Array Value}(x:IsS b h l xs) (e:Heap.ExtBut a h h') (n:l≠a):IsS b h' l xs:=x.at fun o q=>e l o n q
section
variable {prog:Program}{w:World}{A:Around}{E:Value->Shared->Prop}{s:Shared}
theorem nxt {b:Bool}{j t:Addr}{k:Nat}{its:Array Value}{v:Value}{Q:Value->Shared->Prop}(hj:IsI b s.heap j t k) (ht:IsS b s.heap t its) (hv:its[k]?=some v)
  (hQ:∀g,IsI b g j t (k+1)->Heap.SameBut j s.heap g->Q v { s with heap:=g }):wpAny (model prog w) A (Builtin.SmallTypes.nextOf (.ref j)) Q E s:=by
 cases b
 ·exact wpAny_nextOf_list_item hj ht hv hQ
 ·exact En.nextT_item hj ht hv hQ
theorem nxtE {b:Bool}{j t:Addr}{k:Nat}{its:Array Value}{Q:Value->Shared->Prop}(hh:A.handled=none) (hj:IsI b s.heap j t k) (ht:IsS b s.heap t its) (hv:its[k]?=none)
  (hE:∀g x,Heap.ExtBut j s.heap g->(∃o,g.get? x=some o/\o.cls=.type "StopIteration")->E (.ref x) { s with heap:=g }):wpAny (model prog w) A (Builtin.SmallTypes.nextOf (.ref j)) Q E s:=by
 cases b
 ·exact wpAny_nextOf_list_end hh hj ht hv hE
 ·exact En.nextT_end hh hj ht hv hE
structure ZS (b₁ b₂:Bool) (h₀ h:Heap) (z TI TO i j l m:Addr) (xs ys:Array Value) (f:Value) (p q:Nat) (a b:Value):Prop where
 zo:IsZip h z TI TO f
 ti:IsPair h TI (.ref i) (.ref j)
 to:IsPair h TO a b
 wi:IsI b₁ h i l p
 wj:IsI b₂ h j m q
 sl:IsS b₁ h l xs
 sm:IsS b₂ h m ys
 kp:∀c o,c≠z->c≠TO->c≠i->c≠j->h₀.get? c=some o->h.get? c=some o
 sz:h.objs.size=h₀.objs.size
section
variable {b₁ b₂:Bool}{h₀ h g:Heap}{z TI TO i j l m:Addr}{xs ys:Array Value}{f f':Value}{p q:Nat}{a b x y:Value}
theorem ZS.fl (Z:ZS b₁ b₂ h₀ h z TI TO i j l m xs ys f p q a b) (D:ZipApart z TI TO i j l m) (e:IsZip g z TI TO f') (t:Heap.SameBut z h g):ZS b₁ b₂ h₀ g z TI TO i j l m xs ys f' p q a b :=
 ⟨e,t.extBut _ _ D.TIz Z.ti,t.extBut _ _ D.TOz Z.to,Z.wi.extBut t.extBut D.i1z,Z.wj.extBut t.extBut D.i2z,Z.sl.extBut t.extBut D.l1z,Z.sm.extBut t.extBut D.l2z,fun c o n1 n2 n3 n4 r=>t.extBut _ _ n1 (Z.kp c o n1 n2 n3 n4 r),t.1.trans Z.sz⟩
theorem ZS.fst (Z:ZS b₁ b₂ h₀ h z TI TO i j l m xs ys f p q a b) (D:ZipApart z TI TO i j l m) (e:IsI b₁ g i l (p+1)) (t:Heap.SameBut i h g):ZS b₁ b₂ h₀ g z TI TO i j l m xs ys f (p+1) q a b :=
 ⟨t.extBut _ _ D.i1z.symm Z.zo,t.extBut _ _ D.TIi1 Z.ti,t.extBut _ _ D.TOi1 Z.to,e,Z.wj.extBut t.extBut D.i12.symm,Z.sl.extBut t.extBut D.l1i1,Z.sm.extBut t.extBut D.l2i1,fun c o n1 n2 n3 n4 r=>t.extBut _ _ n3 (Z.kp c o n1 n2 n3 n4 r),t.1.trans Z.sz⟩
theorem ZS.snd (Z:ZS b₁ b₂ h₀ h z TI TO i j l m xs ys f p q a b) (D:ZipApart z TI TO i j l m) (e:IsI b₂ g j m (q+1)) (t:Heap.SameBut j h g):ZS b₁ b₂ h₀ g z TI TO i j l m xs ys f p (q+1) a b :=
 ⟨t.extBut _ _ D.i2z.symm Z.zo,t.extBut _ _ D.TIi2 Z.ti,t.extBut _ _ D.TOi2 Z.to,Z.wi.extBut t.extBut D.i12,e,Z.sl.extBut t.extBut D.l1i2,Z.sm.extBut t.extBut D.l2i2,fun c o n1 n2 n3 n4 r=>t.extBut _ _ n4 (Z.kp c o n1 n2 n3 n4 r),t.1.trans Z.sz⟩
theorem ZS.put (Z:ZS b₁ b₂ h₀ h z TI TO i j l m xs ys f p q a b) (D:ZipApart z TI TO i j l m) (e:IsPair g TO x y) (t:Heap.SameBut TO h g):ZS b₁ b₂ h₀ g z TI TO i j l m xs ys f p q x y :=
 ⟨t.extBut _ _ D.TOz.symm Z.zo,t.extBut _ _ D.TITO Z.ti,e,Z.wi.extBut t.extBut D.TOi1.symm,Z.wj.extBut t.extBut D.TOi2.symm,Z.sl.extBut t.extBut D.l1TO,Z.sm.extBut t.extBut D.l2TO,fun c o n1 n2 n3 n4 r=>t.extBut _ _ n2 (Z.kp c o n1 n2 n3 n4 r),t.1.trans Z.sz⟩
end
variable {b₁ b₂:Bool}{z TI TO i j l m:Addr}{xs ys:Array Value}{p q:Nat}{a b:Value}
theorem zipN {Q:Value->Shared->Prop}(hn:A.handled=none) (D:ZipApart z TI TO i j l m) (Z:ZS b₁ b₂ s.heap s.heap z TI TO i j l m xs ys .none p q a b)
  (item:∀x y g g',xs[p]?=some x->ys[q]?=some y->ZS b₁ b₂ s.heap g z TI TO i j l m xs ys .ellipsis (p+1) (q+1) x y->IsZip g' z TI TO (rawInt g.objs.size) ->
   Heap.SameBut z (g.push { cls:=.type "tuple",data:=.seq #[x,y] }) g'->Q (.ref g.objs.size) { s with heap:=g' })
  (over:(xs[p]?=none\/ys[q]?=none)->∀g e,(∀c o,c≠z->c≠TO->c≠i->c≠j->s.heap.get? c=some o->g.get? c=some o)->(∃o,g.get? e=some o/\o.cls=.type "StopIteration")->E (.ref e) { s with heap:=g }) :
  wpAny (model prog w) A (Builtin.«zip.__next__» ⟨[.ref z],[]⟩) (fun r s'=>∃v,r=.done (.ret v)/\Q v s') E s:=by
 have stop:∀ {g1 g2:Heap}{e:Addr}{c:Addr}{p' q':Nat}{a' b':Value},ZS b₁ b₂ s.heap g1 z TI TO i j l m xs ys .ellipsis p' q' a' b'->(c=i\/c=j)->(xs[p]?=none\/ys[q]?=none)->Heap.ExtBut c g1 g2 ->
   (∃o,g2.get? e=some o/\o.cls=.type "StopIteration")->wpAny (model prog w) A (setField (.ref z) 0 Value.none) (fun _ t=>E (.ref e) t) E { s with heap:=g2 }:=by
  intro g1 g2 e c p' q' a' b' Y hc hv k ⟨o,ho,ht⟩
  have cz:z≠c:=hc.elim (fun e=>e ▸ D.i1z.symm) fun e=>e ▸ D.i2z.symm
  have Yz:IsZip g2 z TI TO .ellipsis:=k _ _ cz Y.zo
  refine wpAny_setField_rec Yz (by simp) fun g3 _ t=>over hv g3 e (fun d u n1 n2 n3 n4 r=>t.extBut _ _ n1 (k _ _ ?_ (Y.kp d u n1 n2 n3 n4 r))) ⟨o,t.extBut _ _ ?_ ho,ht⟩
  ·exact hc.elim (fun e=>e ▸ n3) fun e=>e ▸ n4
  ·rintro rfl;rw[Yz] at ho;cases ho;simp at ht
 show wpAny _ _ (field (.ref z) 2 >>= _) _ _ _
 refine wpAny_bind (wpAny_field Z.zo rfl (x:=.bool false) rfl (wpAny_bind (wpAny_field Z.zo rfl (x:=.ref TI) rfl (wpAny_bind (wpAny_seqItems Z.ti rfl (wpAny_bind (m:=Builtin.SmallTypes.ownedTupleIsFree _) ?_))))))
 refine wpAny_bind (wpAny_field Z.zo rfl (x:=.none) rfl (wpAny_pure ?_))
 rw[if_pos rfl]
 refine wpAny_bind (wpAny_rule (wpAny_bind (wpAny_field Z.zo rfl (x:=.ref TO) rfl (wpAny_bind (wpAny_setField_rec Z.zo (by simp) fun g1 e1 t1=>?_)))))
 have Z1:=Z.fl D (f':=.ellipsis) e1 t1
 refine wpAny_bind ?_
 simp only[List.zipIdx_cons,List.zipIdx_nil,List.forIn_cons,List.forIn_nil]
 refine wpAny_bind (wpAny_bind (wpAny_onRaise (wpAny_bind (m:=Builtin.SmallTypes.nextOf _) ?_)))
 cases hx:xs[p]? with
 | none=>exact nxtE hn Z1.wi Z1.sl hx fun g2 e k o=>stop Z1 (.inl rfl) (.inl hx) k o
 | some x =>
 refine nxt Z1.wi Z1.sl hx fun g2 e2 t2=>wpAny_pure ?_
 have Z2:=Z1.fst D e2 t2
 refine wpAny_bind (wpAny_seqItems Z2.to rfl (wpAny_bind (wpAny_updateSeq_pair Z2.to fun g3 e3 t3=>wpAny_bind (wpAny_letGo (wpAny_pure ?_)))))
 have Z3:=Z2.put D (x:=x) (y:=b) e3 t3
 refine wpAny_bind (wpAny_bind (wpAny_onRaise (wpAny_bind (m:=Builtin.SmallTypes.nextOf _) ?_)))
 cases hy:ys[q]? with
 | none=>exact nxtE hn Z3.wj Z3.sm hy fun g4 e k o=>stop Z3 (.inr rfl) (.inr hy) k o
 | some y =>
 refine nxt Z3.wj Z3.sm hy fun g4 e4 t4=>wpAny_pure ?_
 have Z4:=Z3.snd D e4 t4
 refine wpAny_bind (wpAny_seqItems Z4.to rfl (wpAny_bind (wpAny_updateSeq_pair Z4.to fun g5 e5 t5=>wpAny_bind (wpAny_letGo (wpAny_pure (wpAny_pure ?_))))))
 have Z5:=Z4.put D (x:=x) (y:=y) e5 t5
 refine wpAny_bind (wpAny_seqItems Z5.to rfl (wpAny_bind (wpAny_newTuple (wpAny_bind (m:=Builtin.SmallTypes.ownedTupleHandOut _ _) ?_))))
 refine wpAny_bind (wpAny_setField_rec (Heap.get?_push_of_some _ Z5.zo) (by simp) fun g6 e6 t6=>wpAny_setField_rec e6 (by simp) fun g7 e7 t7=>wpAny_pure ⟨_,rfl,?_⟩)
 exact item x y g5 g7 hx hy Z5 e7 (t6.trans t7)
theorem nextZ {x y:Value}{Q:Option Value->Shared->Prop}(hn:A.handled=none) (D:ZipApart z TI TO i j l m)
  (qz:IsZip s.heap z TI TO .none) (qI:IsPair s.heap TI (.ref i) (.ref j)) (qO:IsPair s.heap TO a b)
  (p1:IsI b₁ s.heap i l p) (p2:IsI b₂ s.heap j m q) (r1:IsS b₁ s.heap l xs) (r2:IsS b₂ s.heap m ys) (ex:xs[p]?=some x) (ey:ys[q]?=some y)
  (kQ:∀g,IsZip g z TI TO (rawInt s.heap.objs.size)->IsPair g TO x y->IsI b₁ g i l (p+1)->IsI b₂ g j m (q+1)->IsPair g s.heap.objs.size x y->g.objs.size=s.heap.objs.size+1 ->
   (∀c o,c≠z->c≠TO->c≠i->c≠j->s.heap.get? c=some o->g.get? c=some o)->Q (some (.ref s.heap.objs.size)) { s with heap:=g }) :
  wpAny (model prog w) A (pyNext (.ref z)) Q E s:=by
 have ty:s.TypeIs (.ref z) "zip":=⟨_,qz,rfl⟩
 have Z:ZS b₁ b₂ s.heap s.heap z TI TO i j l m xs ys .none p q a b:=⟨qz,qI,qO,p1,p2,r1,r2,fun _ _ _ _ _ _ e=>e,rfl⟩
 refine wpAny_bind (wpAny_attempt (wpAny_callSpecial?_slot (name:=Str.ofString "__next__") ty F.slot_zip_next (wpAny_call_entry F.slot_zip_next ty F.entry_zip_next (zipN hn D Z ?_ ?_) (F.args_zip_next_1 _))))
 ·intro x' y' g g' hx hy Y ez t
  rw[ex] at hx;rw[ey] at hy;cases hx;cases hy
  rw[Y.sz] at ez ⊢
  have lt:=Heap.lt_size Y.zo
  have up:∀c o,c≠z->g.get? c=some o->g'.get? c=some o:=fun c o n e=>t.extBut _ _ n (Heap.get?_push_of_some _ e)
  refine wpAny_pure (kQ g' ez (up _ _ D.TOz Y.to) (Y.wi.at fun o e=>up _ _ D.i1z e) (Y.wj.at fun o e=>up _ _ D.i2z e) ?_ (by rw[t.1,Heap.size_push,Y.sz]) fun c o n1 n2 n3 n4 e=>up c o n1 (Y.kp c o n1 n2 n3 n4 e))
  rw[<- Y.sz]
  exact t.extBut _ _ (Nat.ne_of_gt lt) (Heap.get?_push_size _ rfl)
 ·intro no
  rw[ex,ey] at no
  rcases no with no|no<;>cases no
theorem nextZE {Q:Option Value->Shared->Prop}(hn:A.handled=none) (D:ZipApart z TI TO i j l m)
  (qz:IsZip s.heap z TI TO .none) (qI:IsPair s.heap TI (.ref i) (.ref j)) (qO:IsPair s.heap TO a b)
  (p1:IsI b₁ s.heap i l p) (p2:IsI b₂ s.heap j m q) (r1:IsS b₁ s.heap l xs) (r2:IsS b₂ s.heap m ys) (ends:xs[p]?=none\/ys[q]?=none)
  (kQ:∀g,(∀c o,c≠z->c≠TO->c≠i->c≠j->s.heap.get? c=some o->g.get? c=some o)->Q none { s with heap:=g }):wpAny (model prog w) A (pyNext (.ref z)) Q E s:=by
 have ty:s.TypeIs (.ref z) "zip":=⟨_,qz,rfl⟩
 have Z:ZS b₁ b₂ s.heap s.heap z TI TO i j l m xs ys .none p q a b:=⟨qz,qI,qO,p1,p2,r1,r2,fun _ _ _ _ _ _ e=>e,rfl⟩
 refine wpAny_bind (wpAny_attempt (wpAny_callSpecial?_slot (name:=Str.ofString "__next__") ty F.slot_zip_next (wpAny_call_entry F.slot_zip_next ty F.entry_zip_next (zipN hn D Z ?_ ?_) (F.args_zip_next_1 _))))
 ·intro x y g g' hx hy
  rw[hx,hy] at ends
  rcases ends with no|no<;>cases no
 ·rintro _ g e kp ⟨o,ho,ht⟩
  exact wpAny_bind (wpAny_isInstance (T:="StopIteration") (b:=true) ⟨o,ho,ht⟩ isSubtype_stop (wpAny_pure (kQ _ kp)))
end
end Zp
namespace Zp
open PySem PyProof.Rows
noncomputable abbrev itO (b:Bool) (l:Addr):Obj:={ cls:=.type (if b then "tuple_iterator" else "list_iterator"),data:=.fields #[.ref l,.int 0 0] }
noncomputable abbrev z1 (b:Bool) (h:Heap) (l:Addr):Heap:=h.push (itO b l)
noncomputable abbrev z2 (b c:Bool) (h:Heap) (l m:Addr):Heap:=(z1 b h l).push (itO c m)
noncomputable abbrev z3 (b c:Bool) (h:Heap) (l m:Addr):Heap:=(z2 b c h l m).push { cls:=.type "tuple",data:=.seq #[.ref h.objs.size,.ref (z1 b h l).objs.size] }
noncomputable abbrev z4 (b c:Bool) (h:Heap) (l m:Addr):Heap:=(z3 b c h l m).push { cls:=.type "tuple",data:=.seq #[.none,.none] }
noncomputable abbrev z5 (b c:Bool) (h:Heap) (l m:Addr):Heap:=(z4 b c h l m).push { cls:=.type "zip",data:=.fields #[.none,.bool false,.bool false,.ref (z2 b c h l m).objs.size,.ref (z3 b c h l m).objs.size] }
theorem IsS.push {b:Bool}{h:Heap}{l:Addr}{xs:Array Value}(x:IsS b h l xs) (o:Obj):IsS b (h.push o) l xs:=x.at fun o' e=>Heap.get?_push_of_some _ e
theorem new_zip (b c:Bool) (l m:Addr) (xs ys:Array Value):Meets (Builtin.«zip.__new__» ⟨[.type "zip",.ref l,.ref m],[]⟩) (fun _ R s=>IsS b s.heap l xs/\IsS c s.heap m ys/\R (.ok (.ret (.ref (z4 b c s.heap l m).objs.size))) { s with heap:=z5 b c s.heap l m }) :=
 .of_wp fun prog w A R s h=>by
  obtain⟨hp,g,d,tk,os⟩:=s;obtain⟨q1,q2,h⟩:=h
  have hsub:=sub_zip
  cases b<;>cases c
  ·have L1:Heap.IsList (Shared.heap ⟨hp,g,d,tk,os⟩) l xs:=q1
   have L2:Heap.IsList (Shared.heap ⟨hp.push { cls:=.type "list_iterator",data:=.fields #[.ref l,.int 0 0] },g,d,tk,os⟩) m ys:=IsS.push (b:=false) q2 _
   wp_walk using wpAny_pyIter_list L1,wpAny_pyIter_list L2
   exact⟨_,rfl,h⟩
  ·have L1:Heap.IsList (Shared.heap ⟨hp,g,d,tk,os⟩) l xs:=q1
   have L2:Heap.IsTuple (Shared.heap ⟨hp.push { cls:=.type "list_iterator",data:=.fields #[.ref l,.int 0 0] },g,d,tk,os⟩) m ys:=IsS.push (b:=true) q2 _
   wp_walk using wpAny_pyIter_list L1,wpAny_pyIter_tuple L2
   exact⟨_,rfl,h⟩
  ·have L1:Heap.IsTuple (Shared.heap ⟨hp,g,d,tk,os⟩) l xs:=q1
   have L2:Heap.IsList (Shared.heap ⟨hp.push { cls:=.type "tuple_iterator",data:=.fields #[.ref l,.int 0 0] },g,d,tk,os⟩) m ys:=IsS.push (b:=false) q2 _
   wp_walk using wpAny_pyIter_tuple L1,wpAny_pyIter_list L2
   exact⟨_,rfl,h⟩
  ·have L1:Heap.IsTuple (Shared.heap ⟨hp,g,d,tk,os⟩) l xs:=q1
   have L2:Heap.IsTuple (Shared.heap ⟨hp.push { cls:=.type "tuple_iterator",data:=.fields #[.ref l,.int 0 0] },g,d,tk,os⟩) m ys:=IsS.push (b:=true) q2 _
   wp_walk using wpAny_pyIter_tuple L1,wpAny_pyIter_tuple L2
   exact⟨_,rfl,h⟩
section
variable {prog:Program}{w:World}{A:Around}{E:Value->Shared->Prop}{s:Shared}
theorem isI_new {b:Bool}{h:Heap}{it l:Addr}(e:h.get? it=some (itO b l)):IsI b h it l 0:=by
 cases b
 ·exact⟨_,e,rfl,rfl⟩
 ·exact⟨_,e,rfl,rfl⟩
theorem call_zip {b c:Bool}{l m:Addr}{xs ys:Array Value}{Q:Value->Shared->Prop}(q1:IsS b s.heap l xs) (q2:IsS c s.heap m ys)
  (h:∀g,IsZip g (s.heap.objs.size+4) (s.heap.objs.size+2) (s.heap.objs.size+3) .none->IsPair g (s.heap.objs.size+2) (.ref s.heap.objs.size) (.ref (s.heap.objs.size+1))->IsPair g (s.heap.objs.size+3) .none .none ->
   IsI b g s.heap.objs.size l 0->IsI c g (s.heap.objs.size+1) m 0->(∀a o,s.heap.get? a=some o->g.get? a=some o)->Q (.ref (s.heap.objs.size+4)) { s with heap:=g }) :
  wpAny (model prog w) A (call (.type "zip") [.ref l,.ref m]) Q E s:=by
 refine callType_new F.called_zip (by decide) (F.typeCall_zip_2 _ _) (F.newCall_zip_2 _ _) (fun obj=>F.args_object_init_3 obj _ _) F.entry_zip_new (new_zip b c l m xs ys) ⟨q1,q2,?_⟩
 have n1:(z1 b s.heap l).objs.size=s.heap.objs.size+1:=Heap.size_push ..
 have n2:(z2 b c s.heap l m).objs.size=s.heap.objs.size+2:=by rw[Heap.size_push,n1]
 have n3:(z3 b c s.heap l m).objs.size=s.heap.objs.size+3:=by rw[Heap.size_push,n2]
 have n4:(z4 b c s.heap l m).objs.size=s.heap.objs.size+4:=by rw[Heap.size_push,n3]
 have g5:(z5 b c s.heap l m).get? (z4 b c s.heap l m).objs.size=some _:=Heap.get?_push_size _ rfl
 have g4:(z5 b c s.heap l m).get? (z3 b c s.heap l m).objs.size=some _:=Heap.get?_push_of_some _ (Heap.get?_push_size _ rfl)
 have g3:(z5 b c s.heap l m).get? (z2 b c s.heap l m).objs.size=some _:=Heap.get?_push_of_some _ (Heap.get?_push_of_some _ (Heap.get?_push_size _ rfl))
 have g2:(z5 b c s.heap l m).get? (z1 b s.heap l).objs.size=some (itO c m):=Heap.get?_push_of_some _ (Heap.get?_push_of_some _ (Heap.get?_push_of_some _ (Heap.get?_push_size _ rfl)))
 have g1:(z5 b c s.heap l m).get? s.heap.objs.size=some (itO b l):=Heap.get?_push_of_some _ (Heap.get?_push_of_some _ (Heap.get?_push_of_some _ (Heap.get?_push_of_some _ (Heap.get?_push_size _ rfl))))
 show _/\_
 rw[n2,n3,n4] at g5
 rw[n1,n2] at g3
 rw[n3] at g4
 rw[n1] at g2
 rw[n4]
 exact⟨⟨_,g5,rfl⟩,h _ g5 g3 g4 (isI_new g1) (isI_new g2) fun a o x=>Heap.get?_push_of_some _ (Heap.get?_push_of_some _ (Heap.get?_push_of_some _ (Heap.get?_push_of_some _ (Heap.get?_push_of_some _ x))))⟩
end
end Zp
namespace Dl
open PySem L2 PySem.Spec PyProof.Rows Zp
noncomputable def qK (K:PySem.W.Frag) (b:Bool) (a:Addr) (H:Hp) (xs:List V):Prop:=match b with|true=>i3 K H a xs|false=>ib K H a xs
section
variable {X:Cx}{pins:List (Addr×Obj)}{σ:L2.St}{H:Hp}{s:Shared}{b:Bool}{a:Addr}{xs ys:List V}
theorem qK.src (I:Inv X pins σ H s) (h:qK X.K b a H xs):∃its:List Value,aC xs its/\IsS b s.heap a its.toArray/\xs.length<=sizeLine:=by
 cases b
 ·obtain⟨its,rv,pl,hz⟩:=I.list (show ib X.K H a xs from h);exact⟨its,rv,pl.isList,hz⟩
 ·obtain⟨its,rv,pl,hz⟩:=I.tuple (show i3 X.K H a xs from h);exact⟨its,rv,pl,hz⟩
theorem qK.ne (I:Inv X pins σ H s) {c:Addr}(hf:cw X pins H c) (h:qK X.K b a H xs):a≠c:=by
 cases b
 ·exact Ij I hf h
 ·exact Ig I hf h
theorem qK.inj (I:Inv X pins σ H s) (h:qK X.K b a H xs) (h':qK X.K b a H ys):xs=ys:=by
 cases b
 ·exact I.list_inj h h'
 ·exact I.tuple_inj h h'
theorem qK.mono {K:PySem.W.Frag}{H H':Hp}(e:aW H H') (h:qK K b a H xs):qK K b a H' xs:=by
 cases b
 ·exact e.seq h
 ·exact az e h
end
theorem AX {P:Program}{w:World}{K:PySem.W.Frag}{elts:List Expr}{k:Nat}{pos:Pos}(b c:Bool) (l1 l2 z TI TO i1 i2:Addr) (Z:ME z TI TO i1 i2) :
  Turn P w K (.Tuple elts k pos) (LM (qK K b l1) (qK K c l2)) [z,TI,TO,i1,i2] z (fun i h=>IsZip h z TI TO .none/\IsPair h TI (.ref i1) (.ref i2)/\(∃a b,IsPair h TO a b)/\IsI b h i1 l1 i/\IsI c h i2 l2 i) where
 mem:=by simp
 obj:=fun i h st d hd=>by
  obtain⟨hz,hTI,⟨a,b',hTO⟩,p1,p2⟩:=st
  simp only[List.mem_cons,List.not_mem_nil,or_false] at hd
  rcases hd with rfl|rfl|rfl|rfl|rfl
  ·exact⟨_,hz,fun v q=>by have q:Data.fields _=Data.cell v:=q;cases q⟩
  ·exact⟨_,hTI,fun v q=>by have q:Data.seq _ _=Data.cell v:=q;cases q⟩
  ·exact⟨_,hTO,fun v q=>by have q:Data.seq _ _=Data.cell v:=q;cases q⟩
  ·exact p1.obj
  ·exact p2.obj
 keep:=fun i h h' st kk=>by
  obtain⟨hz,hTI,⟨a,b',hTO⟩,h1,h2⟩:=st
  exact⟨kk z (by simp) _ hz,kk TI (by simp) _ hTI,⟨a,b',kk TO (by simp) _ hTO⟩,h1.at fun o q=>kk i1 (by simp) o q,h2.at fun o q=>kk i2 (by simp) o q⟩
 item:=by
  intro X hP hw hK hc i pins s σ H E I hf st hg
  subst hP hw hK
  obtain⟨xs,ys,x,y,hq1,hq2,hx,hy⟩:=hg
  obtain⟨its1,rv1,p1,hz1⟩:=hq1.src I
  obtain⟨its2,rv2,p2,hz2⟩:=hq2.src I
  obtain⟨u1,hu1,ru1⟩:=rv1.get hx
  obtain⟨u2,hu2,ru2⟩:=rv2.get hy
  have D:ZipApart z TI TO i1 i2 l1 l2:=⟨Z.a1,Z.a2,Z.a3,Z.a4,Z.a5,Z.a6,Z.a7,Z.a8,Z.a9,Z.a0,hq1.ne I (hf z (by simp)),hq1.ne I (hf TO (by simp)),hq1.ne I (hf i1 (by simp)),hq1.ne I (hf i2 (by simp)),hq2.ne I (hf z (by simp)),hq2.ne I (hf TO (by simp)),hq2.ne I (hf i1 (by simp)),hq2.ne I (hf i2 (by simp))⟩
  obtain⟨hz,hTI,⟨a,b',hTO⟩,h1,h2⟩:=st
  refine nextZ (I.ok.hd hc) D hz hTI hTO h1 h2 p1 p2 (x:=u1) (y:=u2) (by simpa using hu1) (by simpa using hu2) fun g b1 b2 b3 b4 b5 b6 hk=>⟨.ref s.heap.objs.size,rfl,?_⟩
  have lt:∀ {c:Addr}{o:Obj},s.heap.get? c=some o->s.heap.objs.size≠c:=fun e=>Nat.ne_of_gt (Heap.lt_size e)
  refine wpAny_letOwnedTupleGo_zip (s:={ s with heap:=g }) b1 fun g' hz' hs'=>?_
  have b5':g'.get? s.heap.objs.size=some { cls:=.type "tuple",data:=.seq #[u1,u2] }:=hs'.extBut _ _ (lt hz) b5
  have ht:l6 g' s.heap.objs.size (List.toArray [u1,u2]):=⟨⟨_,b5',rfl,_,rfl⟩,_,b5',rfl⟩
  refine⟨.ref s.heap.objs.size,_,we (ch:=[z,TI,TO,i1,i2]) (xs:=[x,y]) (t':=s.toks) I hf (fun b o hb q=>?_) (Nat.le_refl _) ht (.cons ru1 (.cons ru2 .nil)) (by show 2<=sizeLine;decide),rfl,
   ⟨s.heap.objs.size,x,y,rfl,I.fresh,rfl,fun zs hzs=>by rw[hzs.inj I hq1];exact hx,fun zs hzs=>by rw[hzs.inj I hq2];exact hy⟩,
   ⟨hz',hs'.extBut _ _ Z.a1 (hk _ _ D.TIz D.TITO D.TIi1 D.TIi2 hTI),⟨_,_,hs'.extBut _ _ Z.a2 b2⟩,b3.extBut hs'.extBut Z.a3,b4.extBut hs'.extBut Z.a4⟩,fun b hb=>?_⟩
  ·simp only[List.mem_cons,List.not_mem_nil,or_false,not_or] at hb
   exact hs'.extBut _ _ hb.1 (hk b o hb.1 hb.2.2.1 hb.2.2.2.1 hb.2.2.2.2 q)
  ·have:s.heap.objs.size≠b:=by
    simp only[List.mem_cons,List.not_mem_nil,or_false] at hb
    obtain⟨o1,g1,_⟩:=h1.obj
    obtain⟨o2,g2,_⟩:=h2.obj
    rcases hb with rfl|rfl|rfl|rfl|rfl
    ·exact lt hz
    ·exact lt hTI
    ·exact lt hTO
    ·exact lt g1
    ·exact lt g2
   rw[aB (Ne.symm this)]
   exact (hf b hb).1
 done:=by
  intro X hP hw hK hc i pins s σ H E I hf st hg
  subst hP hw hK
  obtain⟨xs,ys,hq1,hq2,hx⟩:=hg
  obtain⟨its1,rv1,p1,hz1⟩:=hq1.src I
  obtain⟨its2,rv2,p2,hz2⟩:=hq2.src I
  have D:ZipApart z TI TO i1 i2 l1 l2:=⟨Z.a1,Z.a2,Z.a3,Z.a4,Z.a5,Z.a6,Z.a7,Z.a8,Z.a9,Z.a0,hq1.ne I (hf z (by simp)),hq1.ne I (hf TO (by simp)),hq1.ne I (hf i1 (by simp)),hq1.ne I (hf i2 (by simp)),hq2.ne I (hf z (by simp)),hq2.ne I (hf TO (by simp)),hq2.ne I (hf i1 (by simp)),hq2.ne I (hf i2 (by simp))⟩
  obtain⟨hz,hTI,⟨a,b',hTO⟩,h1,h2⟩:=st
  have e1:=rv1.length
  have e2:=rv2.length
  refine nextZE (I.ok.hd hc) D hz hTI hTO h1 h2 p1 p2 (hx.elim (fun q=>.inl (by simp;omega)) fun q=>.inr (by simp;omega)) fun g hk=>⟨rfl,?_⟩
  refine AD (ch:=[z,TI,TO,i1,i2]) (t':=s.toks) I hf fun b o hb q=>?_
  simp only[List.mem_cons,List.not_mem_nil,or_false,not_or] at hb
  exact hk b o hb.1 hb.2.2.1 hb.2.2.2.1 hb.2.2.2.2 q
 self:=fun _ _ _ _ _ st h=>wpAny_pyIter_zip st.1 h
section
variable {X:Cx}{l l':Expr}{fs:Env->Option (List D)}{elts:List Expr}{k:Nat}{pos p tp:Pos}
theorem Em {tl:TA}(B:mL X "zip" (.type "zip")) (ha:PA X [l,l'] tl) (hs:starEach [l,l'] X.env=(false,eval l X.env)::starEach [l'] X.env) (hs2:(backTo pos (starEach [l'] X.env)).any (·.1)=false) :
  PI X (.Tuple elts k tp) (.Call (.Name "zip" p) [l,l'] [] pos) (fun σ H R=>tl σ H fun vs H1=>∃a b,vs=[.ref a,.ref b]/\∃c d xs ys,qK X.K c a H1 xs/\qK X.K d b H1 ys/\R (LM (qK X.K c a) (qK X.K d b)) H1):=by
 intro pins s σ H R I h
 refine Call_ (iJ I B.gl B.mg B.bt (PyProof.Rows.callWith_type1 (bS (ha pos pins s σ H _ I h) fun us s1 ⟨vs,H1,I1,r1,q1⟩=>?_) hs hs2))
 obtain⟨a,b,e,c,d,xs,ys,hq1,hq2,q⟩:=q1
 subst e
 obtain⟨u,u',rfl,rx,ry⟩:=vals2 r1
 cases rx
 cases ry
 obtain⟨its,rv,pl,hz⟩:=hq1.src I1
 obtain⟨its',rv',pl',hz'⟩:=hq2.src I1
 refine call_zip pl pl' fun g b1 b2 b3 b4 b5 kp=>wpAny_pyIter_zip (s:={ s1 with heap:=g }) b1 ?_
 refine⟨_,_,_,_,H1,rfl,I1.kept (t':=s1.toks) kp,AX c d a b (s1.heap.objs.size+4) (s1.heap.objs.size+2) (s1.heap.objs.size+3) s1.heap.objs.size (s1.heap.objs.size+1) ?_,⟨b1,b2,⟨_,_,b3⟩,b4,b5⟩,fun c hc=>?_,q⟩
 ·constructor<;>(intro z;have z:(_:Nat)=_:=z;omega)
 ·have hge:s1.heap.objs.size<=c:=by
   simp only[List.mem_cons,List.not_mem_nil,or_false] at hc
   rcases hc with rfl|rfl|rfl|rfl|rfl
   ·exact Nat.le_add_right _ _
   ·exact Nat.le_add_right _ _
   ·exact Nat.le_add_right _ _
   ·exact Nat.le_refl _
   ·exact Nat.le_add_right _ _
  exact I1.fpOk hge (I1.hok.fresh hge)
noncomputable def JY:List D->Option (List D):=fun ds=>match ds with
 | [x,y]=>(fM x).bind fun xs=>(fM y).map fun ys=>gT xs ys
 | _=>none
theorem xl {K:PySem.W.Frag}{HF:Hp}{d:D}{v:V}{xs:List D}(h:fM d=some xs) (r:Rep K HF d v):∃b a vs,v=.ref a/\qK K b a HF vs/\ar K HF xs vs:=by
 rcases kC h with rfl|rfl
 ·simp only[Rep] at r
  obtain⟨a,vs,rfl,q,rr⟩:=r
  exact⟨true,a,vs,rfl,q,rr⟩
 ·simp only[Rep] at r
  obtain⟨a,vs,rfl,q,rr⟩:=r
  exact⟨false,a,vs,rfl,q,rr⟩
noncomputable def eV (fs:Env->Option (List D)):Env->Option (List D):=fun ρ=>(fs ρ).bind JY
theorem F5 (B:mL X "zip" (.type "zip")) (hs:starEach [l,l'] X.env=(false,eval l X.env)::starEach [l'] X.env) (hs2:(backTo pos (starEach [l'] X.env)).any (·.1)=false) (h:DA X [l,l'] fs) :
  DI X (.Tuple elts k tp) (.Call (.Name "zip" p) [l,l'] [] pos) (eV fs) :=
 sY (Em B h hs hs2) fun σ H R ⟨HF,ρ,ds,sm,eo,hf,q⟩=>by
  obtain⟨x,hx,hf⟩:=bs hf
  refine⟨HF,ρ,_,sm,eo,hx,fun vs H1 HF1 g1 r1=>?_⟩
  unfold JY at hf
  split at hf
  ·obtain⟨xs,h1,hf⟩:=bs hf
   obtain⟨ys,h2,rfl⟩:=map_some hf
   obtain⟨v,r',rfl,a,b⟩:=r1.cons_inv
   obtain⟨v',r'',rfl,a',b'⟩:=b.cons_inv
   rw[b'.nil_inv]
   obtain⟨c,ad,us,rfl,hq,rr⟩:=xl h1 a
   obtain⟨c',ad',us',rfl,hq',rr'⟩:=xl h2 a'
   exact⟨ad,ad',rfl,c,c',us,us',hq.mono g1.fh,hq'.mono g1.fh,q _ H1 HF1 g1 (BY hq (fun _ _ s h=>h.mono s) hq' (fun _ _ s h=>h.mono s) rr rr')⟩
  ·cases hf
end
end Dl
namespace Zp
open PySem PyProof.Rows
theorem IsI.ne {b:Bool}{h:Heap}{it l:Addr}{k:Nat}{xs:Array Value}(x:IsI b h it l k) (y:IsS b h l xs):l≠it:=by
 rintro rfl
 cases b
 ·obtain⟨o,e,c,d⟩:=(show h.IsListIter l l k from x)
  obtain⟨o',e',r⟩:=(show h.IsList l xs from y)
  rw[e] at e';cases e'
  simp_all
 ·obtain⟨o,e,c,d⟩:=(show h.IsTupleIter l l k from x)
  obtain⟨o',e',r⟩:=(show h.IsTuple l xs from y)
  rw[e] at e';cases e'
  simp_all
section
variable {prog:Program}{w:World}{A:Around}{E:Value->Shared->Prop}{s:Shared}
theorem drawsI (hn:A.handled=none) (b:Bool) (it l:Addr) (xs:Array Value):Draws prog w A it [it,l] xs.size (fun i x=>xs[i]?=some x) (fun i h=>IsI b h it l i/\IsS b h l xs) where
 live:=fun i h st=>let ⟨o,e,_⟩:=st.1.obj;⟨o,e⟩
 frame:=fun i h h' st k=>⟨st.1.at (k it (by simp)),st.2.at (k l (by simp))⟩
 item:=fun i s Q E hi st hQ=>nxt st.1 st.2 (v:=xs[i]) (by simp[hi]) fun g e t=>hQ _ g s.toks (by simp[hi]) ⟨e,st.2.extBut t.extBut (st.1.ne st.2)⟩ t
 done:=fun s Q E st hE=>nxtE hn st.1 st.2 (by simp) hE
theorem nextE {b₁:Bool}{e it l:Addr}{i:Nat}{items:Array Value}{x old:Value}{Q:Option Value->Shared->Prop}(hn:A.handled=none)
  (qe:IsEnum s.heap e it i old) (qi:IsI b₁ s.heap it l i) (ql:IsS b₁ s.heap l items) (ex:items[i]?=some x) (nei:e≠it)
  (kQ:∀g tk,IsEnumOut g e it ((i:Int)+1) x s.heap.objs.size->IsI b₁ g it l (i+1)->g.get? s.heap.objs.size=some { cls:=.type "tuple",data:=.seq #[.int i tk,x] } ->
   g.objs.size=s.heap.objs.size+1->(∀c o,c≠e->c≠it->s.heap.get? c=some o->g.get? c=some o)->Q (some (.ref s.heap.objs.size)) { s with heap:=g,toks:=tk+1 }) :
  wpAny (model prog w) A (pyNext (.ref e)) Q E s:=by
 have nel:e≠l:=by
  rintro rfl
  cases b₁
  ·obtain⟨o,e1,r⟩:=(show s.heap.IsList e items from ql)
   rw[qe] at e1;cases e1;simp at r
  ·obtain⟨o,e1,r⟩:=(show s.heap.IsTuple e items from ql)
   rw[qe] at e1;cases e1;simp at r
 have D:Draws prog w A.in1 it [it,l] items.size (fun i x=>items[i]?=some x) (fun i h=>IsI b₁ h it l i/\IsS b₁ h l items):=drawsI (A:=A.in1) hn b₁ it l items
 refine wpAny_pyNext_enum_itemD D qe ⟨qi,ql⟩ (Array.getElem?_eq_some_iff.mp ex).1 nei (by simp[nei,nel]) fun y g tk hy a b c d k=>?_
 rw[ex] at hy;cases hy
 exact kQ g tk a b.1 c d k
end
end Zp
namespace Dl
open PySem L2 PySem.Spec PyProof.Rows Zp
theorem oM {P:Program}{w:World}{K:PySem.W.Frag}{elts:List Expr}{k:Nat}{pos:Pos}(b:Bool) (a it e:Addr) (hei:e≠it):Turn P w K (.Tuple elts k pos) (L4 (qK K b a)) [e,it] e (fun i h=>(∃old,IsEnum h e it i old)/\IsI b h it a i) where
 mem:=by simp
 obj:=fun i h st c hc=>by
  obtain⟨⟨old,he⟩,hi⟩:=st
  rcases List.mem_cons.mp hc with z|z
  ·subst z;exact⟨_,he,fun v q=>by have q:Data.fields _=Data.cell v:=q;cases q⟩
  ·rw[List.mem_singleton.mp z];exact hi.obj
 keep:=fun i h h' st kk=>⟨let ⟨old,he⟩:=st.1;⟨old,kk e (by simp) _ he⟩,st.2.at fun o q=>kk it (by simp) o q⟩
 item:=by
  intro X hP hw hK hc i pins s σ H E I hf st hg
  subst hP hw hK
  obtain⟨xs,x,hq,hx⟩:=hg
  obtain⟨its,rv,p,hz⟩:=hq.src I
  obtain⟨u,hu,ru⟩:=rv.get hx
  obtain⟨⟨old,he⟩,hi⟩:=st
  refine nextE (I.ok.hd hc) he hi p (x:=u) (by simpa using hu) hei fun g tk b1 b2 b3 b4 hk=>⟨.ref s.heap.objs.size,rfl,?_⟩
  have lt:∀ {c:Addr}{o:Obj},s.heap.get? c=some o->s.heap.objs.size≠c:=fun e=>Nat.ne_of_gt (Heap.lt_size e)
  have hte:s.heap.objs.size≠e:=lt he
  refine wpAny_letOwnedTupleGo_enum (s:={ s with heap:=g,toks:=tk+1 }) b1 fun g' he' hs'=>?_
  have b3':g'.get? s.heap.objs.size=some { cls:=.type "tuple",data:=.seq #[.int i tk,u] }:=hs'.extBut _ _ hte b3
  have ht:l6 g' s.heap.objs.size (List.toArray [Value.int (i:Nat) tk,u]):=⟨⟨_,b3',rfl,_,rfl⟩,_,b3',rfl⟩
  refine⟨.ref s.heap.objs.size,_,we (ch:=[e,it]) (xs:=[.int (i:Nat),x]) (t':=tk+1) I hf (fun c o hb q=>?_) (Nat.le_refl _) ht (.cons ⟨_,rfl⟩ (.cons ru .nil)) (by show 2<=sizeLine;decide),rfl,
   ⟨s.heap.objs.size,x,rfl,I.fresh,rfl,fun zs hzs=>by rw[hzs.inj I hq];exact hx⟩,⟨⟨_,he'⟩,b2.extBut hs'.extBut (Ne.symm hei)⟩,fun c hc'=>?_⟩
  ·simp only[List.mem_cons,List.not_mem_nil,or_false,not_or] at hb
   exact hs'.extBut _ _ hb.1 (hk c o hb.1 hb.2 q)
  ·have:s.heap.objs.size≠c:=by
    simp only[List.mem_cons,List.not_mem_nil,or_false] at hc'
    obtain⟨o1,g1,_⟩:=hi.obj
    rcases hc' with rfl|rfl
    ·exact lt he
    ·exact lt g1
   rw[aB (Ne.symm this)]
   exact (hf c hc').1
 done:=by
  intro X hP hw hK hc i pins s σ H E I hf st hg
  subst hP hw hK
  obtain⟨xs,hq,hx⟩:=hg
  obtain⟨its,rv,p,hz⟩:=hq.src I
  have hh:X.A.in1.handled=none:=I.ok.hd hc
  have hl:=rv.length
  obtain⟨⟨old,he⟩,hi⟩:=st
  have hT:s.TypeIs (.ref e) "enumerate":=⟨_,he,rfl⟩
  unfold pyNext
  refine wpAny_bind (wpAny_attempt (wpAny_callSpecial?_slot (name:=Str.ofString "__next__") hT F.slot_enumerate_next (wpAny_call_entry F.slot_enumerate_next hT F.entry_enumerate_next ?_ (F.args_enumerate_next_1 _))))
  refine wpAny_bind (m:=field (.ref e) 2) (wpAny_field he rfl (x:=.ref it) rfl ?_)
  refine wpAny_bind (nxtE hh hi p (by simp;omega) fun h1 x k1 hx1=>?_)
  obtain⟨o,ho,hc1⟩:=hx1
  refine wpAny_bind (wpAny_isInstance (T:="StopIteration") (b:=true) ⟨o,ho,hc1⟩ isSubtype_stop (wpAny_pure ⟨rfl,?_⟩))
  obtain⟨f0,f1,f2,f3,f4,f5⟩:=hf it (by simp)
  exact I.turned (t':=s.toks) (fun b o hb q=>k1 b o hb q) f0 f1 f3 f4 f5
 self:=fun _ _ _ _ _ st h=>let ⟨_,he⟩:=st.1;wpAny_pyIter_enum he h
section
variable {X:Cx}{l:Expr}{f:Env->Option D}{fs:Env->Option (List D)}{elts:List Expr}{k:Nat}{pos p tp:Pos}
theorem F6 {tl:TA}(B:mL X "enumerate" (.type "enumerate")) (ha:PA X [l] tl) (hs:starEach [l] X.env=[(false,eval l X.env)]):PI X (.Tuple elts k tp) (.Call (.Name "enumerate" p) [l] [] pos) (fun σ H R=>tl σ H fun vs H1=>∃a,vs=[.ref a]/\∃b xs,qK X.K b a H1 xs/\R (L4 (qK X.K b a)) H1):=by
 intro pins s σ H R I h
 refine Call_ (iJ I B.gl B.mg B.bt (PyProof.Rows.callWith_type1 (bS (ha pos pins s σ H _ I h) fun us s1 ⟨vs,H1,I1,r1,q1⟩=>?_) hs rfl))
 obtain⟨a,e,b,xs,hq,q⟩:=q1
 subst e
 obtain⟨u,rfl,rx⟩:=vals1 r1
 cases rx
 have fresh:∀b∈[s1.heap.objs.size+1,s1.heap.objs.size],cw X pins H1 b:=fun b hb=>by
  rcases List.mem_cons.mp hb with z|z
  ·subst z;exact I1.fpOk (Nat.le_succ _) (I1.hok.fresh (Nat.le_succ _))
  ·cases List.mem_singleton.mp z;exact I1.fpOk (Nat.le_refl _) I1.fresh
 obtain⟨its,rv,pl,hz⟩:=hq.src I1
 cases b with
 | false =>
  refine call_enumerate_list pl fun h' he hit hsz kp=>wpAny_pyIter_enum (s:={ s1 with heap:=h' }) he ?_
  exact⟨_,_,_,_,H1,rfl,I1.kept (t':=s1.toks) kp,oM false a s1.heap.objs.size (s1.heap.objs.size+1) (Nat.succ_ne_self _),⟨⟨_,he⟩,hit⟩,fresh,q⟩
 | true =>
  refine En.call_enumT (show s1.heap.IsTuple a its.toArray from pl) fun h' he hit hsz kp=>wpAny_pyIter_enum (s:={ s1 with heap:=h' }) he ?_
  exact⟨_,_,_,_,H1,rfl,I1.kept (t':=s1.toks) kp,oM true a s1.heap.objs.size (s1.heap.objs.size+1) (Nat.succ_ne_self _),⟨⟨_,he⟩,hit⟩,fresh,q⟩
noncomputable def ba (fs:Env->Option (List D)):Env->Option (List D):=fun ρ=>(fs ρ).bind fun ds=>(cT ds).map (bu 0)
theorem E2 (B:mL X "enumerate" (.type "enumerate")) (h:DA X [l] fs) (hs:starEach [l] X.env=[(false,eval l X.env)]):DI X (.Tuple elts k tp) (.Call (.Name "enumerate" p) [l] [] pos) (ba fs) :=
 sY (F6 B h hs) fun σ H R ⟨HF,ρ,ds,sm,eo,hf,q⟩=>by
  obtain⟨x,hx,hf⟩:=bs hf
  obtain⟨es,h1,rfl⟩:=map_some hf
  obtain⟨d,h0,h1⟩:=bs h1
  rw[fH h0] at hx
  refine⟨HF,ρ,_,sm,eo,hx,fun vs H1 HF1 g1 r1=>?_⟩
  obtain⟨v,r',rfl,a,b⟩:=r1.cons_inv
  rw[b.nil_inv]
  obtain⟨c,ad,us,rfl,hq,rr⟩:=xl h1 a
  exact⟨ad,rfl,c,us,hq.mono g1.fh,q _ H1 HF1 g1 (zC hq (fun _ _ s h=>h.mono s) rr)⟩
end
end Dl
namespace Srt
open PySem PySem.W PySem.Calls PyProof.Rows L2
theorem cw.at {X:Cx}{pins:List (Addr×Obj)}{H H':Hp}{b:Addr}(h:cw X pins H b) (e:H' b=none):cw X pins H' b:=⟨e,h.2⟩
section
variable {X:Cx}{pins:List (Addr×Obj)}{σ:L2.St}{H:Hp}{s:Shared}{A:Around}{E:Value->Shared->Prop}
theorem upd_inv {b:Addr}{g:Array Value->Array Value}(I:Inv X pins σ H s) (f:cw X pins H b):Inv X pins σ H { s with heap:=s.heap.update b (Obj.mapSeq g) }:=by
 obtain⟨f0,f1,f2,f3,f4,f5⟩:=f
 exact I.turned (t':=s.toks) (h':=s.heap.update b (Obj.mapSeq g)) (fun c o hc e=>(Heap.get?_update_other _ _ (Ne.symm hc)).trans e) f0 f1 f3 f4 f5
theorem pin_get {fp:List Addr}{h:Heap}{b:Addr}{o:Obj}{H':Hp}{s':Shared}(I:Inv X (pins++mB fp h) σ H' s') (hb:b∈fp) (e:h.get? b=some o):s'.heap.get? b=some o/\H' b=none :=
 let q:=I.pin (b,o) (List.mem_append_right _ (List.mem_append_right _ (di hb e)));⟨q.1,q.2.1⟩
theorem list_sortK {a:Addr}{f:Value}{vs:List Value}{n:Nat}{P:PySem.Fin->Shared->Prop}(I:Inv X pins σ H s) (ho:s.heap.get? a=some (seqObj "list" vs.toArray n)) (fa:cw X pins H a) (h64:vs.length < 64)
  (J:List Value->Hp->Prop) (j0:J [] H)
  (step:∀us v,vs[us.length]?=some v->∀pl s' H',Inv X (pins++pl) σ H' s'->J us H'->wpAny (model X.prog X.w) A (call f [v]) (fun u s''=>∃H'',Inv X (pins++pl) σ H'' s''/\J (us++[u]) H'') (fun _ _=>False) s')
  (fin:∀us H',us.length=vs.length->J us H'->∃ (z:Nat->Int) (κ:SortKind),(2<=vs.length->∀s',Inv X pins σ H' s'->(∀Q':SortKind->Shared->Prop,Q' κ s'->wpAny (model X.prog X.w) A (keyKind' us.toArray) Q' (fun _ _=>False) s') /\
    ∀i j C,i < vs.length->j < vs.length->C (SP.dR z i j) s'->kas_ask X.prog X.w A κ us i j C s') /\
   ∀s' c,Inv X pins σ H' s'->cw X pins H' a->s'.heap.get? a=some (seqObj "list" (outV z vs).toArray c)->P (.done (.ret .none)) s') :
  wpAny (model X.prog X.w) A (ksk_tree a f false) P E s:=by
 have hsl:vs.length<=sizeLine:=by rw[sizeLine_eq];omega
 unfold ksk_tree
 refine wpAny_bind (listItems_at ho rfl ?_)
 refine wpAny_bind (listUpdate_at ho rfl ?_ (by simpa using hsl) (Nat.zero_le _))
 obtain⟨e1,ho1⟩:∃e,(s.heap.update a (Obj.mapSeq fun _=>(#[]:Array Value))).get? a=some (seqObj "list" #[] e):=⟨_,get?_update_seq ho fun _=>#[]⟩
 have I1:=upd_inv (g:=fun _=>(#[]:Array Value)) I fa
 refine wpAny_bind (seqEpoch_at ho1 rfl ?_)
 refine wpAny_bind (wpAny_newTuple ?_ (by simpa using hsl))
 refine wpAny_bind (wpAny_newList ?_ (Nat.zero_le _))
 refine wpAny_holding ?_
 have ho3:(((s.heap.update a (Obj.mapSeq fun _=>(#[]:Array Value))).push (seqObj "tuple" vs.toArray 0)).push (seqObj "list" #[] 0)).get? a=some (seqObj "list" #[] e1):=Heap.get?_push_of_some _ (Heap.get?_push_of_some _ ho1)
 have hk3:(((s.heap.update a (Obj.mapSeq fun _=>(#[]:Array Value))).push (seqObj "tuple" vs.toArray 0)).push (seqObj "list" #[] 0)).get? ((s.heap.update a (Obj.mapSeq fun _=>(#[]:Array Value))).push (seqObj "tuple" vs.toArray 0)).objs.size=some (seqObj "list" #[] 0):=Heap.get?_push_size _ rfl
 have I3:=(I1.kept (t':=s.toks) (h':=((s.heap.update a (Obj.mapSeq fun _=>(#[]:Array Value))).push (seqObj "tuple" vs.toArray 0)).push (seqObj "list" #[] 0)) fun b o e=>Heap.get?_push_of_some _ (Heap.get?_push_of_some _ e))
 have I2:=(I1.kept (t':=s.toks) (h':=(s.heap.update a (Obj.mapSeq fun _=>(#[]:Array Value))).push (seqObj "tuple" vs.toArray 0)) fun b o e=>Heap.get?_push_of_some _ e)
 have fk:cw X pins H ((s.heap.update a (Obj.mapSeq fun _=>(#[]:Array Value))).push (seqObj "tuple" vs.toArray 0)).objs.size:=I2.fpOk (Nat.le_refl _) (I2.hok.fresh (Nat.le_refl _))
 have hka:((s.heap.update a (Obj.mapSeq fun _=>(#[]:Array Value))).push (seqObj "tuple" vs.toArray 0)).objs.size≠a:=by
  have hlt:=Heap.lt_size ho1
  rw[Heap.size_push]
  exact Nat.ne_of_gt (Nat.lt_succ_of_lt hlt)
 show wpAny _ A _ P E { s with heap:=((s.heap.update a (Obj.mapSeq fun _=>(#[]:Array Value))).push (seqObj "tuple" vs.toArray 0)).push (seqObj "list" #[] 0) }
 generalize ((s.heap.update a (Obj.mapSeq fun _=>(#[]:Array Value))).push (seqObj "tuple" vs.toArray 0)).objs.size=kS at hk3 fk hka
 generalize e3:({ s with heap:=((s.heap.update a (Obj.mapSeq fun _=>(#[]:Array Value))).push (seqObj "tuple" vs.toArray 0)).push (seqObj "list" #[] 0) }:Shared)=s3 at I3
 have ho3:s3.heap.get? a=some (seqObj "list" #[] e1):=by rw[<- e3];exact ho3
 have hk3:s3.heap.get? kS=some (seqObj "list" #[] 0):=by rw[<- e3];exact hk3
 clear e3 I2 I1 ho1 ho
 unfold ksk_rest
 refine wpAny_bind (wpAny_rule ?_)
 first
  | rw[List.forIn_toArray]
  | (rw[<- Array.forIn_toList];simp only[List.toList_toArray])
  | rw[<- Array.forIn_toList]
 refine wpAny_bind (ksk_fold (fun i s'=>∃us H' e,us.length=i/\Inv X pins σ H' s'/\H' a=none/\H' kS=none/\s'.heap.get? a=some (seqObj "list" #[] e1)/\s'.heap.get? kS=some (seqObj "list" us.toArray e)/\J us H') vs 0 s3
  ⟨[],H,0,rfl,I3,fa.1,fk.1,ho3,hk3,j0⟩ ?step ?done)
 case step =>
  rintro j x s' hx ⟨us,H',e,hu,I',ha',hk',hoa,hok,j'⟩
  have hu:us.length=j:=by omega
  have hj:j < vs.length:=(List.getElem?_eq_some_iff.mp hx).1
  have Ip:=I'.pinned (fp:=[a,kS]) (fun b hb=>by
   rcases List.mem_cons.mp hb with rfl|hb
   ·exact cw.at fa ha'
   ·rw[List.mem_singleton.mp hb];exact cw.at fk hk') (fun b hb=>by
   rcases List.mem_cons.mp hb with rfl|hb
   ·exact⟨_,hoa,fun v z=>by cases z⟩
   ·rw[List.mem_singleton.mp hb];exact⟨_,hok,fun v z=>by cases z⟩)
  refine wpAny_bind (wpAny_attempt (wpAny_mono (step us x (by rw[hu];exact hx) _ s' H' Ip j') (fun u s'' he=>?_) fun _ _ hF=>hF.elim))
  obtain⟨H'',I'',j''⟩:=he
  try dsimp only
  obtain⟨ga,na⟩:=pin_get I'' (b:=a) List.mem_cons_self hoa
  obtain⟨gk,nk⟩:=pin_get I'' (b:=kS) (List.mem_cons_of_mem _ List.mem_cons_self) hok
  have I4:=I''.unpinned
  obtain⟨c2,hc2⟩:∃c2,(s''.heap.update kS (Obj.mapSeq (·.push u))).get? kS=some (seqObj "list" (us.toArray.push u) c2):=⟨_,get?_update_seq gk (·.push u)⟩
  refine wpAny_bind (listUpdate_at gk rfl ?_ (by rw[List.size_toArray,sizeLine_eq];omega) (Nat.le_trans (Nat.le_of_eq (Array.size_push ..)) (by rw[List.size_toArray,sizeLine_eq];omega)))
  refine wpAny_pure ⟨rfl,us++[u],H'',c2,by rw[List.length_append,hu];simp,upd_inv I4 (cw.at fk nk),na,nk,(Heap.get?_update_other _ _ hka).trans ga,?_,j''⟩
  rw[hc2]
  simp
 case done =>
  rintro s' ⟨us,H',e,hu,I',ha',hk',hoa,hok,j'⟩
  have hu:us.length=vs.length:=by omega
  try dsimp only
  refine wpAny_bind (listItems_at hok rfl ?_)
  obtain⟨z,κ,hz,hP⟩:=fin us H' hu j'
  have last:∀st':SortSt,(arrOf st').map (·.2)=(outV z vs).toArray->failedOf st'=none->wpAny (model X.prog X.w) A (ksk_tail a false e1 (.ref kS) st') P E s':=fun st' h1 h2=>by
   unfold ksk_tail
   try dsimp only
   rw[h1,h2]
   have na1:(s'.heap.update kS (Obj.mapSeq fun _=>(#[]:Array Value))).get? a=some (seqObj "list" #[] e1):=(Heap.get?_update_other _ _ hka).trans hoa
   have I5:=upd_inv (g:=fun _=>(#[]:Array Value)) I' (cw.at fk hk')
   have I6:=upd_inv (s:={ s' with heap:=s'.heap.update kS (Obj.mapSeq fun _=>(#[]:Array Value)) }) (g:=fun _=>(outV z vs).toArray) I5 (cw.at fa ha')
   refine wpAny_bind (listUpdate_at hok rfl ?_ (by rw[List.size_toArray,sizeLine_eq];omega) (Nat.zero_le _))
   refine wpAny_bind (wpAny_letGo ?_)
   refine wpAny_bind (seqEpoch_at na1 rfl ?_)
   refine wpAny_bind (listUpdate_at na1 rfl ?_ (Nat.zero_le _) (by
    simp only[Bool.false_eq_true,if_false]
    show (outV z vs).toArray.size<=_;rw[List.size_toArray,outV_len];omega))
   obtain⟨c,hc⟩:∃c,((s'.heap.update kS (Obj.mapSeq fun _=>(#[]:Array Value))).update a (Obj.mapSeq fun _=>(outV z vs).toArray)).get? a=some (seqObj "list" (outV z vs).toArray c):=⟨_,get?_update_seq na1 fun _=>(outV z vs).toArray⟩
   simp only[bne_self_eq_false,Bool.false_eq_true,if_false]
   exact wpAny_pure (hP _ c I6 (cw.at fa ha') hc)
  unfold ksk_end
  try dsimp only
  simp only[Bool.false_eq_true,if_false]
  by_cases h2:vs.toArray.size < 2
  ·rw[if_pos h2,if_pos h2]
   refine wpAny_bind (wpAny_pure ?_)
   rw[StateT.run_pure]
   refine wpAny_bind (wpAny_pure (last _ ?_ rfl))
   have h2':vs.length < 2:=by simpa using h2
   unfold outV
   rw[if_pos h2']
   show ((us.toArray.zip vs.toArray).map (·.2))=vs.toArray
   apply Array.toList_inj.mp
   simp only[Array.toList_map,Array.toList_zip]
   exact List.map_snd_zip (by rw[hu];exact Nat.le_refl _)
  ·rw[if_neg h2,if_neg h2]
   have h2':2<=vs.length:=by
    have:¬ vs.length < 2:=by simpa using h2
    omega
   obtain⟨hk,hlt⟩:=hz h2' s' I'
   refine wpAny_bind (wpAny_mono (hk (fun κ' s''=>κ'=κ/\s''=s') ⟨rfl,rfl⟩) (fun κ' s'' hs=>?_) fun _ _ x=>x.elim)
   obtain⟨rfl,rfl⟩:=hs
   refine wpAny_bind (wpAny_mono (kat_run (Q:=fun st' s2=>s2=s''/\(arrOf st').map (·.2)=(outV z vs).toArray/\failedOf st'=none) (G:=fun p s2=>s2=s''/\p=SP.run (SP.dR z) (kas_sort vs.length))
    hu h2' h64 (fun p st' s2 a1 a2 a3 a4=>⟨a4.1,?_,a3⟩) (SP.wp_run hlt (kas_sort vs.length) (SP.CW (by omega)) ⟨rfl,rfl⟩)) ?_ fun _ _ e=>e)
   ·rw[kat_snds hu a2,a4.2]
    unfold outV
    rw[if_neg (by omega)]
   ·rintro⟨⟨⟩,st'⟩ s2 ⟨hs,h4,h5⟩
    subst hs
    exact last st' h4 h5
theorem sortedK {l:Value}{f:Addr}{vs:List Value}{Q:Value->Shared->Prop}(I:Inv X pins σ H s) (h64:vs.length < 64)
  (hcol:∀ {Q':List Value->Shared->Prop},(∀h':Heap,(∀b o,s.heap.get? b=some o->h'.get? b=some o)->Q' vs { s with heap:=h' })->wpAny (model X.prog X.w) A.in1 (collect l) Q' E s)
  (J:List Value->Hp->Prop) (j0:J [] H)
  (step:∀us v,vs[us.length]?=some v->∀pl s' H',Inv X (pins++pl) σ H' s'->J us H'->wpAny (model X.prog X.w) A.in1.in1 (call (.ref f) [v]) (fun u s''=>∃H'',Inv X (pins++pl) σ H'' s''/\J (us++[u]) H'') (fun _ _=>False) s')
  (fin:∀us H',us.length=vs.length->J us H'->∃ (z:Nat->Int) (κ:SortKind),(2<=vs.length->∀s',Inv X pins σ H' s'->(∀Q':SortKind->Shared->Prop,Q' κ s'->wpAny (model X.prog X.w) A.in1.in1 (keyKind' us.toArray) Q' (fun _ _=>False) s') /\
    ∀i j C,i < vs.length->j < vs.length->C (SP.dR z i j) s'->kas_ask X.prog X.w A.in1.in1 κ us i j C s') /\
   ∀s' D c,Inv X pins σ H' s'->cw X pins H' D->s'.heap.get? D=some (seqObj "list" (outV z vs).toArray c)->Q (.ref D) s') :
  wpAny (model X.prog X.w) A (call (.builtin "sorted") [l] [(Str.ofString "key",.ref f)]) Q E s:=by
 have hsl:vs.length<=sizeLine:=by rw[sizeLine_eq];omega
 refine call_function_entry_kw kind_sorted plain_sorted entry_sorted (ksk_s1 _ _) ?_
 unfold Builtin.«sorted»
 refine wpAny_bind (m:=checkCount "sorted" 1 1 _) (wpAny_pure (wpAny_bind (hcol fun h1 kp=>?_)))
 refine wpAny_bind (wpAny_newList ?_ (by simpa using hsl))
 have I1:=I.kept (t':=s.toks) kp
 have fD:cw X pins H h1.objs.size:=I1.fpOk (Nat.le_refl _) (I1.hok.fresh (Nat.le_refl _))
 have hoD:(h1.push (seqObj "list" vs.toArray 0)).get? h1.objs.size=some (seqObj "list" vs.toArray 0):=Heap.get?_push_size _ rfl
 have I2:=I1.kept (t':=s.toks) (h':=h1.push (seqObj "list" vs.toArray 0)) fun b o e=>Heap.get?_push_of_some _ e
 show wpAny _ _ _ _ _ { s with heap:=h1.push (seqObj "list" vs.toArray 0) }
 refine wpAny_bind (wpAny_holding (wpAny_call_entry_kw slot_list_sort ⟨_,hoD,rfl⟩ entry_list_sort ?body (ksk_l1 _ _)))
 case body =>
  show wpAny (model X.prog X.w) A.in1.in1 (Builtin.«list.sort» ⟨[.ref h1.objs.size],[(Str.ofString "key",.ref f)]⟩) _ _ _
  rw[ksk_t1]
  refine list_sortK I2 hoD fD h64 J j0 step fun us H' hu j'=>?_
  obtain⟨z,κ,hz,hP⟩:=fin us H' hu j'
  exact⟨z,κ,hz,fun s' c I' f' e=>⟨_,rfl,wpAny_pure ⟨_,rfl,hP s' _ c I' f' e⟩⟩⟩
end
end Srt
namespace Dl
open PySem L2 PySem.Spec PyProof.Rows
theorem _root_.L2.Inv.track {X:Cx}{pins:List (Addr×Obj)}{σ:L2.St}{H:Hp}{s:Shared}{b:Addr}{o:HO}(I:Inv X pins σ H s) (f:cw X pins H b) (ho:eE X.prog X.w (upd H b o) s.heap b o):Inv X pins σ (upd H b o) s:=by
 obtain⟨f0,f1,f2,f3,f4,f5⟩:=f
 have up:∀c u,H c=some u->upd H b o c=some u:=fun c u e=>by rw[aB (aM e f0)];exact e
 refine⟨I.ok,I.os,I.bare,⟨I.base.keep,I.base.slot,fun c oc e n hx=>?_,I.base.there,fun c xs e=>up c _ (I.base.tups c xs e),fun c oc u e=>up c _ (I.base.frzs c oc u e),⟨fun c u e t=>up c u (I.base.tbls.st c u e t),I.base.tbls.gr⟩⟩,I.loc,I.cell,?_,fun x c e=>?_,fun p hp=>?_,fun c u e=>?_,I.len⟩
 ·have hne:c≠b:=fun z=>by
   rcases f3 with g|g
   ·exact hx (z ▸ g)
   ·exact absurd (Nat.lt_of_lt_of_le (Heap.lt_size e) (z ▸ g)) (Nat.lt_irrefl _)
  rw[aB hne];exact I.base.free c oc e n hx
 ·rw[aB (Ne.symm f1)];exact I.free
 ·rw[aB (f4 x c e)];exact I.freeC x c e
 ·obtain⟨e,n,r⟩:=I.pin p hp
  exact⟨e,by rw[aB (f5 p hp)];exact n,r⟩
 ·by_cases hc:c=b
  ·subst hc;rw[aE] at e;cases e;exact ho
  ·rw[aB hc] at e
   exact (I.hok c u e).stay (fun d w _ q=>q) (fun d q=>up d _ q) fun d w q _=>up d _ q
noncomputable def mV (scope:Scope) (N':List Str) (p:Str):Bool:=scope.names.all (fun q=>!decide (q.2=NameKind.cell))&&decide (N'[0]?=some p)&&decide (scope.names.lookup p=some .local)&&decide (scope.isCoroutine=false)&&decide (scope.isGenerator=false)
section
variable {X:Cx}{N:List Str}{sc:Scope}{k:Nat}
theorem Da {scope:Scope}{N':List Str}{p qual:Str}{A:Around}{f c:Addr}{s:Shared}{H:Hp}(C:Bk X N sc (k+3)) (hA:dN (k+1) A) (hk:scope.kind=.function) (hnd:N'.Nodup) (hl:mV scope N' p=true):Bk (gm X A qual scope N' f c s H) N' scope k where
 n:=rfl
 nd:=hnd
 tb:=fun x kd hx=>.inl hx
 calm:=rfl
 fn:=fun x hx=>by
  unfold mV at hl
  simp only[Bool.and_eq_true,List.all_eq_true,Bool.not_eq_true',decide_eq_false_iff_not] at hl
  exact absurd rfl (hl.1.1.1.1 _ (mem_of_lookup hx))
 room:=hA.deeper _
 xe:=rfl
 kd:=hk
structure n9 (X:Cx) (qual:Str):Prop where
 ex:∃c P,X.env.code=.ref c/\X.env.qual++"<lambda>"=qual/\PySem.W.codeHdIn X.K c P=true/\∀HF,fw X.K HF->HF P=some (.tab qual)
noncomputable def gY (te:Env->Option D) (ρ:Env):List D->Option (List D)
 | []=>some []
 | d::ds=>(te (ρ.set 0 (some d))).bind fun x=>(gY te ρ ds).map (x::·)
theorem l5 {te:Env->Option D}{ρ:Env}:∀ {ds ks:List D},gY te ρ ds=some ks->ks.length=ds.length
 | [],ks,h=>by cases h;rfl
 | d'::ds,ks,h=>by
  unfold gY at h
  obtain⟨y,h1,h⟩:=bs h
  obtain⟨ys,h2,rfl⟩:=map_some h
  simp[l5 h2]
theorem oW {te:Env->Option D}{ρ:Env}:∀ {ds ks:List D}{i:Nat}{d:D},gY te ρ ds=some ks->ds[i]?=some d->∃x,te (ρ.set 0 (some d))=some x/\ks[i]?=some x
 | [],ks,i,d,h,e=>by simp at e
 | d'::ds,ks,i,d,h,e=>by
  unfold gY at h
  obtain⟨y,h1,h⟩:=bs h
  obtain⟨ys,h2,rfl⟩:=map_some h
  cases i with
  | zero=>simp at e;subst e;exact⟨y,h1,rfl⟩
  | succ i=>obtain⟨x,a,b⟩:=oW h2 (by simpa using e);exact⟨x,a,by simpa using b⟩
noncomputable def l8 (cs:List Nat) (fl te:Env->Option D):Env->Option (List D):=fun ρ=>(fl ρ).bind fun l=>match l with
 | .list ds=>(gY te (dQ 1 cs ρ) ds).bind fun ks=>(intsOf ks).bind fun zs=>if ds.length < 64 then some (nK (fun i=>zs.getD i 0) ds .none) else none
 | _=>none
theorem vX {K:PySem.W.Frag}{HF:Hp}{ρ:Env}{σ:L2.St}{cs:List Nat}{d:D}{v:V}(eo:cG K HF ρ σ) (r:Rep K HF d v):cG K HF ((dQ 1 cs ρ).set 0 (some d)) ((jj 1 cs σ).set 0 (some v)):=iG (yX eo) r
theorem lJ {K:PySem.W.Frag}{HF:Hp}:∀ {ks:List D}{zs:List Int}{kvs:List V}{us:List Value},intsOf ks=some zs->ar K HF ks kvs->aC kvs us->IntsAre us zs
 | [],zs,kvs,us,h,r,v=>by
  cases h
  rw[r.nil_inv] at v
  cases v
  exact .nil
 | d::ks,zs,kvs,us,h,r,v=>by
  cases d<;>simp only[intsOf] at h<;>try cases h
  rename_i i
  obtain⟨ys,h2,rfl⟩:=map_some h
  obtain⟨w,ws,rfl,a,b⟩:=r.cons_inv
  simp only[Rep] at a
  subst a
  cases v with
  | cons r1 r2 =>
   obtain⟨t,rfl⟩:=r1
   exact .cons i t (lJ h2 b r2)
theorem iK:∀ {us:List Value}{zs:List Int}{i:Nat},IntsAre us zs->i < us.length->∃t,us.getD i Value.none=.int (zs.getD i 0) t
 | _,_,i,.nil,h=>by simp at h
 | _,_,0,.cons n t r,h=>⟨t,rfl⟩
 | _,_,i+1,.cons n t r,h=>by
  obtain⟨t',e⟩:=iK (i:=i) r (by simpa using h)
  exact⟨t',by simpa using e⟩
variable {l body:Expr}{fl te:Env->Option D}{params:Arguments}{scope:Scope}{lpos pos p0 kpos:Pos}{N':List Str}{cs:List Nat}{p qual:Str}
theorem Bk.sortK (C:Bk X N sc (k+3)) (B:mL X "sorted" (.builtin "sorted")) (L:n9 X qual) (ok:iz sc scope N N' 1 cs=true) (hl:mV scope N' p=true)
  (hb:∀ (cl:List (Str×Addr)) (pm ctv u:Value) (c:Addr),bindArgs (PySem.W.kla_fn "<lambda>" qual params body scope cl pm (.ref c) ctv) ⟨[u],[]⟩=pure [(p,u)]) (hdef:defaultsOf params X.env=([],[])) (h:DE X l fl)
  (hY:∀A f c s H,Bk (gm X A qual scope N' f c s H) N' scope k->DE (gm X A qual scope N' f c s H) body te)
  (hst:starEach [l] X.env=(false,eval l X.env)::starEach [] X.env) (he:backTo pos (starEach [l] X.env)=(false,eval l X.env)::backTo pos (starEach [] X.env)) (hpl:(backTo pos (starEach [l] X.env)).any (·.1)=false) :
  DF X (.Call (.Name "sorted" p0) [l] [⟨some "key",.Lambda params body scope lpos,kpos⟩] pos) (l8 cs fl te):=by
 obtain⟨S,_⟩:=C.comp ok
 have hnd:N'.Nodup:=by
  unfold iz at ok
  simp only[Bool.and_eq_true,decide_eq_true_eq] at ok
  exact ok.2
 have hl':=hl
 unfold mV at hl'
 simp only[Bool.and_eq_true,List.all_eq_true,Bool.not_eq_true',decide_eq_false_iff_not,decide_eq_true_eq] at hl'
 obtain⟨⟨⟨⟨hnc,hN0⟩,hp⟩,hco⟩,hgen⟩:=hl'
 obtain⟨cc,P,hcode,hqual,hhd,eC⟩:=L.ex
 intro pins s σ H Q I ⟨HF,ρ,out,sm,eo,hf,q⟩
 obtain⟨ld,hld,hf⟩:=bs hf
 cases ld<;>try cases hf
 rename_i ds
 obtain⟨ks,hks,hf⟩:=bs hf
 obtain⟨zs,hzs,hf⟩:=bs hf
 split at hf<;>cases hf
 rename_i h64
 refine wpAny_Call_Name_kw (iJ I B.gl B.mg B.bt ?_ (by decide) (by decide))
 refine PyProof.Rows.callWith_kw (e:=l) (rest:=[]) (kws:=[⟨some "key",.Lambda params body scope lpos,kpos⟩]) ?_ he hpl rfl rfl
 refine bS (yQ h C9 hst pos pins s σ H _ I ⟨HF,ρ,[.list ds],sm,eo,by simp[aa,ae,hld],fun vs H1 HF1 g1 r1=>(⟨HF1,g1,r1⟩:∃HF1,cq HF H HF1 H1/\ar X.K HF1 [.list ds] vs)⟩) fun us s1 ⟨vs,H1,I1,rv,HF1,g1,r1⟩=>?_
 obtain⟨v,vr,rfl,a1,b1⟩:=r1.cons_inv
 rw[b1.nil_inv] at rv
 obtain⟨u,rfl,rx⟩:=vals1 rv
 simp only[Rep] at a1
 obtain⟨la,ws,rfl,hq,rr⟩:=a1
 cases rx
 have hT1:H1 P=some (.tab qual):=g1.fh _ _ (eC HF1 (eo.tb.mono g1.ff))
 show wpAny _ _ (evalAll ((do let v <- eval (.Lambda params body scope lpos) X.env;standAt pos;pure v)::[])) _ _ s1
 refine wpAny_evalAll_cons (wpAny_bind ?_)
 refine wt (P:=P) I1 S hqual hcode (PySem.W.codeHd_of_K I1.ok.mod.kin hhd) hT1 I1.ok.mod.bmd hdef fun f c' pm ctv s2 H2 I2 hfo hfn hcod s12 fp2 _=>?_
 refine wpAny_bind (wpAny_standAt (wpAny_pure (wpAny_evalAll_nil ?_)))
 show wpAny _ _ (call (.builtin "sorted") [.ref la] [(Str.ofString "key",.ref f)]) _ _ s2
 have Ip:=I2.pinned (fp:=[f]) (fun b hb=>by rw[List.mem_singleton.mp hb];exact fp2) (fun b hb=>by rw[List.mem_singleton.mp hb];exact⟨_,hfo,fun v z=>by cases z⟩)
 have g2:cq HF1 H1 HF1 H2:=⟨s12,.refl _,g1.fh.trans s12,fun _ _ e=>.inl e⟩
 obtain⟨its,rvi,pl,hz⟩:=Ip.list (s12.seq (g1.fh.seq hq))
 have hlen:its.length=ds.length:=by rw[<- rvi.length,rr.length]
 have hkl:=l5 hks
 have hR:dN (k+1) X.A.in1.in1:=C.room.in1.in1
 refine Srt.sortedK (vs:=its) Ip (by omega) (fun {Q'} hQ=>?_) (fun us H'=>∃HF' kvs,cq HF1 H2 HF' H'/\ar X.K HF' (ks.take us.length) kvs/\aC kvs us) ⟨HF1,[],.refl g2.fh,by simpa using ar.nil,.nil⟩ (fun us x hx pl' s3 H3 I3 ⟨HF3,kvs,g3,rk,rvk⟩=>?_) fun us H3 hu ⟨HF3,kvs,g3,rk,rvk⟩=>?_
 ·refine collect_list pl.isList (hQ _ fun b o e=>?_) (by rw[sizeLine_eq];omega)
  exact (Heap.get?_update_other _ _ (Nat.ne_of_gt (Heap.lt_size e))).trans (Heap.get?_push_of_some _ e)
 ·have hi:us.length < its.length:=(List.getElem?_eq_some_iff.mp hx).1
  obtain⟨w,hw⟩:∃w,ws[us.length]?=some w:=⟨_,List.getElem?_eq_getElem (by rw[rvi.length];exact hi)⟩
  obtain⟨x',hx',rw'⟩:=rvi.get hw
  rw[hx] at hx'
  cases hx'
  obtain⟨d,hd,rd⟩:=rr.get hw
  obtain⟨kd,hkd,hki⟩:=oW hks hd
  have hfo3:s3.heap.get? f=some (PySem.W.kla_obj "<lambda>" qual params body scope (dS X.env scope.names []) pm c' ctv) :=
   (I3.pin (f,_) (List.mem_append_right _ (List.mem_append_left _ (List.mem_append_right _ (di List.mem_cons_self hfo))))).1
  refine wpAny_mono (vz (Q:=fun v H4=>∃HF4,cq HF3 H3 HF4 H4/\Rep X.K HF4 kd v) (te:=tD X.K te) I3 hR I3.ok.frames S hnc hN0 hp hnd hco hgen hfo3 (g3.hh _ _ hcod) (hb _ _ _ _ _) rw' (hY _ _ _ _ _ (Da C hR S.kind hnd hl))
   ⟨HF3,_,kd,g3.fh,vX (eo.mono (g1.ff.trans g3.ff)) (rd.mono g3.ff),hkd,fun v H4 HF4 g4 r4=>⟨HF4,g4,r4⟩⟩) (fun u s4 ⟨v4,H4,I4,r4,HF4,g4,rp⟩=>⟨H4,I4,HF4,kvs++[v4],g3.trans g4,?_,rvk.append (.cons r4 .nil)⟩) fun _ _ e=>e
  rw[List.length_append,List.length_singleton,List.take_add_one,hki]
  exact (rk.mono g4.ff).append (ar.cons rp ar.nil)
 ·have hk':ks.take us.length=ks:=List.take_of_length_le (by omega)
  rw[hk'] at rk
  have ia:=lJ hzs rk rvk
  refine⟨fun i=>zs.getD i 0,oneType',fun h2 s3 I3=>⟨fun Q' q'=>?_,fun i j Cc hi hj q'=>?_⟩,fun s3 Dn c I3 fD e=>?_⟩
  ·rw[PyProof.Rows.ksk_kind (keys:=us.toArray) (kz:=zs) (by simpa using ia) (by simpa [hu] using h2)]
   exact wpAny_pure q'
  ·obtain⟨t1,e1⟩:=iK ia (i:=i) (by omega)
   obtain⟨t2,e2⟩:=iK ia (i:=j) (by omega)
   unfold PySem.W.kas_ask
   rw[e1,e2]
   exact PySem.W.kat_lt_int q'
  ·have hv:=oZ (fun i=>zs.getD i 0) rvi
   have hr:=pA (fun i=>zs.getD i 0) rr
   have hnD:H3 Dn=none:=fD.1
   have I4:=Inv.track (o:=.lst (nK (fun i=>zs.getD i 0) ws .non)) I3 fD ⟨by rw[(fy _ _ _).length_eq];exact hz,_,c,hv,e⟩
   have G:=(g1.trans g2).trans g3
   refine⟨.ref Dn,_,I4.unpinned,rfl,q Dn _ _ HF3 (G.trans (.own G.fh hnD)) (G.hh.free hnD) (G.fh.free hnD) aE (hr.mono g3.ff)⟩
end
end Dl
namespace Srt
open PySem PySem.W PySem.Calls PyProof.Rows L2
section
variable {prog:Program}{w:World}{A:Around}{E:Value->Shared->Prop}{s:Shared}
theorem iadd_rng {R:Result->Shared->Prop}{r S:Addr}{a b c:Int}{t u v:Tok}{n:Nat}(hh:A.handled=none) (hr:IsRange s.heap r a b c t u v) (hsmall:Builtin.Range.small a b c=true) (hn:Builtin.Range.rangeSize a b c=n) (hlen:n<=2 ^ 24)
  (hS:s.heap.get? S=some { cls:=.type "list",data:=.seq #[] })
  (hR:∀h' tk acc' c',(∀b o,b≠S->s.heap.get? b=some o->h'.get? b=some o)->h'.get? S=some { cls:=.type "list",dict:=none,data:=.seq acc' c',slots:=#[] } ->
   ItemsOf (fun i v=>∃t,v=.int (a+i * c) t) acc' n->R (.ok (.ret (.ref S))) { s with heap:=h',toks:=tk }):codeAny (model prog w) A (.builtin "list.__iadd__" ⟨[.ref S,.ref r],[]⟩) R s:=by
 refine codeAny_builtin entry_list_iadd' ?_
 rw[Around.under_plainId (by decide +kernel:plainId "list.__iadd__"=true) _]
 exact wpAny_extend_range (A:=A) hh hr hsmall hn hlen S (.ref S) _ hS hR
theorem collect_rng {r:Addr}{a b c:Int}{t u v:Tok}{n:Nat}{Q:List Value->Shared->Prop}(hh:A.handled=none) (hr:IsRange s.heap r a b c t u v) (hsmall:Builtin.Range.small a b c=true) (hn:Builtin.Range.rangeSize a b c=n) (hlen:n<=2 ^ 24)
  (h:∀h' tk acc,(∀b o,s.heap.get? b=some o->h'.get? b=some o)->ItemsOf (fun i v=>∃t,v=.int (a+i * c) t) acc n->Q acc.toList { s with heap:=h',toks:=tk }):wpAny (model prog w) A (collect (.ref r)) Q E s:=by
 unfold collect
 refine wpAny_bind (wpAny_runValue (codeAny_builtin entry_proto_collect' ?_))
 rw[Around.under_plainId (by decide +kernel:plainId "proto.collect"=true) _]
 show wpAny _ A.in1 (newList [] >>= fun l=>again (.builtin "list.__iadd__" ⟨[l,.ref r],[]⟩)) _ _ s
 refine wpAny_bind (wpAny_newObj_type ?_)
 have hS:(s.heap.push { cls:=.type "list",data:=.seq #[] }).get? s.heap.objs.size=some { cls:=.type "list",data:=.seq #[] }:=Heap.get?_push_size _ rfl
 refine wpAny_pure ⟨plainId_quiet (by decide +kernel) _,iadd_rng (s:={ s with heap:=s.heap.push { cls:=.type "list",data:=.seq #[] } }) hh (Heap.get?_push_of_some _ hr) hsmall hn hlen hS fun h' tk acc' c' hk hS' hacc=>?_⟩
 show wpAny _ A (load s.heap.objs.size >>= _) _ _ _
 refine wpAny_bind (wpAny_load hS' ?_)
 exact wpAny_pure (h h' tk acc' (fun b o e=>hk b o (Nat.ne_of_lt (Heap.lt_size e)) (Heap.get?_push_of_some _ e)) hacc)
end
section
variable {X:Cx}{pins:List (Addr×Obj)}{σ:L2.St}{H:Hp}{s:Shared}{A:Around}{E:Value->Shared->Prop}
theorem sortedR {l:Value}{f:Addr}{PV:List Value->Prop}{Q:Value->Shared->Prop}(I:Inv X pins σ H s)
  (hcol:∀ {Q':List Value->Shared->Prop},(∀ (h':Heap) (tk:Nat) (vs:List Value),PV vs->(∀b o,s.heap.get? b=some o->h'.get? b=some o)->Q' vs { s with heap:=h',toks:=tk })->wpAny (model X.prog X.w) A.in1 (collect l) Q' E s)
  (rest:∀vs,PV vs->vs.length < 64/\∃J:List Value->Hp->Prop,J [] H /\
   (∀us v,vs[us.length]?=some v->∀pl s' H',Inv X (pins++pl) σ H' s'->J us H'->wpAny (model X.prog X.w) A.in1.in1 (call (.ref f) [v]) (fun u s''=>∃H'',Inv X (pins++pl) σ H'' s''/\J (us++[u]) H'') (fun _ _=>False) s') /\
   (∀us H',us.length=vs.length->J us H'->∃ (z:Nat->Int) (κ:SortKind),(2<=vs.length->∀s',Inv X pins σ H' s'->(∀Q':SortKind->Shared->Prop,Q' κ s'->wpAny (model X.prog X.w) A.in1.in1 (keyKind' us.toArray) Q' (fun _ _=>False) s') /\
    ∀i j C,i < vs.length->j < vs.length->C (SP.dR z i j) s'->kas_ask X.prog X.w A.in1.in1 κ us i j C s') /\
   ∀s' D c,Inv X pins σ H' s'->cw X pins H' D->s'.heap.get? D=some (seqObj "list" (outV z vs).toArray c)->Q (.ref D) s')) :
  wpAny (model X.prog X.w) A (call (.builtin "sorted") [l] [(Str.ofString "key",.ref f)]) Q E s:=by
 refine call_function_entry_kw kind_sorted plain_sorted entry_sorted (ksk_s1 _ _) ?_
 unfold Builtin.«sorted»
 refine wpAny_bind (m:=checkCount "sorted" 1 1 _) (wpAny_pure (wpAny_bind (hcol fun h1 tk vs hv kp=>?_)))
 obtain⟨h64,J,j0,step,fin⟩:=rest vs hv
 have hsl:vs.length<=sizeLine:=by rw[sizeLine_eq];omega
 refine wpAny_bind (wpAny_newList ?_ (by simpa using hsl))
 have I1:=I.kept (t':=tk) kp
 have fD:cw X pins H h1.objs.size:=I1.fpOk (Nat.le_refl _) (I1.hok.fresh (Nat.le_refl _))
 have hoD:(h1.push (seqObj "list" vs.toArray 0)).get? h1.objs.size=some (seqObj "list" vs.toArray 0):=Heap.get?_push_size _ rfl
 have I2:=I1.kept (t':=tk) (h':=h1.push (seqObj "list" vs.toArray 0)) fun b o e=>Heap.get?_push_of_some _ e
 show wpAny _ _ _ _ _ { s with heap:=h1.push (seqObj "list" vs.toArray 0),toks:=tk }
 refine wpAny_bind (wpAny_holding (wpAny_call_entry_kw slot_list_sort ⟨_,hoD,rfl⟩ entry_list_sort ?body (ksk_l1 _ _)))
 case body =>
  show wpAny (model X.prog X.w) A.in1.in1 (Builtin.«list.sort» ⟨[.ref h1.objs.size],[(Str.ofString "key",.ref f)]⟩) _ _ _
  rw[ksk_t1]
  refine list_sortK I2 hoD fD h64 J j0 step fun us H' hu j'=>?_
  obtain⟨z,κ,hz,hP⟩:=fin us H' hu j'
  exact⟨z,κ,hz,fun s' c I' f' e=>⟨_,rfl,wpAny_pure ⟨_,rfl,hP s' _ c I' f' e⟩⟩⟩
end
end Srt
namespace Dl
open PySem L2 PySem.Spec PyProof.Rows
noncomputable def oT (n:Nat):List D:=(List.range n).map fun i=>PyData.int ((i:Nat):Int)
noncomputable def pf (cs:List Nat) (fs:Env->Option (List D)) (te:Env->Option D):Env->Option (List D):=fun ρ=>(fs ρ).bind fun l=>match l with
 | [.int n]=>if 0<=n/\n < 64 then (gY te (dQ 1 cs ρ) (oT n.toNat)).bind fun ks=>(rowsOf ks).map fun nss=>nK (fun i=>rk nss (nss.getD i [])) (oT n.toNat) .none else none
 | _=>none
theorem rO:∀ {vs:List Value}{k:Nat},(∀i v,vs[i]?=some v->∃t,v=Value.int ((k+i:Nat):Int) t)->aC ((List.range' k vs.length).map fun i=>V.int ((i:Nat):Int)) vs
 | [],k,_=>.nil
 | v::vs,k,h=>by
  rw[List.length_cons,List.range'_succ,List.map_cons]
  obtain⟨t,e⟩:=h 0 v rfl
  refine .cons ⟨t,by simpa using e⟩ (rO fun i u hu=>?_)
  obtain⟨t',e'⟩:=h (i+1) u (by simpa using hu)
  exact⟨t',by rw[e'];congr 1;omega⟩
theorem rP {K:PySem.W.Frag}{HF:Hp}:∀ (l:List Nat),ar K HF (l.map fun i=>PyData.int ((i:Nat):Int)) (l.map fun i=>V.int ((i:Nat):Int))
 | []=>ar.nil
 | i::l=>ar.cons (by simp[Rep]) (rP l)
section
variable {X:Cx}{N:List Str}{sc:Scope}{k:Nat}
variable {e body:Expr}{fs:Env->Option (List D)}{te:Env->Option D}{params:Arguments}{scope:Scope}{lpos pos p0 kpos rpos p1:Pos}{N':List Str}{cs:List Nat}{p qual:Str}
theorem Bk.sortR (C:Bk X N sc (k+3)) (B:mL X "sorted" (.builtin "sorted")) (BR:mL X "range" (.type "range")) (L:n9 X qual) (ok:iz sc scope N N' 1 cs=true) (hl:mV scope N' p=true)
  (hb:∀ (cl:List (Str×Addr)) (pm ctv u:Value) (c:Addr),bindArgs (PySem.W.kla_fn "<lambda>" qual params body scope cl pm (.ref c) ctv) ⟨[u],[]⟩=pure [(p,u)]) (hdef:defaultsOf params X.env=([],[])) (h:DA X [e] fs)
  (hY:∀A f c s H,Bk (gm X A qual scope N' f c s H) N' scope k->DE (gm X A qual scope N' f c s H) body te)
  (hsR:starEach [e] X.env=[(false,eval e X.env)])
  (hst:starEach [.Call (.Name "range" p1) [e] [] rpos] X.env=(false,eval (.Call (.Name "range" p1) [e] [] rpos) X.env)::starEach [] X.env) (he:backTo pos (starEach [.Call (.Name "range" p1) [e] [] rpos] X.env)=(false,eval (.Call (.Name "range" p1) [e] [] rpos) X.env)::backTo pos (starEach [] X.env)) (hpl:(backTo pos (starEach [.Call (.Name "range" p1) [e] [] rpos] X.env)).any (·.1)=false) :
  DF X (.Call (.Name "sorted" p0) [.Call (.Name "range" p1) [e] [] rpos] [⟨some "key",.Lambda params body scope lpos,kpos⟩] pos) (pf cs fs te):=by
 obtain⟨S,_⟩:=C.comp ok
 have hnd:N'.Nodup:=by
  unfold iz at ok
  simp only[Bool.and_eq_true,decide_eq_true_eq] at ok
  exact ok.2
 have hl':=hl
 unfold mV at hl'
 simp only[Bool.and_eq_true,List.all_eq_true,Bool.not_eq_true',decide_eq_false_iff_not,decide_eq_true_eq] at hl'
 obtain⟨⟨⟨⟨hnc,hN0⟩,hp⟩,hco⟩,hgen⟩:=hl'
 obtain⟨cc,P,hcode,hqual,hhd,eC⟩:=L.ex
 intro pins s σ H Q I ⟨HF,ρ,out,sm,eo,hf,q⟩
 obtain⟨ld,hld,hf⟩:=bs hf
 obtain⟨n,rfl⟩:∃n,ld=[.int n]:=by
  split at hf
  ·exact⟨_,rfl⟩
  ·cases hf
 simp only at hf
 split at hf
 rotate_left
 ·cases hf
 rename_i h64
 obtain⟨ks,hks,hf⟩:=bs hf
 obtain⟨nss,hns,rfl⟩:=map_some hf
 obtain⟨hkr,hne⟩:=jx hns
 refine wpAny_Call_Name_kw (iJ I B.gl B.mg B.bt ?_ (by decide) (by decide))
 refine PyProof.Rows.callWith_kw (e:=.Call (.Name "range" p1) [e] [] rpos) (rest:=[]) (kws:=[⟨some "key",.Lambda params body scope lpos,kpos⟩]) ?_ he hpl rfl rfl
 rw[he]
 refine Calls.spliced_cons ?_
 refine Call_ (iJ I BR.gl BR.mg boot_range (PyProof.Rows.callWith_type1 (bS (h rpos pins s σ H _ I ⟨HF,ρ,[.int n],sm,eo,hld,fun vs H1 HF1 g1 r1=>(⟨HF1,g1,r1⟩:∃HF1,cq HF H HF1 H1/\ar X.K HF1 [.int n] vs)⟩) fun us s1 ⟨vs,H1,I1,rv,HF1,g1,r1⟩=>?_) hsR rfl))
 obtain⟨v,vr,rfl,a1,b1⟩:=r1.cons_inv
 rw[b1.nil_inv] at rv
 obtain⟨u,rfl,rx⟩:=vals1 rv
 simp only[Rep] at a1
 subst a1
 obtain⟨t,rfl⟩:=rx
 refine call_range_1 ?_
 refine Calls.spliced_nil ?_
 obtain⟨hn0,hn64⟩:=h64
 have I1':=I1.kept (t':=s1.toks+1+1) (h':=s1.heap.push { cls:=Value.type "range",data:=Data.fields #[Value.int 0 s1.toks,Value.int n t,Value.int 1 (s1.toks+1)] }) fun b o e=>Heap.get?_push_of_some _ e
 have hro:(s1.heap.push { cls:=Value.type "range",data:=Data.fields #[Value.int 0 s1.toks,Value.int n t,Value.int 1 (s1.toks+1)] }).get? s1.heap.objs.size=some { cls:=Value.type "range",data:=Data.fields #[Value.int 0 s1.toks,Value.int n t,Value.int 1 (s1.toks+1)] }:=Heap.get?_push_size _ rfl
 have Ir:=I1'.pinned (fp:=[s1.heap.objs.size]) (fun b hb=>by rw[List.mem_singleton.mp hb];exact I1.fpOk (Nat.le_refl _) I1.fresh) (fun b hb=>by rw[List.mem_singleton.mp hb];exact⟨_,hro,fun v z=>by cases z⟩)
 have hT1:H1 P=some (.tab qual):=g1.fh _ _ (eC HF1 (eo.tb.mono g1.ff))
 show wpAny _ _ (evalAll ((do let v <- eval (.Lambda params body scope lpos) X.env;standAt pos;pure v)::[])) _ _ _
 refine wpAny_evalAll_cons (wpAny_bind ?_)
 refine wt (P:=P) Ir S hqual hcode (PySem.W.codeHd_of_K Ir.ok.mod.kin hhd) hT1 Ir.ok.mod.bmd hdef fun f c' pm ctv s2 H2 I2 hfo hfn hcod s12 fp2 _=>?_
 refine wpAny_bind (wpAny_standAt (wpAny_pure (wpAny_evalAll_nil ?_)))
 show wpAny _ _ (call (.builtin "sorted") [.ref s1.heap.objs.size] [(Str.ofString "key",.ref f)]) _ _ s2
 have hr2:IsRange s2.heap s1.heap.objs.size 0 n 1 s1.toks t (s1.toks+1):=(Srt.pin_get I2 List.mem_cons_self hro).1
 have Ip:=I2.pinned (fp:=[f]) (fun b hb=>by rw[List.mem_singleton.mp hb];exact fp2) (fun b hb=>by rw[List.mem_singleton.mp hb];exact⟨_,hfo,fun v z=>by cases z⟩)
 have g2:cq HF1 H1 HF1 H2:=⟨s12,.refl _,g1.fh.trans s12,fun _ _ e=>.inl e⟩
 have hkl:=l5 hks
 have hnl:(oT n.toNat).length=n.toNat:=by simp[oT]
 have hR:dN (k+1) X.A.in1.in1:=C.room.in1.in1
 refine Srt.sortedR (PV:=fun vs=>vs.length=n.toNat/\∀i v,vs[i]?=some v->∃t,v=Value.int ((i:Nat):Int) t) Ip (fun {Q'} hQ=>?_) fun its ⟨hil,hiv⟩=>⟨by omega,fun us H'=>∃HF' kvs,cq HF1 H2 HF' H'/\ar X.K HF' (ks.take us.length) kvs/\aC kvs us,⟨HF1,[],.refl g2.fh,by simpa using ar.nil,.nil⟩,fun us x hx pl' s3 H3 I3 ⟨HF3,kvs,g3,rk,rvk⟩=>?_,fun us H3 hu ⟨HF3,kvs,g3,rk,rvk⟩=>?_⟩
 ·refine Srt.collect_rng (n:=n.toNat) C.room.in1.hd hr2 (small_one (by omega) (by omega) (by omega) (by omega)) (by rw[rangeSize_one];split<;>omega) (by omega) fun h' tk acc kp ha=>?_
  refine hQ h' tk acc.toList ⟨by have:=ha.1;simpa using this,fun i v hv=>?_⟩ kp
  obtain⟨t',e'⟩:=ha.2 i v (by simpa using hv)
  exact⟨t',by rw[e'];congr 1;omega⟩
 ·have hi:us.length < n.toNat:=by rw[<- hil];exact (List.getElem?_eq_some_iff.mp hx).1
  obtain⟨tx,rfl⟩:=hiv _ _ hx
  have hd:(oT n.toNat)[us.length]?=some (.int ((us.length:Nat):Int)):=by simp[oT,hi]
  obtain⟨kd,hkd,hki⟩:=oW hks hd
  have hfo3:s3.heap.get? f=some (PySem.W.kla_obj "<lambda>" qual params body scope (dS X.env scope.names []) pm c' ctv) :=
   (I3.pin (f,_) (List.mem_append_right _ (List.mem_append_left _ (List.mem_append_right _ (di List.mem_cons_self hfo))))).1
  refine wpAny_mono (vz (v:=V.int ((us.length:Nat):Int)) (Q:=fun v H4=>∃HF4,cq HF3 H3 HF4 H4/\Rep X.K HF4 kd v) (te:=tD X.K te) I3 hR I3.ok.frames S hnc hN0 hp hnd hco hgen hfo3 (g3.hh _ _ hcod) (hb _ _ _ _ _) ⟨tx,rfl⟩ (hY _ _ _ _ _ (Da C hR S.kind hnd hl))
   ⟨HF3,_,kd,g3.fh,vX (eo.mono (g1.ff.trans g3.ff)) (by simp[Rep]),hkd,fun v H4 HF4 g4 r4=>⟨HF4,g4,r4⟩⟩) (fun u s4 ⟨v4,H4,I4,r4,HF4,g4,rp⟩=>⟨H4,I4,HF4,kvs++[v4],g3.trans g4,?_,rvk.append (.cons r4 .nil)⟩) fun _ _ e=>e
  rw[List.length_append,List.length_singleton,List.take_add_one,hki]
  exact (rk.mono g4.ff).append (ar.cons rp ar.nil)
 ·have hk':ks.take us.length=ks:=List.take_of_length_le (by omega)
  rw[hk',hkr] at rk
  have hnn:nss.length=n.toNat:=by
   have:=congrArg List.length hkr
   rw[List.length_map] at this
   omega
  refine⟨fun i=>Dl.rk nss (nss.getD i []),tuples' true,fun h2 s3 I3=>⟨fun Q' q'=>?_,fun i j Cc hi hj q'=>?_⟩,fun s3 Dn c I3 fD e=>?_⟩
  ·obtain⟨fs',tt,hlen,hff⟩:=oI (lD I3 g3.fh rk rvk) hne
   refine PySem.W.kat_kind (T:=.type "int") tt (by omega) (fun v hv=>?_) (by decide) q'
   obtain⟨n',t',rfl⟩:=hff v hv
   exact PySem.W.Looks.of_pure rfl
  ·have hp3:=lD I3 g3.fh rk rvk
   have ri:=fS (d:=Value.none) (d':=[]) hp3 (show i < us.length by omega)
   have rj:=fS (d:=Value.none) (d':=[]) hp3 (show j < us.length by omega)
   obtain⟨a,o,its1,n1,ea,e1,e2,e3,e4⟩:=ri.ex
   obtain⟨b,o',its',n',eb,f1,f2,f3,f4⟩:=rj.ex
   unfold PySem.W.kas_ask
   rw[ea,eb]
   have hmem:nss.getD i []∈nss:=by
    rw[List.getD_eq_getElem?_getD,List.getElem?_eq_getElem (by omega)]
    exact List.getElem_mem _
   have q2:Cc (lexLt (nss.getD i []) (nss.getD j [])) s3:=by
    rw[yD hmem]
    exact q'
   refine PySem.W.kat_lt e1 e3 f1 f3 ?_
   have:=oR (prog:=X.prog) (w:=X.w) (A:=X.A.in1.in1) (s:=s3) 0 e4 f4 q2
   have l1:its1.size=(nss.getD i []).length:=by have:=IntsAre.length e4;simpa using this
   have l2:its'.size=(nss.getD j []).length:=by have:=IntsAre.length f4;simpa using this
   rw[l1,l2]
   exact this
  ·have rvi:aC ((List.range n.toNat).map fun i=>V.int ((i:Nat):Int)) its:=by
    have:=rO (vs:=its) (k:=0) fun i v hv=>by
     obtain⟨t',e'⟩:=hiv i v hv
     exact⟨t',by rw[e'];congr 1;omega⟩
    rw[hil,<- List.range_eq_range'] at this
    exact this
   have rr:ar X.K HF1 (oT n.toNat) ((List.range n.toNat).map fun i=>V.int ((i:Nat):Int)):=rP _
   have hv:=oZ (fun i=>Dl.rk nss (nss.getD i [])) rvi
   have hr:=pA (fun i=>Dl.rk nss (nss.getD i [])) rr
   have hnD:H3 Dn=none:=fD.1
   have I4:=Inv.track (o:=.lst (nK (fun i=>Dl.rk nss (nss.getD i [])) ((List.range n.toNat).map fun i=>V.int ((i:Nat):Int)) .non)) I3 fD ⟨by rw[(fy _ _ _).length_eq,List.length_map,List.length_range,PySem.sizeLine_eq];omega,_,c,hv,e⟩
   have G:=(g1.trans g2).trans g3
   refine⟨.ref Dn,_,I4.unpinned.unpinned,rfl,q Dn _ _ HF3 (G.trans (.own G.fh hnD)) (G.hh.free hnD) (G.fh.free hnD) aE (hr.mono g3.ff)⟩
end
end Dl
namespace Dl
open PySem L2 PySem.Spec PyProof.Rows
section
variable {X:Cx}{pos:Pos}
noncomputable def Ec (i j l:Nat):Env->D->Option Env:=fun ρ d=>match d with
 | .tuple [x,y,z]=>if isFree ρ i=true/\isFree ρ j=true/\isFree ρ l=true then some (((ρ.set i (some x)).set j (some y)).set l (some z)) else none
 | _=>none
theorem C7 (i j l:Nat) {x y z:Str}{px py pz:Pos}{k:Nat}(hc:X.calm=true) (hN:X.N.Nodup) (hi:X.N[i]?=some x) (hx:Loc X.env.scope x) (hj:X.N[j]?=some y) (hy:Loc X.env.scope y) (hl:X.N[l]?=some z) (hz:Loc X.env.scope z)
  (hf:X.fn x=true\/X.env.scope.names.lookup x=some .local) (hf':X.fn y=true\/X.env.scope.names.lookup y=some .local) (hf'':X.fn z=true\/X.env.scope.names.lookup z=some .local) :
  DG X (.Tuple [.Name x px,.Name y py,.Name z pz] k pos) (Ec i j l) :=
 mK (oC hc (cx (cO hN hi hx hf) (cx (cO hN hj hy hf') (cx (cO hN hl hz hf'') k5)))) fun v σ H Q ⟨HF,ρ,d,ρ',sm,eo,r,hf,q⟩=>by
  unfold Ec at hf
  split at hf
  ·rename_i x' y' z'
   split at hf
   ·rename_i hh
    cases hf
    simp only[Rep] at r
    obtain⟨a,vs,rfl,hs,rr⟩:=r
    obtain⟨v1,r1,rfl,a1,b1⟩:=rr.cons_inv
    obtain⟨v2,r2,rfl,a2,b2⟩:=b1.cons_inv
    obtain⟨v3,r3,rfl,a3,b3⟩:=b2.cons_inv
    rw[b3.nil_inv] at hs
    exact⟨a,_,rfl,az sm hs,rfl,v1,_,rfl,v2,_,rfl,v3,_,rfl,rfl,q _ (iG (iG (iG eo a1) a2) a3) (jV (jV (jV eo hh.1) hh.2.1) hh.2.2)⟩
   ·cases hf
  ·cases hf
end
end Dl
namespace Dl
open PySem L2 PySem.Spec PyProof.Rows
theorem KR {xs:List Value}(h:2<=xs.length):((List.range 2).filterMap fun (k:Nat)=>xs.toArray[((1:Int)+(k:Int) * (-1)).toNat]?)=(xs.take 2).reverse:=by
 match xs,h with
 | a::b::r,_=>rfl
theorem A9 {prog:Program}{w:World}{A:Around}{E:Value->Shared->Prop}{s:Shared}{t sl:Addr}{its:List Value}{tk tk1:Tok}{Q:Value->Shared->Prop}(ht:IsTup s.heap t its.toArray) (hs:s.heap.IsSliceOf sl (.int 1 tk1) .none (.int (-1) tk))
  (h2:2<=its.length) (h:Q (.ref s.heap.objs.size) { s with heap:=s.heap.push { cls:=.type "tuple",data:=.seq (its.take 2).reverse.toArray } }):wpAny (model prog w) A (getItem (.ref t) (.ref sl)) Q E s:=by
 obtain⟨os,hos,hcs,hds⟩:=id hs
 have hTs:s.TypeIs (.ref sl) "slice":=⟨os,hos,hcs⟩
 unfold getItem
 try with_reducible refine wpAny_holding ?_
 first|refine wpAny_bind (wpAny_pure ?_)|skip
 refine wpAny_bind (wpAny_sequenceKey ht.typeIs (by decide) (wpAny_bind (wpAny_callSpecial?_slot (name:=Str.ofString "__getitem__") ht.typeIs PyProof.Rows.slot_tuple_getitem (wpAny_call_entry PyProof.Rows.slot_tuple_getitem ht.typeIs entry_tuple_getitem ?_ (args_tuple_getitem _ _)))))
 refine wpAny_bind (m:=Builtin.Tuple.tupleItemsOf (.ref t)) (tupleItemsOf_ ht (wpAny_bind (wpAny_typeOf hTs ?_)))
 rw[if_pos (by decide)]
 have hap:∀ {R:Int×Int×Nat->Shared->Prop},R (1,-1,2) s->wpAny (model prog w) A.in1 (Builtin.Slice.sliceApplied (.ref sl) (pure ((its.toArray.size:Nat):Int))) R E s:=fun {R} hR=>by
  unfold Builtin.Slice.sliceApplied Builtin.Slice.sliceFields
  refine wpAny_bind (wpAny_bind (wpAny_field hos hds (x:=.int 1 tk1) rfl (wpAny_bind (wpAny_field hos hds (x:=.none) rfl (wpAny_bind (wpAny_field hos hds (x:=.int (-1) tk) rfl (wpAny_pure ?_)))))))
  refine wpAny_bind (slicePart_int ?_)
  show wpAny _ _ (if ((-1:Int) == 0)=true then _ else _) _ _ s
  rw[if_neg (by decide)]
  refine wpAny_bind (slicePart_int (wpAny_bind (slicePart_none (wpAny_bind (wpAny_pure ?_)))))
  have e1:Builtin.Slice.sliceAdjust (some 1) none (-1) ((its.toArray.size:Nat):Int)=(1,-1):=by
   simp[Builtin.Slice.sliceAdjust]
   omega
  show wpAny _ _ (match Builtin.Slice.sliceAdjust (some 1) none (-1) ((its.toArray.size:Nat):Int) with|(lo,hi)=>pure (lo,(-1:Int),Builtin.Slice.slicePlaces lo hi (-1))) _ _ s
  rw[e1]
  have e2:Builtin.Slice.slicePlaces 1 (-1) (-1)=2:=by decide
  show wpAny _ _ (pure ((1:Int),(-1:Int),Builtin.Slice.slicePlaces 1 (-1) (-1))) _ _ s
  rw[e2]
  exact wpAny_pure hR
 first
  | refine wpAny_bind (hap ?_)
  | refine wpAny_bind (wpAny_of_in1 (hap ?_))
 show wpAny _ _ (if ((1:Int) == 0&&(-1:Int) == 1&&2 == its.toArray.size)=true then _ else _) _ _ s
 rw[if_neg (by simp),KR h2]
 have hz':sizeOk (.seq (its.take 2).reverse.toArray):=Nat.le_trans (m:=2) (by simp;omega) (by decide)
 first
  | exact wpAny_bind (m:=Builtin.Tuple.tupleExact _) (wpAny_newObj_type (wpAny_pure ⟨_,rfl,wpAny_pure h⟩) hz')
  | exact wpAny_bind (m:=Builtin.Tuple.tupleExact _) (wpAny_newObj_type (wpAny_bind (wpAny_pure (wpAny_pure ⟨_,rfl,wpAny_pure h⟩))) hz')
  | exact wpAny_bind (wpAny_bind (m:=Builtin.Tuple.tupleExact _) (wpAny_newObj_type (wpAny_pure (wpAny_pure ⟨_,rfl,wpAny_pure h⟩)) hz'))
  | exact wpAny_bind (wpAny_bind (m:=Builtin.Tuple.tupleExact _) (wpAny_newObj_type (wpAny_pure ⟨_,rfl,wpAny_pure h⟩) hz'))
section
variable {X:Cx}{a:Expr}{fa:Env->Option D}{pos p1 p2 p3 p4:Pos}{i j:Nat}
theorem Fv {ta:TE}(ha:PE X a ta):PE X (.Subscript a (.Slice (some (.Constant (.int 1) i p1)) none (some (.UnaryOp .USub (.Constant (.int 1) j p4) p3)) p2) pos) (fun σ H Q=>ta σ H fun x H1=>∃b xs,x=.ref b/\i3 X.K H1 b xs/\2<=xs.length/\∀p,H1 p=none->Q (.ref p) (upd H1 p (.tup (xs.take 2).reverse))):=by
 intro pins s σ H Q I h
 refine Subscript_ (bS (ha pins s σ H _ I h) fun v s1 ⟨x,H1,I1,r1,b,xs,e,hq,h2,q⟩=>?_)
 subst e
 cases r1
 refine wpAny_Slice ?_
 have hlo:=nO (X:=X) (sr (X:=X) (i:=1) (j:=i) (pos:=p1)) pins s1 σ H1 (fun o H'=>o=some 1/\H'=H1) I1 ⟨1,rfl,rfl,rfl⟩
 refine bS hlo fun vlo s0 ⟨o,H0,I0,plo,e1,e2⟩=>?_
 subst e1 e2
 rw[evalPart_none]
 refine wpAny_pure ?_
 have hst:=nO (X:=X) (CC (op:=.USub) wY (sr (X:=X) (i:=1) (j:=j) (pos:=p4)) (pos:=p3)) pins s0 σ H0 (fun o H'=>o=some (-1)/\H'=H0) I0 ⟨1,rfl,-1,rfl,rfl,rfl⟩
 refine bS hst fun vst s2 ⟨o,H2,I2,pst,e1,e2⟩=>?_
 subst e1 e2
 cases plo with
 | int _ tk1 =>
 cases pst with
 | int _ tk =>
 obtain⟨its,r,ht,hz⟩:=I2.tuple hq
 have I4:Inv X pins σ H2 { s2 with heap:=s2.heap.push { cls:=.type "slice",data:=.fields #[.int 1 tk1,.none,.int (-1) tk] } }:=I2.kept (t':=s2.toks) fun b ob q=>Heap.get?_push_of_some _ q
 obtain⟨its',r',ht',_⟩:=I4.tuple hq
 refine tail_any (ops:=[.ref b,.ref s2.heap.objs.size]) ht'.typeIs PyProof.Rows.slot_tuple_getitem.lookup (A9 ht' (Heap.IsSliceOf.new ..) (by rw[<- r'.length];exact h2) ?_) (by with_unfolding_all rfl)
 have hv:aC (xs.take 2).reverse (its'.take 2).reverse:=L2.aC.reverse (r'.take 2)
 exact⟨.ref _,_,I4.laid (t':=s2.toks) (o:=.tup (xs.take 2).reverse) (fun b ob q=>Heap.get?_push_of_some _ q) (Nat.le_refl _) ⟨by rw[List.length_reverse,List.length_take];omega,_,hv,l6.new _ _⟩,rfl,q _ I4.fresh⟩
noncomputable def B2:D->Option D|.tuple ds=>if 2<=ds.length then some (.tuple (ds.take 2).reverse) else none|_=>none
theorem Fm (ha:DE X a fa):DE X (.Subscript a (.Slice (some (.Constant (.int 1) i p1)) none (some (.UnaryOp .USub (.Constant (.int 1) j p4) p3)) p2) pos) (f1 B2 fa):=aP (Fv ha) fun σ H Q ⟨HF,ρ,d,sm,eo,hf,q⟩=>by
 obtain⟨x,hx,hf⟩:=bs hf
 refine⟨HF,ρ,x,sm,eo,hx,fun v1 H1 HF1 g1 r1=>?_⟩
 unfold B2 at hf
 split at hf<;>try cases hf
 split at hf
 ·rename_i h2
  cases hf
  simp only[Rep] at r1
  obtain⟨b,vs,rfl,hs,rr⟩:=r1
  exact⟨b,vs,rfl,az g1.fh hs,by rw[rr.length];exact h2,fun p hp=>q _ _ _ (g1.trans (.new g1.fh hp)) (cE (g1.fh.free hp) (rr.take 2).reverse)⟩
 ·cases hf
end
end Dl
namespace Dl
open PySem L2 PySem.Spec PyProof.Rows
section
variable {X:Cx}
noncomputable def tK (d:D):List D->Option Nat
 | []=>none
 | x::xs=>if PyData.eqv x d=true then some 0 else (tK d xs).map (·+1)
theorem rZ {d:D}:∀ {xs:List D}{j:Nat},tK d xs=some j->j < xs.length/\(∀x,xs[j]?=some x->PyData.eqv x d=true)/\∀m,m < j->∀x,xs[m]?=some x->PyData.eqv x d=false
 | [],j,h=>by cases h
 | x::xs,j,h=>by
  unfold tK at h
  split at h
  ·cases h
   rename_i e
   exact⟨Nat.succ_pos _,fun y hy=>by cases hy;exact e,fun m hm=>absurd hm (Nat.not_lt_zero _)⟩
  ·rename_i e
   obtain⟨k,hk,rfl⟩:=map_some h
   obtain⟨a,b,c⟩:=rZ hk
   refine⟨by simpa using a,fun y hy=>b y (by simpa using hy),fun m hm y hy=>?_⟩
   cases m with
   | zero=>cases hy;simpa using e
   | succ m=>exact c m (by omega) y (by simpa using hy)
theorem zY (hu:X.A.units+66 < cLine):JK X "list.index" (fun x vs H Q=>∃ (HF:Hp) (ds:List D) (d:D) (y:V) (j:Nat),aW HF H/\Rep X.K HF (.list ds) x/\vs=[y]/\Rep X.K HF d y/\SeqAt.shaped d=true/\SeqAt.shaped (.list ds)=true/\ds.length<=sizeLine/\tK d ds=some j/\Q (.int j) H):=by
 intro pins s σ H x vs v us Q I rx rv h
 obtain⟨HF,ds,d,y,j,sm,r1,rfl,r2,hd,hl,hz,hj,q⟩:=h
 obtain⟨u,rfl,ru⟩:=rv.one
 obtain⟨as,ra⟩:=dG I sm r1 rx
 obtain⟨bs,rb⟩:=dG I sm r2 ru
 have c1:=SeqAt.canLay_of_shaped hd
 have c2:=SeqAt.canLay_of_shaped hl
 have d1:=SeqAt.depth_of_shaped hd
 simp only[PyData.canLay0] at c2
 have m:=Nat.min_le_right (PyData.depthAll ds) d.depth
 obtain⟨hj1,hj2,hj3⟩:=rZ hj
 cases ra with
 | list h1 h2 h3 h4 =>
  rename_i l o its n as
  obtain⟨cls,dd,data,sl⟩:=o
  simp only at h2 h3
  subst h2 h3
  have hm:=SeqAt.readsAll_map _ _ _ c2 h4
  have hlen:its.size=ds.length:=by rw[<- hm];simp
  have hs63:(sizeLine:Nat) < 2 ^ 62:=by decide
  have at_:∀m (hm:m < its.size),ds[m]?=some (SeqAt.readOf s.heap its[m]):=fun m hm'=>by
   rw[<- hm,List.getElem?_map,Array.getElem?_toList,Array.getElem?_eq_getElem hm']
   rfl
  refine call_meets F.slot_list_index ⟨_,h1,rfl⟩ F.entry_list_index (F.args_list_index_2 _ _) (PySem.SeqAt.list_indexAt l its n dd sl u (fun y=>PyData.eqv (SeqAt.readOf s.heap y) d) j (by rw[hlen];exact hj1) (by omega) ?_ ?_) ⟨h1,?_,?_⟩
  ·exact hj2 _ (at_ j (by rw[hlen];exact hj1))
  ·intro m hm' hmj
   exact hj3 m hmj _ (at_ m hm')
  ·exact SeqAt.items_eqAt h4 rb c2 c1 (by omega)
  ·exact⟨.int j,H,I.tok _,⟨_,rfl⟩,q⟩
noncomputable def xB:D->D->Option D
 | .list es,d=>if SeqAt.shaped d=true/\SeqAt.shaped (.list es)=true/\es.length<=sizeLine then (tK d es).map fun j=>.int ((j:Nat):Int) else none
 | _,_=>none
theorem Ad (hu:X.A.units+66 < cLine) {o e:Expr}{apos cpos:Pos}{fo fe:Env->Option D}(hbase:attributeBase o "index" X.env (eval o X.env)=eval o X.env)
  (hfew:((backTo cpos (starEach [e] X.env)).all (fun x=>!x.1)&&(backToKw cpos (keywordEach [] X.env)).all (fun x=>x.1.isSome)&&decide ([e].length+([]:List Keyword).length+(if ([]:List Keyword).isEmpty then 0 else 1) < 30))=true)
  (hline:(apos.endLine == cpos.line)=true) (hs:starEach [e] X.env=(false,eval e X.env)::starEach [] X.env) (ho:DE X o fo) (he:DE X e fe):DE X (.Call (.Attribute o "index" apos) [e] [] cpos) (f2 xB fo fe) :=
 aP (qZ PySem.F.plainAttrs_list PySem.F.slot_list_index PySem.F.type_list_index (zY hu) ho (cZ he gH hs) hbase hfew hline hs rfl) fun σ H Q ⟨HF,ρ,d,sm,eo,hf,q⟩=>by
  obtain⟨x,hx,hf⟩:=bs hf
  obtain⟨y,hy,hg⟩:=bs hf
  refine⟨HF,ρ,x,sm,eo,hx,fun v1 H1 HF1 g1 r1=>?_⟩
  unfold xB at hg
  split at hg
  ·split at hg
   ·rename_i es hh
    obtain⟨j,h2,rfl⟩:=map_some hg
    have r1':=r1
    simp only[Rep] at r1
    obtain⟨l,us,rfl,hq,rr⟩:=r1
    refine⟨.inl ⟨rfl,_,g1.fh.seq hq⟩,HF1,ρ,y,g1.fh,eo.mono g1.ff,hy,fun v2 H2 HF2 g2 r2=>?_⟩
    exact⟨HF2,es,y,v2,j,g2.fh,r1'.mono g2.ff,rfl,r2,hh.1,hh.2.1,hh.2.2,h2,q _ H2 HF2 (g1.trans g2) (by simp[Rep])⟩
   ·cases hg
  ·cases hg
noncomputable def p7:List D->Option D
 | [.int i]=>some (.int i)
 | [.bool b]=>some (.int (if b then 1 else 0))
 | _=>none
theorem EU {K:PySem.W.Frag}:z7 K (fun xs H Q=>(∃i,xs=[.int i]/\Q (.int i) H)\/∃k,xs=[.bl k]/\Q (.int (if k then 1 else 0)) H) p7:=by
 intro HF H ds vs d Q sm r hg q
 unfold p7 at hg
 split at hg
 ·cases hg
  obtain⟨v,r',rfl,a,b⟩:=r.cons_inv
  rw[b.nil_inv]
  simp only[Rep] at a
  subst a
  exact .inl ⟨_,rfl,q _ H HF (.refl sm) (by simp[Rep])⟩
 ·cases hg
  obtain⟨v,r',rfl,a,b⟩:=r.cons_inv
  rw[b.nil_inv]
  simp only[Rep] at a
  subst a
  exact .inr ⟨_,rfl,q _ H HF (.refl sm) (by simp[Rep])⟩
 ·cases hg
theorem DN {e:Expr}{fs:Env->Option (List D)}{p pos:Pos}(B:mL X "int" (.type "int")) (ha:DA X [e] fs) (he:starEach [e] X.env=(false,eval e X.env)::starEach [] X.env:=by rfl):DE X (.Call (.Name "int" p) [e] [] pos) (bb p7 fs) :=
 r0 zG EU B ha (by decide) (by decide) he rfl
noncomputable def qS (i j k l:Nat):ai->D->Option ai:=fun ρ d=>match d with
 | .tuple [x,.tuple [a,b,c]]=>some ((((ρ.set i (.val x)).set j (.val a)).set k (.val b)).set l (.val c))
 | _=>none
variable {HF₀ H₀:Hp}
theorem HB (i j k l:Nat) {x y z w:Str}{px py pz pw p2 pos:Pos}{m n:Nat}(hc:X.calm=true) (hN:X.N.Nodup) (hi:X.N[i]?=some x) (hx:Loc X.env.scope x) (hj:X.N[j]?=some y) (hy:Loc X.env.scope y) (hk:X.N[k]?=some z) (hz:Loc X.env.scope z) (hl:X.N[l]?=some w) (hw:Loc X.env.scope w)
  (f1:X.fn x=true\/X.env.scope.names.lookup x=some .local) (f2:X.fn y=true\/X.env.scope.names.lookup y=some .local) (f3:X.fn z=true\/X.env.scope.names.lookup z=some .local) (f4:X.fn w=true\/X.env.scope.names.lookup w=some .local) :
  KJ X HF₀ H₀ (.Tuple [.Name x px,.Tuple [.Name y py,.Name z pz,.Name w pw] m p2] n pos) (qS i j k l) :=
 mK (oC hc (cx (cO hN hi hx f1) (cx (oC hc (cx (cO hN hj hy f2) (cx (cO hN hk hz f3) (cx (cO hN hl hw f4) k5)))) k5))) fun v σ H Q ⟨HF,ρ,d,ρ',S,r,hf,q⟩=>by
  unfold qS at hf
  split at hf
  ·cases hf
   simp only[Rep] at r
   obtain⟨a,vs,rfl,hs,rr⟩:=r
   obtain⟨v1,r1,rfl,a1,b1⟩:=rr.cons_inv
   obtain⟨v2,r2,rfl,a2,b2⟩:=b1.cons_inv
   rw[b2.nil_inv] at hs
   simp only[Rep] at a2
   obtain⟨a',vs',rfl,hs',rr'⟩:=a2
   obtain⟨v3,r3,rfl,a3,b3⟩:=rr'.cons_inv
   obtain⟨v4,r4,rfl,a4,b4⟩:=b3.cons_inv
   obtain⟨v5,r5,rfl,a5,b5⟩:=b4.cons_inv
   rw[b5.nil_inv] at hs'
   exact⟨a,_,rfl,az S.gr.fh hs,rfl,v1,_,rfl,_,_,rfl,⟨a',_,rfl,az S.gr.fh hs',rfl,v3,_,rfl,v4,_,rfl,v5,_,rfl,rfl,rfl,q _ ((((S.setV a1).setV a3).setV a4).setV a5)⟩⟩
  ·cases hf
end
end Dl
namespace Rf
open PySem L2 Dl PySem.Spec PyProof.Rows
structure Tr where
 e:Expr->Option (Dl.Env->Option D)
 f:Expr->Option (Dl.Env->Option (List D))
 t:Expr->Option (Dl.Env->Option Bool)
structure Sg where
 fn:List (Str×Nat×(List D->Option D))
 int:List (Str×Int)
noncomputable abbrev FE:=Dl.Env->Option D
noncomputable def wQ (G:Sg) (sc:Scope) (N:List Str) (x:Str):Option FE:=match N.idxOf? x with
 | some i=>if AA N sc i x=true then some (ab i) else none
 | none=>if (zQ sc x&&!(x == ("__debug__":Str)))=true then (G.int.lookup x).map fun n=>fC (.int n) else none
noncomputable def za:Const->Option FE
 | .int i=>some (fC (.int i))
 | .bool b=>some (fC (.bool b))
 | .none=>some (fC .none)
 | .str x=>some (fC (.str x))
 | _=>none
noncomputable def Ku (T:Tr) (op:UnaryOp) (a:Expr):Option FE:=match op with
 | .Not=>(T.e a).map JF
 | .USub=>(T.e a).map (f1 Kd)
 | _=>none
noncomputable def Lr:Operator->Option (D->D->Option D)
 | .Add=>some aA
 | .Sub=>some Dl.gK
 | .Mult=>some dU
 | .FloorDiv=>some kU
 | .Mod=>some jZ
 | _=>none
noncomputable def Gj:Expr->Bool
 | .List ..=>true
 | .ListComp ..=>true
 | _=>false
noncomputable def yV:Expr->Bool
 | .List ..=>true
 | .ListComp ..=>true
 | .BinOp a .Mult _ _=>Gj a
 | .BinOp a .Add b _=>yV a||yV b
 | .Call (.Name x _) _ _ _=>x == ("sorted":Str)||x == ("list":Str)
 | _=>false
noncomputable def DV (T:Tr) (whole a:Expr) (op:Operator) (b:Expr):Option FE :=
 if yV whole=true then (T.f whole).map cf else (Lr op).bind fun g=>(T.e a).bind fun x=>(T.e b).map fun y=>f2 g x y
noncomputable def tm (T:Tr) (op:BoolOp):List Expr->Option FE
 | []=>none
 | [a]=>T.e a
 | a::b::r=>(T.e a).bind fun x=>(tm T op (b::r)).map fun y=>match op with|.And=>jY x y|.Or=>LG x y
noncomputable def Kt:CmpOp->Option (D->D->Option D)
 | .Lt=>some zh
 | .LtE=>some yA
 | .Gt=>some sS
 | .GtE=>some LV
 | .Eq=>some bI
 | .NotEq=>some ie
 | .In=>some HY
 | .Is=>some i6
 | .IsNot=>some mX
 | _=>none
noncomputable def L7:CmpOp->Option (D->D->Option D)
 | .Lt=>some zh
 | .LtE=>some yA
 | _=>none
noncomputable def zf (T:Tr) (a:Expr) (ops:List CmpOp) (cs:List Expr):Option FE:=match ops,cs with
 | [op],[b]=>if behindInMarks op b=false then (Kt op).bind fun g=>(T.e a).bind fun x=>(T.e b).map fun y=>f2 g x y else none
 | [op,op'],[b,c]=>if lastMarks [op,op'] [b,c]=false then (L7 op).bind fun g=>(L7 op').bind fun g'=>(T.e a).bind fun x=>(T.e b).bind fun y=>(T.e c).map fun z=>jd g g' x y z else none
 | _,_=>none
noncomputable def sR (T:Tr):List Expr->Option (Dl.Env->Option (List D))
 | []=>some ae
 | e::es=>if isStar e=false then (T.e e).bind fun x=>(sR T es).map fun r=>aa x r else none
noncomputable def LA (T:Tr):Option Expr->Option (Dl.Env->Option (Option Int))
 | none=>some fW
 | some e=>(T.e e).map pO
noncomputable def Dc:Expr->Bool
 | .Slice ..=>true
 | .Tuple ..=>true
 | .Starred ..=>true
 | _=>false
noncomputable def lI:Expr->Bool
 | .UnaryOp .USub (.Constant (.int 1) _ _) _=>true
 | _=>false
noncomputable def DJ:Expr->Bool
 | .Constant (.int 1) _ _=>true
 | _=>false
noncomputable def Dq (T:Tr) (a b:Expr):Option FE:=match b with
 | .Slice lo hi none _=>(T.e a).bind fun x=>(LA T lo).bind fun l=>(LA T hi).map fun h=>fV cQ x l h
 | .Slice none none (some s) _=>if lI s=true then (T.e a).map fun x=>f1 J7 x else none
 | .Slice (some l) none (some s) _=>if (DJ l&&lI s)=true then (T.e a).map fun x=>f1 B2 x else none
 | _=>if Dc b=false then (T.e a).bind fun x=>(T.e b).map fun y=>f2 ao x y else none
noncomputable def B5:List D->Option D:=fun ds=>(oneOf ds).bind fun d=>match d with
 | .list es=>(boolsOf es).map fun bs=>.bool (bs.any id)
 | _=>none
noncomputable def ml:Expr->Option Expr
 | .Call (.Name x _) [e] [] _=>if x="set" then some e else none
 | _=>none
noncomputable def JB (x:Str):Option String:=if x="int" then some "int" else if x="bool" then some "bool" else if x="tuple" then some "tuple" else if x="list" then some "list" else none
noncomputable def xE (G:Sg) (sc:Scope) (T:Tr) (whole:Expr) (x:Str) (args:List Expr):Option FE :=
 if (zQ sc x&&args.all fun e=>!isStar e)=true then
  match G.fn.lookup x with
  | some (n,m)=>if (args.isEmpty||x == ("__debug__":Str))=true then none else (sR T args).map fun fs=>ag n m fs
  | none =>
   if x="len" then (match args with
    | [e]=>(match ml e with
     | some e'=>if (zQ sc "set"&&!isStar e')=true then (T.e e').map fun y=>f1 jO y else none
     | none=>(sR T args).map fun fs=>bb bz fs)
    | _=>none)
   else if x="isinstance" then (match args with
    | [e,.Name y _]=>if zQ sc y=true then (JB y).bind fun ty=>(T.e e).map fun z=>GK ty z else none
    | _=>none)
   else if x="tuple" then (if args.length=1 then (sR T args).map fun fs=>bb bG fs else none)
   else if x="all" then (if args.length=1 then (sR T args).map fun fs=>bb lF fs else none)
   else if x="any" then (if args.length=1 then (sR T args).map fun fs=>bb B5 fs else none)
   else if x="sum" then (if args.length=1 then (sR T args).map fun fs=>bb qb fs else none)
   else if x="min" then (if args.isEmpty=true then none else (sR T args).map fun fs=>bb wB fs)
   else if (x == ("list":Str)||x == ("sorted":Str))=true then (T.f whole).map cf
   else if x="int" then (if args.length=1 then (sR T args).map fun fs=>bb p7 fs else none)
   else none
 else none
noncomputable def yZ:Expr->Bool
 | .Call ..=>true
 | _=>false
noncomputable def Iu:Expr->Bool
 | .Tuple ..=>true
 | _=>false
noncomputable def xV (T:Tr) (o:Expr) (m:Str) (apos:Pos) (args:List Expr) (cpos:Pos):Option FE :=
 if (m == ("index":Str)&&apos.endLine == cpos.line&&!yZ o)=true then (match args with
  | [e]=>if isStar e=false then (T.e o).bind fun x=>(T.e e).map fun y=>if Iu e=true then f2 xB x y else f2 nA x y else none
  | _=>none)
 else none
noncomputable def CQ (G:Sg) (sc:Scope) (N:List Str) (T:Tr) (whole:Expr):Option FE:=match whole with
 | .Name x _=>wQ G sc N x
 | .Constant c _ _=>za c
 | .UnaryOp op a _=>Ku T op a
 | .BinOp a op b _=>DV T whole a op b
 | .BoolOp op es _=>tm T op es
 | .Compare a ops cs _=>zf T a ops cs
 | .IfExp c a b _=>(T.t c).bind fun z=>(T.e a).bind fun x=>(T.e b).map fun y=>rg z x y
 | .Tuple es _ _=>(sR T es).map aF
 | .Subscript a b _=>Dq T a b
 | .List ..=>(T.f whole).map cf
 | .ListComp ..=>(T.f whole).map cf
 | .Call (.Name x _) args [] _=>xE G sc T whole x args
 | .Call (.Name _ _) _ (_::_) _=>(T.f whole).map cf
 | .Call (.Attribute o m apos) args [] cpos=>xV T o m apos args cpos
 | _=>none
noncomputable def K8 (T:Tr) (op:BoolOp):List Expr->Option (Dl.Env->Option Bool)
 | []=>none
 | [a]=>T.t a
 | a::b::r=>(T.t a).bind fun x=>(K8 T op (b::r)).map fun y=>match op with|.And=>f9 x y|.Or=>ox x y
noncomputable def DP:Expr->Bool
 | .Name ..=>true
 | .Call ..=>true
 | .Subscript ..=>true
 | _=>false
noncomputable def stepT (T:Tr) (whole:Expr):Option (Dl.Env->Option Bool):=match whole with
 | .Compare a ops cs _=>(zf T a ops cs).map fB
 | .UnaryOp .Not a _=>(T.t a).map bw
 | .BoolOp op es _=>K8 T op es
 | _=>if DP whole=true then (T.e whole).map fB else none
noncomputable def tZ:Expr->Bool
 | .Tuple ..=>true
 | _=>false
noncomputable def La (sc:Scope) (T:Tr) (tg iter:Expr):Option (Dl.Env->Option (List D)):=match iter with
 | .Call (.Name x _) args [] _ =>
  if x="range" then (match args with|[e]=>if (zQ sc "range"&&!isStar e)=true then (sR T args).map bQ else none|_=>none)
  else if x="enumerate" then (match args with|[e]=>if (zQ sc "enumerate"&&!isStar e&&tZ tg)=true then (sR T args).map ba else none|_=>none)
  else if x="zip" then (match args with|[e,e']=>if (zQ sc "zip"&&!isStar e&&!isStar e'&&tZ tg)=true then (sR T args).map eV else none|_=>none)
  else (T.e iter).map aQ
 | .Set ..=>none
 | _=>(T.e iter).map aQ
noncomputable def LY:Expr->Option (List Str)
 | .Name x _=>some [x]
 | .Tuple [.Name x _,.Name y _] _ _=>some [x,y]
 | _=>none
noncomputable def L3:Expr->Option (List Str)
 | .Tuple [.Name x _,.Name y _,.Name z _] _ _=>some [x,y,z]
 | tg=>LY tg
noncomputable def eU (N:List Str) (scope:Scope):List Nat:=(List.range N.length).filter fun j=>match N[j]? with|some x=>decide (scope.names.lookup x=some .free)|none=>false
noncomputable def Jn:Expr->Bool
 | .Set ..=>false
 | _=>true
noncomputable def GM (B:Tr) (ifs:List Expr):Option (Dl.Env->Option Bool):=match ifs with
 | []=>some fun _=>some true
 | [c]=>B.t c
 | _=>none
noncomputable def se (sc:Scope) (N:List Str) (T:Tr) (blk:Scope->List Str->Tr) (elt:Expr) (gens:List Comprehension) (scope:Scope):Option (Dl.Env->Option (List D)):=match gens with
 | [⟨tg,iter,ifs,as⟩] =>
  if as=0 then (L3 tg).bind fun xs =>
   if (iz sc scope N (xs++(eU N scope).filterMap fun j=>N[j]?) xs.length (eU N scope)&&(List.range xs.length).all fun i=>o4 (xs++(eU N scope).filterMap fun j=>N[j]?) scope i (xs.getD i ""))=true then
    (La sc T tg iter).bind fun fi=>(GM (blk scope (xs++(eU N scope).filterMap fun j=>N[j]?)) ifs).bind fun tt =>
     ((blk scope (xs++(eU N scope).filterMap fun j=>N[j]?)).e elt).map fun te=>ak xs.length (eU N scope) fi (match xs with|[_]=>fG 0|[_,_]=>fY 0 1|_=>Ec 0 1 2) tt te
   else none
  else none
 | _=>none
noncomputable def zq:Arguments->Option Str
 | ⟨[],[⟨x,none,_⟩],none,[],[],none,[]⟩=>if x="number" then some x else if x="plan" then some x else none
 | _=>none
noncomputable def tL (lam:Option Str) (sc:Scope) (N:List Str) (T:Tr) (lmb:Scope->List Str->Tr) (l:Expr) (params:Arguments) (body:Expr) (scope:Scope):Option (Dl.Env->Option (List D)) :=
 if (lam.isSome&&zQ sc "sorted"&&!isStar l)=true then
  (zq params).bind fun p =>
   if (iz sc scope N (p::(eU N scope).filterMap fun j=>N[j]?) 1 (eU N scope)&&mV scope (p::(eU N scope).filterMap fun j=>N[j]?) p)=true then
    (T.e l).bind fun fl=>((lmb scope (p::(eU N scope).filterMap fun j=>N[j]?)).e body).map fun te=>l8 (eU N scope) fl te
   else none
 else none
noncomputable def tQ (lam:Option Str) (sc:Scope) (N:List Str) (T:Tr) (lmb:Scope->List Str->Tr) (l:Expr) (params:Arguments) (body:Expr) (scope:Scope):Option (Dl.Env->Option (List D)):=match l with
 | .Call (.Name r _) [e] [] _ =>
  if (lam.isSome&&zQ sc "sorted"&&r == ("range":Str)&&zQ sc "range"&&!isStar e)=true then
   (zq params).bind fun p =>
    if (iz sc scope N (p::(eU N scope).filterMap fun j=>N[j]?) 1 (eU N scope)&&mV scope (p::(eU N scope).filterMap fun j=>N[j]?) p)=true then
     (sR T [e]).bind fun fs=>((lmb scope (p::(eU N scope).filterMap fun j=>N[j]?)).e body).map fun te=>pf (eU N scope) fs te
    else none
  else none
 | _=>none
noncomputable def zl (lam:Option Str) (sc:Scope) (N:List Str) (T:Tr) (blk lmb:Scope->List Str->Tr) (whole:Expr):Option (Dl.Env->Option (List D)):=match whole with
 | .List es _=>(sR T es).map cN
 | .ListComp elt gens scope _=>se sc N T blk elt gens scope
 | .BinOp a .Mult b _=>if Gj a=true then (T.f a).bind fun x=>(T.e b).map fun y=>mO x y else none
 | .BinOp a .Add b _=>(T.e a).bind fun x=>(T.e b).map fun y=>Hz jv x y
 | .Call (.Name x _) [l] [⟨some ky,.Lambda params body scope _,_⟩] _=>if (x == ("sorted":Str)&&ky == ("key":Str))=true then (match tL lam sc N T lmb l params body scope with|some f=>some f|none=>tQ lam sc N T lmb l params body scope) else none
 | .Call (.Name x _) [e] [] _ =>
  if (zQ sc x&&!isStar e)=true then
   if x="list" then (sR T [e]).map fun fs=>ma cT fs
   else if x="sorted" then (sR T [e]).map fun fs=>ma gg fs
   else none
  else none
 | _=>none
noncomputable def tr (G:Sg):Nat->Option Str->Scope->List Str->Tr
 | 0,_,_,_=>⟨fun _=>none,fun _=>none,fun _=>none⟩
 | n+1,lam,sc,N=>⟨CQ G sc N (tr G n lam sc N),zl lam sc N (tr G n lam sc N) (tr G n none) (tr G n none),stepT (tr G n lam sc N)⟩
end Rf
namespace Rf
open PySem L2 Dl PySem.Spec PyProof.Rows
structure K0 (G:Sg) (X:Cx) (j:Nat):Prop where
 fn:∀x n m,G.fn.lookup x=some (n,m)->dk X.prog X.w X.K X.mg X.base j x n m
 int:∀x i,G.int.lookup x=some i->∃t,X.mg x=some (.int i t)
 bn:Bn X
structure pk (X:Cx) (tg iter:Expr) (ifs:List Expr) (elt:Expr) (scope:Scope) (f:Dl.Env->Option (List D)):Prop where
 ex:∃ (N':List Str) (t:Nat) (cs:List Nat) (fi:Dl.Env->Option (List D)) (tgt:Dl.Env->D->Option Dl.Env) (tt:Dl.Env->Option Bool) (te:FE),f=ak t cs fi tgt tt te/\iB X scope N' (jj t cs)/\DI X tg iter fi/\(∀x,foldedSetIterable iter X.env x=pure x) /\
  ∀fp s H,DG (aR X scope N' fp s H) tg tgt/\Kb (aR X scope N' fp s H) ifs tt/\DE (aR X scope N' fp s H) elt te
structure dB (X:Cx) (T:Tr):Prop where
 c:∀elt gens scope p f,T.f (.ListComp elt gens scope p)=some f->∃tg iter ifs,gens=[⟨tg,iter,ifs,0⟩]/\pk X tg iter ifs elt scope f
 e:∀e f,T.e e=some f->DE X e f
 f:∀e f,T.f e=some f->DF X e f
 t:∀e f,T.t e=some f->DT X e f
section
variable {G:Sg}{X:Cx}{N:List Str}{sc:Scope}{k j:Nat}{T:Tr}{pos p:Pos}
theorem AE (C:Bk X N sc k) (g:K0 G X j) {x:Str}{f:FE}(h:wQ G sc N x=some f):DE X (.Name x pos) f:=by
 unfold wQ at h
 split at h
 ·split at h
  ·cases h;exact C.v _ ‹_›
  ·cases h
 ·split at h
  ·rename_i hg
   obtain⟨n,hn,rfl⟩:=map_some h
   obtain⟨t,ht⟩:=g.int x n hn
   simp only[Bool.and_eq_true,Bool.not_eq_true'] at hg
   exact ES (C.gl hg.1) ht hg.2
  ·cases h
theorem xm {c:Const}{i:Nat}{f:FE}(h:za c=some f):DE X (.Constant c i pos) f:=by
 cases c<;>cases h<;>first|exact Ib|exact JR|exact Ia|exact Ih
theorem ET (C:Bk X N sc k) (O:dB X T) {op:UnaryOp}{a:Expr}{f:FE}(h:Ku T op a=some f):DE X (.UnaryOp op a pos) f:=by
 cases op<;>try cases h
 ·obtain⟨x,hx,rfl⟩:=map_some h;exact IX (O.e _ _ hx)
 ·obtain⟨x,hx,rfl⟩:=map_some h;exact C.neg (O.e _ _ hx)
theorem D8 (C:Bk X N sc k) (O:dB X T) {op:Operator}{a b:Expr}{f:FE}(h:DV T (.BinOp a op b pos) a op b=some f):DE X (.BinOp a op b pos) f:=by
 unfold DV at h
 split at h
 ·obtain⟨x,hx,rfl⟩:=map_some h;exact DF.de (O.f _ _ hx)
 ·obtain⟨g,hg,h⟩:=bs h
  obtain⟨x,hx,h⟩:=bs h
  obtain⟨y,hy,rfl⟩:=map_some h
  cases op<;>cases hg
  ·exact C.add (O.e _ _ hx) (O.e _ _ hy)
  ·exact C.sub (O.e _ _ hx) (O.e _ _ hy)
  ·exact C.mul (O.e _ _ hx) (O.e _ _ hy)
  ·exact C.mod (O.e _ _ hx) (O.e _ _ hy)
  ·exact C.div (O.e _ _ hx) (O.e _ _ hy)
theorem r9 (O:dB X T) {op:BoolOp}:∀ {es:List Expr}{f:FE},tm T op es=some f->DE X (.BoolOp op es pos) f
 | [],f,h=>by cases h
 | [a],f,h=>HE (O.e _ _ h)
 | a::b::r,f,h=>by
  unfold tm at h
  obtain⟨x,hx,h⟩:=bs h
  obtain⟨y,hy,rfl⟩:=map_some h
  have ih:=r9 O hy
  cases op with
  | And=>exact Hi (O.e _ _ hx) ih
  | Or=>exact JU (O.e _ _ hx) ih
theorem Iy (C:Bk X N sc k) {op:CmpOp}{a b:Expr}{g:D->D->Option D}{x y:FE}(hg:Kt op=some g) (hm:behindInMarks op b=false) (ha:DE X a x) (hb:DE X b y):DE X (.Compare a [op] [b] pos) (f2 g x y)/\DT X (.Compare a [op] [b] pos) (fB (f2 g x y)):=by
 cases op<;>cases hg
 ·exact⟨C.eq ha hb,C.teq ha hb⟩
 ·exact⟨C.ne ha hb,C.tne ha hb⟩
 ·exact⟨C.lt ha hb,C.tlt ha hb⟩
 ·exact⟨C.le ha hb,C.tle ha hb⟩
 ·exact⟨C.gt ha hb,C.tgt ha hb⟩
 ·exact⟨C.ge ha hb,C.tge ha hb⟩
 ·exact⟨C.is0 ha hb,C.tis0 ha hb⟩
 ·exact⟨C.not0 ha hb,C.tnot0 ha hb⟩
 ·exact⟨C.isin ha hb hm,C.tin ha hb hm⟩
theorem Gs {op:CmpOp}{g:D->D->Option D}(h:L7 op=some g):∃r,gS X (compareOp op) r/\e8 X.K r g:=by
 cases op<;>cases h
 ·exact⟨_,D2,gL⟩
 ·exact⟨_,Cb,gL⟩
theorem ve (C:Bk X N sc k) (O:dB X T) {a:Expr}{ops:List CmpOp}{cs:List Expr}{f:FE}(h:zf T a ops cs=some f):DE X (.Compare a ops cs pos) f/\DT X (.Compare a ops cs pos) (fB f):=by
 unfold zf at h
 split at h
 ·split at h
  ·rename_i hm
   obtain⟨g,hg,h⟩:=bs h
   obtain⟨x,hx,h⟩:=bs h
   obtain⟨y,hy,rfl⟩:=map_some h
   exact Iy C hg hm (O.e _ _ hx) (O.e _ _ hy)
  ·cases h
 ·split at h
  ·rename_i hm
   obtain⟨g,hg,h⟩:=bs h
   obtain⟨g',hg',h⟩:=bs h
   obtain⟨x,hx,h⟩:=bs h
   obtain⟨y,hy,h⟩:=bs h
   obtain⟨z,hz,rfl⟩:=map_some h
   obtain⟨r,r1,r2⟩:=Gs (X:=X) hg
   obtain⟨r',r1',r2'⟩:=Gs (X:=X) hg'
   exact⟨CO r1 r2 r1' r2' (O.e _ _ hx) (O.e _ _ hy) (O.e _ _ hz) hm,DY r1 r2 r1' r2' (O.e _ _ hx) (O.e _ _ hy) (O.e _ _ hz) hm⟩
  ·cases h
 ·cases h
theorem cK (O:dB X T):∀ {es:List Expr}{fs:Dl.Env->Option (List D)},sR T es=some fs->DA X es fs
 | [],fs,h=>by cases h;exact C9
 | e::es,fs,h=>by
  unfold sR at h
  split at h
  ·rename_i hs
   obtain⟨x,hx,h⟩:=bs h
   obtain⟨r,hr,rfl⟩:=map_some h
   exact LI hs (O.e _ _ hx) (cK O hr)
  ·cases h
theorem Dg (O:dB X T) {o:Option Expr}{f:Dl.Env->Option (Option Int)}(h:LA T o=some f):DO X o f:=by
 cases o with
 | none=>cases h;exact FR
 | some e=>obtain⟨x,hx,rfl⟩:=map_some h;exact EE (O.e _ _ hx)
theorem xF {b:Expr}(h:Dc b=false):tG b:=by
 cases b<;>first|(intro _ _;rfl)|cases h
theorem rm {e:Expr}(h:lI e=true):∃j p4 p3,e=.UnaryOp .USub (.Constant (.int 1) j p4) p3:=by
 unfold lI at h
 split at h
 ·exact⟨_,_,_,rfl⟩
 ·cases h
theorem HU {e:Expr}(h:DJ e=true):∃j p,e=.Constant (.int 1) j p:=by
 unfold DJ at h
 split at h
 ·exact⟨_,_,rfl⟩
 ·cases h
theorem Cj (C:Bk X N sc k) (O:dB X T) {a b:Expr}{f:FE}(h:Dq T a b=some f):DE X (.Subscript a b pos) f:=by
 unfold Dq at h
 split at h
 ·obtain⟨x,hx,h⟩:=bs h
  obtain⟨l,hl,h⟩:=bs h
  obtain⟨u,hu,rfl⟩:=map_some h
  exact C.cut (O.e _ _ hx) (Dg O hl) (Dg O hu)
 ·split at h
  ·rename_i hm
   obtain⟨x,hx,rfl⟩:=map_some h
   obtain⟨_,_,_,rfl⟩:=rm hm
   exact Jd (O.e _ _ hx)
  ·cases h
 ·split at h
  ·rename_i hm
   rw[Bool.and_eq_true] at hm
   obtain⟨x,hx,rfl⟩:=map_some h
   obtain⟨_,_,_,rfl⟩:=rm hm.2
   obtain⟨_,_,rfl⟩:=HU hm.1
   exact Fm (O.e _ _ hx)
  ·cases h
 ·split at h
  ·rename_i hc
   obtain⟨x,hx,h⟩:=bs h
   obtain⟨y,hy,rfl⟩:=map_some h
   exact Kl (O.e _ _ hx) (O.e _ _ hy) (xF hc)
  ·cases h
theorem dZ {env:PySem.Env}:∀ {es:List Expr},(es.all fun e=>!isStar e)=true->(backTo pos (starEach es env)).any (·.1)=false
 | [],_=>rfl
 | e::es,h=>by
  rw[List.all_cons,Bool.and_eq_true,Bool.not_eq_true'] at h
  rw[bp h.1]
  show (false||(backTo pos (starEach es env)).any (·.1))=false
  rw[dZ h.2]
  rfl
theorem Br {e e':Expr}(h:ml e=some e'):∃p q,e=.Call (.Name "set" p) [e'] [] q:=by
 unfold ml at h
 split at h
 ·split at h
  ·rename_i hx;cases h;subst hx;exact⟨_,_,rfl⟩
  ·cases h
 ·cases h
theorem E1 {y:Str}{ty:String}(h:JB y=some ty):y∈cI/\bootBuiltins y=some (.type ty)/\y≠"__name__"/\(y == ("__debug__":Str))=false:=by
 unfold JB at h
 split at h
 ·rename_i e;cases h;subst e;exact⟨by decide +kernel,by decide +kernel,by decide,by decide⟩
 ·split at h
  ·rename_i e;cases h;subst e;exact⟨by decide +kernel,by decide +kernel,by decide,by decide⟩
  ·split at h
   ·rename_i e;cases h;subst e;exact⟨by decide +kernel,by decide +kernel,by decide,by decide⟩
   ·split at h
    ·rename_i e;cases h;subst e;exact⟨by decide +kernel,by decide +kernel,by decide,by decide⟩
    ·cases h
theorem Hy:bootBuiltins "any"=some (.builtin "any"):=by decide +kernel
theorem JA:bootBuiltins "sum"=some (.builtin "sum"):=by decide +kernel
theorem Hm:bootBuiltins "min"=some (.builtin "min"):=by decide +kernel
theorem tV {α:Type}{l:List α}(h:l.length=1):∃a,l=[a]:=by
 match l,h with
 | [a],_=>exact⟨a,rfl⟩
theorem Ak (C:Bk X N sc k) (g:K0 G X j) (hjk:j<=k) (O:dB X T) {x:Str}{args:List Expr}{f:FE}(h:xE G sc T (.Call (.Name x p) args [] pos) x args=some f):DE X (.Call (.Name x p) args [] pos) f:=by
 unfold xE at h
 split at h
 ·rename_i hg
  rw[Bool.and_eq_true] at hg
  obtain⟨hg,hs⟩:=hg
  have st1:∀ {e:Expr}{es:List Expr},args=e::es->starEach (e::es) X.env=(false,eval e X.env)::starEach es X.env:=fun {e es} q=>by
   subst q
   rw[List.all_cons,Bool.and_eq_true,Bool.not_eq_true'] at hs
   exact bp hs.1
  have st2:∀ {e:Expr}{es:List Expr},args=e::es->(backTo pos (starEach es X.env)).any (·.1)=false:=fun {e es} q=>by
   subst q
   rw[List.all_cons,Bool.and_eq_true] at hs
   exact dZ hs.2
  split at h
  ·rename_i n m hfn
   split at h
   ·cases h
   ·rename_i hne
    obtain⟨fs,hfs,rfl⟩:=map_some h
    cases args with
    | nil=>exact absurd (by simp) hne
    | cons e es =>
     have hd:(x == ("__debug__":Str))=false:=by simpa using hne
     exact E4 (g.fn x n m hfn) (C.room.mono hjk) (C.gl hg) (cK O hfs) hd (st1 rfl) (st2 rfl)
  ·split at h
   ·rename_i hx
    subst hx
    split at h
    ·rename_i e
     split at h
     ·rename_i e' he'
      split at h
      ·rename_i hg2
       rw[Bool.and_eq_true,Bool.not_eq_true'] at hg2
       obtain⟨y,hy,rfl⟩:=map_some h
       obtain⟨p1,p2,rfl⟩:=Br he'
       exact Ab C.calm (C.blt g.bn hg (by decide +kernel) CH) (C.blt g.bn hg2.1 (by decide +kernel) GY) (O.e _ _ hy) (bp hg2.2)
      ·cases h
     ·obtain⟨fs,hfs,rfl⟩:=map_some h
      exact He (C.blt g.bn hg (by decide +kernel) CH) (cK O hfs) (st1 rfl)
    ·cases h
   ·split at h
    ·rename_i hx
     subst hx
     split at h
     ·rename_i e y py
      split at h
      ·rename_i hgy
       obtain⟨ty,hty,h⟩:=bs h
       obtain⟨z,hz,rfl⟩:=map_some h
       obtain⟨t1,t2,t3,t4⟩:=E1 hty
       exact JT (C.blt g.bn hg (by decide +kernel) qd) (C.blt g.bn hgy t1 t2) (O.e _ _ hz) t3 t4 (st1 rfl)
      ·cases h
     ·cases h
    ·split at h
     ·rename_i hx
      subst hx
      split at h
      ·rename_i hl
       obtain⟨fs,hfs,rfl⟩:=map_some h
       obtain⟨e,rfl⟩:=tV hl
       exact CF (C.blt g.bn hg (by decide +kernel) Dr) (cK O hfs) (st1 rfl)
      ·cases h
     ·split at h
      ·rename_i hx
       subst hx
       split at h
       ·rename_i hl
        obtain⟨fs,hfs,rfl⟩:=map_some h
        obtain⟨e,rfl⟩:=tV hl
        exact IW C.calm (C.blt g.bn hg (by decide +kernel) IB) (cK O hfs) (st1 rfl)
       ·cases h
      ·split at h
       ·rename_i hx
        subst hx
        split at h
        ·rename_i hl
         obtain⟨fs,hfs,rfl⟩:=map_some h
         obtain⟨e,rfl⟩:=tV hl
         exact G1 C.calm (C.blt g.bn hg (by decide +kernel) Hy) (st1 rfl) (cK O hfs)
        ·cases h
       ·split at h
        ·rename_i hx
         subst hx
         split at h
         ·rename_i hl
          obtain⟨fs,hfs,rfl⟩:=map_some h
          obtain⟨e,rfl⟩:=tV hl
          exact Iq C.calm (C.blt g.bn hg (by decide +kernel) JA) (st1 rfl) (cK O hfs)
         ·cases h
        ·split at h
         ·rename_i hx
          subst hx
          split at h
          ·cases h
          ·rename_i hl
           obtain⟨fs,hfs,rfl⟩:=map_some h
           cases args with
           | nil=>exact absurd rfl hl
           | cons e es=>exact IE C.calm (C.blt g.bn hg (by decide +kernel) Hm) (st1 rfl) (st2 rfl) (cK O hfs)
         ·split at h
          ·obtain⟨y,hy,rfl⟩:=map_some h
           exact DF.de (O.f _ _ hy)
          ·split at h
           ·rename_i hx
            subst hx
            split at h
            ·rename_i hl
             obtain⟨fs,hfs,rfl⟩:=map_some h
             obtain⟨e,rfl⟩:=tV hl
             exact DN (C.blt g.bn hg (by decide +kernel) Hh) (cK O hfs) (st1 rfl)
            ·cases h
           ·cases h
 ·cases h
end
end Rf
namespace Rf
open PySem L2 Dl PySem.Spec PyProof.Rows
section
variable {G:Sg}{X:Cx}{N:List Str}{sc:Scope}{k j:Nat}{T:Tr}{pos p:Pos}
theorem Ky {env:PySem.Env}{e:Expr}{cpos:Pos}(h:isStar e=false):((backTo cpos (starEach [e] env)).all (fun x=>!x.1)&&(backToKw cpos (keywordEach [] env)).all (fun x=>x.1.isSome)&&decide ([e].length+([]:List Keyword).length+(if ([]:List Keyword).isEmpty then 0 else 1) < 30))=true:=by
 rw[bp h];rfl
theorem jM {o:Expr}{a:Str}{env:PySem.Env}{w:Sem Value}(h:yZ o=false):attributeBase o a env w=w:=by
 cases o<;>first|rfl|cases h
theorem Af (C:Bk X N sc k) (O:dB X T) {o:Expr}{m:Str}{apos cpos:Pos}{args:List Expr}{f:FE}(h:xV T o m apos args cpos=some f):DE X (.Call (.Attribute o m apos) args [] cpos) f:=by
 unfold xV at h
 split at h
 ·rename_i hm
  rw[Bool.and_eq_true,Bool.and_eq_true,Bool.not_eq_true'] at hm
  obtain⟨⟨hm1,hm⟩,hcl⟩:=hm
  have e1:m="index":=eq_of_beq hm1
  subst e1
  split at h
  ·rename_i e
   split at h
   ·rename_i hs
    obtain⟨x,hx,h⟩:=bs h
    obtain⟨y,hy,rfl⟩:=map_some h
    split
    ·exact Ad C.u66 (jM hcl) (Ky hs) hm (bp hs) (O.e _ _ hx) (O.e _ _ hy)
    ·exact Aa (jM hcl) (Ky hs) hm (bp hs) (O.e _ _ hx) (O.e _ _ hy)
   ·cases h
  ·cases h
 ·cases h
theorem Bo (C:Bk X N sc k) (g:K0 G X j) (hjk:j<=k) (O:dB X T) {e:Expr}{f:FE}(h:CQ G sc N T e=some f):DE X e f:=by
 unfold CQ at h
 split at h
 ·exact AE C g h
 ·exact xm h
 ·exact ET C O h
 ·exact D8 C O h
 ·exact r9 O h
 ·exact (ve C O h).1
 ·obtain⟨z,hz,h⟩:=bs h
  obtain⟨x,hx,h⟩:=bs h
  obtain⟨y,hy,rfl⟩:=map_some h
  exact Kv (O.t _ _ hz) (O.e _ _ hx) (O.e _ _ hy)
 ·obtain⟨x,hx,rfl⟩:=map_some h;exact IG (cK O hx)
 ·exact Cj C O h
 ·obtain⟨x,hx,rfl⟩:=map_some h;exact DF.de (O.f _ _ hx)
 ·obtain⟨x,hx,rfl⟩:=map_some h;exact DF.de (O.f _ _ hx)
 ·exact Ak C g hjk O h
 ·obtain⟨x,hx,rfl⟩:=map_some h;exact DF.de (O.f _ _ hx)
 ·exact Af C O h
 ·cases h
theorem DL (O:dB X T) {op:BoolOp}:∀ {es:List Expr}{f:Dl.Env->Option Bool},K8 T op es=some f->DW X (.BoolOp op es pos) f
 | [],f,h=>by cases h
 | [a],f,h=>by
  cases op with
  | And=>exact FY (O.t _ _ h)
  | Or=>exact Jv (O.t _ _ h)
 | a::b::r,f,h=>by
  unfold K8 at h
  obtain⟨x,hx,h⟩:=bs h
  obtain⟨y,hy,rfl⟩:=map_some h
  have ih:=DL O hy
  cases op with
  | And=>exact Hc (O.t _ _ hx) ih
  | Or=>exact Kj (O.t _ _ hx) ih
theorem CV (C:Bk X N sc k) (O:dB X T) {e:Expr}{f:Dl.Env->Option Bool}(h:stepT T e=some f):DT X e f:=by
 unfold stepT at h
 split at h
 ·obtain⟨x,hx,rfl⟩:=map_some h;exact (ve C O hx).2
 ·obtain⟨x,hx,rfl⟩:=map_some h;exact Iw (O.t _ _ hx)
 ·exact DW.dt (DL O h)
 ·split at h
  ·rename_i hp
   obtain⟨x,hx,rfl⟩:=map_some h
   refine Jk (O.e _ _ hx) ?_
   revert hp
   cases e<;>first|(intro hp;cases hp;done)|(intro hp _;rfl)
  ·cases h
theorem Iv {e:Expr}{env:PySem.Env}(h:Jn e=true):∀x,foldedSetIterable e env x=pure x:=by
 cases e<;>first|(intro _;rfl)|cases h
theorem BI (C:Bk X N sc k) (B:Bn X) (O:dB X T) {tg iter:Expr}{fi:Dl.Env->Option (List D)}(h:La sc T tg iter=some fi):DI X tg iter fi/\∀x,foldedSetIterable iter X.env x=pure x:=by
 unfold La at h
 split at h
 ·refine⟨?_,fun _=>rfl⟩
  split at h
  ·rename_i hx
   subst hx
   split at h
   ·split at h
    ·rename_i hg
     rw[Bool.and_eq_true,Bool.not_eq_true'] at hg
     obtain⟨x,hx,rfl⟩:=map_some h
     exact B4 (C.blt B hg.1 (by decide +kernel) vU) (cK O hx) (bp hg.2)
    ·cases h
   ·cases h
  ·split at h
   ·rename_i hx
    subst hx
    split at h
    ·split at h
     ·rename_i hg
      simp only[Bool.and_eq_true,Bool.not_eq_true'] at hg
      obtain⟨x,hx,rfl⟩:=map_some h
      cases tg<;>first|exact E2 (C.blt B hg.1.1 (by decide +kernel) sQ) (cK O hx) (bp hg.1.2)|exact absurd hg.2 (by simp[tZ])
     ·cases h
    ·cases h
   ·split at h
    ·rename_i hx
     subst hx
     split at h
     ·split at h
      ·rename_i e e' hg
       simp only[Bool.and_eq_true,Bool.not_eq_true'] at hg
       obtain⟨x,hx,rfl⟩:=map_some h
       cases tg<;>first|exact F5 (C.blt B hg.1.1.1 (by decide +kernel) Im) (bp hg.1.1.2) (dZ (by simp[hg.1.2])) (cK O hx)|exact absurd hg.2 (by simp[tZ])
      ·cases h
     ·cases h
    ·obtain⟨x,hx,rfl⟩:=map_some h
     exact C4 (O.e _ _ hx)
 ·cases h
 ·rename_i h1 h2
  obtain⟨x,hx,rfl⟩:=map_some h
  refine⟨C4 (O.e _ _ hx),Iv ?_⟩
  cases iter<;>first|rfl|exact absurd rfl (h2 _ _ _)
theorem Ha {tg:Expr}{xs:List Str}(h:LY tg=some xs):(∃x px,tg=.Name x px/\xs=[x])\/∃x px y py m pt,tg=.Tuple [.Name x px,.Name y py] m pt/\xs=[x,y]:=by
 unfold LY at h
 split at h
 ·cases h;exact .inl ⟨_,_,rfl,rfl⟩
 ·cases h;exact .inr ⟨_,_,_,_,_,_,rfl,rfl⟩
 ·cases h
theorem JC {tg:Expr}{xs:List Str}(h:L3 tg=some xs):((∃x px,tg=.Name x px/\xs=[x])\/∃x px y py m pt,tg=.Tuple [.Name x px,.Name y py] m pt/\xs=[x,y])\/∃x px y py z pz m pt,tg=.Tuple [.Name x px,.Name y py,.Name z pz] m pt/\xs=[x,y,z]:=by
 unfold L3 at h
 split at h
 ·cases h;exact .inr ⟨_,_,_,_,_,_,_,_,rfl,rfl⟩
 ·exact .inl (Ha h)
theorem rC (C:Bk X N sc k) (B:Bn X) (O:dB X T) {blk:Scope->List Str->Tr}(OB:∀scope N' fp s H,Bk (aR X scope N' fp s H) N' scope k->dB (aR X scope N' fp s H) (blk scope N')) {tg iter elt:Expr}{ifs:List Expr}{as:Int}{scope:Scope}{f:Dl.Env->Option (List D)}
  (h:se sc N T blk elt [⟨tg,iter,ifs,as⟩] scope=some f):as=0/\pk X tg iter ifs elt scope f:=by
 unfold se at h
 dsimp only at h
 split at h
 ·rename_i has
  refine⟨has,?_⟩
  obtain⟨xs,hxs,h⟩:=bs h
  split at h
  ·rename_i hok
   rw[Bool.and_eq_true] at hok
   obtain⟨fi,hfi,h⟩:=bs h
   obtain⟨tt,htt,h⟩:=bs h
   obtain⟨te,hte,rfl⟩:=map_some h
   obtain⟨S,CB⟩:=C.comp hok.1
   obtain⟨hd,hfold⟩:=BI C B O hfi
   refine⟨_,_,_,_,_,_,_,rfl,S,hd,hfold,fun fp s H=>?_⟩
   have C1:=CB fp s H
   have O1:=OB scope _ fp s H C1
   refine⟨?_,?_,O1.e _ _ hte⟩
   ·rcases JC hxs with (⟨x,px,rfl,rfl⟩|⟨x,px,y,py,m,pt,rfl,rfl⟩)|⟨x,px,y,py,z,pz,m,pt,rfl,rfl⟩
    ·have z:=C1.loc (i:=0) (x:=x) (List.all_eq_true.mp hok.2 0 (by simp))
     exact Gd 0 z.1 z.2.1 z.2.2.1 z.2.2.2
    ·have z:=C1.loc (i:=0) (x:=x) (List.all_eq_true.mp hok.2 0 (by simp))
     have w:=C1.loc (i:=1) (x:=y) (List.all_eq_true.mp hok.2 1 (by simp))
     exact HH 0 1 C1.calm z.1 z.2.1 z.2.2.1 w.2.1 w.2.2.1 z.2.2.2 w.2.2.2
    ·have z0:=C1.loc (i:=0) (x:=x) (List.all_eq_true.mp hok.2 0 (by simp))
     have w:=C1.loc (i:=1) (x:=y) (List.all_eq_true.mp hok.2 1 (by simp))
     have u:=C1.loc (i:=2) (x:=z) (List.all_eq_true.mp hok.2 2 (by simp))
     exact C7 0 1 2 C1.calm z0.1 z0.2.1 z0.2.2.1 w.2.1 w.2.2.1 u.2.1 u.2.2.1 z0.2.2.2 w.2.2.2 u.2.2.2
   ·unfold GM at htt
    split at htt
    ·cases htt;exact FU
    ·exact E5 (O1.t _ _ htt)
    ·cases htt
  ·cases h
 ·cases h
theorem pk.df {tg iter elt:Expr}{ifs:List Expr}{scope:Scope}{f:Dl.Env->Option (List D)}(hc:X.calm=true) (h:pk X tg iter ifs elt scope f):DF X (.ListComp elt [⟨tg,iter,ifs,0⟩] scope pos) f:=by
 obtain⟨N',t,cs,fi,tgt,tt,te,rfl,S,hd,hfold,hY⟩:=h.ex
 exact EJ hc S hd hY hfold
theorem vF {a:Arguments}{x:Str}(h:zq a=some x):∃px,a=⟨[],[⟨x,none,px⟩],none,[],[],none,[]⟩/\(x="number"\/x="plan"):=by
 unfold zq at h
 split at h
 ·split at h
  ·cases h;exact⟨_,rfl,.inl ‹_›⟩
  ·split at h
   ·cases h;exact⟨_,rfl,.inr ‹_›⟩
   ·cases h
 ·cases h
theorem bind1 {x q:Str}{px:Pos}{body:Expr}{scope:Scope}{cl:List (Str×Addr)}{pm ctv u:Value}{c:Addr}(h:x="number"\/x="plan") :
  bindArgs (PySem.W.kla_fn "<lambda>" q ⟨[],[⟨x,none,px⟩],none,[],[],none,[]⟩ body scope cl pm (.ref c) ctv) ⟨[u],[]⟩=pure [(x,u)]:=by
 rcases h with rfl|rfl<;>rfl
theorem xc {lam:Option Str}(C:Bk X N sc k) (B:Bn X) (hlam:∀q,lam=some q->n9 X q/\j+3<=k) (O:dB X T) {lmb:Scope->List Str->Tr}
  (OL:∀scope N' qual A f c s H,Bk (gm X A qual scope N' f c s H) N' scope (k - 3)->j<=k - 3->dB (gm X A qual scope N' f c s H) (lmb scope N')) {l body:Expr}{params:Arguments}{scope:Scope}{p0 lpos kpos:Pos}{f:Dl.Env->Option (List D)}
  (h:tL lam sc N T lmb l params body scope=some f):DF X (.Call (.Name "sorted" p0) [l] [⟨some "key",.Lambda params body scope lpos,kpos⟩] pos) f:=by
 unfold tL at h
 split at h
 ·rename_i hg
  simp only[Bool.and_eq_true,Bool.not_eq_true'] at hg
  obtain⟨⟨hl,hg⟩,hs⟩:=hg
  obtain⟨q,rfl⟩:=Option.isSome_iff_exists.mp hl
  obtain⟨L,hk⟩:=hlam q rfl
  obtain⟨x,hx,h2⟩:=bs h
  clear h
  obtain⟨px,rfl,hpx⟩:=vF hx
  split at h2
  ·rename_i hok
   rw[Bool.and_eq_true] at hok
   obtain⟨fl,hfl,h⟩:=bs h2
   obtain⟨te,hte,rfl⟩:=map_some h
   obtain⟨k',rfl⟩:∃k',k=k'+3:=⟨k - 3,by omega⟩
   exact Bk.sortK (p:=x) C (C.blt B hg (by decide +kernel) mJ) L hok.1 hok.2 (fun _ _ _ _ _=>bind1 hpx) rfl (O.e _ _ hfl) (fun A f c s H C'=>(OL scope _ q A f c s H C' (by omega)).e _ _ hte) (bp hs) (by rw[bp hs];rfl) (dZ (by simp[hs]))
  ·cases h2
 ·cases h
theorem xG {lam:Option Str}(C:Bk X N sc k) (B:Bn X) (hlam:∀q,lam=some q->n9 X q/\j+3<=k) (O:dB X T) {lmb:Scope->List Str->Tr}
  (OL:∀scope N' qual A f c s H,Bk (gm X A qual scope N' f c s H) N' scope (k - 3)->j<=k - 3->dB (gm X A qual scope N' f c s H) (lmb scope N')) {l body:Expr}{params:Arguments}{scope:Scope}{p0 lpos kpos:Pos}{f:Dl.Env->Option (List D)}
  (h:tQ lam sc N T lmb l params body scope=some f):DF X (.Call (.Name "sorted" p0) [l] [⟨some "key",.Lambda params body scope lpos,kpos⟩] pos) f:=by
 unfold tQ at h
 split at h
 ·split at h
  ·rename_i hg
   simp only[Bool.and_eq_true,Bool.not_eq_true'] at hg
   obtain⟨⟨⟨⟨hl,hg⟩,hr⟩,hgr⟩,hs⟩:=hg
   have er:=eq_of_beq hr
   subst er
   obtain⟨q,rfl⟩:=Option.isSome_iff_exists.mp hl
   obtain⟨L,hk⟩:=hlam q rfl
   obtain⟨x,hx,h2⟩:=bs h
   clear h
   obtain⟨px,rfl,hpx⟩:=vF hx
   split at h2
   ·rename_i hok
    rw[Bool.and_eq_true] at hok
    obtain⟨fl,hfl,h⟩:=bs h2
    obtain⟨te,hte,rfl⟩:=map_some h
    obtain⟨k',rfl⟩:∃k',k=k'+3:=⟨k - 3,by omega⟩
    exact Bk.sortR (p:=x) C (C.blt B hg (by decide +kernel) mJ) (C.blt B hgr (by decide +kernel) vU) L hok.1 hok.2 (fun _ _ _ _ _=>bind1 hpx) rfl (cK O hfl) (fun A f c s H C'=>(OL scope _ q A f c s H C' (by omega)).e _ _ hte) (bp hs) (bp rfl) (by rw[bp rfl];rfl) (dZ (by rfl))
   ·cases h2
  ·cases h
 ·cases h
theorem B7 {lam:Option Str}(C:Bk X N sc k) (B:Bn X) (hlam:∀q,lam=some q->n9 X q/\j+3<=k) (O:dB X T) {blk lmb:Scope->List Str->Tr}
  (OB:∀scope N' fp s H,Bk (aR X scope N' fp s H) N' scope k->dB (aR X scope N' fp s H) (blk scope N'))
  (OL:∀scope N' qual A f c s H,Bk (gm X A qual scope N' f c s H) N' scope (k - 3)->j<=k - 3->dB (gm X A qual scope N' f c s H) (lmb scope N')) {e:Expr}{f:Dl.Env->Option (List D)}(h:zl lam sc N T blk lmb e=some f):DF X e f:=by
 unfold zl at h
 split at h
 ·obtain⟨x,hx,rfl⟩:=map_some h;exact GX (cK O hx)
 ·rename_i elt gens scope ps
  match gens,h with
  | [⟨tg,iter,ifs,as⟩],h =>
   obtain⟨rfl,q⟩:=rC C B O OB h
   exact q.df C.calm
 ·split at h
  ·obtain⟨x,hx,h⟩:=bs h
   obtain⟨y,hy,rfl⟩:=map_some h
   exact Ht (O.f _ _ hx) (O.e _ _ hy)
  ·cases h
 ·obtain⟨x,hx,h⟩:=bs h
  obtain⟨y,hy,rfl⟩:=map_some h
  exact HA (O.e _ _ hx) (O.e _ _ hy)
 ·split at h
  ·rename_i hk
   rw[Bool.and_eq_true] at hk
   have e1:=eq_of_beq hk.1
   have e2:=eq_of_beq hk.2
   subst e1 e2
   split at h
   ·cases h;exact xc C B hlam O OL ‹_›
   ·exact xG C B hlam O OL h
  ·cases h
 ·split at h
  ·rename_i hg
   rw[Bool.and_eq_true,Bool.not_eq_true'] at hg
   split at h
   ·rename_i hx
    subst hx
    obtain⟨x,hx,rfl⟩:=map_some h
    exact Fx (C.blt B hg.1 (by decide +kernel) Et) (cK O hx) (bp hg.2)
   ·split at h
    ·rename_i hx
     subst hx
     obtain⟨x,hx,rfl⟩:=map_some h
     exact Ac (C.blt B hg.1 (by decide +kernel) mJ) (cK O hx) (bp hg.2)
    ·cases h
  ·cases h
 ·cases h
theorem Ep {lam:Option Str}(C:Bk X N sc k) (B:Bn X) (O:dB X T) {blk lmb:Scope->List Str->Tr}(OB:∀scope N' fp s H,Bk (aR X scope N' fp s H) N' scope k->dB (aR X scope N' fp s H) (blk scope N'))
  {elt:Expr}{gens:List Comprehension}{scope:Scope}{p:Pos}{f:Dl.Env->Option (List D)}(h:zl lam sc N T blk lmb (.ListComp elt gens scope p)=some f):∃tg iter ifs,gens=[⟨tg,iter,ifs,0⟩]/\pk X tg iter ifs elt scope f:=by
 have h:se sc N T blk elt gens scope=some f:=h
 match gens,h with
 | [⟨tg,iter,ifs,as⟩],h =>
  obtain⟨rfl,q⟩:=rC C B O OB h
  exact⟨tg,iter,ifs,rfl,q⟩
theorem GL (n:Nat):∀ {lam:Option Str}{X:Cx}{N:List Str}{sc:Scope}{k:Nat},Bk X N sc k->K0 G X j->j<=k->(∀q,lam=some q->n9 X q/\j+3<=k)->dB X (tr G n lam sc N):=by
 induction n with
 | zero=>intro lam X N sc k C g hjk hlam;exact⟨fun _ _ _ _ _ h=>(by cases h),fun _ _ h=>(by cases h),fun _ _ h=>(by cases h),fun _ _ h=>(by cases h)⟩
 | succ n ih =>
  intro lam X N sc k C g hjk hlam
  have O:=ih C g hjk hlam
  exact⟨fun elt gens scope p f h=>Ep (lam:=lam) (lmb:=tr G n none) (p:=p) C g.bn O (fun scope N' fp s H C'=>ih C' ⟨g.fn,g.int,g.bn⟩ hjk fun q z=>by cases z) h,fun e f h=>Bo C g hjk O h,
   fun e f h=>B7 C g.bn hlam O (fun scope N' fp s H C'=>ih C' ⟨g.fn,g.int,g.bn⟩ hjk fun q z=>by cases z) (fun scope N' qual A f c s H C' hk=>ih C' ⟨g.fn,g.int,g.bn⟩ hk fun q z=>by cases z) h,
   fun e f h=>CV C O h⟩
end
end Rf
namespace Rf
open PySem L2 Dl PySem.Spec PyProof.Rows
noncomputable def o7:Nat->Expr->List Str
 | 0,_=>[]
 | n+1,e=>match e with
  | .Name x _=>[x]
  | .UnaryOp _ a _=>o7 n a
  | .BinOp a _ b _=>o7 n a++o7 n b
  | .BoolOp _ es _=>es.flatMap (o7 n)
  | .Compare a _ cs _=>o7 n a++cs.flatMap (o7 n)
  | .IfExp c a b _=>o7 n c++(o7 n a++o7 n b)
  | .Tuple es _ _=>es.flatMap (o7 n)
  | .List es _=>es.flatMap (o7 n)
  | .Subscript a b _=>o7 n a++o7 n b
  | .Slice lo hi st _=>(lo.toList++(hi.toList++st.toList)).flatMap (o7 n)
  | .Call f args kws _=>o7 n f++(args.flatMap (o7 n)++kws.flatMap fun k=>o7 n k.value)
  | .Attribute o _ _=>o7 n o
  | .ListComp elt gens _ _=>o7 n elt++gens.flatMap fun g=>o7 n g.iter++g.ifs.flatMap (o7 n)
  | .Lambda _ b _ _=>o7 n b
  | _=>[]
noncomputable def pR (N:List Str) (e:Expr):List Nat:=let ns:=o7 60 e;(List.range N.length).filter fun j=>match N[j]? with|some x=>ns.contains x|none=>false
noncomputable abbrev GS:=ai->Option Out
noncomputable def turns:Nat:=1000000
noncomputable def xD:Expr->Bool
 | .ListComp ..=>true
 | .SetComp ..=>true
 | .DictComp ..=>true
 | _=>false
noncomputable def BJ (sc:Scope) (N:List Str) (T:Tr) (x:Str) (px:Pos) (e:Expr):Option GS :=
 (N.idxOf? x).bind fun i=>if o4 N sc i x=true then
  (if yV e=true then (match e with
   | .ListComp _ _ scope lp =>
    if (decide (sc.names.lookup x=some .local)&&(px.line == lp.line&&!(scope.names.any fun (n,k)=>n == x&&(k == .local || k == .cell))))=true then (T.f e).map fun f=>aK i (pR N e) f
    else if decide (sc.names.lookup x=some .cell)=true then (T.f e).map fun f=>aK i (pR N e) f
    else if (px.line == lp.line)=false then (T.f e).map fun f=>aK i (pR N e) f
    else none
   | _=>(T.f e).map fun f=>aK i (pR N e) f)
  else if xD e=false then (T.e e).map fun f=>ay i (pR N e) f else none) else none
noncomputable def Cn (N:List Str) (sc:Scope) (T:Tr) (e:Expr):Option GS:=match e with
 | .Constant (.str _) _ _=>some f7
 | .Call (.Attribute (.Name x _) m apos) args [] cpos =>
  (N.idxOf? x).bind fun i=>if (AA N sc i x&&apos.endLine == cpos.line&&args.all fun e=>!isStar e)=true then
   (if m="append" then (match args with
    | [a]=>(T.e a).map fun f=>kH i (pR N a) f
    | _=>none)
   else if m="extend" then (match args with
    | [a]=>(T.f a).map fun f=>zI i (pR N a) f
    | _=>none)
   else if m="insert" then (match args with
    | [a,b]=>(T.e a).bind fun fk=>(T.e b).map fun f=>DR i (pR N b) fk f
    | _=>none)
   else none) else none
 | .Call (.Name _ _) _ _ _=>(T.e e).map i4
 | _=>none
noncomputable def Ln (sc:Scope) (N:List Str) (tg:Expr):Option (ai->D->Option ai):=match tg with
 | .Name x _=>(N.idxOf? x).bind fun i=>if o4 N sc i x=true then some (uv i) else none
 | .Tuple [.Name x _,.Name y _] _ _=>(N.idxOf? x).bind fun i=>(N.idxOf? y).bind fun j=>if (o4 N sc i x&&o4 N sc j y)=true then some (eY i j) else none
 | .Tuple [.Name x _,.Tuple [.Name y _,.Name z _,.Name w _] _ _] _ _=>(N.idxOf? x).bind fun i=>(N.idxOf? y).bind fun j=>(N.idxOf? z).bind fun k=>(N.idxOf? w).bind fun l=>if ((o4 N sc i x&&o4 N sc j y)&&(o4 N sc k z&&o4 N sc l w))=true then some (qS i j k l) else none
 | _=>none
noncomputable def Dv (sc:Scope) (N:List Str) (T:Tr) (x:Str) (kx e:Expr):Option GS :=
 (N.idxOf? x).bind fun i=>if (AA N sc i x&&!Dc kx&&!xD e)=true then (T.e kx).bind fun fk=>(T.e e).map fun f=>yg i (pR N e) fk f else none
noncomputable def oo (f:Stmt->Option GS):List Stmt->Option GS
 | []=>some f7
 | [s]=>f s
 | s::r=>(f s).bind fun g=>(oo f r).map fun h=>av g h
noncomputable def D9 (sc:Scope) (N:List Str) (T:Tr):Nat->Stmt->Option GS
 | 0,_=>none
 | n+1,st=>match st with
  | .Return (some e) _=>(T.e e).map aJ
  | .If c a b _=>(T.t c).bind fun t=>(oo (D9 sc N T n) a).bind fun g=>(oo (D9 sc N T n) b).map fun h=>fq t g h
  | .Assign [.Name x px] e _=>BJ sc N T x px e
  | .Assign [.Subscript (.Name x _) kx _] e _=>Dv sc N T x kx e
  | .For tg iter body [] _=>(La sc T tg iter).bind fun fi=>(Ln sc N tg).bind fun t=>(oo (D9 sc N T n) body).map fun g=>dz (pR N iter) fi t g
  | .While c body [] _=>(T.t c).bind fun t=>(oo (D9 sc N T n) body).map fun g=>Ee t g turns
  | .Expr e _=>Cn N sc T e
  | .Raise ..=>some J9
  | .Pass _=>some f7
  | _=>none
section
variable {X:Cx}{N:List Str}{sc:Scope}{k:Nat}{T:Tr}{HF₀ H₀:Hp}{pos:Pos}
theorem ix {f:Stmt->Option GS}(H:∀s g,f s=some g->DS X HF₀ H₀ s g):∀ {l:List Stmt}{g:GS},oo f l=some g->A5 X HF₀ H₀ l g
 | [],g,h=>by cases h;exact FG
 | [s],g,h=>Gc (H _ _ h)
 | s::t::r,g,h=>by
  unfold oo at h
  obtain⟨x,hx,h⟩:=bs h
  obtain⟨y,hy,rfl⟩:=map_some h
  exact BF (H _ _ hx) (ix H hy)
theorem rq {e:Expr}{x:Str}{px:Pos}{line:Nat}{env:PySem.Env}(h:xD e=false):swapsWith e (some (.Name x px)) line env=pure false:=by
 cases e<;>first|rfl|cases h
theorem Cs (C:Bk X N sc k) (O:dB X T) {x:Str}{px:Pos}{e:Expr}{g:GS}(h:BJ sc N T x px e=some g):DS X HF₀ H₀ (.Assign [.Name x px] e pos) g:=by
 unfold BJ at h
 obtain⟨i,hi,h⟩:=bs h
 split at h
 ·rename_i hloc
  obtain⟨z1,z2,z3,z4⟩:=C.loc hloc
  split at h
  ·split at h
   ·rename_i elt gens scope lp hl
    split at h
    ·rename_i hc
     rw[Bool.and_eq_true] at hc
     obtain⟨f,hf,rfl⟩:=map_some h
     obtain⟨tg,iter,ifs,rfl,q⟩:=O.c _ _ _ _ _ hf
     obtain⟨N',t,cs,fi,tgt,tt,te,rfl,S,hd,hfold,hY⟩:=q.ex
     exact Fp i _ C.calm S hd hY z1 z2 (C.locl hc.1) (C.swap hc.1 hc.2) hfold
    ·split at h
     ·rename_i hc
      obtain⟨f,hf,rfl⟩:=map_some h
      exact so i _ z1 z2 z3 (O.f _ _ hf) (C.noswap hc) z4
     ·split at h
      ·rename_i hc
       obtain⟨f,hf,rfl⟩:=map_some h
       refine so i _ z1 z2 z3 (O.f _ _ hf) ?_ z4
       rw[pG,hc]
       simp
      ·cases h
   ·rename_i hl hn
    obtain⟨f,hf,rfl⟩:=map_some h
    refine so i _ z1 z2 z3 (O.f _ _ hf) (rq ?_) z4
    cases e<;>first|rfl|exact absurd rfl (hn _ _ _ _)|(rename_i hl _;cases hl;done)
  ·split at h
   ·rename_i hc
    obtain⟨f,hf,rfl⟩:=map_some h
    exact G0 i _ z1 z2 z3 (O.e _ _ hf) (rq hc) z4
   ·cases h
 ·cases h
theorem yp {env:PySem.Env}{es:List Expr}{cpos:Pos}(h:(es.all fun e=>!isStar e)=true) (hl:es.length < 20):((backTo cpos (starEach es env)).all (fun x=>!x.1)&&(backToKw cpos (keywordEach [] env)).all (fun x=>x.1.isSome)&&decide (es.length+([]:List Keyword).length+(if ([]:List Keyword).isEmpty then 0 else 1) < 30))=true:=by
 have h1:(backTo cpos (starEach es env)).all (fun x=>!x.1)=true:=by
  have:=dZ (pos:=cpos) (env:=env) h
  rw[List.all_eq_not_any_not]
  simpa using this
 rw[h1]
 simp[backToKw,keywordEach]
 omega
theorem Bp (C:Bk X N sc k) (O:dB X T) {e:Expr}{g:GS}(h:Cn N sc T e=some g):DS X HF₀ H₀ (.Expr e pos) g:=by
 unfold Cn at h
 split at h
 ·cases h;exact Hg
 ·rename_i x px m apos args cpos
  replace h:=bs h
  obtain⟨i,hi,h⟩:=h
  split at h
  ·rename_i hv
   simp only[Bool.and_eq_true] at hv
   obtain⟨⟨hv,hline⟩,hs⟩:=hv
   obtain⟨z1,z2,z3,z4⟩:=C.vis hv
   split at h
   ·rename_i hm
    subst hm
    split at h
    ·obtain⟨f,hf,rfl⟩:=map_some h
     exact zR i _ z1 z2 (O.e _ _ hf) z3 z4 (yp hs (by simp)) hline (bp (by simpa using hs))
    ·cases h
   ·split at h
    ·rename_i hm
     subst hm
     split at h
     ·obtain⟨f,hf,rfl⟩:=map_some h
      exact zH i _ z1 z2 (O.f _ _ hf) z3 z4 (yp hs (by simp)) hline (bp (by simpa using hs))
     ·cases h
    ·split at h
     ·rename_i hm
      subst hm
      split at h
      ·obtain⟨fk,hfk,h⟩:=bs h
       obtain⟨f,hf,rfl⟩:=map_some h
       have hs':=hs
       simp only[List.all_cons,List.all_nil,Bool.and_true,Bool.and_eq_true,Bool.not_eq_true'] at hs'
       exact zD i _ z1 z2 (O.e _ _ hfk) (O.e _ _ hf) z3 z4 (yp hs (by simp)) hline (bp hs'.1) (bp hs'.2)
      ·cases h
     ·cases h
  ·cases h
 ·obtain⟨f,hf,rfl⟩:=map_some h
  exact E7 rfl (O.e _ _ hf)
 ·cases h
theorem Jt (C:Bk X N sc k) {tg:Expr}{t:ai->D->Option ai}(h:Ln sc N tg=some t):KJ X HF₀ H₀ tg t:=by
 unfold Ln at h
 split at h
 ·obtain⟨i,hi,h⟩:=bs h
  split at h
  ·rename_i hl
   cases h
   have z:=C.loc hl
   exact BB i z.1 z.2.1 z.2.2.1 z.2.2.2
  ·cases h
 ·obtain⟨i,hi,h⟩:=bs h
  obtain⟨j,hj,h⟩:=bs h
  split at h
  ·rename_i hl
   rw[Bool.and_eq_true] at hl
   cases h
   have z:=C.loc hl.1
   have w:=C.loc hl.2
   exact Ff i j C.calm z.1 z.2.1 z.2.2.1 w.2.1 w.2.2.1 z.2.2.2 w.2.2.2
  ·cases h
 ·obtain⟨i,hi,h⟩:=bs h
  obtain⟨j,hj,h⟩:=bs h
  obtain⟨m,hm,h⟩:=bs h
  obtain⟨l,hl,h⟩:=bs h
  split at h
  ·rename_i hl
   rw[Bool.and_eq_true,Bool.and_eq_true,Bool.and_eq_true] at hl
   cases h
   have z:=C.loc hl.1.1
   have w:=C.loc hl.1.2
   have y:=C.loc hl.2.1
   have u:=C.loc hl.2.2
   exact HB i j m l C.calm z.1 z.2.1 z.2.2.1 w.2.1 w.2.2.1 y.2.1 y.2.2.1 u.2.1 u.2.2.1 z.2.2.2 w.2.2.2 y.2.2.2 u.2.2.2
  ·cases h
 ·cases h
theorem Cm (C:Bk X N sc k) (O:dB X T) {x:Str}{px spos:Pos}{kx e:Expr}{g:GS}(h:Dv sc N T x kx e=some g):DS X HF₀ H₀ (.Assign [.Subscript (.Name x px) kx spos] e pos) g:=by
 unfold Dv at h
 obtain⟨i,hi,h⟩:=bs h
 split at h
 ·rename_i hv
  simp only[Bool.and_eq_true,Bool.not_eq_true'] at hv
  obtain⟨⟨hv,hc⟩,he⟩:=hv
  obtain⟨z1,z2,z3,z4⟩:=C.vis hv
  obtain⟨fk,hfk,h⟩:=bs h
  obtain⟨f,hf,rfl⟩:=map_some h
  refine C2 i _ z1 z2 (O.e _ _ hfk) (O.e _ _ hf) z3 z4 (fun v=>?_) ?_ ?_ rfl
  ·cases kx<;>first|rfl|cases hc
  ·cases e<;>first|rfl|cases he
  ·rfl
 ·cases h
theorem w6 (C:Bk X N sc k) (B:Bn X) (O:dB X T):∀ (n:Nat) {st:Stmt}{g:GS},D9 sc N T n st=some g->DS X HF₀ H₀ st g
 | 0,st,g,h=>by cases h
 | n+1,st,g,h=>by
  have ih:=fun s g h=>w6 C B O n (st:=s) (g:=g) h
  unfold D9 at h
  split at h
  ·obtain⟨f,hf,rfl⟩:=map_some h;exact Hn (O.e _ _ hf)
  ·obtain⟨t,ht,h⟩:=bs h
   obtain⟨a,ha,h⟩:=bs h
   obtain⟨b,hb,rfl⟩:=map_some h
   exact J3 (O.t _ _ ht) (ix ih ha) (ix ih hb)
  ·exact Cs C O h
  ·exact Cm C O h
  ·obtain⟨fi,hfi,h⟩:=bs h
   obtain⟨t,ht,h⟩:=bs h
   obtain⟨b,hb,rfl⟩:=map_some h
   obtain⟨hd,hfold⟩:=BI C B O hfi
   exact Jg _ C.pass C.calm hd (Jt C ht) (ix ih hb) hfold
  ·obtain⟨t,ht,h⟩:=bs h
   obtain⟨b,hb,rfl⟩:=map_some h
   exact Bf _ C.pass (O.t _ _ ht) (ix ih hb)
  ·exact Bp C O h
  ·cases h;exact J2
  ·cases h;exact FT
  ·cases h
end
end Rf
namespace Rf
open PySem L2 Dl PySem.Spec PyProof.Rows
section
variable {P:Program}{w:World}{K:PySem.W.Frag}{mg:Str->Option Value}{base:Heap}{j:Nat}
noncomputable def ka (P:Program) (w:World) (K:PySem.W.Frag) (mg:Str->Option Value) (base:Heap) (j:Nat) (l:List (Str×Nat×(List D->Option D))):Prop:=∀x n m,l.lookup x=some (n,m)->dk P w K mg base j x n m
noncomputable def ju (mg:Str->Option Value) (l:List (Str×Int)):Prop:=∀x i,l.lookup x=some i->∃t,mg x=some (.int i t)
theorem bD:ka P w K mg base j []:=fun _ _ _ h=>by cases h
theorem J1 {x:Str}{n:Nat}{m:List D->Option D}{l:List (Str×Nat×(List D->Option D))}(F:dk P w K mg base j x n m) (h:ka P w K mg base j l):ka P w K mg base j ((x,n,m)::l):=fun y n' m' e=>by
 rw[List.lookup_cons] at e
 cases q:y == x with
 | true=>rw[q] at e;cases e;rw[eq_of_beq q];exact F
 | false=>rw[q] at e;exact h y n' m' e
theorem bE:ju mg []:=fun _ _ h=>by cases h
theorem Cy {x:Str}{i:Int}{l:List (Str×Int)}(F:∃t,mg x=some (.int i t)) (h:ju mg l):ju mg ((x,i)::l):=fun y i' e=>by
 rw[List.lookup_cons] at e
 cases q:y == x with
 | true=>rw[q] at e;cases e;rw[eq_of_beq q];exact F
 | false=>rw[q] at e;exact h y i' e
theorem GD {X:Cx}{N:List Str}{st:Stmt}{g:ai->Option Out}{fs:List (Str×Nat×(List D->Option D))}{is:List (Str×Int)}{HF₀ H₀:Hp}(C:Bk X N (aD st) j) (B:Bn X) (hf:ka X.prog X.w X.K X.mg X.base j fs) (hi:ju X.mg is)
  (t:oo (D9 (aD st) N (tr ⟨fs,is⟩ 40 none (aD st) N) 40) (bT st)=some g):A5 X HF₀ H₀ (bT st) g :=
 ix (fun s g h=>w6 C B (GL (G:=⟨fs,is⟩) 40 C ⟨hf,hi,B⟩ (Nat.le_refl j) fun q z=>by cases z) 40 h) t
theorem MF {x:Str}{st:Stmt}{ps N:List Str}{g:ai->Option Out}{fs:List (Str×Nat×(List D->Option D))}{is:List (Str×Int)}(D:bx K mg x st ps) (S:ee N ps (aD st)) (B:∀x∈cI,mg x=none) (hf:ka P w K mg base j fs) (hi:ju mg is)
  (t:oo (D9 (aD st) N (tr ⟨fs,is⟩ 40 none (aD st) N) 40) (bT st)=some g):dk P w K mg base (j+1) x ps.length (aZ g N.length):=by
 obtain⟨f,fd,hm,F,hb⟩:=D.ex
 exact Mq F S hb hm fun X hP hw hK hm' hb' C _ _ HF H=>by subst hP;subst hw;subst hK;subst hm';subst hb';exact GD C B hf hi t
theorem My {x q:Str}{st:Stmt}{ps N:List Str}{g:ai->Option Out}{fs:List (Str×Nat×(List D->Option D))}{is:List (Str×Int)}(D:CP K mg x st ps) (S:ee N ps (aD st)) (B:∀x∈cI,mg x=none) (hf:ka P w K mg base j fs) (hi:ju mg is)
  (hq:x∈jc/\x++".<locals>."++"<lambda>"=q) (t:oo (D9 (aD st) N (tr ⟨fs,is⟩ 40 (some q) (aD st) N) 40) (bT st)=some g):dk P w K mg base (j+4) x ps.length (aZ g N.length):=by
 obtain⟨f,fd,c,P',hm,F,hb,hc,hh⟩:=D.ex
 refine Mq (k:=j+3) F S hb hm fun X hP hw hK hm' hb' C h1 h2 HF H=>?_
 subst hP;subst hw;subst hK;subst hm';subst hb'
 have L:n9 X q:=by
  refine⟨c,P',by rw[h1,hc],by rw[h2];exact hq.2,hh,fun HF tb=>?_⟩
  obtain⟨oc,od,kV,doc,pm,an,cdv,ct,osl,rfl,lk,_⟩:=F.ex
  have:=tb f oc od _ osl c P' lk hq.1 hc hh
  rw[<- hq.2]
  exact this
 exact ix (fun s g h=>w6 C B (GL (G:=⟨fs,is⟩) (j:=j) 40 C ⟨hf,hi,B⟩ (Nat.le_add_right _ _) fun q' z=>by cases z;exact⟨L,Nat.le_refl _⟩) 40 h) t
end
end Rf
namespace Rf
open PySem L2 Dl PySem.Spec PyProof.Rows
noncomputable abbrev tW (s:Stmt) (N:List Str) (S:Sg) (l:Option Str):Option GS:=oo (D9 (aD s) N (tr S 40 l (aD s) N) 40) (bT s)
theorem LN {N P:List Str}{sc:Scope}(a:sc.kind=.function:=by rfl) (b:sc.isCoroutine=false:=by rfl) (c:sc.isGenerator=false:=by rfl) (d:N.Nodup:=by decide +kernel) (e:N.take P.length=P:=by rfl) (f:∀x∈P,sc.names.lookup x=some .local \/ sc.names.lookup x=some .cell:=by decide +kernel) (g:∀y∈sc.names,y.2≠.free:=by decide +kernel):ee N P sc:=⟨a,b,c,d,e,f,g⟩
section
variable {P:Program}{w:World}{K:PySem.W.Frag}{mg:Str->Option Value}{base:Heap}{i j:Nat}
theorem fm {x:Str}{n:Nat}{m:List D->Option D}{l:List (Str×Nat×(List D->Option D))}(F:dk P w K mg base i x n m) (h:ka P w K mg base j l) (e:i<=j:=by decide):ka P w K mg base j ((x,n,m)::l):=J1 (F.mono e) h
theorem fX {x:Str}{st:Stmt}{ps N:List Str}{g:ai->Option Out}{S:Sg}(D:bx K mg x st ps) (B:∀x∈cI,mg x=none) (hf:ka P w K mg base j S.fn) (hi:ju mg S.int) (t:tW st N S none=some g) (F:ee N ps (aD st):=by exact Rf.LN):dk P w K mg base (j+1) x ps.length (aZ g N.length):=MF D F B hf hi t
theorem Mn {x q:Str}{st:Stmt}{ps N:List Str}{g:ai->Option Out}{S:Sg}(D:CP K mg x st ps) (B:∀x∈cI,mg x=none) (hf:ka P w K mg base j S.fn) (hi:ju mg S.int) (t:tW st N S (some q)=some g) (F:ee N ps (aD st):=by exact Rf.LN) (hq:x∈jc/\x++".<locals>."++"<lambda>"=q:=by decide +kernel):dk P w K mg base (j+4) x ps.length (aZ g N.length):=My D F B hf hi hq t
end
end Rf
namespace Hd
open PySem L2 Dl PySem.Spec PyProof.Rows
section
variable {K:PySem.W.Frag}
theorem fIn {x:Str}{st:Stmt}{ps:List Str}{f c:Addr}{pm:Value}(hb:gN st ps) (a:PySem.W.nsIn K mainGlobals x=some (some (.ref f))) (l:K.lookup f=some (fo x st pm c)) (d:PySem.W.codeIn K (.ref c) x=true) (k:PySem.W.keepIn K (.ref f)=true):aH K x st ps:=Ka hb a l d k
theorem lIn {x:Str}{st:Stmt}{ps:List Str}{f c:Addr}{pm:Value}(hb:gN st ps) (a:PySem.W.nsIn K mainGlobals x=some (some (.ref f))) (l:K.lookup f=some (fo x st pm c)) (d:PySem.W.codeIn K (.ref c) x=true) (k:PySem.W.keepIn K (.ref f)=true) (hh:PySem.W.codeHdIn K c (CY K c)=true):m8 K x st ps:=KP hb a l d k hh
end
section
variable {α:Type}{R:List α->Prop}
theorem tV (h:∀a,R [a]) (us:List α) (e:us.length=1):R us:=by
 obtain⟨a,rfl⟩:=List.length_eq_one_iff.mp e;exact h a
theorem lenS {n:Nat}(us:List α) (e:us.length=n+1):∃a r,us=a::r/\r.length=n:=by
 cases us with
 | nil=>cases e
 | cons a r=>exact⟨a,r,rfl,by simpa using e⟩
theorem len2 (h:∀a b,R [a,b]) (us:List α) (e:us.length=2):R us:=by
 obtain⟨a,r,rfl,e'⟩:=lenS us e;exact tV (R:=fun r=>R (a::r)) (h a) r e'
theorem len3 (h:∀a b c,R [a,b,c]) (us:List α) (e:us.length=3):R us:=by
 obtain⟨a,r,rfl,e'⟩:=lenS us e;exact len2 (R:=fun r=>R (a::r)) (h a) r e'
theorem len4 (h:∀a b c d,R [a,b,c,d]) (us:List α) (e:us.length=4):R us:=by
 obtain⟨a,r,rfl,e'⟩:=lenS us e;exact len3 (R:=fun r=>R (a::r)) (h a) r e'
end
section
variable {K:PySem.W.Frag}
theorem f1 (f c:Addr) (pm:Value) {x:Str}{st:Stmt}{ps:List Str}(hb:gN st ps:=by exact fun _ _ _ _ _ _ _ _ us hl=>tV (R:=fun us=>bindArgs _ ⟨us,[]⟩=pure (List.zip _ us)) (fun _=>rfl) us hl) (a:PySem.W.nsIn K mainGlobals x=some (some (.ref f)):=by kernel_rfl) (l:K.lookup f=some (fo x st pm c):=by kernel_rfl) (d:PySem.W.codeIn K (.ref c) x=true:=by kernel_rfl) (k:PySem.W.keepIn K (.ref f)=true:=by kernel_rfl):aH K x st ps:=fIn hb a l d k
theorem l1 (f c:Addr) (pm:Value) {x:Str}{st:Stmt}{ps:List Str}(hb:gN st ps:=by exact fun _ _ _ _ _ _ _ _ us hl=>tV (R:=fun us=>bindArgs _ ⟨us,[]⟩=pure (List.zip _ us)) (fun _=>rfl) us hl) (a:PySem.W.nsIn K mainGlobals x=some (some (.ref f)):=by kernel_rfl) (l:K.lookup f=some (fo x st pm c):=by kernel_rfl) (d:PySem.W.codeIn K (.ref c) x=true:=by kernel_rfl) (k:PySem.W.keepIn K (.ref f)=true:=by kernel_rfl) (hh:PySem.W.codeHdIn K c (CY K c)=true:=by kernel_rfl):m8 K x st ps:=lIn hb a l d k hh
theorem f2 (f c:Addr) (pm:Value) {x:Str}{st:Stmt}{ps:List Str}(hb:gN st ps:=by exact fun _ _ _ _ _ _ _ _ us hl=>len2 (R:=fun us=>bindArgs _ ⟨us,[]⟩=pure (List.zip _ us)) (fun _ _=>rfl) us hl) (a:PySem.W.nsIn K mainGlobals x=some (some (.ref f)):=by kernel_rfl) (l:K.lookup f=some (fo x st pm c):=by kernel_rfl) (d:PySem.W.codeIn K (.ref c) x=true:=by kernel_rfl) (k:PySem.W.keepIn K (.ref f)=true:=by kernel_rfl):aH K x st ps:=fIn hb a l d k
theorem f3 (f c:Addr) (pm:Value) {x:Str}{st:Stmt}{ps:List Str}(hb:gN st ps:=by exact fun _ _ _ _ _ _ _ _ us hl=>len3 (R:=fun us=>bindArgs _ ⟨us,[]⟩=pure (List.zip _ us)) (fun _ _ _=>rfl) us hl) (a:PySem.W.nsIn K mainGlobals x=some (some (.ref f)):=by kernel_rfl) (l:K.lookup f=some (fo x st pm c):=by kernel_rfl) (d:PySem.W.codeIn K (.ref c) x=true:=by kernel_rfl) (k:PySem.W.keepIn K (.ref f)=true:=by kernel_rfl):aH K x st ps:=fIn hb a l d k
theorem l3 (f c:Addr) (pm:Value) {x:Str}{st:Stmt}{ps:List Str}(hb:gN st ps:=by exact fun _ _ _ _ _ _ _ _ us hl=>len3 (R:=fun us=>bindArgs _ ⟨us,[]⟩=pure (List.zip _ us)) (fun _ _ _=>rfl) us hl) (a:PySem.W.nsIn K mainGlobals x=some (some (.ref f)):=by kernel_rfl) (l:K.lookup f=some (fo x st pm c):=by kernel_rfl) (d:PySem.W.codeIn K (.ref c) x=true:=by kernel_rfl) (k:PySem.W.keepIn K (.ref f)=true:=by kernel_rfl) (hh:PySem.W.codeHdIn K c (CY K c)=true:=by kernel_rfl):m8 K x st ps:=lIn hb a l d k hh
theorem f4 (f c:Addr) (pm:Value) {x:Str}{st:Stmt}{ps:List Str}(hb:gN st ps:=by exact fun _ _ _ _ _ _ _ _ us hl=>len4 (R:=fun us=>bindArgs _ ⟨us,[]⟩=pure (List.zip _ us)) (fun _ _ _ _=>rfl) us hl) (a:PySem.W.nsIn K mainGlobals x=some (some (.ref f)):=by kernel_rfl) (l:K.lookup f=some (fo x st pm c):=by kernel_rfl) (d:PySem.W.codeIn K (.ref c) x=true:=by kernel_rfl) (k:PySem.W.keepIn K (.ref f)=true:=by kernel_rfl):aH K x st ps:=fIn hb a l d k
end
end Hd
namespace Pg
open PySem L2 Dl PySem.Spec PyProof.Rows
noncomputable abbrev xY:List Str:=["thing","least","most"]
noncomputable def kK:ai->Option Out:=(av (fq (ox (bw (fB (GK "int" (ab 0)))) (fB (GK "bool" (ab 0)))) (aJ (fC (.bool false))) f7) (aJ (jd yA yA (ab 1) (ab 0) (ab 2))))
noncomputable def aO:List D->Option D:=aZ kK 3
noncomputable abbrev vZ:List Str:=["thing","many"]
noncomputable def jz:ai->Option Out:=(aJ (ag 3 aO (aa (ab 0) (aa (fC (.int 0)) (aa (f2 Dl.gK (ab 1) (fC (.int 1))) ae)))))
noncomputable def bN:List D->Option D:=aZ jz 2
noncomputable abbrev A0:List Str:=["thing","least","most"]
noncomputable def l7:ai->Option Out:=(aJ (jY (GK "tuple" (ab 0)) (jd yA yA (ab 1) (bb bz (aa (ab 0) ae)) (ab 2))))
noncomputable def aX:List D->Option D:=aZ l7 3
noncomputable abbrev wD:List Str:=["thing","many"]
noncomputable def jE:ai->Option Out:=(av (fq (bw (fB (GK "tuple" (ab 0)))) (aJ (fC (.bool false))) f7) (av (fq (bw (fB (bb lF (aa (cf (ak 1 [1] (aQ (ab 0)) (fG 0) (fun _=>some true) (ag 2 bN (aa (ab 0) (aa (ab 1) ae))))) ae)))) (aJ (fC (.bool false))) f7) (aJ (f2 bI (f1 jO (ab 0)) (bb bz (aa (ab 0) ae))))))
noncomputable def eK:List D->Option D:=aZ jE 2
noncomputable abbrev B8:List Str:=["thing","many"]
noncomputable def oA:ai->Option Out:=(aJ (jY (ag 3 aX (aa (ab 0) (aa (fC (.int 2)) (aa (fC (.int 2)) ae)))) (jY (ag 3 aO (aa (f2 ao (ab 0) (fC (.int 0))) (aa (fC (.int 0)) (aa (fC (.int 9)) ae)))) (ag 2 eK (aa (f2 ao (ab 0) (fC (.int 1))) (aa (ab 1) ae))))))
noncomputable def eH:List D->Option D:=aZ oA 2
noncomputable abbrev Be:List Str:=["thing","givers","takers"]
noncomputable def pJ:ai->Option Out:=(av (fq (bw (fB (ag 3 aX (aa (ab 0) (aa (fC (.int 3)) (aa (fC (.int 3)) ae)))))) (aJ (fC (.bool false))) f7) (aJ (jY (ag 2 bN (aa (f2 ao (ab 0) (fC (.int 0))) (aa (ab 1) ae))) (jY (ag 2 bN (aa (f2 ao (ab 0) (fC (.int 1))) (aa (ab 2) ae))) (ag 3 aO (aa (f2 ao (ab 0) (fC (.int 2))) (aa (fC (.int 1)) (aa (fC (.int 9)) ae))))))))
noncomputable def gU:List D->Option D:=aZ pJ 3
noncomputable abbrev vm:List Str:=["givers","takers","ways"]
noncomputable def jB:ai->Option Out:=(av (fq (ox (bw (fB (ag 3 aX (aa (ab 0) (aa (fC (.int 1)) (aa (fC (.int 4)) ae)))))) (bw (fB (ag 3 aX (aa (ab 1) (aa (fC (.int 1)) (aa (fC (.int 4)) ae))))))) (aJ (fC (.bool false))) f7) (av (fq (bw (fB (bb lF (aa (cf (ak 1 [1] (aQ (ab 0)) (fG 0) (fun _=>some true) (ag 2 eH (aa (ab 0) (aa (bb bz (aa (ab 1) ae)) ae))))) ae)))) (aJ (fC (.bool false))) f7) (av (fq (bw (fB (bb lF (aa (cf (ak 1 [0] (aQ (ab 1)) (fG 0) (fun _=>some true) (ag 2 eH (aa (ab 0) (aa (bb bz (aa (ab 1) ae)) ae))))) ae)))) (aJ (fC (.bool false))) f7) (aJ (jY (GK "tuple" (ab 2)) (bb lF (aa (cf (ak 1 [0,1] (aQ (ab 2)) (fG 0) (fun _=>some true) (ag 3 gU (aa (ab 0) (aa (bb bz (aa (ab 1) ae)) (aa (bb bz (aa (ab 2) ae)) ae)))))) ae)))))))
noncomputable def eM:List D->Option D:=aZ jB 3
noncomputable abbrev qg:List Str:=["places","pairs","number","place"]
noncomputable def gP:ai->Option Out:=(av (aK 1 [] (cN ae)) (av (dz [0] (ba (aa (ab 0) ae)) (eY 2 3) (zI 1 [2,3] (ak 1 [2] (aQ (f2 ao (ab 3) (fC (.int 1)))) (fG 0) (fun _=>some true) (aF (aa (ab 1) (aa (ab 0) ae)))))) (aJ (ab 1))))
noncomputable def bj:List D->Option D:=aZ gP 4
noncomputable abbrev xI:List Str:=["thing","joined","by_givers","by_takers"]
noncomputable def fR:ai->Option Out:=(av (fq (ox (bw (fB (ag 3 aX (aa (ab 0) (aa (fC (.int 3)) (aa (fC (.int 3)) ae)))))) (bw (fB (ag 3 eM (aa (f2 ao (ab 0) (fC (.int 0))) (aa (f2 ao (ab 0) (fC (.int 1))) (aa (f2 ao (ab 0) (fC (.int 2))) ae))))))) (aJ (fC (.bool false))) f7) (av (aK 1 [0] (ak 1 [] (aQ (f2 ao (ab 0) (fC (.int 2)))) (fG 0) (fun _=>some true) (aF (aa (f2 ao (ab 0) (fC (.int 0))) (aa (f2 ao (ab 0) (fC (.int 1))) ae))))) (av (aK 2 [0] (ma gg (aa (ag 1 bj (aa (f2 ao (ab 0) (fC (.int 0))) ae)) ae))) (av (aK 3 [0] (ma gg (aa (cf (ak 2 [] (aQ (ag 1 bj (aa (f2 ao (ab 0) (fC (.int 1))) ae))) (fY 0 1) (fun _=>some true) (aF (aa (ab 1) (aa (ab 0) ae))))) ae))) (aJ (jY (f2 bI (ab 1) (ab 2)) (f2 bI (ab 1) (ab 3))))))))
noncomputable def b8:List D->Option D:=aZ fR 4
noncomputable abbrev qH:List Str:=["world"]
noncomputable def cU:ai->Option Out:=(fq (bw (fB (ag 1 b8 (aa (ab 0) ae)))) J9 f7)
noncomputable def aY:List D->Option D:=aZ cU 1
noncomputable abbrev qB:List Str:=["thing","least","most"]
noncomputable def cY:ai->Option Out:=(fq (bw (fB (ag 3 aO (aa (ab 0) (aa (ab 1) (aa (ab 2) ae)))))) J9 f7)
noncomputable def d7:List D->Option D:=aZ cY 3
noncomputable abbrev pD:List Str:=["thing","many"]
noncomputable def cL:ai->Option Out:=(i4 (ag 3 d7 (aa (ab 0) (aa (fC (.int 0)) (aa (f2 Dl.gK (ab 1) (fC (.int 1))) ae)))))
noncomputable def bq:List D->Option D:=aZ cL 2
noncomputable abbrev ug:List Str:=["thing"]
noncomputable def dD:ai->Option Out:=(i4 (ag 2 bq (aa (ab 0) (aa (fC (.int 2)) ae))))
noncomputable def fj:List D->Option D:=aZ dD 1
noncomputable abbrev wW:List Str:=["parts","number","part"]
noncomputable def kc:ai->Option Out:=(aJ (f2 aA (f2 aA (fV cQ (ab 0) fW (pO (ab 1))) (aF (aa (ab 2) ae))) (fV cQ (ab 0) (pO (f2 aA (ab 1) (fC (.int 1)))) fW)))
noncomputable def iC:List D->Option D:=aZ kc 3
noncomputable abbrev zX:List Str:=["world","side","place","ways","likes","own"]
noncomputable def jW:ai->Option Out:=(av (ay 3 [0] (f2 ao (ab 0) (fC (.int 2)))) (av (ay 4 [0,1,2] (f2 ao (f2 ao (f2 ao (ab 0) (ab 1)) (ab 2)) (fC (.int 1)))) (av (aK 5 [1,2,3] (ak 2 [1,2] (ba (aa (ab 3) ae)) (fY 0 1) (fB (f2 bI (f2 ao (ab 1) (ab 2)) (ab 3))) (ab 0))) (aJ (cf (l8 [1,3,4] (ab 5) (f2 nA (ab 3) (f2 ao (f2 ao (ab 2) (ab 0)) (f2 Dl.gK (fC (.int 1)) (ab 1))))))))))
noncomputable def dW:List D->Option D:=aZ jW 6
noncomputable abbrev vO:List Str:=["world","side","place","offers","chosen","left","number"]
noncomputable def gc:ai->Option Out:=(av (aK 4 [0] (ak 1 [] (aQ (f2 ao (ab 0) (fC (.int 2)))) (fG 0) (fun _=>some true) (fC (.int 0)))) (av (ay 5 [0,1,2] (f2 ao (f2 ao (f2 ao (ab 0) (ab 1)) (ab 2)) (fC (.int 0)))) (av (dz [0,1,2] (aQ (ag 3 dW (aa (ab 0) (aa (ab 1) (aa (ab 2) ae))))) (uv 6) (av (yg 4 [0,3,5,6] (ab 6) (bb wB (aa (f2 ao (ab 3) (ab 6)) (aa (f2 ao (f2 ao (f2 ao (ab 0) (fC (.int 2))) (ab 6)) (fC (.int 2))) (aa (ab 5) ae))))) (ay 5 [4,5,6] (f2 Dl.gK (ab 5) (f2 ao (ab 4) (ab 6)))))) (aJ (bb bG (aa (ab 4) ae))))))
noncomputable def bZ:List D->Option D:=aZ gc 7
noncomputable abbrev nh:List Str:=["world","side","offers","sums","place","chosen"]
noncomputable def da:ai->Option Out:=(av (aK 3 [0] (ak 1 [] (aQ (f2 ao (ab 0) (fC (.int 2)))) (fG 0) (fun _=>some true) (fC (.int 0)))) (av (dz [0,1] (bQ (aa (bb bz (aa (f2 ao (ab 0) (ab 1)) ae)) ae)) (uv 4) (av (ay 5 [0,1,2,4] (ag 4 bZ (aa (ab 0) (aa (ab 1) (aa (ab 4) (aa (ab 2) ae)))))) (aK 3 [3,5] (ak 2 [] (eV (aa (ab 3) (aa (ab 5) ae))) (fY 0 1) (fun _=>some true) (f2 aA (ab 0) (ab 1)))))) (aJ (bb bG (aa (ab 3) ae)))))
noncomputable def aV:List D->Option D:=aZ da 6
noncomputable abbrev A8:List Str:=["world"]
noncomputable def pK:ai->Option Out:=(aJ (bb bG (aa (cf (ak 1 [] (aQ (f2 ao (ab 0) (fC (.int 2)))) (fG 0) (fun _=>some true) (f2 ao (ab 0) (fC (.int 2))))) ae)))
noncomputable def eN:List D->Option D:=aZ pK 1
noncomputable abbrev zE:List Str:=["caps","way","cap"]
noncomputable def me:ai->Option Out:=(aJ (ag 3 iC (aa (ab 0) (aa (ab 1) (aa (ab 2) ae)))))
noncomputable def bV:List D->Option D:=aZ me 3
noncomputable abbrev Ai:List Str:=["world","caps","given","kept","way","many"]
noncomputable def jX:ai->Option Out:=(av (ay 2 [0,1] (ag 3 aV (aa (ab 0) (aa (fC (.int 0)) (aa (ab 1) ae))))) (av (ay 3 [0,2] (ag 3 aV (aa (ab 0) (aa (fC (.int 1)) (aa (ab 2) ae))))) (av (dz [3] (ba (aa (ab 3) ae)) (eY 4 5) (fq (fB (f2 zh (ab 5) (f2 ao (ab 2) (ab 4)))) (aJ (aF (aa (ab 4) (aa (ab 5) ae)))) f7)) (aJ (fC .none)))))
noncomputable def dq:List D->Option D:=aZ jX 6
noncomputable abbrev F2:List Str:=["world","rows","caps","row"]
noncomputable def nQ:ai->Option Out:=(av (aK 1 [] (cN ae)) (av (ay 2 [0] (ag 1 eN (aa (ab 0) ae))) (av (ay 3 [0,2] (ag 2 dq (aa (ab 0) (aa (ab 2) ae)))) (av (Ee (fB (f2 mX (ab 3) (fC .none))) (av (kH 1 [3] (ab 3)) (av (ay 2 [2,3] (ag 3 bV (aa (ab 2) (aa (f2 ao (ab 3) (fC (.int 0))) (aa (f2 ao (ab 3) (fC (.int 1))) ae))))) (ay 3 [0,2] (ag 2 dq (aa (ab 0) (aa (ab 2) ae)))))) Rf.turns) (aJ (ab 1))))))
noncomputable def nF:List D->Option D:=aZ nQ 4
noncomputable abbrev Bw:List Str:=["world","rows","caps","way","cap"]
noncomputable def lb:ai->Option Out:=(av (ay 2 [0] (ag 1 eN (aa (ab 0) ae))) (av (dz [1] (aQ (ab 1)) (eY 3 4) (ay 2 [2,3,4] (ag 3 bV (aa (ab 2) (aa (ab 3) (aa (ab 4) ae)))))) (aJ (ab 2))))
noncomputable def lG:List D->Option D:=aZ lb 5
noncomputable abbrev pS:List Str:=["world"]
noncomputable def d6:ai->Option Out:=(av (i4 (ag 1 aY (aa (ab 0) ae))) (aJ (ag 3 aV (aa (ab 0) (aa (fC (.int 0)) (aa (ag 2 lG (aa (ab 0) (aa (ag 1 nF (aa (ab 0) ae)) ae))) ae))))))
noncomputable def bo:List D->Option D:=aZ d6 1
noncomputable abbrev vR:List Str:=["_law_script","_law_k"]
noncomputable def gx:ai->Option Out:=(av (fq (fB (f2 bI (ab 0) (cf (cN ae)))) (aJ (f2 dU (fC (.int 7)) (ab 1))) f7) (aJ (f2 aA (f2 ao (ab 0) (f2 jZ (ab 1) (bb bz (aa (ab 0) ae)))) (f2 dU (fC (.int 6553)) (f2 kU (ab 1) (bb bz (aa (ab 0) ae)))))))
noncomputable def dv:List D->Option D:=aZ gx 2
noncomputable abbrev uq:List Str:=["_law_script","_law_k","_law_many","_law_cell_here"]
noncomputable def iN:ai->Option Out:=(av (ay 3 [0,1] (f2 jZ (f2 aA (f2 dU (f2 jZ (ag 2 dv (aa (ab 0) (aa (ab 1) ae))) (fC (.int 2147483563))) (fC (.int 69069))) (f2 dU (fC (.int 104723)) (f2 aA (ab 1) (fC (.int 1))))) (fC (.int 2147483563)))) (av (ay 3 [3] (f2 jZ (f2 aA (f2 dU (ab 3) (ab 3)) (f2 kU (ab 3) (fC (.int 3)))) (fC (.int 2147483399)))) (aJ (f2 jZ (f2 kU (f2 jZ (f2 aA (f2 dU (ab 3) (ab 3)) (f2 kU (ab 3) (fC (.int 7)))) (fC (.int 2147483647))) (fC (.int 11))) (ab 2)))))
noncomputable def aj:List D->Option D:=aZ iN 4
noncomputable abbrev qt:List Str:=["_law_script","_law_at","_law_rows","_law_found","_law_k","_law_row","_law_order","_law_j","_law_one"]
noncomputable def gO:ai->Option Out:=(av (aK 3 [] (cN ae)) (av (dz [2] (ba (aa (ab 2) ae)) (eY 4 5) (av (aK 6 [] (cN ae)) (av (dz [5] (ba (aa (ab 5) ae)) (eY 7 8) (DR 6 [8] (ag 3 aj (aa (ab 0) (aa (f2 aA (f2 aA (ab 1) (f2 dU (fC (.int 4)) (ab 4))) (ab 7)) (aa (f2 aA (bb bz (aa (ab 6) ae)) (fC (.int 1))) ae)))) (ab 8))) (kH 3 [6] (bb bG (aa (ab 6) ae)))))) (aJ (ab 3))))
noncomputable def bA:List D->Option D:=aZ gO 9
noncomputable abbrev ui:List Str:=["_law_script","_law_at","_law_most","_law_each","_law_takers","_law_many","_law_size","_law_ways","_law_k","_law_mine","_law_yours","_law_givers"]
noncomputable def dM:ai->Option Out:=(av (fq (f9 (fB (f2 sS (ab 2) (fC (.int 3)))) (fB (f2 bI (ag 3 aj (aa (ab 0) (aa (f2 aA (ab 1) (fC (.int 64))) (aa (fC (.int 4)) ae)))) (fC (.int 0))))) (av (ay 3 [0,1] (f2 aA (fC (.int 1)) (ag 3 aj (aa (ab 0) (aa (f2 aA (ab 1) (fC (.int 65))) (aa (fC (.int 2)) ae)))))) (av (ay 4 [3] (aF (aa (aF (aa (ab 3) (aa (aF (aa (fC (.int 1)) (aa (fC (.int 0)) ae))) ae))) (aa (aF (aa (ab 3) (aa (aF (aa (fC (.int 0)) (aa (fC (.int 1)) ae))) ae))) ae)))) (aJ (aF (aa (aF (aa (aF (aa (ab 3) (aa (aF (aa (fC (.int 0)) (aa (fC (.int 1)) ae))) ae))) (aa (aF (aa (ab 3) (aa (aF (aa (fC (.int 1)) (aa (fC (.int 0)) ae))) ae))) ae))) (aa (ab 4) (aa (aF (aa (aF (aa (fC (.int 0)) (aa (fC (.int 0)) (aa (fC (.int 2)) ae)))) (aa (aF (aa (fC (.int 0)) (aa (fC (.int 1)) (aa (fC (.int 2)) ae)))) (aa (aF (aa (fC (.int 1)) (aa (fC (.int 0)) (aa (fC (.int 2)) ae)))) (aa (aF (aa (fC (.int 1)) (aa (fC (.int 1)) (aa (fC (.int 2)) ae)))) ae))))) ae))))))) f7) (av (ay 5 [0,1] (f2 aA (fC (.int 1)) (ag 3 aj (aa (ab 0) (aa (ab 1) (aa (fC (.int 3)) ae)))))) (av (ay 6 [0,1] (f2 aA (fC (.int 1)) (ag 3 aj (aa (ab 0) (aa (f2 aA (ab 1) (fC (.int 1))) (aa (fC (.int 3)) ae)))))) (av (aK 7 [] (cN ae)) (av (dz [5,6] (bQ (aa (f2 dU (ab 5) (ab 6)) ae)) (uv 8) (fq (f9 (fB (f2 zh (bb bz (aa (ab 7) ae)) (ab 2))) (fB (f2 sS (ag 3 aj (aa (ab 0) (aa (f2 aA (f2 aA (ab 1) (fC (.int 2))) (ab 8)) (aa (fC (.int 4)) ae)))) (fC (.int 0))))) (kH 7 [0,1,6,8] (aF (aa (f2 kU (ab 8) (ab 6)) (aa (f2 jZ (ab 8) (ab 6)) (aa (f2 aA (fC (.int 1)) (ag 3 aj (aa (ab 0) (aa (f2 aA (f2 aA (ab 1) (fC (.int 12))) (ab 8)) (aa (fC (.int 2)) ae))))) ae))))) f7)) (av (ay 9 [0,1,5,7] (ag 3 bA (aa (ab 0) (aa (f2 aA (ab 1) (fC (.int 24))) (aa (cf (ak 1 [7] (bQ (aa (ab 5) ae)) (fG 0) (fun _=>some true) (cf (ak 1 [0] (aQ (ab 1)) (fG 0) (fB (f2 bI (f2 ao (ab 0) (fC (.int 0))) (ab 1))) (f2 ao (ab 0) (fC (.int 1))))))) ae))))) (av (ay 10 [0,1,6,7] (ag 3 bA (aa (ab 0) (aa (f2 aA (ab 1) (fC (.int 40))) (aa (cf (ak 1 [7] (bQ (aa (ab 6) ae)) (fG 0) (fun _=>some true) (cf (ak 1 [0] (aQ (ab 1)) (fG 0) (fB (f2 bI (f2 ao (ab 0) (fC (.int 1))) (ab 1))) (f2 ao (ab 0) (fC (.int 0))))))) ae))))) (av (ay 11 [0,1,8,9] (bb bG (aa (cf (ak 2 [0,1] (ba (aa (ab 9) ae)) (fY 0 1) (fun _=>some true) (aF (aa (ag 3 aj (aa (ab 2) (aa (f2 aA (f2 aA (ab 3) (fC (.int 56))) (ab 0)) (aa (fC (.int 4)) ae)))) (aa (ab 1) ae))))) ae))) (av (ay 4 [0,1,8,10] (bb bG (aa (cf (ak 2 [0,1] (ba (aa (ab 10) ae)) (fY 0 1) (fun _=>some true) (aF (aa (ag 3 aj (aa (ab 2) (aa (f2 aA (f2 aA (ab 3) (fC (.int 60))) (ab 0)) (aa (fC (.int 4)) ae)))) (aa (ab 1) ae))))) ae))) (aJ (aF (aa (ab 11) (aa (ab 4) (aa (bb bG (aa (ab 7) ae)) ae))))))))))))))
noncomputable def bM:List D->Option D:=aZ dM 12
noncomputable abbrev AZ:List Str:=["world","plan","side","place"]
noncomputable def mF:ai->Option Out:=(aJ (bb qb (aa (cf (ak 2 [2,3] (eV (aa (f2 ao (ab 0) (fC (.int 2))) (aa (ab 1) ae))) (fY 0 1) (fB (f2 bI (f2 ao (ab 0) (ab 2)) (ab 3))) (ab 1))) ae)))
noncomputable def cM:List D->Option D:=aZ mF 4
noncomputable abbrev ng:List Str:=["world","plan","side"]
noncomputable def eP:ai->Option Out:=(aJ (bb lF (aa (cf (ak 2 [0,1,2] (ba (aa (f2 ao (ab 0) (ab 2)) ae)) (fY 0 1) (fun _=>some true) (f2 yA (ag 4 cM (aa (ab 2) (aa (ab 3) (aa (ab 4) (aa (ab 0) ae))))) (f2 ao (ab 1) (fC (.int 0)))))) ae)))
noncomputable def cn:List D->Option D:=aZ eP 3
noncomputable abbrev zW:List Str:=["world","thing","ways"]
noncomputable def jU:ai->Option Out:=(av (ay 2 [0] (f2 ao (ab 0) (fC (.int 2)))) (av (fq (bw (fB (ag 3 aX (aa (ab 1) (aa (bb bz (aa (ab 2) ae)) (aa (bb bz (aa (ab 2) ae)) ae)))))) (aJ (fC (.bool false))) f7) (av (fq (bw (fB (bb lF (aa (cf (ak 2 [] (eV (aa (ab 2) (aa (ab 1) ae))) (fY 0 1) (fun _=>some true) (ag 3 aO (aa (ab 1) (aa (fC (.int 0)) (aa (f2 ao (ab 0) (fC (.int 2))) ae)))))) ae)))) (aJ (fC (.bool false))) f7) (aJ (jY (ag 3 cn (aa (ab 0) (aa (ab 1) (aa (fC (.int 0)) ae)))) (ag 3 cn (aa (ab 0) (aa (ab 1) (aa (fC (.int 1)) ae)))))))))
noncomputable def g9:List D->Option D:=aZ jU 3
noncomputable abbrev sP:List Str:=["world","plan"]
noncomputable def dA:ai->Option Out:=(av (i4 (ag 1 aY (aa (ab 0) ae))) (fq (bw (fB (ag 2 g9 (aa (ab 0) (aa (ab 1) ae))))) J9 f7))
noncomputable def bh:List D->Option D:=aZ dA 2
noncomputable abbrev pj:List Str:=["world","ways"]
noncomputable def dI:ai->Option Out:=(av (ay 1 [0] (f2 ao (ab 0) (fC (.int 2)))) (aJ (cf (pf [1] (aa (bb bz (aa (ab 1) ae)) ae) (aF (aa (f2 ao (f2 ao (ab 1) (ab 0)) (fC (.int 1))) (aa (f2 ao (f2 ao (ab 1) (ab 0)) (fC (.int 0))) ae)))))))
noncomputable def aU:List D->Option D:=aZ dI 2
noncomputable abbrev Ce:List Str:=["world","ways"]
noncomputable def lO:ai->Option Out:=(av (i4 (ag 1 aY (aa (ab 0) ae))) (av (aK 1 [0] (ak 1 [0] (aQ (ag 1 aU (aa (ab 0) ae))) (fG 0) (fun _=>some true) (f2 ao (f2 ao (ab 1) (fC (.int 2))) (ab 0)))) (aJ (aF (aa (f2 ao (ab 0) (fC (.int 1))) (aa (f2 ao (ab 0) (fC (.int 0))) (aa (bb bG (aa (cf (ak 3 [] (aQ (ab 1)) (Ec 0 1 2) (fun _=>some true) (aF (aa (ab 1) (aa (ab 0) (aa (ab 2) ae)))))) ae)) ae)))))))
noncomputable def eG:List D->Option D:=aZ lO 2
noncomputable abbrev pW:List Str:=["world","plan"]
noncomputable def eh:ai->Option Out:=(av (i4 (ag 2 bh (aa (ab 0) (aa (ab 1) ae)))) (aJ (bb bG (aa (cf (ak 1 [1] (aQ (ag 1 aU (aa (ab 0) ae))) (fG 0) (fun _=>some true) (f2 ao (ab 1) (ab 0)))) ae))))
noncomputable def bR:List D->Option D:=aZ eh 2
noncomputable abbrev tR:List Str:=["world","plan","side","way","place","own","less_liked"]
noncomputable def fg:ai->Option Out:=(av (ay 4 [0,2,3] (f2 ao (f2 ao (f2 ao (ab 0) (fC (.int 2))) (ab 3)) (ab 2))) (av (fq (fB (f2 zh (ag 4 cM (aa (ab 0) (aa (ab 1) (aa (ab 2) (aa (ab 4) ae))))) (f2 ao (f2 ao (f2 ao (ab 0) (ab 2)) (ab 4)) (fC (.int 0))))) (aJ (fC (.bool true))) f7) (av (ay 5 [0,2,4] (ag 3 dW (aa (ab 0) (aa (ab 2) (aa (ab 4) ae))))) (av (ay 6 [3,5] (fV cQ (ab 5) (pO (f2 aA (f2 nA (ab 5) (ab 3)) (fC (.int 1)))) fW)) (aJ (bb Rf.B5 (aa (cf (ak 1 [1] (aQ (ab 6)) (fG 0) (fun _=>some true) (f2 sS (f2 ao (ab 1) (ab 0)) (fC (.int 0))))) ae)))))))
noncomputable def cg:List D->Option D:=aZ fg 7
noncomputable abbrev xK:List Str:=["world","plan","way"]
noncomputable def ir:ai->Option Out:=(av (fq (fB (f2 bI (f2 ao (ab 1) (ab 2)) (f2 ao (f2 ao (f2 ao (ab 0) (fC (.int 2))) (ab 2)) (fC (.int 2))))) (aJ (fC (.str "full"))) f7) (av (fq (bw (fB (ag 4 cg (aa (ab 0) (aa (ab 1) (aa (fC (.int 0)) (aa (ab 2) ae))))))) (aJ (fC (.str "giver"))) f7) (av (fq (bw (fB (ag 4 cg (aa (ab 0) (aa (ab 1) (aa (fC (.int 1)) (aa (ab 2) ae))))))) (aJ (fC (.str "taker"))) f7) (aJ (fC .none)))))
noncomputable def bF:List D->Option D:=aZ ir 3
noncomputable abbrev ni:List Str:=["world","plan","way"]
noncomputable def dg:ai->Option Out:=(av (dz [1] (bQ (aa (bb bz (aa (ab 1) ae)) ae)) (uv 2) (fq (fB (f2 i6 (ag 3 bF (aa (ab 0) (aa (ab 1) (aa (ab 2) ae)))) (fC .none))) (aJ (ab 2)) f7)) (aJ (fC .none)))
noncomputable def dc:List D->Option D:=aZ dg 3
noncomputable abbrev xS:List Str:=["world","plan"]
noncomputable def iP:ai->Option Out:=(aJ (f2 i6 (ag 2 dc (aa (ab 0) (aa (ab 1) ae))) (fC .none)))
noncomputable def iT:List D->Option D:=aZ iP 2
noncomputable abbrev A3:List Str:=["world","plan"]
noncomputable def jK:ai->Option Out:=(av (i4 (ag 2 bh (aa (ab 0) (aa (ab 1) ae)))) (aJ (cf (ak 1 [0,1] (bQ (aa (bb bz (aa (ab 1) ae)) ae)) (fG 0) (fB (f2 i6 (ag 3 bF (aa (ab 1) (aa (ab 2) (aa (ab 0) ae)))) (fC .none))) (ab 0)))))
noncomputable def hZ:List D->Option D:=aZ jK 2
noncomputable abbrev Fi:List Str:=["world","plan"]
noncomputable def nI:ai->Option Out:=(av (i4 (ag 2 bh (aa (ab 0) (aa (ab 1) ae)))) (aJ (ag 2 iT (aa (ab 0) (aa (ab 1) ae)))))
noncomputable def lQ:List D->Option D:=aZ nI 2
noncomputable abbrev qh:List Str:=["world","other"]
noncomputable def eB:ai->Option Out:=(av (ay 1 [0] (ag 1 eG (aa (ab 0) ae))) (aJ (ag 2 bR (aa (ab 1) (aa (ag 1 bo (aa (ab 1) ae)) ae)))))
noncomputable def cy:List D->Option D:=aZ eB 2
noncomputable abbrev vG:List Str:=["_law_world_here","_law_plan_here","_law_side","_law_place"]
noncomputable def jF:ai->Option Out:=(aJ (bb qb (aa (cf (ak 2 [2,3] (eV (aa (ab 1) (aa (f2 ao (ab 0) (fC (.int 2))) ae))) (fY 0 1) (fB (f2 bI (f2 ao (ab 1) (ab 2)) (ab 3))) (ab 0))) ae)))
noncomputable def cD:List D->Option D:=aZ jF 4
noncomputable abbrev uO:List Str:=["_law_world_here","_law_plan_here","_law_side","_law_place","_law_row"]
noncomputable def gh:ai->Option Out:=(av (dz [] (bQ (aa (fC (.int 2)) ae)) (uv 2) (dz [0,2] (ba (aa (f2 ao (ab 0) (ab 2)) ae)) (eY 3 4) (fq (fB (f2 sS (ag 4 cD (aa (ab 0) (aa (ab 1) (aa (ab 2) (aa (ab 3) ae))))) (f2 ao (ab 4) (fC (.int 0))))) (aJ (fC (.bool false))) f7))) (aJ (fC (.bool true))))
noncomputable def cH:List D->Option D:=aZ gh 5
noncomputable abbrev va:List Str:=["_law_script","_law_at","_law_world_here","_law_found","_law_k","_law_way","_law_more","_law_fit"]
noncomputable def gu:ai->Option Out:=(av (ay 3 [] (aF ae)) (av (dz [2] (ba (aa (f2 ao (ab 2) (fC (.int 2))) ae)) (eY 4 5) (av (ay 6 [0,1,3,4,5] (f2 aA (ab 3) (aF (aa (ag 3 aj (aa (ab 0) (aa (f2 aA (ab 1) (ab 4)) (aa (f2 aA (f2 ao (ab 5) (fC (.int 2))) (fC (.int 1))) ae)))) ae)))) (av (ay 7 [2,6] (ag 2 cH (aa (ab 2) (aa (f2 aA (ab 6) (f2 dU (aF (aa (fC (.int 0)) ae)) (f2 Dl.gK (bb bz (aa (f2 ao (ab 2) (fC (.int 2))) ae)) (bb bz (aa (ab 6) ae))))) ae)))) (ay 3 [3,6,7] (rg (fB (ab 7)) (ab 6) (f2 aA (ab 3) (aF (aa (fC (.int 0)) ae)))))))) (aJ (ab 3))))
noncomputable def eL:List D->Option D:=aZ gu 8
noncomputable abbrev pY:List Str:=["world","side","place"]
noncomputable def cX:ai->Option Out:=(av (i4 (ag 1 fj (aa (ab 1) ae))) (i4 (ag 2 bq (aa (ab 2) (aa (bb bz (aa (f2 ao (ab 0) (ab 1)) ae)) ae)))))
noncomputable def eA:List D->Option D:=aZ cX 3
noncomputable abbrev CK:List Str:=["world","side","place","offers"]
noncomputable def lz:ai->Option Out:=(av (i4 (ag 1 aY (aa (ab 0) ae))) (av (i4 (ag 3 eA (aa (ab 0) (aa (ab 1) (aa (ab 2) ae))))) (aJ (ag 4 bZ (aa (ab 0) (aa (ab 1) (aa (ab 2) (aa (ab 3) ae))))))))
noncomputable def fF:List D->Option D:=aZ lz 4
noncomputable abbrev D6:List Str:=["world","plan","way"]
noncomputable def k9:ai->Option Out:=(av (i4 (ag 2 bh (aa (ab 0) (aa (ab 1) ae)))) (av (i4 (ag 2 bq (aa (ab 2) (aa (bb bz (aa (f2 ao (ab 0) (fC (.int 2))) ae)) ae)))) (aJ (ag 3 bF (aa (ab 0) (aa (ab 1) (aa (ab 2) ae)))))))
noncomputable def fT:List D->Option D:=aZ k9 3
noncomputable abbrev qY:List Str:=["_law_script","_law_world_here","_law_other","_law_plan_here","_law_back","_law_gone","_law_way","_law_giver","_law_taker","_law_limit","_law_why","_law_offers","_law_more","_law_due","_law_there"]
noncomputable def md:ai->Option Out:=(av (ay 1 [0] (ag 3 bM (aa (ab 0) (aa (fC (.int 0)) (aa (fC (.int 9)) ae))))) (av (ay 2 [1] (ag 1 eG (aa (ab 1) ae))) (av (dz [0,1] (aQ (aF (aa (ag 3 eL (aa (ab 0) (aa (fC (.int 70)) (aa (ab 1) ae)))) (aa (ag 1 bo (aa (ab 1) ae)) (aa (ag 1 cy (aa (ab 1) ae)) ae))))) (uv 3) (av (ay 4 [1,3] (ag 2 bR (aa (ab 1) (aa (ab 3) ae)))) (av (aK 5 [] (cN ae)) (av (dz [1] (ba (aa (f2 ao (ab 1) (fC (.int 2))) ae)) (qS 6 7 8 9) (av (ay 10 [1,3,6] (ag 3 fT (aa (ab 1) (aa (ab 3) (aa (ab 6) ae))))) (av (ay 11 [3,6] (f2 aA (f2 aA (fV cQ (ab 3) fW (pO (ab 6))) (aF (aa (f2 aA (f2 ao (ab 3) (ab 6)) (fC (.int 1))) ae))) (fV cQ (ab 3) (pO (f2 aA (ab 6) (fC (.int 1)))) fW))) (av (aK 12 [1,3,6,7,8,11] (cN (aa (f2 sS (f2 ao (ag 4 fF (aa (ab 1) (aa (fC (.int 0)) (aa (ab 7) (aa (ab 11) ae))))) (ab 6)) (f2 ao (ab 3) (ab 6))) (aa (f2 sS (f2 ao (ag 4 fF (aa (ab 1) (aa (fC (.int 1)) (aa (ab 8) (aa (ab 11) ae))))) (ab 6)) (f2 ao (ab 3) (ab 6))) ae)))) (av (fq (fB (f2 bI (f2 ao (ab 3) (ab 6)) (ab 9))) (ay 13 [] (fC (.str "full"))) (ay 13 [12] (rg (bw (fB (f2 ao (ab 12) (fC (.int 0))))) (fC (.str "giver")) (rg (fB (f2 ao (ab 12) (fC (.int 1)))) (fC .none) (fC (.str "taker")))))) (av (fq (fB (f2 ie (ab 10) (ab 13))) (aJ (fC (.bool false))) f7) (av (aK 5 [5,6,10] (Hz jv (ab 5) (cf (mO (cN (aa (ab 6) ae)) (bb p7 (aa (f2 i6 (ab 10) (fC .none)) ae)))))) (av (ay 14 [2,7,8] (f2 xB (cf (ak 1 [] (aQ (f2 ao (ab 2) (fC (.int 2)))) (fG 0) (fun _=>some true) (fV cQ (ab 0) fW (pO (fC (.int 2)))))) (aF (aa (ab 8) (aa (ab 7) ae))))) (av (ay 13 [12] (rg (bw (fB (f2 ao (ab 12) (fC (.int 1))))) (fC (.str "giver")) (rg (fB (f2 ao (ab 12) (fC (.int 0)))) (fC .none) (fC (.str "taker"))))) (fq (f9 (fB (f2 zh (f2 ao (ab 3) (ab 6)) (ab 9))) (fB (f2 ie (ag 3 fT (aa (ab 2) (aa (ab 4) (aa (ab 14) ae)))) (ab 13)))) (aJ (fC (.bool false))) f7)))))))))) (fq (ox (fB (f2 ie (ag 2 hZ (aa (ab 1) (aa (ab 3) ae))) (ab 5))) (fB (f2 ie (ag 2 lQ (aa (ab 1) (aa (ab 3) ae))) (f2 bI (ab 5) (cf (cN ae)))))) (aJ (fC (.bool false))) f7))))) (aJ (fC (.bool true))))))
noncomputable def hC:List D->Option D:=aZ md 15
end Pg
namespace K12
open PySem L2 Dl PySem.Spec PyProof.Rows
open Pg
noncomputable abbrev kE:Stmt:=top 8
noncomputable abbrev xP:Rf.Sg:=⟨[],[]⟩
theorem wZ:Rf.tW kE xY xP none=some kK:=by kernel_rfl
noncomputable abbrev jh:Stmt:=top 9
noncomputable abbrev uR:Rf.Sg:=⟨[("is_whole",3,aO)],[]⟩
theorem wu:Rf.tW jh vZ uR none=some jz:=by kernel_rfl
noncomputable abbrev mh:Stmt:=top 10
noncomputable abbrev AN:Rf.Sg:=⟨[],[]⟩
theorem Au:Rf.tW mh A0 AN none=some l7:=by kernel_rfl
noncomputable abbrev jo:Stmt:=top 11
noncomputable abbrev wC:Rf.Sg:=⟨[("is_number",2,bN)],[]⟩
theorem vh:Rf.tW jo wD wC none=some jE:=by kernel_rfl
noncomputable abbrev oi:Stmt:=top 12
noncomputable abbrev C5:Rf.Sg:=⟨[("is_long",3,aX),("is_whole",3,aO),("are_likes",2,eK)],[("MOST",9)]⟩
theorem Bv:Rf.tW oi B8 C5 none=some oA:=by kernel_rfl
noncomputable abbrev nZ:Stmt:=top 13
noncomputable abbrev C6:Rf.Sg:=⟨[("is_long",3,aX),("is_number",2,bN),("is_whole",3,aO)],[("MOST",9)]⟩
theorem DM:Rf.tW nZ Be C6 none=some pJ:=by kernel_rfl
noncomputable abbrev js:Stmt:=top 14
noncomputable abbrev wq:Rf.Sg:=⟨[("is_long",3,aX),("is_end",2,eH),("is_way",3,gU)],[("MOST_PLACES",4)]⟩
theorem u5:Rf.tW js vm wq none=some jB:=by kernel_rfl
noncomputable abbrev gM:Stmt:=top 15
noncomputable abbrev qr:Rf.Sg:=⟨[],[]⟩
theorem p6:Rf.tW gM qg qr none=some gP:=by kernel_rfl
noncomputable abbrev kL:Stmt:=top 16
noncomputable abbrev xQ:Rf.Sg:=⟨[("liked_pairs",1,bj),("is_long",3,aX),("are_parts",3,eM)],[]⟩
theorem ye:Rf.tW kL xI xQ none=some fR:=by kernel_rfl
noncomputable abbrev mI:Stmt:=top 17
noncomputable abbrev AU:Rf.Sg:=⟨[],[]⟩
theorem Al:Rf.tW mI AZ AU none=some mF:=by kernel_rfl
noncomputable abbrev eS:Stmt:=top 18
noncomputable abbrev nv:Rf.Sg:=⟨[("through",4,cM)],[]⟩
theorem nE:Rf.tW eS ng nv none=some eP:=by kernel_rfl
noncomputable abbrev lV:Stmt:=top 19
noncomputable abbrev zO:Rf.Sg:=⟨[("is_long",3,aX),("keeps_amounts",3,cn),("is_whole",3,aO)],[]⟩
theorem Aw:Rf.tW lV zW zO none=some jU:=by kernel_rfl
noncomputable abbrev gz:Stmt:=top 20
noncomputable abbrev qv:Rf.Sg:=⟨[("is_world",1,b8)],[]⟩
theorem qq:Rf.tW gz qH qv none=some cU:=by kernel_rfl
noncomputable abbrev iy:Stmt:=top 21
noncomputable abbrev tq:Rf.Sg:=⟨[("check_world",1,aY),("is_plan",2,g9)],[]⟩
theorem ud:Rf.tW iy sP tq none=some dA:=by kernel_rfl
noncomputable abbrev gR:Stmt:=top 22
noncomputable abbrev p5:Rf.Sg:=⟨[("is_whole",3,aO)],[]⟩
theorem pP:Rf.tW gR qB p5 none=some cY:=by kernel_rfl
noncomputable abbrev fv:Stmt:=top 23
noncomputable abbrev oS:Rf.Sg:=⟨[("check_whole",3,d7)],[]⟩
theorem oF:Rf.tW fv pD oS none=some cL:=by kernel_rfl
noncomputable abbrev iM:Stmt:=top 24
noncomputable abbrev sy:Rf.Sg:=⟨[("check_number",2,bq)],[]⟩
theorem sU:Rf.tW iM ug sy none=some dD:=by kernel_rfl
noncomputable abbrev gE:Stmt:=top 25
noncomputable abbrev pZ:Rf.Sg:=⟨[("check_side",1,fj),("check_number",2,bq)],[]⟩
theorem qD:Rf.tW gE pY pZ none=some cX:=by kernel_rfl
noncomputable abbrev kf:Stmt:=top 26
noncomputable abbrev wN:Rf.Sg:=⟨[],[]⟩
theorem wL:Rf.tW kf wW wN none=some kc:=by kernel_rfl
noncomputable abbrev fI:Stmt:=top 27
noncomputable abbrev pE:Rf.Sg:=⟨[],[]⟩
theorem o8:Rf.tW fI pj pE (some "turned_order.<locals>.<lambda>")=some dI:=by kernel_rfl
noncomputable abbrev oK:Stmt:=top 28
noncomputable abbrev BH:Rf.Sg:=⟨[("check_world",1,aY),("turned_order",1,aU)],[]⟩
theorem D7:Rf.tW oK Ce BH none=some lO:=by kernel_rfl
noncomputable abbrev gJ:Stmt:=top 29
noncomputable abbrev qj:Rf.Sg:=⟨[("check_plan",2,bh),("turned_order",1,aU)],[]⟩
theorem qC:Rf.tW gJ pW qj none=some eh:=by kernel_rfl
noncomputable abbrev mq:Stmt:=top 31
noncomputable abbrev z8:Rf.Sg:=⟨[],[]⟩
theorem A2:Rf.tW mq zX z8 (some "ways_of.<locals>.<lambda>")=some jW:=by kernel_rfl
noncomputable abbrev jb:Stmt:=top 32
noncomputable abbrev vW:Rf.Sg:=⟨[("ways_of",3,dW)],[]⟩
theorem wx:Rf.tW jb vO vW none=some gc:=by kernel_rfl
noncomputable abbrev pq:Stmt:=top 33
noncomputable abbrev Bm:Rf.Sg:=⟨[("check_world",1,aY),("check_place",3,eA),("chosen_by",4,bZ)],[]⟩
theorem DC:Rf.tW pq CK Bm none=some lz:=by kernel_rfl
noncomputable abbrev iQ:Stmt:=top 34
noncomputable abbrev sJ:Rf.Sg:=⟨[("ways_of",3,dW),("through",4,cM)],[]⟩
theorem tP:Rf.tW iQ tR sJ none=some fg:=by kernel_rfl
noncomputable abbrev kg:Stmt:=top 35
noncomputable abbrev xW:Rf.Sg:=⟨[("wants_more",4,cg)],[]⟩
theorem xk:Rf.tW kg xK xW none=some ir:=by kernel_rfl
noncomputable abbrev eT:Stmt:=top 36
noncomputable abbrev nq:Rf.Sg:=⟨[("why_kept",3,bF)],[]⟩
theorem nj:Rf.tW eT ni nq none=some dg:=by kernel_rfl
noncomputable abbrev kq:Stmt:=top 37
noncomputable abbrev xy:Rf.Sg:=⟨[("first_leaving",2,dc)],[]⟩
theorem xJ:Rf.tW kq xS xy none=some iP:=by kernel_rfl
noncomputable abbrev my:Stmt:=top 38
noncomputable abbrev An:Rf.Sg:=⟨[("check_plan",2,bh),("why_kept",3,bF)],[]⟩
theorem zS:Rf.tW my A3 An none=some jK:=by kernel_rfl
noncomputable abbrev sx:Stmt:=top 39
noncomputable abbrev E3:Rf.Sg:=⟨[("check_plan",2,bh),("is_still",2,iT)],[]⟩
theorem FA:Rf.tW sx Fi E3 none=some nI:=by kernel_rfl
noncomputable abbrev oX:Stmt:=top 40
noncomputable abbrev B6:Rf.Sg:=⟨[("check_plan",2,bh),("check_number",2,bq),("why_kept",3,bF)],[]⟩
theorem Df:Rf.tW oX D6 B6 none=some k9:=by kernel_rfl
noncomputable abbrev eO:Stmt:=top 42
noncomputable abbrev ny:Rf.Sg:=⟨[("chosen_by",4,bZ)],[]⟩
theorem nz:Rf.tW eO nh ny none=some da:=by kernel_rfl
noncomputable abbrev ph:Stmt:=top 43
noncomputable abbrev Bl:Rf.Sg:=⟨[],[]⟩
theorem Dm:Rf.tW ph A8 Bl none=some pK:=by kernel_rfl
noncomputable abbrev mE:Stmt:=top 44
noncomputable abbrev AH:Rf.Sg:=⟨[("replaced",3,iC)],[]⟩
theorem A4:Rf.tW mE zE AH none=some me:=by kernel_rfl
noncomputable abbrev mi:Stmt:=top 45
noncomputable abbrev AI:Rf.Sg:=⟨[("chosen_by_all",3,aV)],[]⟩
theorem Ay:Rf.tW mi Ai AI none=some jX:=by kernel_rfl
noncomputable abbrev uf:Stmt:=top 46
noncomputable abbrev EX:Rf.Sg:=⟨[("limits",1,eN),("refused",2,dq),("lowered",3,bV)],[]⟩
theorem FZ:Rf.tW uf F2 EX none=some nQ:=by kernel_rfl
noncomputable abbrev o5:Stmt:=top 47
noncomputable abbrev DB:Rf.Sg:=⟨[("limits",1,eN),("lowered",3,bV)],[]⟩
theorem Dw:Rf.tW o5 Bw DB none=some lb:=by kernel_rfl
noncomputable abbrev gC:Stmt:=top 48
noncomputable abbrev qp:Rf.Sg:=⟨[("check_world",1,aY),("chosen_by_all",3,aV),("capped",2,lG),("steps",1,nF)],[]⟩
theorem qw:Rf.tW gC pS qp none=some d6:=by kernel_rfl
noncomputable abbrev gD:Stmt:=top 49
noncomputable abbrev qF:Rf.Sg:=⟨[("turned",1,eG),("turned_plan",2,bR),("givers_best",1,bo)],[]⟩
theorem pX:Rf.tW gD qh qF none=some eB:=by kernel_rfl
noncomputable abbrev jt:Stmt:=top 51
noncomputable abbrev vy:Rf.Sg:=⟨[],[]⟩
theorem vV:Rf.tW jt vR vy none=some gx:=by kernel_rfl
noncomputable abbrev iE:Stmt:=top 52
noncomputable abbrev sv:Rf.Sg:=⟨[("_law_cell",2,dv)],[]⟩
theorem ue:Rf.tW iE uq sv none=some iN:=by kernel_rfl
noncomputable abbrev gQ:Stmt:=top 53
noncomputable abbrev qG:Rf.Sg:=⟨[("_law_drawn",3,aj)],[]⟩
theorem p9:Rf.tW gQ qt qG none=some gO:=by kernel_rfl
noncomputable abbrev iL:Stmt:=top 54
noncomputable abbrev sF:Rf.Sg:=⟨[("_law_orders",3,bA),("_law_drawn",3,aj)],[]⟩
theorem tH:Rf.tW iL ui sF none=some dM:=by kernel_rfl
noncomputable abbrev jG:Stmt:=top 55
noncomputable abbrev v7:Rf.Sg:=⟨[],[]⟩
theorem uT:Rf.tW jG vG v7 none=some jF:=by kernel_rfl
noncomputable abbrev je:Stmt:=top 56
noncomputable abbrev wc:Rf.Sg:=⟨[("_law_used",4,cD)],[]⟩
theorem uQ:Rf.tW je uO wc none=some gh:=by kernel_rfl
noncomputable abbrev lx:Stmt:=top 57
noncomputable abbrev jg:Stmt:=top 58
noncomputable abbrev vt:Rf.Sg:=⟨[("_law_fits",2,cH),("_law_drawn",3,aj)],[]⟩
theorem vH:Rf.tW jg va vt none=some gu:=by kernel_rfl
noncomputable abbrev DQ:Stmt:=top 59
noncomputable abbrev KA:Rf.Sg:=⟨[("_law_world",3,bM),("turned",1,eG),("_law_plan",3,eL),("givers_best",1,bo),("takers_best",1,cy),("turned_plan",2,bR),("reason",3,fT),("leaving",2,hZ),("rests",2,lQ),("choice",4,fF)],[]⟩
theorem KG:Rf.tW DQ qY KA none=some md:=by kernel_rfl
structure KB (K:PySem.W.Frag):Prop where
 c0:aH K "is_whole" kE ["thing","least","most"]
 c1:aH K "is_number" jh ["thing","many"]
 c2:aH K "is_long" mh ["thing","least","most"]
 c3:aH K "are_likes" jo ["thing","many"]
 c4:aH K "is_end" oi ["thing","many"]
 c5:aH K "is_way" nZ ["thing","givers","takers"]
 c6:aH K "are_parts" js ["givers","takers","ways"]
 c7:aH K "liked_pairs" gM ["places"]
 c8:aH K "is_world" kL ["thing"]
 c9:aH K "through" mI ["world","plan","side","place"]
 c10:aH K "keeps_amounts" eS ["world","plan","side"]
 c11:aH K "is_plan" lV ["world","thing"]
 c12:aH K "check_world" gz ["world"]
 c13:aH K "check_plan" iy ["world","plan"]
 c14:aH K "check_whole" gR ["thing","least","most"]
 c15:aH K "check_number" fv ["thing","many"]
 c16:aH K "check_side" iM ["thing"]
 c17:aH K "check_place" gE ["world","side","place"]
 c18:aH K "replaced" kf ["parts","number","part"]
 c19:m8 K "turned_order" fI ["world"]
 c20:aH K "turned" oK ["world"]
 c21:aH K "turned_plan" gJ ["world","plan"]
 c22:m8 K "ways_of" mq ["world","side","place"]
 c23:aH K "chosen_by" jb ["world","side","place","offers"]
 c24:aH K "choice" pq ["world","side","place","offers"]
 c25:aH K "wants_more" iQ ["world","plan","side","way"]
 c26:aH K "why_kept" kg ["world","plan","way"]
 c27:aH K "first_leaving" eT ["world","plan"]
 c28:aH K "is_still" kq ["world","plan"]
 c29:aH K "leaving" my ["world","plan"]
 c30:aH K "rests" sx ["world","plan"]
 c31:aH K "reason" oX ["world","plan","way"]
 c32:aH K "chosen_by_all" eO ["world","side","offers"]
 c33:aH K "limits" ph ["world"]
 c34:aH K "lowered" mE ["caps","way","cap"]
 c35:aH K "refused" mi ["world","caps"]
 c36:aH K "steps" uf ["world"]
 c37:aH K "capped" o5 ["world","rows"]
 c38:aH K "givers_best" gC ["world"]
 c39:aH K "takers_best" gD ["world"]
 c40:aH K "_law_cell" jt ["_law_script","_law_k"]
 c41:aH K "_law_drawn" iE ["_law_script","_law_k","_law_many"]
 c42:aH K "_law_orders" gQ ["_law_script","_law_at","_law_rows"]
 c43:aH K "_law_world" iL ["_law_script","_law_at","_law_most"]
 c44:aH K "_law_used" jG ["_law_world_here","_law_plan_here","_law_side","_law_place"]
 c45:aH K "_law_fits" je ["_law_world_here","_law_plan_here"]
 c46:aH K "_law_plans" lx ["_law_world_here"]
 c47:aH K "_law_plan" jg ["_law_script","_law_at","_law_world_here"]
 c48:aH K "law" DQ ["_law_script"]
 i_MOST_PLACES:∃t,PySem.W.nsIn K mainGlobals "MOST_PLACES"=some (some (.int 4 t))
 i_MOST:∃t,PySem.W.nsIn K mainGlobals "MOST"=some (some (.int 9 t))
 b:∀x∈cI,PySem.W.nsIn K mainGlobals x=some none
structure bC (K:PySem.W.Frag) (mg:Str->Option Value):Prop where
 c0:bx K mg "is_whole" kE ["thing","least","most"]
 c1:bx K mg "is_number" jh ["thing","many"]
 c2:bx K mg "is_long" mh ["thing","least","most"]
 c3:bx K mg "are_likes" jo ["thing","many"]
 c4:bx K mg "is_end" oi ["thing","many"]
 c5:bx K mg "is_way" nZ ["thing","givers","takers"]
 c6:bx K mg "are_parts" js ["givers","takers","ways"]
 c7:bx K mg "liked_pairs" gM ["places"]
 c8:bx K mg "is_world" kL ["thing"]
 c9:bx K mg "through" mI ["world","plan","side","place"]
 c10:bx K mg "keeps_amounts" eS ["world","plan","side"]
 c11:bx K mg "is_plan" lV ["world","thing"]
 c12:bx K mg "check_world" gz ["world"]
 c13:bx K mg "check_plan" iy ["world","plan"]
 c14:bx K mg "check_whole" gR ["thing","least","most"]
 c15:bx K mg "check_number" fv ["thing","many"]
 c16:bx K mg "check_side" iM ["thing"]
 c17:bx K mg "check_place" gE ["world","side","place"]
 c18:bx K mg "replaced" kf ["parts","number","part"]
 c19:CP K mg "turned_order" fI ["world"]
 c20:bx K mg "turned" oK ["world"]
 c21:bx K mg "turned_plan" gJ ["world","plan"]
 c22:CP K mg "ways_of" mq ["world","side","place"]
 c23:bx K mg "chosen_by" jb ["world","side","place","offers"]
 c24:bx K mg "choice" pq ["world","side","place","offers"]
 c25:bx K mg "wants_more" iQ ["world","plan","side","way"]
 c26:bx K mg "why_kept" kg ["world","plan","way"]
 c27:bx K mg "first_leaving" eT ["world","plan"]
 c28:bx K mg "is_still" kq ["world","plan"]
 c29:bx K mg "leaving" my ["world","plan"]
 c30:bx K mg "rests" sx ["world","plan"]
 c31:bx K mg "reason" oX ["world","plan","way"]
 c32:bx K mg "chosen_by_all" eO ["world","side","offers"]
 c33:bx K mg "limits" ph ["world"]
 c34:bx K mg "lowered" mE ["caps","way","cap"]
 c35:bx K mg "refused" mi ["world","caps"]
 c36:bx K mg "steps" uf ["world"]
 c37:bx K mg "capped" o5 ["world","rows"]
 c38:bx K mg "givers_best" gC ["world"]
 c39:bx K mg "takers_best" gD ["world"]
 c40:bx K mg "_law_cell" jt ["_law_script","_law_k"]
 c41:bx K mg "_law_drawn" iE ["_law_script","_law_k","_law_many"]
 c42:bx K mg "_law_orders" gQ ["_law_script","_law_at","_law_rows"]
 c43:bx K mg "_law_world" iL ["_law_script","_law_at","_law_most"]
 c44:bx K mg "_law_used" jG ["_law_world_here","_law_plan_here","_law_side","_law_place"]
 c45:bx K mg "_law_fits" je ["_law_world_here","_law_plan_here"]
 c46:bx K mg "_law_plans" lx ["_law_world_here"]
 c47:bx K mg "_law_plan" jg ["_law_script","_law_at","_law_world_here"]
 c48:bx K mg "law" DQ ["_law_script"]
 i_MOST_PLACES:∃t,mg "MOST_PLACES"=some (.int 4 t)
 i_MOST:∃t,mg "MOST"=some (.int 9 t)
 b:∀x∈cI,mg x=none
theorem KB.defs {K:PySem.W.Frag}{h:Heap}{mg:Str->Option Value}(I:KB K) (X:K.In h) (G:h.Ns mainGlobals mg):bC K mg :=
 ⟨I.c0.mg X G,I.c1.mg X G,I.c2.mg X G,I.c3.mg X G,I.c4.mg X G,I.c5.mg X G,I.c6.mg X G,I.c7.mg X G,I.c8.mg X G,I.c9.mg X G,I.c10.mg X G,I.c11.mg X G,I.c12.mg X G,I.c13.mg X G,I.c14.mg X G,I.c15.mg X G,I.c16.mg X G,I.c17.mg X G,I.c18.mg X G,I.c19.mg X G,I.c20.mg X G,I.c21.mg X G,I.c22.mg X G,I.c23.mg X G,I.c24.mg X G,I.c25.mg X G,I.c26.mg X G,I.c27.mg X G,I.c28.mg X G,I.c29.mg X G,I.c30.mg X G,I.c31.mg X G,I.c32.mg X G,I.c33.mg X G,I.c34.mg X G,I.c35.mg X G,I.c36.mg X G,I.c37.mg X G,I.c38.mg X G,I.c39.mg X G,I.c40.mg X G,I.c41.mg X G,I.c42.mg X G,I.c43.mg X G,I.c44.mg X G,I.c45.mg X G,I.c46.mg X G,I.c47.mg X G,I.c48.mg X G,(let ⟨t,h⟩:=I.i_MOST_PLACES;⟨t,PySem.W.mg_of X G h⟩),(let ⟨t,h⟩:=I.i_MOST;⟨t,PySem.W.mg_of X G h⟩),fun x hx=>PySem.W.mg_none_of X G (I.b x hx)⟩
section
variable {P:Program}{w:World}{K:PySem.W.Frag}{mg:Str->Option Value}{base:Heap}
theorem fQ (D:bC K mg):dk P w K mg base 1 "is_whole" 3 aO:=Rf.fX (j:=0) D.c0 D.b Rf.bD Rf.bE wZ
theorem mQ (D:bC K mg):dk P w K mg base 2 "is_number" 2 bN:=Rf.fX (j:=1) D.c1 D.b (Rf.fm (fQ D) Rf.bD) Rf.bE wu
theorem g0 (D:bC K mg):dk P w K mg base 1 "is_long" 3 aX:=Rf.fX (j:=0) D.c2 D.b Rf.bD Rf.bE Au
theorem vN (D:bC K mg):dk P w K mg base 3 "are_likes" 2 eK:=Rf.fX (j:=2) D.c3 D.b (Rf.fm (mQ D) Rf.bD) Rf.bE vh
theorem Cw (D:bC K mg):dk P w K mg base 4 "is_end" 2 eH:=Rf.fX (j:=3) D.c4 D.b (Rf.fm (g0 D) (Rf.fm (fQ D) (Rf.fm (vN D) Rf.bD))) (Rf.Cy D.i_MOST Rf.bE) Bv
theorem Do (D:bC K mg):dk P w K mg base 3 "is_way" 3 gU:=Rf.fX (j:=2) D.c5 D.b (Rf.fm (g0 D) (Rf.fm (mQ D) (Rf.fm (fQ D) Rf.bD))) (Rf.Cy D.i_MOST Rf.bE) DM
theorem vd (D:bC K mg):dk P w K mg base 5 "are_parts" 3 eM:=Rf.fX (j:=4) D.c6 D.b (Rf.fm (g0 D) (Rf.fm (Cw D) (Rf.fm (Do D) Rf.bD))) (Rf.Cy D.i_MOST_PLACES Rf.bE) u5
theorem qy (D:bC K mg):dk P w K mg base 1 "liked_pairs" 1 bj:=Rf.fX (j:=0) D.c7 D.b Rf.bD Rf.bE p6
theorem xp (D:bC K mg):dk P w K mg base 6 "is_world" 1 b8:=Rf.fX (j:=5) D.c8 D.b (Rf.fm (qy D) (Rf.fm (g0 D) (Rf.fm (vd D) Rf.bD))) Rf.bE ye
theorem qL (D:bC K mg):dk P w K mg base 1 "through" 4 cM:=Rf.fX (j:=0) D.c9 D.b Rf.bD Rf.bE Al
theorem nC (D:bC K mg):dk P w K mg base 2 "keeps_amounts" 3 cn:=Rf.fX (j:=1) D.c10 D.b (Rf.fm (qL D) Rf.bD) Rf.bE nE
theorem Aq (D:bC K mg):dk P w K mg base 3 "is_plan" 2 g9:=Rf.fX (j:=2) D.c11 D.b (Rf.fm (g0 D) (Rf.fm (nC D) (Rf.fm (fQ D) Rf.bD))) Rf.bE Aw
theorem ek (D:bC K mg):dk P w K mg base 7 "check_world" 1 aY:=Rf.fX (j:=6) D.c12 D.b (Rf.fm (xp D) Rf.bD) Rf.bE qq
theorem eZ (D:bC K mg):dk P w K mg base 8 "check_plan" 2 bh:=Rf.fX (j:=7) D.c13 D.b (Rf.fm (ek D) (Rf.fm (Aq D) Rf.bD)) Rf.bE ud
theorem qk (D:bC K mg):dk P w K mg base 2 "check_whole" 3 d7:=Rf.fX (j:=1) D.c14 D.b (Rf.fm (fQ D) Rf.bD) Rf.bE pP
theorem fP (D:bC K mg):dk P w K mg base 3 "check_number" 2 bq:=Rf.fX (j:=2) D.c15 D.b (Rf.fm (qk D) Rf.bD) Rf.bE oF
theorem tT (D:bC K mg):dk P w K mg base 4 "check_side" 1 fj:=Rf.fX (j:=3) D.c16 D.b (Rf.fm (fP D) Rf.bD) Rf.bE sU
theorem qE (D:bC K mg):dk P w K mg base 5 "check_place" 3 eA:=Rf.fX (j:=4) D.c17 D.b (Rf.fm (tT D) (Rf.fm (fP D) Rf.bD)) Rf.bE qD
theorem yi (D:bC K mg):dk P w K mg base 1 "replaced" 3 iC:=Rf.fX (j:=0) D.c18 D.b Rf.bD Rf.bE wL
theorem jm (D:bC K mg):dk P w K mg base 4 "turned_order" 1 aU:=Rf.Mn (j:=0) D.c19 D.b Rf.bD Rf.bE o8
theorem u0 (D:bC K mg):dk P w K mg base 8 "turned" 1 eG:=Rf.fX (j:=7) D.c20 D.b (Rf.fm (ek D) (Rf.fm (jm D) Rf.bD)) Rf.bE D7
theorem j5 (D:bC K mg):dk P w K mg base 9 "turned_plan" 2 bR:=Rf.fX (j:=8) D.c21 D.b (Rf.fm (eZ D) (Rf.fm (jm D) Rf.bD)) Rf.bE qC
theorem rW (D:bC K mg):dk P w K mg base 4 "ways_of" 3 dW:=Rf.Mn (j:=0) D.c22 D.b Rf.bD Rf.bE A2
theorem m7 (D:bC K mg):dk P w K mg base 5 "chosen_by" 4 bZ:=Rf.fX (j:=4) D.c23 D.b (Rf.fm (rW D) Rf.bD) Rf.bE wx
theorem B9 (D:bC K mg):dk P w K mg base 8 "choice" 4 fF:=Rf.fX (j:=7) D.c24 D.b (Rf.fm (ek D) (Rf.fm (qE D) (Rf.fm (m7 D) Rf.bD))) Rf.bE DC
theorem sW (D:bC K mg):dk P w K mg base 5 "wants_more" 4 cg:=Rf.fX (j:=4) D.c25 D.b (Rf.fm (rW D) (Rf.fm (qL D) Rf.bD)) Rf.bE tP
theorem ku (D:bC K mg):dk P w K mg base 6 "why_kept" 3 bF:=Rf.fX (j:=5) D.c26 D.b (Rf.fm (sW D) Rf.bD) Rf.bE xk
theorem nc (D:bC K mg):dk P w K mg base 7 "first_leaving" 2 dc:=Rf.fX (j:=6) D.c27 D.b (Rf.fm (ku D) Rf.bD) Rf.bE nj
theorem wX (D:bC K mg):dk P w K mg base 8 "is_still" 2 iT:=Rf.fX (j:=7) D.c28 D.b (Rf.fm (nc D) Rf.bD) Rf.bE xJ
theorem z6 (D:bC K mg):dk P w K mg base 9 "leaving" 2 hZ:=Rf.fX (j:=8) D.c29 D.b (Rf.fm (eZ D) (Rf.fm (ku D) Rf.bD)) Rf.bE zS
theorem FW (D:bC K mg):dk P w K mg base 9 "rests" 2 lQ:=Rf.fX (j:=8) D.c30 D.b (Rf.fm (eZ D) (Rf.fm (wX D) Rf.bD)) Rf.bE FA
theorem CJ (D:bC K mg):dk P w K mg base 9 "reason" 3 fT:=Rf.fX (j:=8) D.c31 D.b (Rf.fm (eZ D) (Rf.fm (fP D) (Rf.fm (ku D) Rf.bD))) Rf.bE Df
theorem iV (D:bC K mg):dk P w K mg base 6 "chosen_by_all" 3 aV:=Rf.fX (j:=5) D.c32 D.b (Rf.fm (m7 D) Rf.bD) Rf.bE nz
theorem uD (D:bC K mg):dk P w K mg base 1 "limits" 1 eN:=Rf.fX (j:=0) D.c33 D.b Rf.bD Rf.bE Dm
theorem rA (D:bC K mg):dk P w K mg base 2 "lowered" 3 bV:=Rf.fX (j:=1) D.c34 D.b (Rf.fm (yi D) Rf.bD) Rf.bE A4
theorem AG (D:bC K mg):dk P w K mg base 7 "refused" 2 dq:=Rf.fX (j:=6) D.c35 D.b (Rf.fm (iV D) Rf.bD) Rf.bE Ay
theorem Fd (D:bC K mg):dk P w K mg base 8 "steps" 1 nF:=Rf.fX (j:=7) D.c36 D.b (Rf.fm (uD D) (Rf.fm (AG D) (Rf.fm (rA D) Rf.bD))) Rf.bE FZ
theorem Dy (D:bC K mg):dk P w K mg base 3 "capped" 2 lG:=Rf.fX (j:=2) D.c37 D.b (Rf.fm (uD D) (Rf.fm (rA D) Rf.bD)) Rf.bE Dw
theorem j4 (D:bC K mg):dk P w K mg base 9 "givers_best" 1 bo:=Rf.fX (j:=8) D.c38 D.b (Rf.fm (ek D) (Rf.fm (iV D) (Rf.fm (Dy D) (Rf.fm (Fd D) Rf.bD)))) Rf.bE qw
theorem qA (D:bC K mg):dk P w K mg base 10 "takers_best" 1 cy:=Rf.fX (j:=9) D.c39 D.b (Rf.fm (u0 D) (Rf.fm (j5 D) (Rf.fm (j4 D) Rf.bD))) Rf.bE pX
theorem uL (D:bC K mg):dk P w K mg base 1 "_law_cell" 2 dv:=Rf.fX (j:=0) D.c40 D.b Rf.bD Rf.bE vV
theorem iw (D:bC K mg):dk P w K mg base 2 "_law_drawn" 3 aj:=Rf.fX (j:=1) D.c41 D.b (Rf.fm (uL D) Rf.bD) Rf.bE ue
theorem qx (D:bC K mg):dk P w K mg base 3 "_law_orders" 3 bA:=Rf.fX (j:=2) D.c42 D.b (Rf.fm (iw D) Rf.bD) Rf.bE p9
theorem uk (D:bC K mg):dk P w K mg base 4 "_law_world" 3 bM:=Rf.fX (j:=3) D.c43 D.b (Rf.fm (qx D) (Rf.fm (iw D) Rf.bD)) Rf.bE tH
theorem vv (D:bC K mg):dk P w K mg base 1 "_law_used" 4 cD:=Rf.fX (j:=0) D.c44 D.b Rf.bD Rf.bE uT
theorem uH (D:bC K mg):dk P w K mg base 2 "_law_fits" 2 cH:=Rf.fX (j:=1) D.c45 D.b (Rf.fm (vv D) Rf.bD) Rf.bE uQ
theorem wA (D:bC K mg):dk P w K mg base 3 "_law_plan" 3 eL:=Rf.fX (j:=2) D.c47 D.b (Rf.fm (uH D) (Rf.fm (iw D) Rf.bD)) Rf.bE vH
end
theorem HD {P:Program}{w:World}{K:PySem.W.Frag}{h:Heap}{mg:Str->Option Value}{fa:Addr}(X:K.In h) (G:h.Ns mainGlobals mg) (hfa:mg "law"=some (.ref fa)) (I:KB K):∃fd:FuncData,(∀ (s:Shared) (v:Value),BindsTo s fd ⟨[v],[]⟩ [("_law_script",v)])/\∀base:Heap,K.In base->base.Ns mainGlobals mg->kF P w K mg base GN 11 fa fd ["_law_script"] (JX K 1 hC):=by
 have D:=I.defs X G
 obtain⟨f,fd,hm,F,hb⟩:=D.c48.ex
 rw[hfa] at hm;cases hm
 refine⟨fd,fun s v=>?_,fun base _ _=>GI F (Rf.LN (N:=qY)) fun X hP hw hK hm' hb' C _ _ HF H=>by subst hP;subst hw;subst hK;subst hm';subst hb';exact Rf.GD (j:=10) C D.b (Rf.fm (uk D) (Rf.fm (u0 D) (Rf.fm (wA D) (Rf.fm (j4 D) (Rf.fm (qA D) (Rf.fm (j5 D) (Rf.fm (CJ D) (Rf.fm (z6 D) (Rf.fm (FW D) (Rf.fm (B9 D) Rf.bD)))))))))) Rf.bE KG⟩
 obtain⟨oc,od,kV,doc,pm,an,cdv,ct,osl,rfl,lk,hcd⟩:=F.ex
 exact .of_eq rfl
theorem walk {l:PySem.W.OpenLaw}{q:Program}{loose:List Str}{XP:(Str->Option Value)->Heap->Prop}{YP:World->Heap->Prop}{d:DefRec}{K:Params->PySem.W.Frag}{ts:List Addr}(hn:l.most=some 63) (hdf:d.params.defaults=[]) (hname:d.name="law")
  (hY:∀ (w:World) (h:Heap),YP w h->(K w.params).In h/\∀P∈ts,h.get? P=some (PySem.W.tabObj #[])) (ht:∀w:World,lL (K w.params) ts=true) (hI:∀w:World,KB (K w.params)) (main:∀ns:List Int,ns.length<=63->hC [.list (ns.map PyData.int)]=some (.bool true)) :
  PySem.W.WalkO q loose XP YP l.row.toRowW d [] (fun f vs=>PySem.call f vs) :=
 Bq (n:=63) (k:=11) (x:="_law_script") (CX:=fun _=>GN) (sp:=fun w=>JX (K w.params) 1 hC) hn (by decide) hdf ⟨rfl,by decide,by decide⟩ hY ht (fun w mg fa h KX G hmg=>HD KX G (by rw[<- hname];exact hmg) (hI w)) (fun _ _ a ns hl hT hS=>yr hS hT (main ns hl)) fun _ _ _ _ _ z=>z
end K12
namespace Dl
open PySem L2 PySem.Spec PyProof.Rows
noncomputable def vn:D->Prop|.none=>True|.bool _=>True|.int _=>True|.str x=>PyData.canLay0 (.str x)=true|_=>False
noncomputable def iq (b:Nat):Nat->D->Prop
 | 0,d=>vn d
 | k+1,d=>vn d\/(∃xs,(d=.list xs\/d=.tuple xs)/\xs.length<=b/\∀x∈xs,iq b k x)
theorem iq.leaf {b k:Nat}{d:D}(h:vn d):iq b k d:=by
 cases k with
 | zero=>exact h
 | succ k=>exact .inl h
theorem iq.tup {b k:Nat}{xs:List D}(hb:xs.length<=b) (h:∀x∈xs,iq b k x):iq b (k+1) (.tuple xs):=.inr ⟨xs,.inr rfl,hb,h⟩
theorem iq.lst {b k:Nat}{xs:List D}(hb:xs.length<=b) (h:∀x∈xs,iq b k x):iq b (k+1) (.list xs):=.inr ⟨xs,.inl rfl,hb,h⟩
theorem iq.of_tup {b k:Nat}{xs:List D}(h:iq b k (.tuple xs)):∃j,k=j+1/\xs.length<=b/\∀x∈xs,iq b j x:=by
 cases k with
 | zero=>cases h
 | succ k =>
  rcases h with h|⟨ys,h|h,h1,h2⟩
  ·cases h
  ·cases h
  ·cases h;exact⟨k,rfl,h1,h2⟩
theorem iq.mono {b b':Nat}(hb:b<=b'):∀ {k k':Nat}{d:D},k<=k'->iq b k d->iq b' k' d
 | 0,k',d,_,h=>.leaf h
 | k+1,0,d,hk,h=>by omega
 | k+1,k'+1,d,hk,h=>by
  rcases h with h|⟨xs,h,h1,h2⟩
  ·exact .inl h
  ·exact .inr ⟨xs,h,Nat.le_trans h1 hb,fun x hx=>(h2 x hx).mono hb (by omega)⟩
theorem y2 {b k:Nat}:∀ {xs:List D},(∀x∈xs,PyData.canLay0 x=true/\x.depth<=k)->PyData.canLayAll0 xs=true/\PyData.depthAll xs<=k
 | [],_=>⟨by simp[PyData.canLayAll0],by simp[PyData.depthAll]⟩
 | x::xs,h=>by
  obtain⟨a,c⟩:=y2 (b:=b) (xs:=xs) fun y hy=>h y (List.mem_cons_of_mem _ hy)
  obtain⟨a',c'⟩:=h x List.mem_cons_self
  exact⟨by simp[PyData.canLayAll0,a,a'],by simp[PyData.depthAll];omega⟩
theorem iq.lay {b:Nat}:∀ {k:Nat}{d:D},iq b k d->PyData.canLay0 d=true/\d.depth<=k:=by
 have lf:∀ {k:Nat}{d:D},vn d->PyData.canLay0 d=true/\d.depth<=k:=fun {k d} h=>by
  cases d<;>simp only[vn] at h<;>first|exact⟨h,by simp[PyData.depth]⟩|exact⟨by simp[PyData.canLay0],by simp[PyData.depth]⟩
 intro k
 induction k with
 | zero=>exact fun h=>lf h
 | succ k ih =>
  intro d h
  rcases h with h|⟨xs,h,h1,h2⟩
  ·exact lf h
  ·obtain⟨a,c⟩:=y2 (b:=b) (xs:=xs) fun y hy=>ih (h2 y hy)
   rcases h with rfl|rfl
   ·exact⟨by simp[PyData.canLay0,a],by simp[PyData.depth];omega⟩
   ·exact⟨by simp[PyData.canLay0,a],by simp[PyData.depth];omega⟩
theorem iq.shaped {b k:Nat}{d:D}(h:iq b k d) (hk:k<=64):SeqAt.shaped d=true:=by
 obtain⟨a,c⟩:=h.lay
 simp[SeqAt.shaped,a];omega
theorem iq.noDict {b k:Nat}{d:D}(h:iq b k d):∀kv,d≠.dict kv:=by
 rintro kv rfl
 have:=h.lay.1
 simp[PyData.canLay0] at this
noncomputable def mU:D->Bool|.dict _=>false|_=>true
theorem iq.nd {b k:Nat}{d:D}(h:iq b k d):mU d=true:=by
 cases d<;>first|rfl|exact absurd rfl (h.noDict _)
noncomputable def Mp:D->Bool|.int _=>true|.bool _=>true|_=>false
noncomputable def Mj:D->Bool|.bool _=>true|_=>false
noncomputable def GH:D->Bool|.tuple _=>true|_=>false
theorem kI {d:D}(h:mU d=true):su (gA d) "int"=some (Mp d):=by cases d<;>first|cases h;done|exact F4 _ (by simp[gA])
theorem kB {d:D}(h:mU d=true):su (gA d) "bool"=some (Mj d):=by cases d<;>first|cases h;done|exact Cd _ (by simp[gA])
theorem kT {d:D}(h:mU d=true):su (gA d) "tuple"=some (GH d):=by cases d<;>first|cases h;done|exact kit_tuple _ (by simp[gA])
noncomputable def whole (a b:Int):D->Bool|.int i=>decide (a<=i)&&decide (i<=b)|_=>false
theorem r8 {tgt:Env->D->Option Env}{te:Env->Option D}{ρ:Env}{h:D->D}:∀ {ds:List D},(∀d∈ds,∃ρ',tgt ρ d=some ρ'/\te ρ'=some (h d))->b0 tgt (fun _=>some true) te ρ ds=some (ds.map h)
 | [],_=>rfl
 | d::ds,hh=>by
  obtain⟨ρ',h1,h2⟩:=hh d List.mem_cons_self
  have ih:=r8 (ds:=ds) fun y hy=>hh y (List.mem_cons_of_mem _ hy)
  unfold b0
  rw[h1]
  simp[h2,ih]
theorem kO {tgt:Env->D->Option Env}{tt:Env->Option Bool}{te:Env->Option D}{ρ:Env}{p:D->Bool}{h:D->D}:∀ {ds:List D},(∀d∈ds,∃ρ',tgt ρ d=some ρ'/\tt ρ'=some (p d)/\(p d=true->te ρ'=some (h d)))->b0 tgt tt te ρ ds=some ((ds.filter p).map h)
 | [],_=>rfl
 | d::ds,hh=>by
  obtain⟨ρ',h1,h2,h3⟩:=hh d List.mem_cons_self
  have ih:=kO (ds:=ds) fun y hy=>hh y (List.mem_cons_of_mem _ hy)
  unfold b0
  rw[h1]
  simp only[Option.bind_some,h2]
  cases hp:p d with
  | true=>rw[if_pos rfl,h3 hp];simp[ih,List.filter_cons,hp]
  | false=>simp[ih,List.filter_cons,hp]
theorem mR {p:D->Bool}:∀ds:List D,boolsOf (ds.map fun d=>.bool (p d))=some (ds.map p)
 | []=>rfl
 | d::ds=>by simp[boolsOf,mR ds]
theorem kR {p:D->Bool}(ds:List D):lF [.list (ds.map fun d=>.bool (p d))]=some (.bool (ds.all p)):=by
 simp only[lF,oneOf,Option.bind_some,mR,Option.map_some,List.all_map]
 rfl
theorem aS {ds:List D}(h:ds.length<=4000):small ds=some ds:=if_pos (Nat.le_trans h (by decide))
theorem lR {ds:List D}{i:Nat}(h:i < ds.length):sV ds (i:Nat)=some (ds.getD i .none):=by
 have:=tX (xs:=ds) (j:=i) (v:=ds[i]) (List.getElem?_eq_some_iff.mpr ⟨h,rfl⟩)
 rw[this]
 simp[List.getD,h]
theorem zu {ds:List D}(h:0 < ds.length):sV ds 0=some (ds.getD 0 .none):=lR (i:=0) h
theorem wz {ds:List D}(h:1 < ds.length):sV ds 1=some (ds.getD 1 .none):=lR (i:=1) h
theorem GU {ds:List D}(h:2 < ds.length):sV ds 2=some (ds.getD 2 .none):=lR (i:=2) h
end Dl
namespace Wm
open PySem L2 Dl PySem.Spec PyProof.Rows Pg
theorem uz {fa fb fc:Dl.Env->Option D}{ρ:Dl.Env}{a i b:Int}(ha:fa ρ=some (.int a)) (hb:fb ρ=some (.int i)) (hc:fc ρ=some (.int b)):jd yA yA fa fb fc ρ=some (.bool (decide (a<=i)&&decide (i<=b))):=by
 simp only[jd,ha,hb,hc,Option.bind_some,yA,uo,if_true]
 by_cases h:a<=i<;>simp[h]
theorem oO (i j:Int):Dl.gK (.int i) (.int j)=some (.int (i - j)):=rfl
theorem eD (i j:Int):Dl.aA (.int i) (.int j)=some (.int (i+j)):=rfl
theorem sD (d:D):Slot.all (.val d)=some d:=rfl
theorem sd (ds:List D):Slot.all (.own ds)=some (.list ds):=rfl
theorem yx:Slot.all .non=none:=rfl
theorem yF (d:D):Slot.frz (.val d)=some d:=rfl
theorem yC (ds:List D):Slot.frz (.own ds)=none:=rfl
theorem yE:Slot.frz .non=none:=rfl
local macro_rules|`(tactic| simp! [$ts,*])=>`(tactic| simp only[aZ,av,fq,aJ,f7,ox,f9,bw,fB,gB,GK,ab,fC,jY,LG,JF,KE,f1,f2,oO,eD,aa,ae,ag,bb,ma,bz,cT,oneOf,fM,bc,sD,sd,yx,yF,yC,yE,aQ,cf,bG,aF,cN,ao,  List.map_cons,List.map_nil,List.cons_append,List.nil_append,List.length_cons,List.length_nil,List.replicate,List.getElem?_cons_zero,List.getElem?_cons_succ,Option.getD_some,Option.getD_none,Option.bind_some,Option.bind_none,Option.map_some,Option.map_none,Nat.reduceAdd,Nat.reduceSub,Nat.zero_add,Nat.sub_self,if_true,reduceIte,$ts,*])
theorem fL {d:D}(h:mU d=true) (a b:Int):aO [d,.int a,.int b]=some (.bool (whole a b d)):=by
 simp! [aO,kK,kI h,kB h]
 cases d<;>simp[Mp,Mj,whole]
 rw[uz rfl rfl rfl]
theorem ji {d:D}(h:mU d=true) (n:Int):bN [d,.int n]=some (.bool (whole 0 (n - 1) d)):=by
 simp! [bN,jz,fL h]
noncomputable def long (a b:Int):D->Bool|.tuple ds=>decide (a<=(ds.length:Int))&&decide ((ds.length:Int)<=b)|_=>false
theorem dY {d:D}(h:mU d=true) (a b:Int):aX [d,.int a,.int b]=some (.bool (long a b d)):=by
 simp! [aX,l7,kT h]
 cases d<;>simp[GH,long]
 rw[uz rfl (i:=_) rfl rfl]
noncomputable def ip:D->Int|.int i=>i|_=>0
theorem ft {a b:Int}{d:D}(h:whole a b d=true):d=.int (ip d)/\a<=ip d/\ip d<=b:=by
 cases d<;>simp[whole] at h
 exact⟨rfl,h⟩
theorem kj {a b:Int}:∀ {ls:List D},ls.all (whole a b)=true->ls=(ls.map ip).map PyData.int
 | [],_=>rfl
 | d::ls,h=>by
  rw[List.all_cons,Bool.and_eq_true] at h
  rw[List.map_cons,List.map_cons,<- (ft h.1).1,<- kj h.2]
noncomputable def iu (n:Int):D->Bool|.tuple ls=>ls.all (whole 0 (n - 1))&&decide ((ls.map ip).Nodup)|_=>false
theorem cF (i j:Int):bI (.int i) (.int j)=some (.bool (decide (i=j))):=by
 simp[bI,Je,SeqAt.shaped,PyData.canLay0,PyData.depth,PyData.eqv]
 rfl
theorem A1 {ls:List D}{a b:Int}(h:ls.all (whole a b)=true) (hl:ls.length<=100):f2 bI (f1 jO (fun _=>some (.tuple ls))) (bb bz (aa (fun _=>some (.tuple ls)) ae)) []=some (.bool (decide ((ls.map ip).Nodup))):=by
 have e:=kj h
 have e1:jO (.tuple ls)=some (.int (many (ls.map ip))):=by
  simp only[jO,lP]
  conv=>lhs;rw[e]
  rw[cJ,Option.bind_some,if_pos]
  rw[List.length_map]
  exact Nat.lt_of_le_of_lt (Nat.add_le_add_right hl 1) (by decide)
 simp! [e1,cF]
 have:=w4 (ls.map ip)
 rw[List.length_map] at this
 simp only[<- this,Int.ofNat_inj,Option.some.injEq,PyData.bool.injEq]
theorem J0 (r:Dl.Env) (d:D):fG 0 (none::r) d=some (some d::r):=by simp[fG,isFree]
theorem bU {cs:List Nat}{fi:Dl.Env->Option (List D)}{ds:List D}{te:Dl.Env->Option D}{h:D->D}{ρ:Dl.Env}(hfi:fi ρ=some ds) (hl:ds.length<=4000) (hh:∀d∈ds,te (some d::cs.map fun j=>(ρ[j]?).getD none)=some (h d)):ak 1 cs fi (fG 0) (fun _=>some true) te ρ=some (ds.map h):=by
 simp only[ak,hfi,Option.bind_some,dQ,List.replicate,List.cons_append,List.nil_append]
 rw[r8 (h:=h) fun d hd=>⟨_,J0 _ d,hh d hd⟩,Option.bind_some,aS (by rw[List.length_map];exact hl)]
theorem lg {cs:List Nat}{fi:Dl.Env->Option (List D)}{ds:List D}{tt:Dl.Env->Option Bool}{te:Dl.Env->Option D}{p:D->Bool}{h:D->D}{ρ:Dl.Env}(hfi:fi ρ=some ds) (hl:ds.length<=4000)
  (hp:∀d∈ds,tt (some d::cs.map fun j=>(ρ[j]?).getD none)=some (p d)) (hh:∀d∈ds,p d=true->te (some d::cs.map fun j=>(ρ[j]?).getD none)=some (h d)):ak 1 cs fi (fG 0) tt te ρ=some ((ds.filter p).map h):=by
 simp only[ak,hfi,Option.bind_some,dQ,List.replicate,List.cons_append,List.nil_append]
 rw[kO (p:=p) (h:=h) fun d hd=>⟨_,J0 _ d,hp d hd,hh d hd⟩,Option.bind_some,aS (by rw[List.length_map];exact Nat.le_trans (List.length_filter_le _ _) hl)]
theorem vI {b k:Nat}{d:D}(h:iq b k d) (hb:b<=100) (n:Int):eK [d,.int n]=some (.bool (iu n d)):=by
 simp! [eK,jE,kT h.nd]
 cases d<;>try (simp[GH,iu];done)
 rename_i ls
 obtain⟨j,rfl,hl,hf⟩:=h.of_tup
 have c:=bU (cs:=[1]) (fi:=aQ (ab 0)) (te:=(ag 2 bN (aa (ab 0) (aa (ab 1) ae)))) (h:=fun x=>.bool (whole 0 (n - 1) x)) (ρ:=[some (.tuple ls),some (.int n)]) rfl (by omega) fun x hx=>by simp! [ji (hf x hx).nd]
 simp! [GH,Bool.not_true,Bool.false_eq_true,c,kR]
 cases e:ls.all (whole 0 (n - 1)) with
 | false=>simp[iu,e]
 | true =>
  have:=A1 e (Nat.le_trans hl hb)
  simp only[f2,f1,bb,aa,ae,Option.bind_some,Option.map_some] at this
  simp! [iu,e,Bool.not_true,Bool.false_eq_true,Bool.true_and]
  simp only[bz,cT,oneOf,Option.bind_some,fM,Option.map_some] at this
  simp! [this]
noncomputable def placeOk (n:Int):D->Bool|.tuple ds=>decide (ds.length=2)&&(whole 0 9 (ds.getD 0 .none)&&iu n (ds.getD 1 .none))|_=>false
noncomputable def iW (g t:Int):D->Bool|.tuple ds=>decide (ds.length=3)&&(whole 0 (g - 1) (ds.getD 0 .none)&&(whole 0 (t - 1) (ds.getD 1 .none)&&whole 1 9 (ds.getD 2 .none)))|_=>false
theorem sC (n:Nat) (ds:List D):long (n:Int) (n:Int) (.tuple ds)=decide (ds.length=n):=by
 simp only[long]
 by_cases h:ds.length=n
 ·simp[h]
 ·rw[decide_eq_false h,Bool.and_eq_false_iff,decide_eq_false_iff_not,decide_eq_false_iff_not];omega
theorem getD_mem {ds:List D}{i:Nat}(h:i < ds.length):ds.getD i .none∈ds:=by simp[List.getD,h]
theorem uS {b k:Nat}{d:D}(h:iq b k d) (hb:b<=100) (n:Int):eH [d,.int n]=some (.bool (placeOk n d)):=by
 simp! [eH,oA,dY h.nd]
 cases d<;>try (simp[long,placeOk];done)
 rename_i ds
 obtain⟨j,rfl,hl,hf⟩:=h.of_tup
 rw[show long 2 2 (.tuple ds)=decide (ds.length=2) from sC 2 ds]
 by_cases e:ds.length=2
 ·have f0:=hf _ (getD_mem (i:=0) (by omega))
  have f1:=hf _ (getD_mem (i:=1) (by omega))
  simp! [e,decide_true,zu (show 0 < ds.length by omega),wz (show 1 < ds.length by omega),fL f0.nd,vI f1 hb,placeOk]
  cases whole 0 9 (ds.getD 0 .none)<;>simp
 ·simp[e,placeOk]
theorem Du {b k:Nat}{d:D}(h:iq b k d) (hb:b<=100) (g t:Int):gU [d,.int g,.int t]=some (.bool (iW g t d)):=by
 simp! [gU,pJ,dY h.nd]
 cases d<;>try (simp[long,iW];done)
 rename_i ds
 obtain⟨j,rfl,hl,hf⟩:=h.of_tup
 rw[show long 3 3 (.tuple ds)=decide (ds.length=3) from sC 3 ds]
 by_cases e:ds.length=3
 ·have f0:=hf _ (getD_mem (i:=0) (by omega))
  have f1:=hf _ (getD_mem (i:=1) (by omega))
  have f2':=hf _ (getD_mem (i:=2) (by omega))
  simp! [e,decide_true,Bool.not_true,Bool.false_eq_true,zu (show 0 < ds.length by omega),wz (show 1 < ds.length by omega),GU (show 2 < ds.length by omega),fL f2'.nd,ji f0.nd,ji f1.nd,iW]
  cases whole 0 (g - 1) (ds.getD 0 .none)<;>cases whole 0 (t - 1) (ds.getD 1 .none)<;>simp
 ·simp[e,iW]
noncomputable def bg:D->List D|.tuple ds=>ds|_=>[]
noncomputable def mD (d:D):Bool:=long 1 4 d
noncomputable def d5 (g t w:D):Bool:=mD g&&(mD t&&((bg g).all (placeOk (bg t).length)&&((bg t).all (placeOk (bg g).length)&&(GH w&&(bg w).all (iW (bg g).length (bg t).length)))))
theorem jA {a b:Int}{d:D}(h:long a b d=true):d=.tuple (bg d):=by cases d<;>first|rfl|cases h
theorem mW {b k:Nat}{g t w:D}(hg:iq b k g) (ht:iq b k t) (hw:iq b k w) (hb:b<=100):eM [g,t,w]=some (.bool (d5 g t w)):=by
 simp! [eM,jB,dY hg.nd,dY ht.nd,kT hw.nd]
 unfold d5 mD
 cases e1:long 1 4 g with
 | false=>simp
 | true =>
  cases e2:long 1 4 t with
  | false=>simp
  | true =>
   obtain⟨gs,rfl⟩:∃gs,g=.tuple gs:=⟨_,jA e1⟩
   obtain⟨ts,rfl⟩:∃ts,t=.tuple ts:=⟨_,jA e2⟩
   obtain⟨j,rfl,hgl,hgf⟩:=hg.of_tup
   obtain⟨j',hj,htl,htf⟩:=ht.of_tup
   have c1:=bU (cs:=[1]) (fi:=aQ (ab 0)) (te:=(ag 2 eH (aa (ab 0) (aa (bb bz (aa (ab 1) ae)) ae)))) (h:=fun x=>.bool (placeOk ts.length x)) (ρ:=[some (.tuple gs),some (.tuple ts),some w]) rfl (by omega) fun x hx=>by simp! [uS (hgf x hx) hb]
   have c2:=bU (cs:=[0]) (fi:=aQ (ab 1)) (te:=(ag 2 eH (aa (ab 0) (aa (bb bz (aa (ab 1) ae)) ae)))) (h:=fun x=>.bool (placeOk gs.length x)) (ρ:=[some (.tuple gs),some (.tuple ts),some w]) rfl (by omega) fun x hx=>by simp! [uS (htf x hx) hb]
   simp! [Bool.not_true,Bool.false_eq_true,c1,kR,bg,Bool.true_and]
   cases e3:gs.all (placeOk ts.length) with
   | false=>simp
   | true =>
    simp! [Bool.not_true,Bool.false_eq_true,c2,kR,Bool.true_and]
    cases e4:ts.all (placeOk gs.length) with
    | false=>simp
    | true =>
     cases hT:GH w with
     | false=>simp! [Bool.not_true,Bool.false_eq_true,kT hw.nd,hT,Bool.false_and,Bool.and_false]
     | true =>
     obtain⟨ws,rfl⟩:∃ws,w=.tuple ws:=by cases w<;>first|exact⟨_,rfl⟩|cases hT
     obtain⟨j2,hj2,hwl,hwf⟩:=hw.of_tup
     have c3:=bU (cs:=[0,1]) (fi:=aQ (ab 2)) (te:=(ag 3 gU (aa (ab 0) (aa (bb bz (aa (ab 1) ae)) (aa (bb bz (aa (ab 2) ae)) ae))))) (h:=fun x=>.bool (iW gs.length ts.length x)) (ρ:=[some (.tuple gs),some (.tuple ts),some (.tuple ws)]) rfl (by omega) fun x hx=>by simp! [Du (hwf x hx) hb]
     simp! [Bool.not_true,Bool.false_eq_true,c3,kR,Bool.true_and,kT hw.nd,GH]
theorem oN:∀ (a b:List Int),PyData.eqvAll (a.map PyData.int) (b.map PyData.int)=decide (a=b)
 | [],[]=>by simp[PyData.eqvAll]
 | [],_::_=>by simp[PyData.eqvAll]
 | _::_,[]=>by simp[PyData.eqvAll]
 | i::a,j::b=>by
  rw[List.map_cons,List.map_cons,PyData.eqvAll,oN a b]
  by_cases h:i=j
  ·subst h;simp[PyData.eqv]
  ·simp[PyData.eqv,h]
theorem vf:∀ (a b:List (List Int)),PyData.eqvAll (a.map af) (b.map af)=decide (a=b)
 | [],[]=>by simp[PyData.eqvAll]
 | [],_::_=>by simp[PyData.eqvAll]
 | _::_,[]=>by simp[PyData.eqvAll]
 | x::a,y::b=>by
  rw[List.map_cons,List.map_cons,PyData.eqvAll,vf a b,af,af,PyData.eqv,oN]
  by_cases h:x=y
  ·subst h;simp
  ·simp[h]
theorem jR {b k:Nat}(i:Int):iq b k (.int i):=.leaf trivial
theorem yJ {b k:Nat}{r:List Int}(h:r.length<=b):iq b (k+1) (af r):=.tup (by rw[List.length_map];exact h) fun x hx=>by
 obtain⟨i,_,rfl⟩:=List.mem_map.mp hx
 exact jR i
theorem CA {b k:Nat}{a:List (List Int)}(h:a.length<=b) (hr:∀r∈a,r.length<=b):iq b (k+2) (.list (a.map af)):=.lst (by rw[List.length_map];exact h) fun x hx=>by
 obtain⟨r,hr',rfl⟩:=List.mem_map.mp hx
 exact yJ (hr r hr')
theorem Ag (a:List (List Int)):∃b,a.length<=b/\∀r∈a,r.length<=b:=by
 induction a with
 | nil=>exact⟨0,Nat.le_refl _,fun r h=>by cases h⟩
 | cons x a ih =>
  obtain⟨b,h1,h2⟩:=ih
  refine⟨b+1+x.length,by rw[List.length_cons];omega,fun r hr=>?_⟩
  rcases List.mem_cons.mp hr with rfl|hr
  ·omega
  ·have:=h2 r hr;omega
theorem mS (a:List (List Int)):SeqAt.shaped (.list (a.map af))=true:=by
 obtain⟨b,h1,h2⟩:=Ag a
 exact (CA (b:=b) (k:=0) h1 h2).shaped (by decide)
theorem Ax (a b:List (List Int)):bI (.list (a.map af)) (.list (b.map af))=some (.bool (decide (a=b))):=by
 simp only[bI,Je,mS,and_self,if_true,PyData.eqv,vf,Option.map_some]
noncomputable def dP (d:D):List Int:=(bg ((bg d).getD 1 .none)).map ip
theorem cb {n:Int}{d:D}(h:placeOk n d=true):∃a ds,d=.tuple ds/\ds.length=2/\ds.getD 0 .none=.int a/\0<=a/\a<=9/\ds.getD 1 .none=.tuple ((dP d).map PyData.int)/\(dP d).Nodup/\∀j∈dP d,0<=j/\j<=n - 1:=by
 cases d<;>simp only[placeOk] at h<;>try cases h
 rename_i ds
 simp only[Bool.and_eq_true,decide_eq_true_eq] at h
 obtain⟨h1,h2,h3⟩:=h
 have e:dP (.tuple ds)=(bg (ds.getD 1 .none)).map ip:=rfl
 rw[e]
 generalize hl:ds.getD 1 .none=l at h3
 cases l<;>simp only[iu] at h3<;>try cases h3
 rename_i ls
 simp only[Bool.and_eq_true,decide_eq_true_eq] at h3
 obtain⟨w1,w2,w3⟩:=ft h2
 refine⟨_,ds,rfl,h1,w1,w2,w3,?_,h3.2,fun j hj=>?_⟩
 ·rw[show bg (.tuple ls)=ls from rfl,<- kj h3.1];exact hl
 ·obtain⟨x,hx,rfl⟩:=List.mem_map.mp hj
  exact (ft (List.all_eq_true.mp h3.1 x hx)).2
noncomputable def hU (k:Nat):List D->List (List Int)|[]=>[]|p::ps=>(dP p).map (fun j=>[((k:Nat):Int),j])++hU (k+1) ps
theorem n6:∀ (n:Nat) {l:List Int},l.Nodup->(∀j∈l,0<=j/\j<=(n:Int) - 1)->l.length<=n:=by
 intro n l hn h
 have hs:l.map Int.toNat ⊆ List.range n:=fun x hx=>by
  obtain⟨j,hj,rfl⟩:=List.mem_map.mp hx
  have:=h j hj
  exact List.mem_range.mpr (by omega)
 have hnd:(l.map Int.toNat).Nodup:=by
  refine List.pairwise_map.mpr (hn.imp_of_mem fun {x y} hx hy hne e=>hne ?_)
  have:=h x hx;have:=h y hy;omega
 have:=List.Nodup.length_le_of_subset hnd hs
 simpa using this
theorem tE {n:Nat}:∀ {ps:List D}{k:Nat},(∀p∈ps,placeOk n p=true)->(hU k ps).length<=ps.length * n
 | [],k,_=>Nat.zero_le _
 | p::ps,k,h=>by
  obtain⟨_,_,_,_,_,_,_,_,hn,hr⟩:=cb (h p List.mem_cons_self)
  have h1:=n6 n hn hr
  have h2:=tE (ps:=ps) (k:=k+1) fun q hq=>h q (List.mem_cons_of_mem _ hq)
  rw[hU,List.length_append,List.length_map,List.length_cons,Nat.succ_mul]
  omega
noncomputable def pB:ai->Option Out:=zI 1 [2,3] (ak 1 [2] (aQ (f2 ao (ab 3) (fC (.int 1)))) (fG 0) (fun _=>some true) (aF (aa (ab 1) (aa (ab 0) ae))))
theorem Hs {n:Nat}{p x:D}{acc:List D}{k:Nat}(hp:placeOk n p=true) (hn:n<=100) (ha:acc.length<=1000):pB [.val x,.own acc,.val (.int (k:Nat)),.val p]=some (.nx [.val x,.own (acc++((dP p).map fun j=>af [((k:Nat):Int),j])),.val (.int (k:Nat)),.val p]):=by
 obtain⟨a,ds,rfl,hl,_,_,_,h1,hnd,hr⟩:=cb hp
 have hb:=n6 n hnd hr
 generalize dP (.tuple ds)=ls at *
 have c:=bU (cs:=[2]) (fi:=aQ (f2 ao (ab 3) (fC (.int 1)))) (te:=aF (aa (ab 1) (aa (ab 0) ae))) (h:=fun y=>.tuple [.int (k:Nat),y]) (ρ:=[some x,none,some (.int (k:Nat)),some (.tuple ds)]) (ds:=ls.map PyData.int)
  (by simp! [wz (show 1 < ds.length by omega),h1]) (by rw[List.length_map];omega) fun y hy=>by
   simp! [aS (show [PyData.int (k:Nat),y].length<=4000 by simp)]
 have hh:hand [2,3] 0 [Slot.val x,.own acc,.val (.int (k:Nat)),.val (.tuple ds)]=[Slot.val x,.own acc,.val (.int (k:Nat)),.val (.tuple ds)]:=rfl
 simp only[pB,zI,hh,bJ,List.map_cons,List.map_nil,Slot.frz,c,Option.bind_some,nu,List.getElem?_cons_succ,List.getElem?_cons_zero]
 rw[if_pos]
 ·simp only[Option.map_some,List.set_cons_succ,List.set_cons_zero,List.map_map]
  rfl
 ·simp only[List.length_map]
  exact Nat.le_trans (show acc.length+ls.length<=1100 by omega) (by decide)
theorem rR {n:Nat}{x:D}(hn:n<=100):∀ {ps:List D}{k:Nat}{acc:List D}{s2 s3:Slot},(∀p∈ps,placeOk n p=true)->acc.length+ps.length * n<=1000 ->
  ∃t2 t3,eQ (eY 2 3) pB (bu k ps) [.val x,.own acc,s2,s3]=some (.nx [.val x,.own (acc++(hU k ps).map af),t2,t3])
 | [],k,acc,s2,s3,_,_=>⟨s2,s3,by simp[bu,eQ,hU]⟩
 | p::ps,k,acc,s2,s3,h,hl=>by
  have hp:=h p List.mem_cons_self
  obtain⟨_,_,_,_,_,_,_,_,hnd,hr⟩:=cb hp
  have hb:=n6 n hnd hr
  rw[List.length_cons,Nat.succ_mul] at hl
  obtain⟨t2,t3,e⟩:=rR hn (x:=x) (ps:=ps) (k:=k+1) (acc:=acc++((dP p).map fun j=>af [((k:Nat):Int),j])) (s2:=.val (.int (k:Nat))) (s3:=.val p) (fun q hq=>h q (List.mem_cons_of_mem _ hq)) (by rw[List.length_append,List.length_map];omega)
  refine⟨t2,t3,?_⟩
  have hs:eY 2 3 [.val x,.own acc,s2,s3] (.tuple [.int (k:Nat),p])=some [.val x,.own acc,.val (.int (k:Nat)),.val p]:=rfl
  simp only[bu,eQ,hs,Option.bind_some,Hs hp hn (show acc.length<=1000 by omega)]
  rw[e]
  simp[hU,List.map_map,Function.comp_def]
theorem yH {n:Nat}{ps:List D}(h:∀p∈ps,placeOk n p=true) (hn:n<=100) (hl:ps.length * n<=1000):bj [.tuple ps]=some (.list ((hU 0 ps).map af)):=by
 obtain⟨t2,t3,e⟩:=rR hn (x:=.tuple ps) (k:=0) (acc:=[]) (s2:=.non) (s3:=.non) h (by simpa using hl)
 have hs:aK 1 [] (cN ae) [Slot.val (.tuple ps),.non,.non,.non]=some (.nx [.val (.tuple ps),.own [],.non,.non]):=rfl
 have hh:hand [0] 0 [Slot.val (.tuple ps),.own [],.non,.non]=[Slot.val (.tuple ps),.own [],.non,.non]:=rfl
 have hf:ba (aa (ab 0) ae) (bJ [Slot.val (.tuple ps),.own [],.non,.non])=some (bu 0 ps):=rfl
 simp! [bj,gP,hs,dz,hh,hf]
 rw[show zI 1 [2,3] (ak 1 [2] (aQ (f2 ao (ab 3) (fC (.int 1)))) (fG 0) (fun _=>some true) (aF (aa (ab 1) (aa (ab 0) ae))))=pB from rfl,e]
 simp! []
noncomputable def cB (d:D):List Int:=[ip ((bg d).getD 0 .none),ip ((bg d).getD 1 .none)]
theorem oP {g t:Int}{d:D}(h:iW g t d=true):∃ds c,d=.tuple ds/\ds.length=3/\ds.getD 0 .none=.int (ip (ds.getD 0 .none))/\ds.getD 1 .none=.int (ip (ds.getD 1 .none))/\ds.getD 2 .none=.int c/\1<=c/\c<=9 /\
  0<=ip (ds.getD 0 .none)/\ip (ds.getD 0 .none)<=g - 1/\0<=ip (ds.getD 1 .none)/\ip (ds.getD 1 .none)<=t - 1:=by
 cases d<;>simp only[iW] at h<;>try cases h
 rename_i ds
 simp only[Bool.and_eq_true,decide_eq_true_eq] at h
 obtain⟨h1,h2,h3,h4⟩:=h
 have a:=ft h2
 have b:=ft h3
 have c:=ft h4
 exact⟨ds,_,rfl,h1,a.1,b.1,c.1,c.2.1,c.2.2,a.2.1,a.2.2,b.2.1,b.2.2⟩
noncomputable def o6 (g t w:D):Bool:=decide ((bg w).map cB=uw (hU 0 (bg g)))&&decide ((bg w).map cB=uw ((hU 0 (bg t)).map List.reverse))
noncomputable def Le (d:D):Bool:=long 3 3 d&&(d5 ((bg d).getD 0 .none) ((bg d).getD 1 .none) ((bg d).getD 2 .none)&&o6 ((bg d).getD 0 .none) ((bg d).getD 1 .none) ((bg d).getD 2 .none))
theorem jS:∀ {ps:List D}{k:Nat},∀r∈hU k ps,∃i j,r=[i,j]
 | [],k,r,h=>by cases h
 | p::ps,k,r,h=>by
  rcases List.mem_append.mp h with h|h
  ·obtain⟨j,_,rfl⟩:=List.mem_map.mp h;exact⟨_,_,rfl⟩
  ·exact jS r h
theorem kY {a:List (List Int)}(h:∀r∈a,∃i j,r=[i,j]) (hl:a.length < 64):gg [.list (a.map af)]=some ((uw a).map af):=by
 have:∀ns∈a,ns≠[]:=fun ns hn=>by obtain⟨i,j,rfl⟩:=h ns hn;exact List.cons_ne_nil _ _
 simp only[gg,oneOf,Option.bind_some,kG this,if_pos hl]
theorem rF:∀ {a:List (List Int)},(∀r∈a,∃i j,r=[i,j])->b0 (fY 0 1) (fun _=>some true) (aF (aa (ab 1) (aa (ab 0) ae))) [none,none] (a.map af)=some ((a.map List.reverse).map af)
 | [],_=>rfl
 | r::a,h=>by
  obtain⟨i,j,rfl⟩:=h r List.mem_cons_self
  have ih:=rF (a:=a) fun q hq=>h q (List.mem_cons_of_mem _ hq)
  have e:fY 0 1 [none,none] (af [i,j])=some [some (.int i),some (.int j)]:=rfl
  rw[List.map_cons,b0,e,Option.bind_some,Option.bind_some,if_pos rfl,ih]
  simp! [aS (show [PyData.int j,.int i].length<=4000 by simp)]
  rfl
theorem Ae {a:List (List Int)}{fi:Dl.Env->Option (List D)}{ρ:Dl.Env}(hfi:fi ρ=some (a.map af)) (hl:a.length<=4000) (h:∀r∈a,∃i j,r=[i,j]):ak 2 [] fi (fY 0 1) (fun _=>some true) (aF (aa (ab 1) (aa (ab 0) ae))) ρ=some ((a.map List.reverse).map af):=by
 simp only[ak,hfi,Option.bind_some,dQ,List.replicate,List.cons_append,List.nil_append,List.map_nil]
 rw[rF h,Option.bind_some,aS (by rw[List.length_map,List.length_map];exact hl)]
theorem mP {g t w:D}(h:d5 g t w=true):∃gs ts ws,g=.tuple gs/\t=.tuple ts/\w=.tuple ws/\1<=gs.length/\gs.length<=4/\1<=ts.length/\ts.length<=4/\(∀p∈gs,placeOk ts.length p=true)/\(∀p∈ts,placeOk gs.length p=true)/\∀x∈ws,iW gs.length ts.length x=true:=by
 simp only[d5,mD,Bool.and_eq_true] at h
 obtain⟨h1,h2,h3,h4,h5,h6⟩:=h
 cases w<;>try cases h5
 rename_i ws
 have e1:=jA h1
 have e2:=jA h2
 generalize bg g=gs at *
 generalize bg t=ts at *
 subst e1 e2
 simp only[long,Bool.and_eq_true,decide_eq_true_eq] at h1 h2
 exact⟨gs,ts,ws,rfl,rfl,rfl,by omega,by omega,by omega,by omega,List.all_eq_true.mp h3,List.all_eq_true.mp h4,List.all_eq_true.mp h6⟩
theorem yb {b k:Nat}{d:D}(h:iq b k d) (hb:b<=100):b8 [d]=some (.bool (Le d)):=by
 unfold Le
 cases e1:long 3 3 d with
 | false=>simp! [b8,fR,dY h.nd,e1,Bool.not_false,Bool.false_and]
 | true =>
  obtain⟨ds,rfl⟩:∃ds,d=.tuple ds:=⟨_,jA e1⟩
  obtain⟨j,rfl,hl,hf⟩:=h.of_tup
  rw[show long 3 3 (.tuple ds)=decide (ds.length=3) from sC 3 ds,decide_eq_true_eq] at e1
  have f0:=hf _ (getD_mem (i:=0) (by omega))
  have f1:=hf _ (getD_mem (i:=1) (by omega))
  have f2':=hf _ (getD_mem (i:=2) (by omega))
  have i0:=zu (show 0 < ds.length by omega)
  have i1:=wz (show 1 < ds.length by omega)
  have i2:=GU (show 2 < ds.length by omega)
  have el:aX [.tuple ds,.int 3,.int 3]=some (.bool true):=by rw[dY rfl,show long 3 3 (.tuple ds)=decide (ds.length=3) from sC 3 ds,decide_eq_true e1]
  rw[show bg (.tuple ds)=ds from rfl,Bool.true_and]
  generalize hg:ds.getD 0 .none=g at *
  generalize ht:ds.getD 1 .none=t at *
  generalize hw:ds.getD 2 .none=w at *
  cases e2:d5 g t w with
  | false=>simp! [b8,fR,el,i0,i1,i2,mW f0 f1 f2' hb,e2,Bool.not_false,Bool.not_true,Bool.false_and]
  | true =>
   obtain⟨gs,ts,ws,rfl,rfl,rfl,g1,g4,t1,t4,hG,hT,hW⟩:=mP e2
   have hfw:=f2'.of_tup
   obtain⟨j2,_,hwl,_⟩:=hfw
   have q1:=tE (k:=0) hG
   have q2:=tE (k:=0) hT
   have m1:gs.length * ts.length<=16:=Nat.mul_le_mul g4 t4
   have m2:ts.length * gs.length<=16:=Nat.mul_le_mul t4 g4
   have l1:=yH hG (by omega) (by omega)
   have l2:=yH hT (by omega) (by omega)
   have s1:=kY (a:=hU 0 gs) jS (by omega)
   have s2:=kY (a:=(hU 0 ts).map List.reverse) (fun r hr=>by
    obtain⟨q,hq,rfl⟩:=List.mem_map.mp hr
    obtain⟨i,j,rfl⟩:=jS q hq
    exact⟨j,i,rfl⟩) (by rw[List.length_map];omega)
   have c1:ak 1 [] (aQ (f2 ao (ab 0) (fC (.int 2)))) (fG 0) (fun _=>some true) (aF (aa (f2 ao (ab 0) (fC (.int 0))) (aa (f2 ao (ab 0) (fC (.int 1))) ae))) [some (.tuple ds),none,none,none]=some ((ws.map cB).map af):=by
    rw[bU (ds:=ws) (h:=fun x=>af (cB x)) (by simp! [i2]) (by omega) fun x hx=>?_,List.map_map]
    ·rfl
    ·obtain⟨vs,c,rfl,v3,v0,v1,_⟩:=oP (hW x hx)
     simp! [zu (show 0 < vs.length by omega),wz (show 1 < vs.length by omega),aS (show [vs.getD 0 PyData.none,vs.getD 1 .none].length<=4000 by simp),af,cB,bg]
     rw[<- v0,<- v1]
   have c2:∀x y z,ak 2 [] (aQ (ag 1 bj (aa (f2 ao (ab 0) (fC (.int 1))) ae))) (fY 0 1) (fun _=>some true) (aF (aa (ab 1) (aa (ab 0) ae))) [some (.tuple ds),x,y,z]=some (((hU 0 ts).map List.reverse).map af):=fun x y z =>
    Ae (by simp! [i1,l2]) (by omega) jS
   have st1:aK 1 [0] (ak 1 [] (aQ (f2 ao (ab 0) (fC (.int 2)))) (fG 0) (fun _=>some true) (aF (aa (f2 ao (ab 0) (fC (.int 0))) (aa (f2 ao (ab 0) (fC (.int 1))) ae)))) [Slot.val (.tuple ds),.non,.non,.non]=some (.nx [.val (.tuple ds),.own ((ws.map cB).map af),.non,.non]):=by
    have hh:hand [0] 0 [Slot.val (.tuple ds),.non,.non,.non]=[Slot.val (.tuple ds),.non,.non,.non]:=rfl
    simp only[aK,hh,bJ,List.map_cons,List.map_nil,Slot.frz,c1,Option.map_some,List.set_cons_succ,List.set_cons_zero]
   have st2:aK 2 [0] (ma gg (aa (ag 1 bj (aa (f2 ao (ab 0) (fC (.int 0))) ae)) ae)) [Slot.val (.tuple ds),.own ((ws.map cB).map af),.non,.non]=some (.nx [.val (.tuple ds),.own ((ws.map cB).map af),.own ((uw (hU 0 gs)).map af),.non]):=by
    have hh:hand [0] 0 [Slot.val (.tuple ds),.own ((ws.map cB).map af),.non,.non]=[Slot.val (.tuple ds),.own ((ws.map cB).map af),.non,.non]:=rfl
    simp only[aK,hh,bJ,List.map_cons,List.map_nil,Slot.frz]
    simp! [i0,l1,s1,List.set_cons_succ,List.set_cons_zero]
   have st3:aK 3 [0] (ma gg (aa (cf (ak 2 [] (aQ (ag 1 bj (aa (f2 ao (ab 0) (fC (.int 1))) ae))) (fY 0 1) (fun _=>some true) (aF (aa (ab 1) (aa (ab 0) ae))))) ae)) [Slot.val (.tuple ds),.own ((ws.map cB).map af),.own ((uw (hU 0 gs)).map af),.non]
      =some (.nx [.val (.tuple ds),.own ((ws.map cB).map af),.own ((uw (hU 0 gs)).map af),.own ((uw ((hU 0 ts).map List.reverse)).map af)]):=by
    have hh:hand [0] 0 [Slot.val (.tuple ds),.own ((ws.map cB).map af),.own ((uw (hU 0 gs)).map af),.non]=[Slot.val (.tuple ds),.own ((ws.map cB).map af),.own ((uw (hU 0 gs)).map af),.non]:=rfl
    simp only[aK,hh,bJ,List.map_cons,List.map_nil,Slot.frz]
    simp! [c2,s2,List.set_cons_succ,List.set_cons_zero]
   simp! [b8,fR,el,i0,i1,i2,mW f0 f1 f2' hb,e2,Bool.not_true,Bool.false_eq_true,st1,st2,st3,Ax,o6,bg,Bool.true_and]
   by_cases hq:List.map cB ws=uw (hU 0 gs)<;>simp[hq]
theorem pH (xs:List D):PyData.eqvAll xs []=xs.isEmpty:=by cases xs<;>simp[PyData.eqvAll]
theorem xZ:SeqAt.shaped (.list [])=true:=by simp[SeqAt.shaped,PyData.canLay0,PyData.canLayAll0,PyData.depth,PyData.depthAll]
theorem oz {b k:Nat}{xs:List D}(h:∀x∈xs,iq b k x) (hk:k<=60):bI (.list xs) (.list [])=some (.bool xs.isEmpty):=by
 have hs:SeqAt.shaped (.list xs)=true:=(iq.lst (b:=max b xs.length) (k:=k) (Nat.le_max_right _ _) fun x hx=>(h x hx).mono (Nat.le_max_left _ _) (Nat.le_refl _)).shaped (by omega)
 simp only[bI,Je,hs,xZ,and_self,if_true,PyData.eqv,pH,Option.map_some]
theorem ik:small []=some []:=rfl
theorem Ct {α:Type}(xs:List α) (k:Nat):cut xs none (some (k:Int))=xs.take k:=by
 simp only[cut,HT.wG,HT.yK,List.drop_zero,Nat.sub_zero]
 rw[List.take_eq_take_iff];omega
theorem uC {α:Type}(xs:List α) (k:Nat):cut xs (some (k:Int)) none=xs.drop k:=by
 simp only[cut,HT.wG,HT.yK]
 rw[List.take_of_length_le (by rw[List.length_drop];omega)]
 by_cases h:k<=xs.length
 ·rw[Nat.min_eq_left h]
 ·rw[Nat.min_eq_right (by omega),List.drop_of_length_le (Nat.le_refl _),List.drop_of_length_le (by omega)]
noncomputable def Gu:List (List Int)->Bool|a::b::r=>lexLt a b&&Gu (b::r)|_=>true
theorem gf (b:Bool):gB (.bool b)=some b:=rfl
noncomputable def KL (P:List (List Int)) (i j:Int) (lp lq:List Int):Bool:=decide ([i,j]∈P) == decide (j∈lp)&&decide ([i,j]∈P) == decide (i∈lq)
noncomputable def Kc (P:List (List Int)) (i:Int) (lp:List Int):Nat->List D->Bool|_,[]=>true|k,q::qs=>KL P i k lp (dP q)&&Kc P i lp (k+1) qs
noncomputable def Jw (P:List (List Int)) (ts:List D):Nat->List D->Bool|_,[]=>true|k,p::ps=>Kc P k (dP p) 0 ts&&Jw P ts (k+1) ps
theorem wR (a b:D):small [a,b]=some [a,b]:=rfl
noncomputable def Lb (d:D):Bool:=long 3 3 d&&(d5 ((bg d).getD 0 .none) ((bg d).getD 1 .none) ((bg d).getD 2 .none)&&(Gu ((bg ((bg d).getD 2 .none)).map cB)&&Jw ((bg ((bg d).getD 2 .none)).map cB) (bg ((bg d).getD 1 .none)) 0 (bg ((bg d).getD 0 .none))))
theorem k7:∀ (ρ:ai) (k:Nat),hand [] k ρ=ρ
 | [],k=>rfl
 | s::r,k=>by simp[hand,k7 r]
theorem jT:∀ {ps:List D}{k:Nat}{i j:Int},[i,j]∈hU k ps↔∃m p,ps[m]?=some p/\i=((k+m:Nat):Int)/\j∈dP p
 | [],k,i,j=>by simp[hU]
 | p::ps,k,i,j=>by
  rw[hU,List.mem_append,jT (ps:=ps)]
  constructor
  ·rintro (h|⟨m,q,h1,h2,h3⟩)
   ·obtain⟨y,hy,e⟩:=List.mem_map.mp h
    injection e with e1 e2
    injection e2 with e2 _
    exact⟨0,p,rfl,by simpa using e1.symm,e2 ▸ hy⟩
   ·exact⟨m+1,q,by simpa using h1,by rw[h2];congr 1;omega,h3⟩
  ·rintro⟨m,q,h1,h2,h3⟩
   cases m with
   | zero =>
    simp at h1
    subst h1
    exact .inl (List.mem_map.mpr ⟨j,h3,by rw[h2];rfl⟩)
   | succ m=>exact .inr ⟨m,q,by simpa using h1,by rw[h2];congr 1;omega,h3⟩
theorem lY:∀ {ps:List D}{k:Nat},(∀p∈ps,(dP p).Nodup)->(hU k ps).Nodup
 | [],k,_=>List.nodup_nil
 | p::ps,k,h=>by
  rw[hU,List.nodup_append]
  refine⟨List.pairwise_map.mpr ((h p List.mem_cons_self).imp fun hne e=>hne ?_),lY fun q hq=>h q (List.mem_cons_of_mem _ hq),?_⟩
  rotate_left
  ·injection e with _ e2
   injection e2
  ·rintro a ha b hb rfl
   obtain⟨y,hy,rfl⟩:=List.mem_map.mp ha
   obtain⟨m,q,h1,h2,h3⟩:=jT.mp hb
   omega
theorem uA:∀ {P:List (List Int)},Gu P=true->P.Pairwise fun a b=>Dl.lexLt a b=true
 | [],_=>List.Pairwise.nil
 | [a],_=>List.pairwise_singleton _ _
 | a::b::r,h=>by
  rw[Gu,Bool.and_eq_true] at h
  have ih:=uA h.2
  refine List.Pairwise.cons (fun c hc=>?_) ih
  rcases List.mem_cons.mp hc with rfl|hc
  ·exact h.1
  ·exact dw h.1 ((List.pairwise_cons.mp ih).1 c hc)
theorem oh:∀ {P:List (List Int)},(P.Pairwise fun a b=>Dl.lexLt a b=true)->Gu P=true
 | [],_=>rfl
 | [a],_=>rfl
 | a::b::r,h=>by
  rw[List.pairwise_cons] at h
  rw[Gu,Bool.and_eq_true]
  exact⟨h.1 b List.mem_cons_self,oh h.2⟩
theorem y3 {P:List (List Int)}{i:Int}{lp:List Int}:∀ {qs:List D}{k:Nat},Kc P i lp k qs=true↔∀ (l:Nat) (q:D),qs[l]?=some q->KL P i ((k+l:Nat):Int) lp (dP q)=true
 | [],k=>by simp[Kc]
 | q::qs,k=>by
  rw[Kc,Bool.and_eq_true,y3 (qs:=qs)]
  constructor
  ·rintro⟨h1,h2⟩ l q' hl
   cases l with
   | zero=>simp at hl;subst hl;exact h1
   | succ l=>have:=h2 l q' (by simpa using hl);rw[show k+(l+1)=k+1+l by omega];exact this
  ·intro h
   refine⟨by have:=h 0 q rfl;exact this,fun l q' hl=>?_⟩
   have:=h (l+1) q' (by simpa using hl)
   rw[show k+1+l=k+(l+1) by omega];exact this
theorem sj {P:List (List Int)}{ts:List D}:∀ {ps:List D}{k:Nat},Jw P ts k ps=true↔∀ (m:Nat) (p:D),ps[m]?=some p->∀ (l:Nat) (q:D),ts[l]?=some q->KL P ((k+m:Nat):Int) (l:Int) (dP p) (dP q)=true
 | [],k=>by simp[Jw]
 | p::ps,k=>by
  rw[Jw,Bool.and_eq_true,sj (ps:=ps),y3]
  constructor
  ·rintro⟨h1,h2⟩ m p' hm l q hl
   cases m with
   | zero=>simp at hm;subst hm;have:=h1 l q hl;rw[Nat.zero_add] at this;exact this
   | succ m=>have:=h2 m p' (by simpa using hm) l q hl;rw[show k+(m+1)=k+1+m by omega];exact this
  ·intro h
   refine⟨fun l q hl=>by have:=h 0 p rfl l q hl;rw[Nat.zero_add];exact this,fun m p' hm l q hl=>?_⟩
   have:=h (m+1) p' (by simpa using hm) l q hl
   rw[show k+1+m=k+(m+1) by omega];exact this
theorem um {P:List (List Int)}{i j:Int}{lp lq:List Int}:KL P i j lp lq=true↔([i,j]∈P↔j∈lp)/\([i,j]∈P↔i∈lq):=by
 simp only[KL,Bool.and_eq_true,beq_iff_eq,decide_eq_decide]
theorem KF {a b:List Int}(h:Dl.lexLt a b=true):lexLe a b=true:=by
 unfold lexLe
 cases e:Dl.lexLt b a with
 | false=>rfl
 | true=>have:=dw h e;rw[fA] at this;cases this
theorem Dx {ts:List D}{n:Nat}{j:Int}(h:ts.length=n) (h0:0<=j) (h1:j<=(n:Int) - 1):∃ (l:Nat) (q:D),ts[l]?=some q/\j=(l:Int):=by
 have hl:j.toNat < ts.length:=by omega
 exact⟨j.toNat,ts[j.toNat],List.getElem?_eq_some_iff.mpr ⟨hl,rfl⟩,by omega⟩
theorem AO {g t w:D}(h:d5 g t w=true):o6 g t w=(Gu ((bg w).map cB)&&Jw ((bg w).map cB) (bg t) 0 (bg g)):=by
 obtain⟨gs,ts,ws,rfl,rfl,rfl,g1,g4,t1,t4,hG,hT,hW⟩:=mP h
 have e0:(o6 (.tuple gs) (.tuple ts) (.tuple ws)=true)↔(ws.map cB=uw (hU 0 gs)/\ws.map cB=uw ((hU 0 ts).map List.reverse)):=by
  unfold o6
  rw[Bool.and_eq_true,decide_eq_true_eq,decide_eq_true_eq]
  exact Iff.rfl
 rw[Bool.eq_iff_iff,e0,Bool.and_eq_true,sj]
 simp only[bg]
 generalize hP:ws.map cB=P
 have pin:∀r∈P,∃i j,r=[i,j]/\0<=i/\i<=(gs.length:Int) - 1/\0<=j/\j<=(ts.length:Int) - 1:=fun r hr=>by
  rw[<- hP] at hr
  obtain⟨x,hx,rfl⟩:=List.mem_map.mp hr
  obtain⟨vs,c,rfl,v3,v0,v1,v2,_,_,a1,a2,a3,a4⟩:=oP (hW x hx)
  exact⟨_,_,rfl,a1,a2,a3,a4⟩
 have nG:(hU 0 gs).Nodup:=lY fun p hp=>by
  obtain⟨_,_,_,_,_,_,_,_,hnd,_⟩:=cb (hG p hp);exact hnd
 have nT0:(hU 0 ts).Nodup:=lY fun p hp=>by
  obtain⟨_,_,_,_,_,_,_,_,hnd,_⟩:=cb (hT p hp);exact hnd
 have nT:((hU 0 ts).map List.reverse).Nodup:=List.pairwise_map.mpr (nT0.imp fun hne e=>hne (List.reverse_inj.mp e))
 have mG:∀r∈hU 0 gs,∃i j,r=[i,j]/\0<=i/\i<=(gs.length:Int) - 1/\0<=j/\j<=(ts.length:Int) - 1:=fun r hr=>by
  obtain⟨i,j,rfl⟩:=jS r hr
  obtain⟨m,p,h1,h2,h3⟩:=jT.mp hr
  obtain⟨_,_,_,_,_,_,_,_,_,hr'⟩:=cb (hG p (List.mem_of_getElem? h1))
  have:=hr' j h3
  have hm:=(List.getElem?_eq_some_iff.mp h1).1
  exact⟨i,j,rfl,by omega,by omega,this.1,this.2⟩
 have mT:∀r∈(hU 0 ts).map List.reverse,∃i j,r=[i,j]/\[j,i]∈hU 0 ts/\0<=i/\i<=(gs.length:Int) - 1/\0<=j/\j<=(ts.length:Int) - 1:=fun r hr=>by
  obtain⟨s,hs,rfl⟩:=List.mem_map.mp hr
  obtain⟨j,i,rfl⟩:=jS s hs
  obtain⟨m,p,h1,h2,h3⟩:=jT.mp hs
  obtain⟨_,_,_,_,_,_,_,_,_,hr'⟩:=cb (hT p (List.mem_of_getElem? h1))
  have:=hr' i h3
  have hm:=(List.getElem?_eq_some_iff.mp h1).1
  exact⟨i,j,rfl,hs,this.1,this.2,by omega,by omega⟩
 have K6:∀ {m:Nat}{p:D}{j:Int},gs[m]?=some p->([(m:Int),j]∈hU 0 gs↔j∈dP p):=fun {m p j} hm=>by
  rw[jT]
  constructor
  ·rintro⟨m',p',h1,h2,h3⟩
   have:m=m':=by omega
   subst this
   rw[hm] at h1
   cases h1
   exact h3
  ·exact fun hj=>⟨m,p,hm,by omega,hj⟩
 have K3:∀ {l:Nat}{q:D}{i:Int},ts[l]?=some q->([i,(l:Int)]∈(hU 0 ts).map List.reverse↔i∈dP q):=fun {l q i} hl=>by
  have:[i,(l:Int)]∈(hU 0 ts).map List.reverse↔[(l:Int),i]∈hU 0 ts:=by
   constructor
   ·intro hh
    obtain⟨s,hs,e⟩:=List.mem_map.mp hh
    have:s=[(l:Int),i]:=by rw[<- List.reverse_reverse s,e];rfl
    exact this ▸ hs
   ·exact fun hh=>List.mem_map.mpr ⟨_,hh,rfl⟩
  rw[this,jT]
  constructor
  ·rintro⟨m',p',h1,h2,h3⟩
   have:l=m':=by omega
   subst this
   rw[hl] at h1
   cases h1
   exact h3
  ·exact fun hj=>⟨l,q,hl,by omega,hj⟩
 constructor
 ·rintro⟨e1,e2⟩
  have p1:P.Perm (hU 0 gs):=e1 ▸ ou _
  have p2:P.Perm ((hU 0 ts).map List.reverse):=e2 ▸ ou _
  refine⟨oh ?_,fun m p hm l q hl=>um.mpr ⟨?_,?_⟩⟩
  ·have up:P.Pairwise fun a b=>lexLe a b=true:=e1 ▸ Di _
   have nd:P.Nodup:=p1.symm.nodup nG
   refine (up.and nd).imp fun {a b} hab=>?_
   cases e:Dl.lexLt a b with
   | true=>rfl
   | false =>
    have h2:Dl.lexLt b a=false:=by have:=hab.1;unfold lexLe at this;simpa using this
    exact absurd (ij e h2) hab.2
  ·rw[Nat.zero_add,p1.mem_iff];exact K6 hm
  ·rw[Nat.zero_add,p2.mem_iff];exact K3 hl
 ·rintro⟨ha,hk⟩
  have lt:=uA ha
  have up:P.Pairwise fun a b=>lexLe a b=true:=lt.imp fun h=>KF h
  have nd:P.Nodup:=lt.imp fun {a b} h e=>by subst e;rw[fA] at h;cases h
  have key:∀ {i j:Int},0<=i->i<=(gs.length:Int) - 1->0<=j->j<=(ts.length:Int) - 1->([i,j]∈P↔[i,j]∈hU 0 gs)/\([i,j]∈P↔[i,j]∈(hU 0 ts).map List.reverse):=fun {i j} a1 a2 a3 a4=>by
   obtain⟨m,p,hm,rfl⟩:=Dx rfl a1 a2
   obtain⟨l,q,hl,rfl⟩:=Dx rfl a3 a4
   have:=um.mp (hk m p hm l q hl)
   rw[Nat.zero_add] at this
   exact⟨this.1.trans (K6 hm).symm,this.2.trans (K3 hl).symm⟩
  refine⟨xM ((List.perm_ext_iff_of_nodup nd nG).mpr fun r=>⟨fun hr=>?_,fun hr=>?_⟩) up,xM ((List.perm_ext_iff_of_nodup nd nT).mpr fun r=>⟨fun hr=>?_,fun hr=>?_⟩) up⟩
  ·obtain⟨i,j,rfl,a1,a2,a3,a4⟩:=pin r hr;exact (key a1 a2 a3 a4).1.mp hr
  ·obtain⟨i,j,rfl,a1,a2,a3,a4⟩:=mG r hr;exact (key a1 a2 a3 a4).1.mpr hr
  ·obtain⟨i,j,rfl,a1,a2,a3,a4⟩:=pin r hr;exact (key a1 a2 a3 a4).2.mp hr
  ·obtain⟨i,j,rfl,_,a1,a2,a3,a4⟩:=mT r hr;exact (key a1 a2 a3 a4).2.mpr hr
theorem IV (d:D):Le d=Lb d:=by
 unfold Le Lb
 cases h:d5 ((bg d).getD 0 .none) ((bg d).getD 1 .none) ((bg d).getD 2 .none) with
 | false=>rw[Bool.false_and,Bool.false_and]
 | true=>rw[AO h]
theorem eJ {i j:Int}(h:pU i j):Dl.dU (.int i) (.int j)=some (.int (i * j)):=by
 simp only[Dl.dU,uo,if_pos h,Option.some_or]
theorem ig {i j:Int}(h:0 < j):Dl.jZ (.int i) (.int j)=some (.int (i % j)):=if_pos h
theorem jy {i j:Int}(h:0 < j/\j < 1073741824):Dl.kU (.int i) (.int j)=some (.int (i / j)):=if_pos h
theorem eu (i j:Int):Dl.sS (.int i) (.int j)=some (.bool (decide (j < i))):=rfl
theorem iS (i j:Int):Dl.zh (.int i) (.int j)=some (.bool (decide (i < j))):=rfl
theorem ki {i j:Int}(h:-(2 ^ 64) < i/\i < 2 ^ 64):pU i j:=.inl h
theorem Hf {i j:Int}(h:-(2 ^ 64) < j/\j < 2 ^ 64):pU i j:=.inr h
theorem v9 (i:Int):Dl.kZ (.int i)=true:=rfl
theorem vQ (i:List D):Dl.kZ (.tuple i)=false:=rfl
noncomputable def cm (ns:List Int):D:=.list (ns.map PyData.int)
theorem IU {ns:List Int}(k:Int) (hl:ns.length<=63):∃c,dv [cm ns,.int k]=some (.int c):=by
 have heq:bI (.list (ns.map PyData.int)) (.list [])=some (.bool ns.isEmpty):=by
  have:=oz (b:=0) (k:=0) (xs:=ns.map PyData.int) (fun x hx=>by obtain⟨i,_,rfl⟩:=List.mem_map.mp hx;exact jR i) (by decide)
  rw[this];cases ns<;>rfl
 by_cases hn:ns=[]
 ·subst hn
  refine⟨7 * k,?_⟩
  rw[List.map_nil,List.isEmpty_nil] at heq
  simp! [dv,gx,cm,ik,heq,List.isEmpty_nil,eJ (ki (i:=7) (j:=k) (by decide))]
 ·have hpos:(0:Int) < (ns.length:Int):=by have:=List.length_pos_iff.mpr hn;omega
  have he:ns.isEmpty=false:=by cases ns<;>first|rfl|exact absurd rfl hn
  obtain⟨j,hj⟩:=Int.eq_ofNat_of_zero_le (Int.emod_nonneg k (show (ns.length:Int)≠0 by omega))
  have hlt:=Int.emod_lt_of_pos k hpos
  have hx:sV (ns.map PyData.int) (k % (ns.length:Int))=some (.int (ns.getD j 0)):=by
   rw[hj]
   have:j < (ns.map PyData.int).length:=by rw[List.length_map];omega
   rw[lR this,List.getD_eq_getElem?_getD,List.getElem?_map,List.getD_eq_getElem?_getD]
   rw[List.getElem?_eq_getElem (by omega)]
   rfl
  refine⟨ns.getD j 0+6553 * (k / (ns.length:Int)),?_⟩
  simp! [dv,gx,cm,ik,heq,he,Bool.false_eq_true,List.length_map,ig hpos,hx,jy (i:=k) (j:=(ns.length:Int)) ⟨hpos,by omega⟩,eJ (ki (i:=6553) (j:=k / (ns.length:Int)) (by decide))]
theorem FK {ns:List Int}(k many:Int) (hl:ns.length<=63) (hm:0 < many):∃r,aj [cm ns,.int k,.int many]=some (.int r)/\0<=r/\r < many:=by
 obtain⟨c,hc⟩:=IU k hl
 have m1:∀i:Int,Dl.jZ (.int i) (.int 2147483563)=some (.int (i % 2147483563)):=fun i=>ig (by decide)
 have m2:∀i:Int,Dl.jZ (.int i) (.int 2147483399)=some (.int (i % 2147483399)):=fun i=>ig (by decide)
 have m3:∀i:Int,Dl.jZ (.int i) (.int 2147483647)=some (.int (i % 2147483647)):=fun i=>ig (by decide)
 have d1:∀i:Int,Dl.kU (.int i) (.int 3)=some (.int (i / 3)):=fun i=>jy (by decide)
 have d2:∀i:Int,Dl.kU (.int i) (.int 7)=some (.int (i / 7)):=fun i=>jy (by decide)
 have d3:∀i:Int,Dl.kU (.int i) (.int 11)=some (.int (i / 11)):=fun i=>jy (by decide)
 have u1:∀i:Int,Dl.dU (.int i) (.int 69069)=some (.int (i * 69069)):=fun i=>eJ (Hf (by decide))
 have u2:∀i:Int,Dl.dU (.int 104723) (.int i)=some (.int (104723 * i)):=fun i=>eJ (ki (by decide))
 have b1:∀x:Int,Dl.dU (.int (x % 2147483563)) (.int (x % 2147483563))=some (.int (x % 2147483563 * (x % 2147483563))):=fun x=>eJ (ki (by
  have:=Int.emod_nonneg x (show (2147483563:Int)≠0 by decide)
  have:=Int.emod_lt_of_pos x (show (0:Int) < 2147483563 by decide)
  omega))
 have b2:∀x:Int,Dl.dU (.int (x % 2147483399)) (.int (x % 2147483399))=some (.int (x % 2147483399 * (x % 2147483399))):=fun x=>eJ (ki (by
  have:=Int.emod_nonneg x (show (2147483399:Int)≠0 by decide)
  have:=Int.emod_lt_of_pos x (show (0:Int) < 2147483399 by decide)
  omega))
 suffices h:∃x,aj [cm ns,.int k,.int many]=some (.int (x % many)) by
  obtain⟨x,hx⟩:=h
  exact⟨_,hx,Int.emod_nonneg x (show many≠0 by omega),Int.emod_lt_of_pos x hm⟩
 ·refine⟨(((((c % 2147483563 * 69069+104723 * (k+1)) % 2147483563) * ((c % 2147483563 * 69069+104723 * (k+1)) % 2147483563)+((c % 2147483563 * 69069+104723 * (k+1)) % 2147483563) / 3) % 2147483399) * ((((c % 2147483563 * 69069+104723 * (k+1)) % 2147483563) * ((c % 2147483563 * 69069+104723 * (k+1)) % 2147483563)+((c % 2147483563 * 69069+104723 * (k+1)) % 2147483563) / 3) % 2147483399)+((((c % 2147483563 * 69069+104723 * (k+1)) % 2147483563) * ((c % 2147483563 * 69069+104723 * (k+1)) % 2147483563)+((c % 2147483563 * 69069+104723 * (k+1)) % 2147483563) / 3) % 2147483399) / 7) % 2147483647 / 11,?_⟩
  simp! [aj,iN,hc,m1,u1,u2,Dl.ay,v9,List.set_cons_succ,List.set_cons_zero,b1,d1,m2,b2,d2,m3,d3,ig (j:=many) hm]
noncomputable def dr (ns:List Int) (k many:Int):Int:=ip ((aj [cm ns,.int k,.int many]).getD .none)
theorem fK {ns:List Int}(k many:Int) (hl:ns.length<=63) (hm:0 < many):aj [cm ns,.int k,.int many]=some (.int (dr ns k many))/\0<=dr ns k many/\dr ns k many < many:=by
 obtain⟨r,h1,h2⟩:=FK k many hl hm
 have:dr ns k many=r:=by simp only[dr,h1,Option.getD_some,ip]
 rw[this];exact⟨h1,h2⟩
theorem rf {ns:List Int}(k many:Int) (hl:ns.length<=63) (hm:0 < many):aj [cm ns,.int k,.int many]=some (.int (dr ns k many)):=(fK k many hl hm).1
theorem GA {ns:List Int}(k many:Int) (hl:ns.length<=63) (hm:0 < many):0<=dr ns k many:=(fK k many hl hm).2.1
theorem GO {ns:List Int}(k many:Int) (hl:ns.length<=63) (hm:0 < many):dr ns k many < many:=(fK k many hl hm).2.2
noncomputable def bY (r:List Int):D:=.list (r.map PyData.int)
noncomputable def insI (ds:List Int) (k:Int) (d:Int):List Int:=let j:=if k < 0 then (k+(ds.length:Int)).toNat else min k.toNat ds.length;ds.take j++d::ds.drop j
theorem Av (ds:List Int) (k d:Int):zm (ds.map PyData.int) k (.int d)=(insI ds k d).map PyData.int:=by
 simp only[zm,insI,List.length_map,List.map_append,List.map_cons,List.map_take,List.map_drop]
theorem insI_perm (ds:List Int) (k d:Int):(insI ds k d).Perm (d::ds):=by
 simp only[insI]
 refine List.perm_middle.trans ?_
 rw[List.take_append_drop]
noncomputable def oB:ai->Option Out:=(DR 6 [8] (ag 3 aj (aa (ab 0) (aa (f2 aA (f2 aA (ab 1) (f2 dU (fC (.int 4)) (ab 4))) (ab 7)) (aa (f2 aA (bb bz (aa (ab 6) ae)) (fC (.int 1))) ae)))) (ab 8))
theorem Ik {ns order:List Int}{a k j x:Int}{s2 s3 s5:Slot}(hl:ns.length<=63) (ho:order.length<=1000) :
  oB [.val (cm ns),.val (.int a),s2,s3,.val (.int k),s5,.own (order.map PyData.int),.val (.int j),.val (.int x)] =
   some (.nx [.val (cm ns),.val (.int a),s2,s3,.val (.int k),s5,.own ((insI order (dr ns (a+4 * k+j) ((order.length:Int)+1)) x).map PyData.int),.val (.int j),.val (.int x)]):=by
 have h4:Dl.dU (.int 4) (.int k)=some (.int (4 * k)):=eJ (ki (by decide))
 have hd:=fK (ns:=ns) (a+4 * k+j) ((order.length:Int)+1) hl (by omega)
 have hr:uN (dr ns (a+4 * k+j) ((order.length:Int)+1))=true:=by
  simp only[uN,Bool.and_eq_true,decide_eq_true_eq]
  omega
 have hz:(order.map PyData.int).length < sizeLine:=by rw[List.length_map];exact Nat.lt_of_le_of_lt ho (by decide)
 simp! [oB,DR,j9,v9,nu,List.length_map,h4,hd.1]
 rw[List.length_map] at hz
 simp only[hr,hz,and_self,if_true,Option.map_some,Av,List.set_cons_succ,List.set_cons_zero]
theorem Bs {ns:List Int}{a k:Int}{s2 s3 s5:Slot}(hl:ns.length<=63):∀ {row order:List Int}{j:Nat}{s7 s8:Slot},order.length+row.length<=1000 ->
  ∃ (o:List Int) (t7 t8:Slot),eQ (eY 7 8) oB (bu j (row.map PyData.int)) [.val (cm ns),.val (.int a),s2,s3,.val (.int k),s5,.own (order.map PyData.int),s7,s8] =
   some (.nx [.val (cm ns),.val (.int a),s2,s3,.val (.int k),s5,.own (o.map PyData.int),t7,t8])/\o.Perm (row++order)
 | [],order,j,s7,s8,_=>⟨order,s7,s8,by simp[bu,eQ],by simp⟩
 | x::row,order,j,s7,s8,h=>by
  rw[List.length_cons] at h
  have hp:=insI_perm order (dr ns (a+4 * k+((j:Nat):Int)) ((order.length:Int)+1)) x
  have hlen:=hp.length_eq
  rw[List.length_cons] at hlen
  obtain⟨o,t7,t8,e,p⟩:=Bs (s2:=s2) (s3:=s3) (s5:=s5) (a:=a) (k:=k) hl (row:=row) (order:=insI order (dr ns (a+4 * k+((j:Nat):Int)) ((order.length:Int)+1)) x) (j:=j+1) (s7:=.val (.int (j:Nat))) (s8:=.val (.int x)) (by omega)
  refine⟨o,t7,t8,?_,p.trans ?_⟩
  ·have hs:eY 7 8 [.val (cm ns),.val (.int a),s2,s3,.val (.int k),s5,.own (order.map PyData.int),s7,s8] (.tuple [.int (j:Nat),.int x])=some [.val (cm ns),.val (.int a),s2,s3,.val (.int k),s5,.own (order.map PyData.int),.val (.int (j:Nat)),.val (.int x)]:=rfl
   simp only[List.map_cons,bu,eQ,hs,Option.bind_some,Ik hl (show order.length<=1000 by omega),e]
  ·refine (hp.append_left row).trans ?_
   rw[List.cons_append]
   exact List.perm_middle
noncomputable def oQ:List (List Int)->List (List Int)->Prop|[],[]=>True|a::l,b::m=>a.Perm b/\oQ l m|_,_=>False
noncomputable def rB:ai->Option Out:=(av (aK 6 [] (cN ae)) (av (dz [5] (ba (aa (ab 5) ae)) (eY 7 8) oB) (kH 3 [6] (bb bG (aa (ab 6) ae)))))
theorem Jm {ns row:List Int}{a k:Int}{rows:D}{found:List D}{s6 s7 s8:Slot}(hl:ns.length<=63) (hr:row.length<=1000) (hf:found.length<=1000) :
  ∃ (o:List Int) (t7 t8:Slot),rB [.val (cm ns),.val (.int a),.val rows,.own found,.val (.int k),.val (bY row),s6,s7,s8]=some (.nx [.val (cm ns),.val (.int a),.val rows,.own (found++[af o]),.val (.int k),.val (bY row),.val (bY o),t7,t8])/\o.Perm row:=by
 obtain⟨o,t7,t8,e,p⟩:=Bs (s2:=.val rows) (s3:=.own found) (s5:=.val (bY row)) (a:=a) (k:=k) hl (row:=row) (order:=[]) (j:=0) (s7:=s7) (s8:=s8) (by simpa using hr)
 rw[List.append_nil] at p
 refine⟨o,t7,t8,?_,p⟩
 have h1:aK 6 [] (cN ae) [.val (cm ns),.val (.int a),.val rows,.own found,.val (.int k),.val (bY row),s6,s7,s8]=some (.nx [.val (cm ns),.val (.int a),.val rows,.own found,.val (.int k),.val (bY row),.own [],s7,s8]):=by
  simp only[aK,k7,cN,ae,Option.bind_some,ik,Option.map_some,List.set_cons_succ,List.set_cons_zero]
 have h2:dz [5] (ba (aa (ab 5) ae)) (eY 7 8) oB [.val (cm ns),.val (.int a),.val rows,.own found,.val (.int k),.val (bY row),.own [],s7,s8]=some (.nx [.val (cm ns),.val (.int a),.val rows,.own found,.val (.int k),.val (bY row),.own (o.map PyData.int),t7,t8]):=by
  have hh:hand [5] 0 [Slot.val (cm ns),.val (.int a),.val rows,.own found,.val (.int k),.val (bY row),.own [],s7,s8]=[Slot.val (cm ns),.val (.int a),.val rows,.own found,.val (.int k),.val (bY row),.own [],s7,s8]:=rfl
  have hq:ba (aa (ab 5) ae) (bJ [Slot.val (cm ns),.val (.int a),.val rows,.own found,.val (.int k),.val (bY row),.own [],s7,s8])=some (bu 0 (row.map PyData.int)):=by
   simp only[bJ,List.map_cons,List.map_nil]
   simp! [ba,bY]
  simp only[dz,hh,hq,Option.bind_some]
  exact e
 have h3:kH 3 [6] (bb bG (aa (ab 6) ae)) [.val (cm ns),.val (.int a),.val rows,.own found,.val (.int k),.val (bY row),.own (o.map PyData.int),t7,t8]=some (.nx [.val (cm ns),.val (.int a),.val rows,.own (found++[af o]),.val (.int k),.val (bY row),.val (bY o),t7,t8]):=by
  have hz:found.length < sizeLine:=Nat.lt_of_le_of_lt hf (by decide)
  have hh:hand [6] 0 [Slot.val (cm ns),.val (.int a),.val rows,.own found,.val (.int k),.val (bY row),.own (o.map PyData.int),t7,t8]=[Slot.val (cm ns),.val (.int a),.val rows,.own found,.val (.int k),.val (bY row),.val (bY o),t7,t8]:=rfl
  simp only[kH,j9,hh,bJ,List.map_cons,List.map_nil]
  simp! [vQ,Bool.false_eq_true,nu,hz,List.set_cons_succ,List.set_cons_zero,bY,af]
 simp only[rB,av,h1,h2,h3,Option.bind_some]
theorem Ca {ns:List Int}{a:Int}{rws:D}(hl:ns.length<=63):∀ {rows:List (List Int)}{found:List D}{k:Nat}{s4 s5 s6 s7 s8:Slot},(∀r∈rows,r.length<=1000)->found.length+rows.length<=1000 ->
  ∃ (os:List (List Int)) (t4 t5 t6 t7 t8:Slot),eQ (eY 4 5) rB (bu k (rows.map bY)) [.val (cm ns),.val (.int a),.val rws,.own found,s4,s5,s6,s7,s8]=some (.nx [.val (cm ns),.val (.int a),.val rws,.own (found++os.map af),t4,t5,t6,t7,t8])/\oQ os rows
 | [],found,k,s4,s5,s6,s7,s8,_,_=>⟨[],s4,s5,s6,s7,s8,by simp[bu,eQ],trivial⟩
 | r::rows,found,k,s4,s5,s6,s7,s8,h,hf=>by
  rw[List.length_cons] at hf
  obtain⟨o,u7,u8,e1,p1⟩:=Jm (rows:=rws) (a:=a) (k:=((k:Nat):Int)) (s6:=s6) (s7:=s7) (s8:=s8) hl (h r List.mem_cons_self) (show found.length<=1000 by omega)
  obtain⟨os,t4,t5,t6,t7,t8,e,p⟩:=Ca hl (rws:=rws) (a:=a) (rows:=rows) (found:=found++[af o]) (k:=k+1) (s4:=.val (.int (k:Nat))) (s5:=.val (bY r)) (s6:=.val (bY o)) (s7:=u7) (s8:=u8) (fun r' hr'=>h r' (List.mem_cons_of_mem _ hr')) (by rw[List.length_append,List.length_singleton];omega)
  refine⟨o::os,t4,t5,t6,t7,t8,?_,p1,p⟩
  have hs:eY 4 5 [.val (cm ns),.val (.int a),.val rws,.own found,s4,s5,s6,s7,s8] (.tuple [.int (k:Nat),bY r])=some [.val (cm ns),.val (.int a),.val rws,.own found,.val (.int (k:Nat)),.val (bY r),s6,s7,s8]:=rfl
  simp only[List.map_cons,bu,eQ,hs,Option.bind_some,e1]
  rw[e,List.append_assoc]
  rfl
theorem u3 {ns:List Int}{a:Int}{rows:List (List Int)}(hl:ns.length<=63) (hr:∀r∈rows,r.length<=1000) (hn:rows.length<=1000):∃os:List (List Int),bA [cm ns,.int a,.list (rows.map bY)]=some (.list (os.map af))/\oQ os rows:=by
 obtain⟨os,t4,t5,t6,t7,t8,e,p⟩:=Ca hl (rws:=.list (rows.map bY)) (a:=a) (rows:=rows) (found:=[]) (k:=0) (s4:=.non) (s5:=.non) (s6:=.non) (s7:=.non) (s8:=.non) hr (by simpa using hn)
 refine⟨os,?_,p⟩
 rw[List.nil_append] at e
 have h1:aK 3 [] (cN ae) [.val (cm ns),.val (.int a),.val (.list (rows.map bY)),.non,.non,.non,.non,.non,.non]=some (.nx [.val (cm ns),.val (.int a),.val (.list (rows.map bY)),.own [],.non,.non,.non,.non,.non]):=by
  simp only[aK,k7,cN,ae,Option.bind_some,ik,Option.map_some,List.set_cons_succ,List.set_cons_zero]
 have h2:dz [2] (ba (aa (ab 2) ae)) (eY 4 5) rB [.val (cm ns),.val (.int a),.val (.list (rows.map bY)),.own [],.non,.non,.non,.non,.non]=some (.nx [.val (cm ns),.val (.int a),.val (.list (rows.map bY)),.own (os.map af),t4,t5,t6,t7,t8]):=by
  have hh:hand [2] 0 [Slot.val (cm ns),.val (.int a),.val (.list (rows.map bY)),.own [],.non,.non,.non,.non,.non]=[Slot.val (cm ns),.val (.int a),.val (.list (rows.map bY)),.own [],.non,.non,.non,.non,.non]:=rfl
  have hq:ba (aa (ab 2) ae) (bJ [Slot.val (cm ns),.val (.int a),.val (.list (rows.map bY)),.own [],.non,.non,.non,.non,.non])=some (bu 0 (rows.map bY)):=by
   simp only[bJ,List.map_cons,List.map_nil]
   simp! [ba]
  simp only[dz,hh,hq,Option.bind_some]
  exact e
 unfold rB oB at h2
 simp! [bA,gO,h1,h2]
noncomputable abbrev Pl:=Int×List Int
noncomputable abbrev Wy:=Int×Int×Int
noncomputable def bH (p:Pl):D:=.tuple [.int p.1,af p.2]
noncomputable def aq (w:Wy):D:=.tuple [.int w.1,.int w.2.1,.int w.2.2]
noncomputable def aw (G T:List Pl) (W:List Wy):D:=.tuple [.tuple (G.map bH),.tuple (T.map bH),.tuple (W.map aq)]
noncomputable def yG (W:List Wy) (i:Int):List Int:=(W.filter fun w=>decide (w.1=i)).map fun w=>w.2.1
noncomputable def ofT (W:List Wy) (j:Int):List Int:=(W.filter fun w=>decide (w.2.1=j)).map fun w=>w.1
noncomputable abbrev wI (W:List Wy):Prop:=W.Pairwise fun a b=>a.1 < b.1\/(a.1=b.1/\a.2.1 < b.2.1)
structure Wd (G T:List Pl) (W:List Wy):Prop where
 g1:1<=G.length
 g4:G.length<=4
 t1:1<=T.length
 t4:T.length<=4
 ga:∀p∈G,0<=p.1/\p.1<=9
 ta:∀p∈T,0<=p.1/\p.1<=9
 gl:∀ (i:Nat) (p:Pl),G[i]?=some p->p.2.Perm (yG W i)
 tl:∀ (j:Nat) (p:Pl),T[j]?=some p->p.2.Perm (ofT W j)
 wr:∀w∈W,(0<=w.1/\w.1 < G.length)/\(0<=w.2.1/\w.2.1 < T.length)/\1<=w.2.2/\w.2.2<=9
 wp:wI W
 wl:W.length<=16
theorem yN {W:List Wy}{i j:Int}:j∈yG W i↔[i,j]∈W.map fun w=>[w.1,w.2.1]:=by
 simp only[yG,List.mem_map,List.mem_filter,decide_eq_true_eq,List.cons.injEq,and_true]
 constructor
 ·rintro⟨w,⟨h1,h2⟩,h3⟩;exact⟨w,h1,h2,h3⟩
 ·rintro⟨w,h1,h2,h3⟩;exact⟨w,⟨h1,h2⟩,h3⟩
theorem yz {W:List Wy}{i j:Int}:i∈ofT W j↔[i,j]∈W.map fun w=>[w.1,w.2.1]:=by
 simp only[ofT,List.mem_map,List.mem_filter,decide_eq_true_eq,List.cons.injEq,and_true]
 constructor
 ·rintro⟨w,⟨h1,h2⟩,h3⟩;exact⟨w,h1,h3,h2⟩
 ·rintro⟨w,h1,h2,h3⟩;exact⟨w,⟨h1,h3⟩,h2⟩
theorem rl {W:List Wy}(h:wI W) (i:Int):(yG W i).Nodup:=by
 unfold yG List.Nodup
 rw[List.pairwise_map,List.pairwise_filter]
 refine h.imp fun hab ha hb=>?_
 rw[decide_eq_true_eq] at ha hb
 omega
theorem rQ {W:List Wy}(h:wI W) (i:Int):(ofT W i).Nodup:=by
 unfold ofT List.Nodup
 rw[List.pairwise_map,List.pairwise_filter]
 refine h.imp fun hab ha hb=>?_
 rw[decide_eq_true_eq] at ha hb
 omega
theorem mw (p:Pl):dP (bH p)=p.2:=by
 show ((p.2.map PyData.int).map ip)=p.2
 rw[List.map_map]
 exact List.map_id _
theorem mM {n:Int}{p:Pl}(ha:0<=p.1/\p.1<=9) (hn:p.2.Nodup) (hr:∀j∈p.2,0<=j/\j < n):placeOk n (bH p)=true:=by
 have e:(p.2.map PyData.int).map ip=p.2:=mw p
 have e2:(p.2.map PyData.int).all (whole 0 (n - 1))=true:=by
  rw[List.all_eq_true]
  intro x hx
  obtain⟨j,hj,rfl⟩:=List.mem_map.mp hx
  have:=hr j hj
  simp only[whole,Bool.and_eq_true,decide_eq_true_eq]
  omega
 simp only[placeOk,bH,af,List.length_cons,List.length_nil,List.getD_cons_zero,List.getD_cons_succ,iu,whole,e,e2,ha.1,ha.2,hn,decide_true,Bool.and_self]
theorem AL {g t:Int}{w:Wy}(h:(0<=w.1/\w.1 < g)/\(0<=w.2.1/\w.2.1 < t)/\1<=w.2.2/\w.2.2<=9):iW g t (aq w)=true:=by
 obtain⟨⟨a,b⟩,⟨c,d⟩,e,f⟩:=h
 have b':w.1<=g - 1:=by omega
 have d':w.2.1<=t - 1:=by omega
 simp only[iW,aq,List.length_cons,List.length_nil,List.getD_cons_zero,List.getD_cons_succ,whole,a,b',c,d',e,f,decide_true,Bool.and_self]
theorem Ly {a b c d:Int}(h:a < c\/(a=c/\b < d)):Dl.lexLt [a,b] [c,d]=true:=by
 show HT.lexLt [a,b] [c,d]=true
 rw[HT.dh]
 by_cases e:a=c
 ·rw[if_pos e,HT.dh,if_neg (by omega)]
  simp only[decide_eq_true_eq];omega
 ·rw[if_neg e];simp only[decide_eq_true_eq];omega
theorem Wd.glike {G T:List Pl}{W:List Wy}(h:Wd G T W) {p:Pl}(hp:p∈G):∃i:Nat,i < G.length/\p.2.Perm (yG W i):=by
 obtain⟨i,hi,e⟩:=List.getElem_of_mem hp
 exact⟨i,hi,h.gl i p (by rw[List.getElem?_eq_getElem hi,e])⟩
theorem Wd.tlike {G T:List Pl}{W:List Wy}(h:Wd G T W) {p:Pl}(hp:p∈T):∃i:Nat,i < T.length/\p.2.Perm (ofT W i):=by
 obtain⟨i,hi,e⟩:=List.getElem_of_mem hp
 exact⟨i,hi,h.tl i p (by rw[List.getElem?_eq_getElem hi,e])⟩
theorem Wd.gok {G T:List Pl}{W:List Wy}(h:Wd G T W):(G.map bH).all (placeOk T.length)=true:=by
 rw[List.all_eq_true]
 intro x hx
 obtain⟨p,hp,rfl⟩:=List.mem_map.mp hx
 obtain⟨i,hi,q⟩:=h.glike hp
 refine mM (h.ga p hp) (q.nodup_iff.mpr (rl h.wp _)) fun j hj=>?_
 obtain⟨w,hw,e⟩:=List.mem_map.mp (yN.mp (q.mem_iff.mp hj))
 injection e with e1 e2
 injection e2 with e2 _
 have:=(h.wr w hw).2.1
 rw[e2] at this;exact this
theorem Wd.tok {G T:List Pl}{W:List Wy}(h:Wd G T W):(T.map bH).all (placeOk G.length)=true:=by
 rw[List.all_eq_true]
 intro x hx
 obtain⟨p,hp,rfl⟩:=List.mem_map.mp hx
 obtain⟨i,hi,q⟩:=h.tlike hp
 refine mM (h.ta p hp) (q.nodup_iff.mpr (rQ h.wp _)) fun j hj=>?_
 obtain⟨w,hw,e⟩:=List.mem_map.mp (yz.mp (q.mem_iff.mp hj))
 injection e with e1 e2
 have:=(h.wr w hw).1
 rw[e1] at this;exact this
theorem Wd.lok {G T:List Pl}{W:List Wy}(h:Wd G T W):Lb (aw G T W)=true:=by
 have hP:(W.map aq).map cB=W.map fun w=>[w.1,w.2.1]:=by rw[List.map_map];rfl
 have hadj:Gu (W.map fun w=>[w.1,w.2.1])=true:=oh (List.pairwise_map.mpr (h.wp.imp fun hab=>Ly hab))
 have hokg:Jw (W.map fun w=>[w.1,w.2.1]) (T.map bH) 0 (G.map bH)=true:=by
  rw[sj]
  intro m p hp l q hq
  rw[List.getElem?_map] at hp hq
  obtain⟨p',hp',rfl⟩:=Option.map_eq_some_iff.mp hp
  obtain⟨q',hq',rfl⟩:=Option.map_eq_some_iff.mp hq
  rw[um,mw,mw,(h.gl m p' hp').mem_iff,(h.tl l q' hq').mem_iff,yN,yz,Nat.zero_add]
  exact⟨Iff.rfl,Iff.rfl⟩
 have hw:(W.map aq).all (iW G.length T.length)=true:=by
  rw[List.all_eq_true]
  intro x hx
  obtain⟨w,hw,rfl⟩:=List.mem_map.mp hx
  exact AL (h.wr w hw)
 have hs:∀ {L:List Pl},1<=L.length->L.length<=4->mD (.tuple (L.map bH))=true:=fun {L} a b=>by
  simp only[mD,long,List.length_map,Bool.and_eq_true,decide_eq_true_eq];omega
 have h3:long 3 3 (aw G T W)=true:=rfl
 have hg:=h.gok
 have ht:=h.tok
 unfold Lb
 rw[h3,Bool.true_and]
 simp only[aw,bg,List.getD_cons_zero,List.getD_cons_succ,hP,hadj,hokg,Bool.and_true,d5,hs h.g1 h.g4,hs h.t1 h.t4,List.length_map,hg,ht,hw,GH]
theorem pL {W:List Wy}{p:Wy->Bool}(h:W.length<=16):(W.filter p).length<=16:=Nat.le_trans (List.length_filter_le _ _) h
theorem y0 {p:Pl}(h:p.2.length<=16):iq 16 2 (bH p):=.tup (by simp only[List.length_cons,List.length_nil];omega) fun x hx=>by
 rcases List.mem_cons.mp hx with rfl|hx
 ·exact jR _
 ·rw[List.mem_singleton] at hx
  subst hx
  exact yJ h
theorem Fc (w:Wy):iq 16 1 (aq w):=.tup (by simp only[List.length_cons,List.length_nil];omega) fun x hx=>by
 simp only[List.mem_cons,List.not_mem_nil,or_false] at hx
 rcases hx with rfl|rfl|rfl<;>exact jR _
theorem Wd.fit {G T:List Pl}{W:List Wy}(h:Wd G T W):iq 16 4 (aw G T W):=by
 refine .tup (by simp only[List.length_cons,List.length_nil];omega) fun x hx=>?_
 simp only[List.mem_cons,List.not_mem_nil,or_false] at hx
 have h4:=h.g4
 have h5:=h.t4
 have h6:=h.wl
 rcases hx with rfl|rfl|rfl
 ·refine .tup (by rw[List.length_map];omega) fun x hx=>?_
  obtain⟨p,hp,rfl⟩:=List.mem_map.mp hx
  obtain⟨i,hi,q⟩:=h.glike hp
  exact y0 (by rw[q.length_eq,yG,List.length_map];exact pL h.wl)
 ·refine .tup (by rw[List.length_map];omega) fun x hx=>?_
  obtain⟨p,hp,rfl⟩:=List.mem_map.mp hx
  obtain⟨i,hi,q⟩:=h.tlike hp
  exact y0 (by rw[q.length_eq,ofT,List.length_map];exact pL h.wl)
 ·refine .tup (by rw[List.length_map];omega) fun x hx=>?_
  obtain⟨p,hp,rfl⟩:=List.mem_map.mp hx
  exact (Fc p).mono (Nat.le_refl _) (by decide)
theorem Ah {c:Int}(h0:0<=c) (h9:c<=9):Wd [(c,[0,1]),(c,[1,0])] [(c,[1,0]),(c,[0,1])] [(0,0,2),(0,1,2),(1,0,2),(1,1,2)] where
 g1:=by simp only[List.length_cons,List.length_nil];omega
 g4:=by simp only[List.length_cons,List.length_nil];omega
 t1:=by simp only[List.length_cons,List.length_nil];omega
 t4:=by simp only[List.length_cons,List.length_nil];omega
 ga:=by intro p hp;simp only[List.mem_cons,List.not_mem_nil,or_false] at hp;rcases hp with rfl|rfl<;>exact⟨h0,h9⟩
 ta:=by intro p hp;simp only[List.mem_cons,List.not_mem_nil,or_false] at hp;rcases hp with rfl|rfl<;>exact⟨h0,h9⟩
 gl:=by
  intro i p hp
  match i,hp with
  | 0,hp=>injection hp with hp;subst hp;exact (show List.Perm ([0,1]:List Int) (yG [(0,0,2),(0,1,2),(1,0,2),(1,1,2)] ((0:Nat):Int)) by decide)
  | 1,hp=>injection hp with hp;subst hp;exact (show List.Perm ([1,0]:List Int) (yG [(0,0,2),(0,1,2),(1,0,2),(1,1,2)] ((1:Nat):Int)) by decide)
 tl:=by
  intro i p hp
  match i,hp with
  | 0,hp=>injection hp with hp;subst hp;exact (show List.Perm ([1,0]:List Int) (ofT [(0,0,2),(0,1,2),(1,0,2),(1,1,2)] ((0:Nat):Int)) by decide)
  | 1,hp=>injection hp with hp;subst hp;exact (show List.Perm ([0,1]:List Int) (ofT [(0,0,2),(0,1,2),(1,0,2),(1,1,2)] ((1:Nat):Int)) by decide)
 wr:=show ∀w∈([(0,0,2),(0,1,2),(1,0,2),(1,1,2)]:List Wy),(0<=w.1/\w.1 < ((2:Nat):Int))/\(0<=w.2.1/\w.2.1 < ((2:Nat):Int))/\1<=w.2.2/\w.2.2<=9 by decide
 wp:=by decide
 wl:=by decide
noncomputable def iZ (f:Nat->Int):Nat->List (List Int)->List Pl|_,[]=>[]|k,r::rs=>(f k,r)::iZ f (k+1) rs
theorem gZ (f:Nat->Int):∀ (rs:List (List Int)) (k:Nat),(iZ f k rs).length=rs.length
 | [],k=>rfl
 | r::rs,k=>by rw[iZ,List.length_cons,List.length_cons,gZ f rs]
theorem hX (f:Nat->Int):∀ {rs:List (List Int)}{k i:Nat}{p:Pl},(iZ f k rs)[i]?=some p->∃r,rs[i]?=some r/\p=(f (k+i),r)
 | [],k,i,p,h=>by simp[iZ] at h
 | r::rs,k,0,p,h=>by simp[iZ] at h;exact⟨r,rfl,h.symm⟩
 | r::rs,k,i+1,p,h=>by
  simp only[iZ,List.getElem?_cons_succ] at h
  obtain⟨y,h1,h2⟩:=hX f h
  exact⟨y,by simpa using h1,by rw[h2];congr 2;omega⟩
theorem d4:∀ {a b:List (List Int)},oQ a b->a.length=b.length
 | [],[],_=>rfl
 | x::a,y::b,h=>by rw[List.length_cons,List.length_cons,d4 h.2]
 | [],_::_,h=>h.elim
 | _::_,[],h=>h.elim
theorem mx:∀ {a b:List (List Int)}{i:Nat}{r:List Int},oQ a b->a[i]?=some r->∃s,b[i]?=some s/\r.Perm s
 | [],[],i,r,_,h=>by simp at h
 | x::a,y::b,0,r,h,e=>by
  simp only[List.getElem?_cons_zero,Option.some.injEq] at e
  subst e
  exact⟨y,rfl,h.1⟩
 | x::a,y::b,i+1,r,h,e=>by
  simp only[List.getElem?_cons_succ] at e
  obtain⟨s,h1,h2⟩:=mx h.2 e
  exact⟨s,by simpa using h1,h2⟩
 | [],_::_,i,r,h,_=>h.elim
 | _::_,[],i,r,h,_=>h.elim
noncomputable def j8 (W:List Wy) (m:Nat):List (List Int):=(List.range m).map fun i=>yG W ((i:Nat):Int)
noncomputable def j6 (W:List Wy) (m:Nat):List (List Int):=(List.range m).map fun i=>ofT W ((i:Nat):Int)
theorem EK {m s:Nat}{W:List Wy}{mine yours:List (List Int)}{f g:Nat->Int}(m1:1<=m) (m4:m<=4) (s1:1<=s) (s4:s<=4) (hf:∀k,0<=f k/\f k<=9) (hg:∀k,0<=g k/\g k<=9)
  (hm:oQ mine (j8 W m)) (hy:oQ yours (j6 W s)) (wr:∀w∈W,(0<=w.1/\w.1 < m)/\(0<=w.2.1/\w.2.1 < s)/\1<=w.2.2/\w.2.2<=9) (wp:wI W) (wl:W.length<=16):Wd (iZ f 0 mine) (iZ g 0 yours) W:=by
 have lm:(iZ f 0 mine).length=m:=by rw[gZ,d4 hm,j8,List.length_map,List.length_range]
 have ly:(iZ g 0 yours).length=s:=by rw[gZ,d4 hy,j6,List.length_map,List.length_range]
 have am:∀ {h:Nat->Int}{rs:List (List Int)},(∀k,0<=h k/\h k<=9)->∀p∈iZ h 0 rs,0<=p.1/\p.1<=9:=fun {h rs} hh p hp=>by
  obtain⟨i,hi⟩:=List.mem_iff_getElem?.mp hp
  obtain⟨r,_,rfl⟩:=hX h hi
  exact hh _
 refine⟨by omega,by omega,by omega,by omega,am hf,am hg,fun i p hp=>?_,fun i p hp=>?_,by rw[lm,ly];exact wr,wp,wl⟩
 ·obtain⟨r,h1,rfl⟩:=hX f hp
  obtain⟨t,h2,h3⟩:=mx hm h1
  rw[j8,List.getElem?_map] at h2
  obtain⟨k,hk,rfl⟩:=Option.map_eq_some_iff.mp h2
  have:k=i:=by
   rw[List.getElem?_eq_some_iff] at hk
   obtain⟨h,e⟩:=hk
   rw[List.getElem_range] at e
   exact e.symm
  subst this
  exact h3
 ·obtain⟨r,h1,rfl⟩:=hX g hp
  obtain⟨t,h2,h3⟩:=mx hy h1
  rw[j6,List.getElem?_map] at h2
  obtain⟨k,hk,rfl⟩:=Option.map_eq_some_iff.mp h2
  have:k=i:=by
   rw[List.getElem?_eq_some_iff] at hk
   obtain⟨h,e⟩:=hk
   rw[List.getElem_range] at e
   exact e.symm
  subst this
  exact h3
theorem bW {i:Nat}{fz:List Nat}{f:Dl.Env->Option D}{ρ ρ':ai}{d:D}(hf:f (bc ρ)=some d) (hs:Dl.kZ d=false) (hh:hand fz 0 ρ=ρ') (hv:bJ ρ'=bc ρ):Dl.ay i fz f ρ=some (.nx (ρ'.set i (.val d))):=by
 simp only[Dl.ay,hf,Option.bind_some,hs,Bool.false_eq_true,if_false,hh,hv,Option.map_some]
theorem bK {i:Nat}{fz:List Nat}{f:Dl.Env->Option D}{ρ:ai}{d:D}(hf:f (bc ρ)=some d) (hs:Dl.kZ d=true):Dl.ay i fz f ρ=some (.nx (ρ.set i (.val d))):=by
 simp only[Dl.ay,hf,Option.bind_some,hs,if_true]
theorem GR (w:Wy):ao (aq w) (.int 0)=some (.int w.1):=rfl
theorem GC (w:Wy):ao (aq w) (.int 1)=some (.int w.2.1):=rfl
theorem yk (a b c:D):small [a,b,c]=some [a,b,c]:=rfl
theorem KQ {a b s:Int}(hs:s=1\/s=2\/s=3) (h:a < b):a / s < b / s\/(a / s=b / s/\a % s < b % s):=by rcases hs with rfl|rfl|rfl<;>omega
theorem IF {k m s:Int}(hs:s=1\/s=2\/s=3) (hm:m=1\/m=2\/m=3) (h0:0<=k) (h:k < m * s):(0<=k / s/\k / s < m)/\0<=k % s/\k % s < s:=by
 rcases hs with rfl|rfl|rfl<;>rcases hm with rfl|rfl|rfl<;>omega
noncomputable def lB:ai->Option Out:=(fq (f9 (fB (f2 zh (bb bz (aa (ab 7) ae)) (ab 2))) (fB (f2 sS (ag 3 aj (aa (ab 0) (aa (f2 aA (f2 aA (ab 1) (fC (.int 2))) (ab 8)) (aa (fC (.int 4)) ae)))) (fC (.int 0))))) (kH 7 [0,1,6,8] (aF (aa (f2 kU (ab 8) (ab 6)) (aa (f2 jZ (ab 8) (ab 6)) (aa (f2 aA (fC (.int 1)) (ag 3 aj (aa (ab 0) (aa (f2 aA (f2 aA (ab 1) (fC (.int 12))) (ab 8)) (aa (fC (.int 2)) ae))))) ae))))) f7)
noncomputable abbrev st (ns:List Int) (a mo m s:Int) (x4 x7 x8 x9 x10 x11:Slot):ai:=[.val (cm ns),.val (.int a),.val (.int mo),.non,x4,.val (.int m),.val (.int s),x7,x8,x9,x10,x11]
noncomputable def Eg (ns:List Int) (a mo s k:Int) (W:List Wy):List Wy:=if (W.length:Int) < mo/\0 < dr ns (a+2+k) 4 then W++[(k / s,k % s,1+dr ns (a+12+k) 2)] else W
theorem HL {ns:List Int}{a mo m s k:Int}{W:List Wy}(hl:ns.length<=63) (hs:s=1\/s=2\/s=3) (hw:W.length<=9) :
  lB (st ns a mo m s .non (.own (W.map aq)) (.val (.int k)) .non .non .non)=some (.nx (st ns a mo m s .non (.own ((Eg ns a mo s k W).map aq)) (.val (.int k)) .non .non .non)):=by
 have hs0:0 < s:=by omega
 have hz:W.length < sizeLine:=Nat.lt_of_le_of_lt hw (by decide)
 have hd:Dl.kU (.int k) (.int s)=some (.int (k / s)):=jy ⟨hs0,by omega⟩
 have hm:Dl.jZ (.int k) (.int s)=some (.int (k % s)):=ig hs0
 have e4:=rf (ns:=ns) (a+2+k) 4 hl (by decide)
 have e2:=rf (ns:=ns) (a+12+k) 2 hl (by decide)
 have hh:hand [0,1,6,8] 0 (st ns a mo m s .non (.own (W.map aq)) (.val (.int k)) .non .non .non)=st ns a mo m s .non (.own (W.map aq)) (.val (.int k)) .non .non .non:=rfl
 have ha:kH 7 [0,1,6,8] (aF (aa (f2 kU (ab 8) (ab 6)) (aa (f2 jZ (ab 8) (ab 6)) (aa (f2 aA (fC (.int 1)) (ag 3 aj (aa (ab 0) (aa (f2 aA (f2 aA (ab 1) (fC (.int 12))) (ab 8)) (aa (fC (.int 2)) ae))))) ae)))) (st ns a mo m s .non (.own (W.map aq)) (.val (.int k)) .non .non .non)=some (.nx (st ns a mo m s .non (.own ((W++[(k / s,k % s,1+dr ns (a+12+k) 2)]).map aq)) (.val (.int k)) .non .non .non)):=by
  simp only[kH,j9,hh,bJ,List.map_cons,List.map_nil]
  simp! [vQ,Bool.false_eq_true,nu,hd,hm,e2,yk,List.length_map,hz,List.set_cons_succ,List.set_cons_zero,List.map_append]
  rfl
 by_cases c1:(W.length:Int) < mo
 ·by_cases c2:0 < dr ns (a+2+k) 4
  ·rw[show Eg ns a mo s k W=W++[(k / s,k % s,1+dr ns (a+12+k) 2)] from if_pos ⟨c1,c2⟩,<- ha]
   simp! [lB,iS,eu,List.length_map,c1,c2,decide_true,gf,e4]
  ·rw[show Eg ns a mo s k W=W from if_neg fun h=>c2 h.2]
   simp! [lB,iS,eu,List.length_map,c1,c2,decide_true,decide_false,gf,e4,Bool.false_eq_true]
 ·rw[show Eg ns a mo s k W=W from if_neg fun h=>c1 h.1]
  simp! [lB,iS,eu,List.length_map,c1,decide_false,gf,Bool.false_eq_true]
structure AF (mo s k:Int) (W:List Wy):Prop where
 mem:∀w∈W,∃j:Int,0<=j/\j < k/\w.1=j / s/\w.2.1=j % s/\1<=w.2.2/\w.2.2<=2
 ris:wI W
 len:(W.length:Int)<=k
 lem:(W.length:Int)<=mo
theorem AF.next {ns:List Int}{a mo s k:Int}{W:List Wy}(hl:ns.length<=63) (hs:s=1\/s=2\/s=3) (hk:0<=k) (h:AF mo s k W):AF mo s (k+1) (Eg ns a mo s k W):=by
 have old:∀w∈W,∃j:Int,0<=j/\j < k+1/\w.1=j / s/\w.2.1=j % s/\1<=w.2.2/\w.2.2<=2:=fun w hw=>by
  obtain⟨j,a,b,c⟩:=h.mem w hw
  exact⟨j,a,by omega,c⟩
 by_cases c:(W.length:Int) < mo/\0 < dr ns (a+2+k) 4
 ·rw[show Eg ns a mo s k W=W++[(k / s,k % s,1+dr ns (a+12+k) 2)] from if_pos c]
  have g1:=GA (ns:=ns) (a+12+k) 2 hl (by decide)
  have g2:=GO (ns:=ns) (a+12+k) 2 hl (by decide)
  refine⟨fun w hw=>?_,?_,?_,?_⟩
  ·rcases List.mem_append.mp hw with hw|hw
   ·exact old w hw
   ·rw[List.mem_singleton] at hw
    subst hw
    exact⟨k,hk,by omega,rfl,rfl,by simp only;omega,by simp only;omega⟩
  ·refine List.pairwise_append.mpr ⟨h.ris,List.pairwise_singleton _ _,fun a ha b hb=>?_⟩
   rw[List.mem_singleton] at hb
   subst hb
   obtain⟨j,_,b,c1,c2,_⟩:=h.mem a ha
   rw[c1,c2]
   exact KQ hs b
  ·have:=h.len;rw[List.length_append,List.length_singleton];omega
  ·have:=c.1;rw[List.length_append,List.length_singleton];omega
 ·rw[show Eg ns a mo s k W=W from if_neg c]
  exact⟨old,h.ris,by have:=h.len;omega,h.lem⟩
theorem BD {ns:List Int}{a mo m s:Int}(hl:ns.length<=63) (hs:s=1\/s=2\/s=3):∀ (n k:Nat) {W:List Wy}{x8:Slot},k+n<=9->AF mo s k W ->
  ∃W' t8,eQ (uv 8) lB ((List.range' k n).map fun i=>PyData.int ((i:Nat):Int)) (st ns a mo m s .non (.own (W.map aq)) x8 .non .non .non)=some (.nx (st ns a mo m s .non (.own (W'.map aq)) t8 .non .non .non))/\(n=0/\t8=x8\/∃d,t8=.val d)/\AF mo s ((k+n:Nat):Int) W'
 | 0,k,W,x8,hk,h=>⟨W,x8,rfl,.inl ⟨rfl,rfl⟩,h⟩
 | n+1,k,W,x8,hk,h=>by
  have h':AF mo s ((k+1:Nat):Int) (Eg ns a mo s k W):=by
   have:=h.next (ns:=ns) (a:=a) hl hs (by omega)
   rwa [show ((k:Int)+1)=((k+1:Nat):Int) by omega] at this
  obtain⟨W',t8,e,q,b⟩:=BD hl hs n (k+1) (W:=Eg ns a mo s k W) (x8:=.val (.int (k:Nat))) (by omega) h'
  refine⟨W',t8,?_,.inr (q.elim (fun z=>⟨_,z.2⟩) id),by rw[show k+(n+1)=k+1+n by omega];exact b⟩
  have hsg:∀d,uv 8 (st ns a mo m s .non (.own (W.map aq)) x8 .non .non .non) d=some (st ns a mo m s .non (.own (W.map aq)) (.val d) .non .non .non):=fun d=>rfl
  rw[List.range'_succ,List.map_cons,eQ,hsg,Option.bind_some,HL hl hs (by have:=h.len;omega)]
  exact e
theorem K6 (W:List Wy) (i:Int) (hw:W.length<=20):ak 1 [0] (aQ (ab 1)) (fG 0) (fB (f2 bI (f2 ao (ab 0) (fC (.int 0))) (ab 1))) (f2 ao (ab 0) (fC (.int 1))) [some (.int i),some (.list (W.map aq))]=some ((yG W i).map PyData.int):=by
 rw[lg (ds:=W.map aq) (p:=fun d=>decide (ip ((bg d).getD 0 .none)=i)) (h:=fun d=>(bg d).getD 1 .none) rfl (by rw[List.length_map];omega) (fun d hd=>?_) fun d hd _=>?_]
 ·rw[List.filter_map,List.map_map,yG,List.map_map];rfl
 ·obtain⟨w,_,rfl⟩:=List.mem_map.mp hd
  simp! [GR,cF,gf]
  rfl
 ·obtain⟨w,_,rfl⟩:=List.mem_map.mp hd
  simp! [GC]
  rfl
theorem K3 (W:List Wy) (i:Int) (hw:W.length<=20):ak 1 [0] (aQ (ab 1)) (fG 0) (fB (f2 bI (f2 ao (ab 0) (fC (.int 1))) (ab 1))) (f2 ao (ab 0) (fC (.int 0))) [some (.int i),some (.list (W.map aq))]=some ((ofT W i).map PyData.int):=by
 rw[lg (ds:=W.map aq) (p:=fun d=>decide (ip ((bg d).getD 1 .none)=i)) (h:=fun d=>(bg d).getD 0 .none) rfl (by rw[List.length_map];omega) (fun d hd=>?_) fun d hd _=>?_]
 ·rw[List.filter_map,List.map_map,ofT,List.map_map];rfl
 ·obtain⟨w,_,rfl⟩:=List.mem_map.mp hd
  simp! [GC,cF,gf]
  rfl
 ·obtain⟨w,_,rfl⟩:=List.mem_map.mp hd
  simp! [GR]
  rfl
theorem sT {m:Nat}(hm:m<=1000):uN ((m:Nat):Int)=true:=by
 unfold uN
 rw[Bool.and_eq_true,decide_eq_true_eq,decide_eq_true_eq]
 have h1:(0:Int)<=(m:Int):=Int.natCast_nonneg m
 have h2:(m:Int)<=1000:=by omega
 exact⟨Int.le_trans (by decide) h1,Int.lt_of_le_of_lt h2 (by decide)⟩
theorem uJ {j:Int}(h:uN j=true):kl [.int j]=some ((List.range j.toNat).map fun i=>PyData.int ((i:Nat):Int)):=by
 rw[kl,if_pos h]
theorem sM {fi:Dl.Env->Option D}{ρ:Dl.Env}(m:Nat) (hm:m<=1000) (h:fi ρ=some (.int (m:Nat))):bQ (aa fi ae) ρ=some ((List.range m).map fun i=>PyData.int ((i:Nat):Int)):=by
 have e:aa fi ae ρ=some [.int ((m:Nat):Int)]:=by simp only[aa,ae,h,Option.bind_some,Option.map_some]
 have e2:bQ (aa fi ae) ρ=(aa fi ae ρ).bind kl:=rfl
 rw[e2,e,Option.bind_some,uJ (sT hm),Int.toNat_natCast]
theorem FP {W:List Wy}{m:Nat}{i7 i5:Nat}{ρ:Dl.Env}(hw:W.length<=20) (hm:m<=1000) (h5:ab i5 ρ=some (.int (m:Nat))) (h7:(ρ[i7]?).getD none=some (.list (W.map aq))) :
  ak 1 [i7] (bQ (aa (ab i5) ae)) (fG 0) (fun _=>some true) (cf (ak 1 [0] (aQ (ab 1)) (fG 0) (fB (f2 bI (f2 ao (ab 0) (fC (.int 0))) (ab 1))) (f2 ao (ab 0) (fC (.int 1))))) ρ=some ((j8 W m).map bY):=by
 rw[bU (h:=fun d=>bY (yG W (ip d))) (sM m hm h5) (by rw[List.length_map,List.length_range];omega) fun d hd=>?_]
 ·rw[j8,List.map_map,List.map_map];rfl
 ·obtain⟨i,_,rfl⟩:=List.mem_map.mp hd
  simp only[List.map_cons,List.map_nil,h7,cf,K6 W _ hw,Option.map_some,bY,ip]
theorem EY {W:List Wy}{m:Nat}{i7 i5:Nat}{ρ:Dl.Env}(hw:W.length<=20) (hm:m<=1000) (h5:ab i5 ρ=some (.int (m:Nat))) (h7:(ρ[i7]?).getD none=some (.list (W.map aq))) :
  ak 1 [i7] (bQ (aa (ab i5) ae)) (fG 0) (fun _=>some true) (cf (ak 1 [0] (aQ (ab 1)) (fG 0) (fB (f2 bI (f2 ao (ab 0) (fC (.int 1))) (ab 1))) (f2 ao (ab 0) (fC (.int 0))))) ρ=some ((j6 W m).map bY):=by
 rw[bU (h:=fun d=>bY (ofT W (ip d))) (sM m hm h5) (by rw[List.length_map,List.length_range];omega) fun d hd=>?_]
 ·rw[j6,List.map_map,List.map_map];rfl
 ·obtain⟨i,_,rfl⟩:=List.mem_map.mp hd
  simp only[List.map_cons,List.map_nil,h7,cf,K3 W _ hw,Option.map_some,bY,ip]
noncomputable def GB (c:Int):Dl.Env->Option D:=(aF (aa (ag 3 aj (aa (ab 2) (aa (f2 aA (f2 aA (ab 3) (fC (.int c))) (ab 0)) (aa (fC (.int 4)) ae)))) (aa (ab 1) ae)))
theorem JV {ns:List Int}{a:Int}(c:Int) (hl:ns.length<=63):∀ (mine:List (List Int)) (k:Nat),b0 (fY 0 1) (fun _=>some true) (GB c) [none,none,some (cm ns),some (.int a)] (bu k (mine.map af))=some ((iZ (fun k=>dr ns (a+c+((k:Nat):Int)) 4) k mine).map bH)
 | [],k=>rfl
 | r::mine,k=>by
  have hg:fY 0 1 [none,none,some (cm ns),some (.int a)] (.tuple [.int ((k:Nat):Int),af r])=some [some (.int ((k:Nat):Int)),some (af r),some (cm ns),some (.int a)]:=rfl
  have he:GB c [some (.int ((k:Nat):Int)),some (af r),some (cm ns),some (.int a)]=some (bH (dr ns (a+c+((k:Nat):Int)) 4,r)):=by
   simp! [GB,rf (ns:=ns) (a+c+((k:Nat):Int)) 4 hl (by decide),wR,bH]
  have ih:=JV (a:=a) c hl mine (k+1)
  rw[List.map_cons,bu,b0,hg]
  simp only[Option.bind_some,if_true,he,ih,Option.map_some,iZ,List.map_cons]
theorem jJ:∀ (ds:List D) (k:Nat),(bu k ds).length=ds.length
 | [],k=>rfl
 | d::ds,k=>by rw[bu,List.length_cons,List.length_cons,jJ ds]
theorem vj {ns:List Int}{a c:Int}{i9:Nat}{ρ:Dl.Env}{mine:List (List Int)}(hl:ns.length<=63) (hm:mine.length<=1000) (h9:ab i9 ρ=some (.list (mine.map af))) (h0:(ρ[0]?).getD none=some (cm ns)) (h1:(ρ[1]?).getD none=some (.int a)) :
  bb bG (aa (cf (ak 2 [0,1] (ba (aa (ab i9) ae)) (fY 0 1) (fun _=>some true) (GB c))) ae) ρ=some (.tuple ((iZ (fun k=>dr ns (a+c+((k:Nat):Int)) 4) 0 mine).map bH)):=by
 have hi:ba (aa (ab i9) ae) ρ=some (bu 0 (mine.map af)):=by
  simp only[ba,aa,ae,h9,Option.bind_some,Option.map_some,cT,oneOf,fM]
 have hc:ak 2 [0,1] (ba (aa (ab i9) ae)) (fY 0 1) (fun _=>some true) (GB c) ρ=some ((iZ (fun k=>dr ns (a+c+((k:Nat):Int)) 4) 0 mine).map bH):=by
  simp only[ak,hi,Option.bind_some,dQ,List.map_cons,List.map_nil,h0,h1,List.replicate,List.cons_append,List.nil_append,JV c hl]
  exact aS (by rw[List.length_map,gZ];omega)
 simp only[bb,aa,ae,cf,hc,Option.map_some,Option.bind_some,bG,cT,oneOf,fM]
theorem ah {g1 g2:ai->Option Out}{ρ ρ':ai}(h:g1 ρ=some (.nx ρ')):av g1 g2 ρ=g2 ρ':=by
 simp only[av,h,Option.bind_some]
theorem aL {g:ai->Option Out}{n:Nat}{args:List D}{d:D}(h:g (args.map Slot.val++List.replicate (n - args.length) .non)=some (.rt d)):aZ g n args=some d:=by
 simp only[aZ,h,Option.map_some]
theorem hV {g:D->D->Option D}{fa fb:Dl.Env->Option D}{ρ:Dl.Env}{a b:D}(ha:fa ρ=some a) (hb:fb ρ=some b):f2 g fa fb ρ=g a b:=by
 simp only[f2,ha,hb,Option.bind_some]
theorem II {ns:List Int}{a mo:Int}{m s:Nat}(m1:m<=3) (s1:s<=3):f2 dU (ab 5) (ab 6) (bJ (st ns a mo m s .non (.own []) .non .non .non .non))=some (.int ((m * s:Nat):Int)):=by
 have h:Dl.dU (.int (m:Int)) (.int (s:Int))=some (.int ((m:Int) * (s:Int))):=eJ (ki (by omega))
 rw[hV (a:=.int (m:Int)) (b:=.int (s:Int)) rfl rfl,h,Int.natCast_mul]
theorem Hw {ns:List Int}{a mo:Int}{m s:Nat}(m1:m<=3) (s1:s<=3) (hms:m * s<=9) {W:List Wy}{t8:Slot}(e: eQ (uv 8) lB ((List.range' 0 (m * s)).map fun i=>PyData.int ((i:Nat):Int)) (st ns a mo m s .non (.own (([]:List Wy).map aq)) .non .non .non .non)=some (.nx (st ns a mo m s .non (.own (W.map aq)) t8 .non .non .non))):dz [5,6] (bQ (aa (f2 dU (ab 5) (ab 6)) ae)) (uv 8) lB (st ns a mo m s .non (.own []) .non .non .non .non)=some (.nx (st ns a mo m s .non (.own (W.map aq)) t8 .non .non .non)):=by
 have hh:hand [5,6] 0 (st ns a mo m s .non (.own []) .non .non .non .non)=st ns a mo m s .non (.own []) .non .non .non .non:=rfl
 have hr:=sM (fi:=f2 dU (ab 5) (ab 6)) (ρ:=bJ (st ns a mo m s .non (.own []) .non .non .non .non)) (m * s) (by omega) (II m1 s1)
 rw[List.range_eq_range'] at hr
 rw[List.map_nil] at e
 simp only[dz,hh,hr,Option.bind_some]
 exact e
structure LW (mo:Int) (G T:List Pl) (W:List Wy):Prop where
 g3:G.length<=3
 t3:T.length<=3
 w2:∀w∈W,w.2.2<=2
 ga:∀p∈G,p.1<=3
 ta:∀p∈T,p.1<=3
 wm:(W.length:Int)<=mo
theorem sX {ns:List Int}{a mo:Int}(hl:ns.length<=63) (hmo:3 < mo) (c:dr ns (a+64) 4=0):∃G T W,bM [cm ns,.int a,.int mo]=some (aw G T W)/\Wd G T W/\LW mo G T W:=by
 have e64:=rf (ns:=ns) (a+64) 4 hl (by decide)
 have e65:=fK (ns:=ns) (a+65) 2 hl (by decide)
 refine⟨_,_,_,?_,Ah (c:=1+dr ns (a+65) 2) (by omega) (by omega),⟨by simp,by simp,by decide,fun p hp=>?_,fun p hp=>?_,by simp;omega⟩⟩
 rotate_left
 ·simp only[List.mem_cons,List.not_mem_nil,or_false] at hp;rcases hp with rfl|rfl<;>(simp only;omega)
 ·simp only[List.mem_cons,List.not_mem_nil,or_false] at hp;rcases hp with rfl|rfl<;>(simp only;omega)
 have s1:Dl.ay 3 [0,1] (f2 aA (fC (.int 1)) (ag 3 aj (aa (ab 0) (aa (f2 aA (ab 1) (fC (.int 65))) (aa (fC (.int 2)) ae))))) [.val (cm ns),.val (.int a),.val (.int mo),.non,.non,.non,.non,.non,.non,.non,.non,.non]=some (.nx [.val (cm ns),.val (.int a),.val (.int mo),.val (.int (1+dr ns (a+65) 2)),.non,.non,.non,.non,.non,.non,.non,.non]) :=
  bK (d:=.int (1+dr ns (a+65) 2)) (by simp! [e65.1]) rfl
 generalize 1+dr ns (a+65) 2=x at *
 have s2:Dl.ay 4 [3] (aF (aa (aF (aa (ab 3) (aa (aF (aa (fC (.int 1)) (aa (fC (.int 0)) ae))) ae))) (aa (aF (aa (ab 3) (aa (aF (aa (fC (.int 0)) (aa (fC (.int 1)) ae))) ae))) ae))) [.val (cm ns),.val (.int a),.val (.int mo),.val (.int x),.non,.non,.non,.non,.non,.non,.non,.non]=some (.nx [.val (cm ns),.val (.int a),.val (.int mo),.val (.int x),.val (.tuple [bH (x,[1,0]),bH (x,[0,1])]),.non,.non,.non,.non,.non,.non,.non]) :=
  bW (d:=.tuple [bH (x,[1,0]),bH (x,[0,1])]) (by simp! [wR];rfl) rfl rfl rfl
 simp! [bM,dM,eu,e64,c,cF,decide_true,gf,show decide ((3:Int) < mo)=true from decide_eq_true hmo,s1,s2,wR,yk,show ∀a b c d:D,small [a,b,c,d]=some [a,b,c,d] from fun _ _ _ _=>rfl]
 rfl
theorem tj {ns:List Int}{a mo:Int}(hl:ns.length<=63) (hm0:0<=mo) (c:¬ (3 < mo/\dr ns (a+64) 4=0)):∃G T W,bM [cm ns,.int a,.int mo]=some (aw G T W)/\Wd G T W/\LW mo G T W:=by
 have e64:=rf (ns:=ns) (a+64) 4 hl (by decide)
 have em:=fK (ns:=ns) a 3 hl (by decide)
 have es:=fK (ns:=ns) (a+1) 3 hl (by decide)
 obtain⟨m,hm⟩:=Int.eq_ofNat_of_zero_le (show 0<=1+dr ns a 3 by omega)
 obtain⟨s,hs⟩:=Int.eq_ofNat_of_zero_le (show 0<=1+dr ns (a+1) 3 by omega)
 have m1:1<=m/\m<=3:=by omega
 have s1:1<=s/\s<=3:=by omega
 have hs':(s:Int)=1\/(s:Int)=2\/(s:Int)=3:=by omega
 have hm':(m:Int)=1\/(m:Int)=2\/(m:Int)=3:=by omega
 have t5:Dl.ay 5 [0,1] (f2 aA (fC (.int 1)) (ag 3 aj (aa (ab 0) (aa (ab 1) (aa (fC (.int 3)) ae))))) [.val (cm ns),.val (.int a),.val (.int mo),.non,.non,.non,.non,.non,.non,.non,.non,.non]=some (.nx [.val (cm ns),.val (.int a),.val (.int mo),.non,.non,.val (.int (m:Nat)),.non,.non,.non,.non,.non,.non]) :=
  bK (d:=.int (m:Nat)) (by simp! [em.1,hm]) rfl
 have t6:Dl.ay 6 [0,1] (f2 aA (fC (.int 1)) (ag 3 aj (aa (ab 0) (aa (f2 aA (ab 1) (fC (.int 1))) (aa (fC (.int 3)) ae))))) [.val (cm ns),.val (.int a),.val (.int mo),.non,.non,.val (.int (m:Nat)),.non,.non,.non,.non,.non,.non]=some (.nx (st ns a mo m s .non .non .non .non .non .non)) :=
  bK (d:=.int (s:Nat)) (by simp! [es.1,hs]) rfl
 have t7:aK 7 [] (cN ae) (st ns a mo m s .non .non .non .non .non .non)=some (.nx (st ns a mo m s .non (.own []) .non .non .non .non)):=by
  simp only[aK,k7,cN,ae,Option.bind_some,ik,Option.map_some,List.set_cons_succ,List.set_cons_zero]
 have hms:m * s<=9:=Nat.mul_le_mul m1.2 s1.2
 have hms1:1<=m * s:=Nat.mul_le_mul m1.1 s1.1
 obtain⟨W,t8,e,h8,I⟩:=BD (ns:=ns) (a:=a) (m:=m) (s:=s) hl hs' (m * s) 0 (W:=[]) (x8:=.non) (by omega) (mo:=mo) ⟨fun w hw=>(by cases hw),List.Pairwise.nil,by decide,hm0⟩
 rw[Nat.zero_add] at I
 obtain⟨d8,rfl⟩:∃d,t8=.val d:=h8.elim (fun z=>by omega) id
 have hlen9:W.length<=9:=by have:=I.len;omega
 have tf:=Hw m1.2 s1.2 hms e
 unfold lB at tf
 have hwl:W.length<=20:=by omega
 have wr:∀w∈W,(0<=w.1/\w.1 < m)/\(0<=w.2.1/\w.2.1 < s)/\1<=w.2.2/\w.2.2<=9:=fun w hw=>by
  obtain⟨j,j0,jk,ea,b,c1,c2⟩:=I.mem w hw
  have:=IF hs' hm' j0 (by rw[<- Int.natCast_mul];exact jk)
  rw[ea,b]
  exact⟨this.1,this.2,c1,by omega⟩
 have lenG:∀r∈j8 W m,r.length<=1000:=fun r hr=>by
  obtain⟨i,_,rfl⟩:=List.mem_map.mp hr
  rw[yG,List.length_map]
  exact Nat.le_trans (List.length_filter_le _ _) (by omega)
 have lenT:∀r∈j6 W s,r.length<=1000:=fun r hr=>by
  obtain⟨i,_,rfl⟩:=List.mem_map.mp hr
  rw[ofT,List.length_map]
  exact Nat.le_trans (List.length_filter_le _ _) (by omega)
 obtain⟨mine,om,pm⟩:=u3 (ns:=ns) (a:=a+24) (rows:=j8 W m) hl lenG (by rw[j8,List.length_map,List.length_range];omega)
 obtain⟨yours,oy,py⟩:=u3 (ns:=ns) (a:=a+40) (rows:=j6 W s) hl lenT (by rw[j6,List.length_map,List.length_range];omega)
 have lm:mine.length<=1000:=by rw[d4 pm,j8,List.length_map,List.length_range];omega
 have ly:yours.length<=1000:=by rw[d4 py,j6,List.length_map,List.length_range];omega
 have t9:Dl.ay 9 [0,1,5,7] (ag 3 bA (aa (ab 0) (aa (f2 aA (ab 1) (fC (.int 24))) (aa (cf (ak 1 [7] (bQ (aa (ab 5) ae)) (fG 0) (fun _=>some true) (cf (ak 1 [0] (aQ (ab 1)) (fG 0) (fB (f2 bI (f2 ao (ab 0) (fC (.int 0))) (ab 1))) (f2 ao (ab 0) (fC (.int 1))))))) ae)))) (st ns a mo m s .non (.own (W.map aq)) (.val d8) .non .non .non)=some (.nx (st ns a mo m s .non (.val (.list (W.map aq))) (.val d8) (.val (.list (mine.map af))) .non .non)):=by
  refine (bW (ρ':=st ns a mo m s .non (.val (.list (W.map aq))) (.val d8) .non .non .non) (d:=.list (mine.map af)) ?_ rfl rfl ?_).trans rfl
  ·have q:=FP (ρ:=bc (st ns a mo m s .non (.own (W.map aq)) (.val d8) .non .non .non)) (i5:=5) (i7:=7) hwl (show m<=1000 by omega) rfl rfl
   simp only[ag,aa,ae,cf,q,Option.map_some,Option.bind_some]
   simp! [om]
  ·simp only[st,bJ,bc,List.map_cons,List.map_nil];rfl
 have t10:Dl.ay 10 [0,1,6,7] (ag 3 bA (aa (ab 0) (aa (f2 aA (ab 1) (fC (.int 40))) (aa (cf (ak 1 [7] (bQ (aa (ab 6) ae)) (fG 0) (fun _=>some true) (cf (ak 1 [0] (aQ (ab 1)) (fG 0) (fB (f2 bI (f2 ao (ab 0) (fC (.int 1))) (ab 1))) (f2 ao (ab 0) (fC (.int 0))))))) ae)))) (st ns a mo m s .non (.val (.list (W.map aq))) (.val d8) (.val (.list (mine.map af))) .non .non)=some (.nx (st ns a mo m s .non (.val (.list (W.map aq))) (.val d8) (.val (.list (mine.map af))) (.val (.list (yours.map af))) .non)):=by
  refine (bW (ρ':=st ns a mo m s .non (.val (.list (W.map aq))) (.val d8) (.val (.list (mine.map af))) .non .non) (d:=.list (yours.map af)) ?_ rfl ?_ ?_).trans rfl
  ·have q:=EY (ρ:=bc (st ns a mo m s .non (.val (.list (W.map aq))) (.val d8) (.val (.list (mine.map af))) .non .non)) (i5:=6) (i7:=7) hwl (show s<=1000 by omega) rfl rfl
   simp only[ag,aa,ae,cf,q,Option.map_some,Option.bind_some]
   simp! [oy]
  ·rfl
  ·simp only[st,bJ,bc,List.map_cons,List.map_nil];rfl
 have t11:Dl.ay 11 [0,1,8,9] (bb bG (aa (cf (ak 2 [0,1] (ba (aa (ab 9) ae)) (fY 0 1) (fun _=>some true) (GB 56))) ae)) (st ns a mo m s .non (.val (.list (W.map aq))) (.val d8) (.val (.list (mine.map af))) (.val (.list (yours.map af))) .non)=some (.nx (st ns a mo m s .non (.val (.list (W.map aq))) (.val d8) (.val (.list (mine.map af))) (.val (.list (yours.map af))) (.val (.tuple ((iZ (fun k=>dr ns (a+56+((k:Nat):Int)) 4) 0 mine).map bH))))):=by
  refine (bW (ρ':=st ns a mo m s .non (.val (.list (W.map aq))) (.val d8) (.val (.list (mine.map af))) (.val (.list (yours.map af))) .non) (vj hl lm rfl rfl rfl) rfl rfl ?_).trans rfl
  simp only[st,bJ,bc,List.map_cons,List.map_nil];rfl
 have t4:∀G:D,Dl.ay 4 [0,1,8,10] (bb bG (aa (cf (ak 2 [0,1] (ba (aa (ab 10) ae)) (fY 0 1) (fun _=>some true) (GB 60))) ae)) (st ns a mo m s .non (.val (.list (W.map aq))) (.val d8) (.val (.list (mine.map af))) (.val (.list (yours.map af))) (.val G))=some (.nx (st ns a mo m s (.val (.tuple ((iZ (fun k=>dr ns (a+60+((k:Nat):Int)) 4) 0 yours).map bH))) (.val (.list (W.map aq))) (.val d8) (.val (.list (mine.map af))) (.val (.list (yours.map af))) (.val G))):=fun G=>by
  refine (bW (ρ':=st ns a mo m s .non (.val (.list (W.map aq))) (.val d8) (.val (.list (mine.map af))) (.val (.list (yours.map af))) (.val G)) (vj hl ly rfl rfl rfl) rfl rfl ?_).trans rfl
  simp only[st,bJ,bc,List.map_cons,List.map_nil];rfl
 refine⟨_,_,W,?_,EK (f:=fun k=>dr ns (a+56+((k:Nat):Int)) 4) (g:=fun k=>dr ns (a+60+((k:Nat):Int)) 4) m1.1 (by omega) s1.1 (by omega) (fun k=>?_) (fun k=>?_) pm py wr I.ris (by omega),⟨by rw[gZ,d4 pm,j8,List.length_map,List.length_range];omega,by rw[gZ,d4 py,j6,List.length_map,List.length_range];omega,fun w hw=>(by obtain⟨j,_,_,_,_,_,z⟩:=I.mem w hw;exact z),fun p hp=>?_,fun p hp=>?_,I.lem⟩⟩
 ·unfold GB at t11 t4
  have tA:∀g,fq (f9 (fB (f2 sS (ab 2) (fC (.int 3)))) (fB (f2 bI (ag 3 aj (aa (ab 0) (aa (f2 aA (ab 1) (fC (.int 64))) (aa (fC (.int 4)) ae)))) (fC (.int 0))))) g f7 [.val (cm ns),.val (.int a),.val (.int mo),.non,.non,.non,.non,.non,.non,.non,.non,.non]=some (.nx [.val (cm ns),.val (.int a),.val (.int mo),.non,.non,.non,.non,.non,.non,.non,.non,.non]):=fun g=>by
   by_cases c1:3 < mo
   ·have c2:¬ dr ns (a+64) 4=0:=fun z=>c ⟨c1,z⟩
    simp! [eu,e64,c1,c2,cF,decide_false,decide_true,gf,Bool.false_eq_true]
   ·simp! [eu,c1,decide_false,gf,Bool.false_eq_true]
  refine aL ?_
  show dM [.val (cm ns),.val (.int a),.val (.int mo),.non,.non,.non,.non,.non,.non,.non,.non,.non]=_
  unfold dM
  rw[ah (tA _),ah t5,ah t6,ah t7,ah tf,ah t9,ah t10,ah t11,ah (t4 _)]
  simp! [yk,aw]
 ·have q:=fK (ns:=ns) (a+56+((k:Nat):Int)) 4 hl (by decide)
  exact⟨q.2.1,by omega⟩
 ·have q:=fK (ns:=ns) (a+60+((k:Nat):Int)) 4 hl (by decide)
  exact⟨q.2.1,by omega⟩
 ·obtain⟨i,hi⟩:=List.getElem?_of_mem hp
  obtain⟨r,_,rfl⟩:=hX _ hi
  have q:=fK (ns:=ns) (a+56+((0+i:Nat):Int)) 4 hl (by decide)
  simp only;omega
 ·obtain⟨i,hi⟩:=List.getElem?_of_mem hp
  obtain⟨r,_,rfl⟩:=hX _ hi
  have q:=fK (ns:=ns) (a+60+((0+i:Nat):Int)) 4 hl (by decide)
  simp only;omega
theorem wk {ns:List Int}{a mo:Int}(hl:ns.length<=63) (hm0:0<=mo):∃G T W,bM [cm ns,.int a,.int mo]=some (aw G T W)/\Wd G T W/\LW mo G T W:=by
 by_cases c:3 < mo/\dr ns (a+64) 4=0
 ·exact sX hl c.1 c.2
 ·exact tj hl hm0 c
noncomputable def sI (b:Bool):Int:=if b then 1 else 0
noncomputable def aG (b:Bool) (w:Wy):Int:=if b then w.2.1 else w.1
noncomputable def bX (b:Bool) (w:Wy):Int:=aG (!b) w
noncomputable def br (b:Bool) (G T:List Pl):List Pl:=if b then T else G
theorem k8 (b:Bool) (G T:List Pl) (W:List Wy):ao (aw G T W) (.int (sI b))=some (.tuple ((br b G T).map bH)):=by cases b<;>rfl
theorem lN (G T:List Pl) (W:List Wy):ao (aw G T W) (.int 2)=some (.tuple (W.map aq)):=rfl
theorem nN (b:Bool) (w:Wy):ao (aq w) (.int (sI b))=some (.int (aG b w)):=by cases b<;>rfl
theorem Eh (b:Bool) (w:Wy):ao (aq w) (.int (1 - sI b))=some (.int (bX b w)):=by cases b<;>rfl
theorem yU (w:Wy):ao (aq w) (.int 2)=some (.int w.2.2):=rfl
theorem E6 (p:Pl):ao (bH p) (.int 0)=some (.int p.1):=rfl
theorem F0 (p:Pl):ao (bH p) (.int 1)=some (af p.2):=rfl
theorem n5 {ds:List D}{i:Nat}{d:D}(h:ds[i]?=some d):ao (.tuple ds) (.int ((i:Nat):Int))=some d:=by
 show sV ds (i:Nat)=_
 exact tX h
theorem Ii {ds:List D}{i:Nat}{d:D}(h:ds[i]?=some d):ao (.list ds) (.int ((i:Nat):Int))=some d:=by
 show sV ds (i:Nat)=_
 exact tX h
theorem mv {α:Type}{f:α->D}{l:List α}{i:Nat}{x:α}(h:l[i]?=some x):ao (.tuple (l.map f)) (.int ((i:Nat):Int))=some (f x):=n5 (by rw[List.getElem?_map,h];rfl)
theorem F7 {α:Type}{f:α->D}{l:List α}{i:Nat}{x:α}(h:l[i]?=some x):ao (.list (l.map f)) (.int ((i:Nat):Int))=some (f x):=Ii (by rw[List.getElem?_map,h];rfl)
noncomputable def JH (b:Bool) (W:List Wy) (p:Int):List Int:=(W.filter fun w=>decide (aG b w=p)).map (bX b)
theorem Wd.lik {G T:List Pl}{W:List Wy}(h:Wd G T W) {b:Bool}{i:Nat}{p:Pl}(e:(br b G T)[i]?=some p):p.2.Perm (JH b W i):=by
 cases b
 ·exact h.gl i p e
 ·exact h.tl i p e
theorem Wd.nod {G T:List Pl}{W:List Wy}(h:Wd G T W) (b:Bool) (i:Int):(JH b W i).Nodup:=by
 cases b
 ·exact rl h.wp i
 ·exact rQ h.wp i
theorem oJ {tt:Dl.Env->Option Bool}{te:Dl.Env->Option D}{r:List (Option D)}{p:Nat->D->Bool}{h:Nat->D->D}:∀ {ds:List D}{k:Nat},
  (∀i d,ds[i]?=some d->tt (some (.int ((k+i:Nat):Int))::some d::r)=some (p (k+i) d)/\(p (k+i) d=true->te (some (.int ((k+i:Nat):Int))::some d::r)=some (h (k+i) d))) ->
  b0 (fY 0 1) tt te (none::none::r) (bu k ds)=some (((ds.zipIdx k).filter fun q=>p q.2 q.1).map fun q=>h q.2 q.1)
 | [],k,_=>rfl
 | d::ds,k,hh=>by
  obtain⟨h1,h2⟩:=hh 0 d rfl
  have ih:=oJ (ds:=ds) (k:=k+1) fun i x hx=>by
   have:=hh (i+1) x (by simpa using hx)
   rw[show k+1+i=k+(i+1) by omega]
   exact this
  have hg:fY 0 1 (none::none::r) (.tuple [.int ((k:Nat):Int),d])=some (some (.int ((k:Nat):Int))::some d::r):=by
   simp only[fY,isFree,List.getElem?_cons_zero,List.getElem?_cons_succ,Option.getD_some,Option.isNone_none,and_self,if_true,List.set_cons_zero,List.set_cons_succ]
  rw[bu,b0,hg,List.zipIdx_cons]
  simp only[Nat.add_zero] at h1 h2
  simp only[Option.bind_some,h1]
  cases hp:p k d with
  | true=>simp[h2 hp,ih,hp]
  | false=>simp[ih,hp]
theorem AY {cs:List Nat}{fi:Dl.Env->Option (List D)}{tt:Dl.Env->Option Bool}{te:Dl.Env->Option D}{ρ:Dl.Env}{ds:List D}{p:Nat->D->Bool}{h:Nat->D->D}(hfi:fi ρ=some (bu 0 ds)) (hl:ds.length<=1000)
  (hh:∀i d,ds[i]?=some d->tt (some (.int ((i:Nat):Int))::some d::cs.map fun j=>(ρ[j]?).getD none)=some (p i d)/\(p i d=true->te (some (.int ((i:Nat):Int))::some d::cs.map fun j=>(ρ[j]?).getD none)=some (h i d))) :
  ak 2 cs fi (fY 0 1) tt te ρ=some ((ds.zipIdx.filter fun q=>p q.2 q.1).map fun q=>h q.2 q.1):=by
 have:=oJ (tt:=tt) (te:=te) (r:=cs.map fun j=>(ρ[j]?).getD none) (p:=p) (h:=h) (ds:=ds) (k:=0) (by simpa using hh)
 simp only[ak,hfi,Option.bind_some,dQ,List.replicate,List.cons_append,List.nil_append,this]
 refine aS ?_
 rw[List.length_map]
 refine Nat.le_trans (List.length_filter_le _ _) ?_
 rw[List.length_zipIdx]
 omega
theorem gy {α:Type}(f:α->Int):∀ {l m:List α},l.Perm m->(l.Pairwise fun a b=>f a<=f b)->(m.Pairwise fun a b=>f a < f b)->l=m
 | l,[],hp,_,_=>hp.eq_nil
 | [],x::m,hp,_,_=>absurd hp.symm.eq_nil (by simp)
 | y::l,x::m,hp,h1,h2=>by
  rw[List.pairwise_cons] at h1 h2
  have e:y=x:=by
   have hx:x∈y::l:=hp.mem_iff.mpr List.mem_cons_self
   rcases List.mem_cons.mp hx with z|hx
   ·exact z.symm
   ·have hy:y∈x::m:=hp.mem_iff.mp List.mem_cons_self
    rcases List.mem_cons.mp hy with z|hy
    ·exact z
    ·have:=h1.1 x hx
     have:=h2.1 y hy
     omega
  subst e
  rw[gy f ((List.perm_cons y).mp hp) h1.2 h2.2]
theorem o9 {α:Type}(z:Nat->Int) (l:List α) (d:α) (f:α->Int) (h:∀i,i < l.length->z i=f (l.getD i d)):(nK z l d).Pairwise fun a b=>f a<=f b:=by
 unfold nK
 split
 ·rename_i hl
  match l,hl with
  | [],_=>exact List.Pairwise.nil
  | [a],_=>exact List.pairwise_singleton _ _
 ·rename_i hl
  obtain⟨hp,hs⟩:=SP.gv (z:=z) (n:=l.length) (by omega)
  rw[List.pairwise_map] at hs ⊢
  refine hs.imp_of_mem fun {i j} hi hj hij=>?_
  have hi':i < l.length:=by have:=hp.mem_iff.mp hi;simpa using this
  have hj':j < l.length:=by have:=hp.mem_iff.mp hj;simpa using this
  rw[<- h i hi',<- h j hj']
  exact hij
noncomputable def au (W:List Wy) (i:Nat):Wy:=W.getD i (0,0,0)
theorem gF {W:List Wy}{k:Nat}(hk:k < W.length):W[k]=au W k:=by simp[au,hk]
theorem iD {W:List Wy}{k:Nat}(hk:k < W.length):W[k]?=some (au W k):=by rw[List.getElem?_eq_getElem hk,gF hk]
noncomputable def own (b:Bool) (W:List Wy) (p:Int):List Nat:=(List.range W.length).filter fun i=>decide (aG b (au W i)=p)
noncomputable def nr (b:Bool) (W:List Wy) (p o:Int):Nat:=W.findIdx fun w=>decide (aG b w=p)&&decide (bX b w=o)
noncomputable def d0 (b:Bool) (W:List Wy) (p:Int) (L:List Int):List Nat:=L.map (nr b W p)
theorem ck {b:Bool}{W:List Wy}{p:Int}{i:Nat}:i∈own b W p↔i < W.length/\aG b (au W i)=p:=by simp[own]
theorem map_range {α β:Type}(d:α) (f:α->β) (l:List α):(List.range l.length).map (fun i=>f (l.getD i d))=l.map f:=by
 apply List.ext_getElem
 ·simp
 ·intro i h1 h2
  have:i < l.length:=by simpa using h2
  simp[this]
theorem tN {α:Type}(d:α) (q:α->Bool):∀ (l:List α),((List.range l.length).filter fun i=>q (l.getD i d)).map (fun i=>l.getD i d)=l.filter q:=by
 intro l
 have e:l=(List.range l.length).map fun i=>l.getD i d:=by
  have:=map_range d (fun x=>x) l
  simp at this
  simpa using this.symm
 conv=>rhs;rw[e]
 rw[List.filter_map]
 rfl
theorem jQ (b:Bool) (W:List Wy) (p:Int):(own b W p).map (fun i=>bX b (au W i))=JH b W p:=by
 unfold own JH au
 rw[<- tN (0,0,0) (fun w=>decide (aG b w=p)) W,List.map_map]
 rfl
theorem nU {W:List Wy}(h:wI W) {i j:Nat}(hi:i < W.length) (hj:j < W.length) (h1:(au W i).1=(au W j).1) (h2:(au W i).2.1=(au W j).2.1):i=j:=by
 have e:∀k,k < W.length->W[k]?=some (au W k):=fun k hk=>by simp[au,hk]
 rcases Nat.lt_trichotomy i j with z|z|z
 ·have:=List.pairwise_iff_getElem.mp h i j hi hj z
  have a:=e i hi
  have b:=e j hj
  rw[List.getElem?_eq_getElem hi] at a
  rw[List.getElem?_eq_getElem hj] at b
  rw[Option.some.inj a,Option.some.inj b] at this
  rcases this with z|z<;>omega
 ·exact z
 ·have:=List.pairwise_iff_getElem.mp h j i hj hi z
  have a:=e i hi
  have b:=e j hj
  rw[List.getElem?_eq_getElem hi] at a
  rw[List.getElem?_eq_getElem hj] at b
  rw[Option.some.inj a,Option.some.inj b] at this
  rcases this with z|z<;>omega
theorem u4 {W:List Wy}(h:wI W) {b:Bool}{i j:Nat}(hi:i < W.length) (hj:j < W.length) (h1:aG b (au W i)=aG b (au W j)) (h2:bX b (au W i)=bX b (au W j)):i=j:=by
 cases b
 ·exact nU h hi hj h1 h2
 ·exact nU h hi hj h2 h1
theorem sH {W:List Wy}(h:wI W) {b:Bool}{p:Int}{i:Nat}(hi:i∈own b W p):nr b W p (bX b (au W i))=i:=by
 obtain⟨hl,he⟩:=ck.mp hi
 have hw:W[i]=au W i:=by simp[au,hl]
 unfold nr
 have hlt:W.findIdx (fun w=>decide (aG b w=p)&&decide (bX b w=bX b (au W i))) < W.length:=by
  apply List.findIdx_lt_length_of_exists
  exact⟨W[i],List.getElem_mem _,by rw[hw];simp[he]⟩
 have hq:=List.findIdx_getElem (w:=hlt)
 rw[Bool.and_eq_true,decide_eq_true_eq,decide_eq_true_eq] at hq
 rw[gF hlt] at hq
 exact u4 h hlt hl (by rw[hq.1,he]) hq.2
theorem eF {G T:List Pl}{W:List Wy}(h:Wd G T W) {b:Bool}{i:Nat}{p:Pl}(e:(br b G T)[i]?=some p):(d0 b W i p.2).Perm (own b W i):=by
 have h1:=(h.lik e).map (nr b W i)
 rw[<- jQ b W i,List.map_map] at h1
 have e2:(own b W i).map (nr b W i ∘ fun j=>bX b (au W j))=own b W i:=by
  conv=>rhs;rw[<- List.map_id (own b W i)]
  exact List.map_congr_left fun j hj=>sH h.wp hj
 rw[e2] at h1
 exact h1
theorem lC {G T:List Pl}{W:List Wy}(h:Wd G T W) {b:Bool}{i:Nat}{p:Pl}(e:(br b G T)[i]?=some p) {o:Int}(ho:o∈p.2):nr b W i o < W.length/\aG b (au W (nr b W i o))=i/\bX b (au W (nr b W i o))=o:=by
 have hm:=(h.lik e).mem_iff.mp ho
 rw[<- jQ b W i] at hm
 obtain⟨j,hj,rfl⟩:=List.mem_map.mp hm
 rw[sH h.wp hj]
 obtain⟨h1,h2⟩:=ck.mp hj
 exact⟨h1,h2,rfl⟩
noncomputable def kD (b:Bool) (W:List Wy) (L:List Int) (d:D):Int:=(L.findIdx fun o=>decide (o=bX b (au W (ip d).toNat)):Nat)
theorem mn:∀ {L:List Int}{x:Int},x∈L->wo x L=some (L.findIdx fun o=>decide (o=x))
 | [],x,h=>by cases h
 | o::L,x,h=>by
  unfold wo
  by_cases e:o=x
  ·simp[e,List.findIdx_cons]
  ·rw[if_neg e]
   have hx:x∈L:=(List.mem_cons.mp h).resolve_left fun z=>e z.symm
   rw[mn hx]
   simp[List.findIdx_cons,e]
theorem B0 {G T:List Pl}{W:List Wy}(h:Wd G T W) {b:Bool}{i:Nat}{p:Pl}(e:(br b G T)[i]?=some p) (z:Nat->Int) (hz:∀j,j < (own b W i).length->z j=kD b W p.2 (((own b W i).map fun n=>PyData.int ((n:Nat):Int)).getD j .none)) :
  nK z ((own b W i).map fun n=>PyData.int ((n:Nat):Int)) .none=(d0 b W i p.2).map fun n=>PyData.int ((n:Nat):Int):=by
 refine gy (kD b W p.2) ((fy _ _ _).trans ((eF h e).symm.map _)) (o9 z _ _ _ fun j hj=>hz j (by simpa using hj)) ?_
 have hn:p.2.Nodup:=(h.lik e).nodup_iff.mpr (h.nod b i)
 unfold d0
 rw[List.map_map,List.pairwise_map]
 have key:∀k (hk:k < p.2.length),kD b W p.2 (PyData.int ((nr b W i p.2[k]:Nat):Int))=(k:Nat):=fun k hk=>by
  obtain⟨_,_,e3⟩:=lC h e (List.getElem_mem hk)
  unfold kD
  simp only[ip,Int.toNat_natCast,e3]
  congr 1
  rw[List.findIdx_eq (by exact hk)]
  refine⟨by simp,fun j hj=>?_⟩
  have:=List.pairwise_iff_getElem.mp hn j k (by omega) hk hj
  simpa using this
 refine List.pairwise_iff_getElem.mpr fun j k hj hk hjk=>?_
 show kD b W p.2 (PyData.int ((nr b W i p.2[j]:Nat):Int)) < kD b W p.2 (PyData.int ((nr b W i p.2[k]:Nat):Int))
 rw[key j hj,key k hk]
 omega
noncomputable abbrev nD (n:Nat):D:=.int ((n:Nat):Int)
theorem l9 {te:Dl.Env->Option D}{ρ:Dl.Env}{h:D->D}:∀ {ds:List D},(∀d∈ds,te (ρ.set 0 (some d))=some (h d))->gY te ρ ds=some (ds.map h)
 | [],_=>rfl
 | d::ds,hh=>by
  unfold gY
  rw[hh d List.mem_cons_self,Option.bind_some,l9 fun x hx=>hh x (List.mem_cons_of_mem _ hx)]
  rfl
theorem sO (b:Bool) (W:List Wy) (p:Int):(own b W p).length<=W.length:=by
 unfold own
 refine Nat.le_trans (List.length_filter_le _ _) ?_
 rw[List.length_range]
 exact Nat.le_refl _
theorem xu (b:Bool) (W:List Wy) (p:Int):(((W.map aq).zipIdx.filter fun q=>decide (aG b (au W q.2)=p)).map fun q=>nD q.2)=(own b W p).map nD:=by
 have e:(W.map aq).zipIdx=(List.range W.length).map fun i=>(aq (au W i),i):=by
  apply List.ext_getElem
  ·simp
  ·intro i h1 h2
   have:i < W.length:=by simpa using h2
   simp[gF this]
 rw[e,List.filter_map,List.map_map]
 rfl
theorem qV {G T:List Pl}{W:List Wy}(h:Wd G T W) {b:Bool}{i:Nat}{p:Pl}(e:(br b G T)[i]?=some p):dW [aw G T W,.int (sI b),nD i]=some (.list ((d0 b W i p.2).map nD)):=by
 have hw:=h.wl
 have ep:ao (.tuple ((br b G T).map bH)) (nD i)=some (bH p):=mv e
 have hl:=sO b W i
 have t3:Dl.ay 3 [0] (f2 ao (ab 0) (fC (.int 2))) [.val (aw G T W),.val (.int (sI b)),.val (nD i),.non,.non,.non]=some (.nx [.val (aw G T W),.val (.int (sI b)),.val (nD i),.val (.tuple (W.map aq)),.non,.non]) :=
  bW (d:=.tuple (W.map aq)) rfl rfl rfl rfl
 have t4:Dl.ay 4 [0,1,2] (f2 ao (f2 ao (f2 ao (ab 0) (ab 1)) (ab 2)) (fC (.int 1))) [.val (aw G T W),.val (.int (sI b)),.val (nD i),.val (.tuple (W.map aq)),.non,.non]=some (.nx [.val (aw G T W),.val (.int (sI b)),.val (nD i),.val (.tuple (W.map aq)),.val (af p.2),.non]):=by
  refine bW (d:=af p.2) ?_ rfl rfl rfl
  rw[hV (a:=bH p) (b:=.int 1) ?_ rfl,F0]
  rw[hV (a:=.tuple ((br b G T).map bH)) (b:=nD i) ?_ rfl,ep]
  rw[hV (a:=aw G T W) (b:=.int (sI b)) rfl rfl,k8]
 have c5:ak 2 [1,2] (ba (aa (ab 3) ae)) (fY 0 1) (fB (f2 bI (f2 ao (ab 1) (ab 2)) (ab 3))) (ab 0) [some (aw G T W),some (.int (sI b)),some (nD i),some (.tuple (W.map aq)),some (af p.2),none]=some ((own b W i).map nD):=by
  rw[AY (ds:=W.map aq) (p:=fun j _=>decide (aG b (au W j)=i)) (h:=fun j _=>nD j) rfl (by rw[List.length_map];omega) fun j d hd=>?_,xu]
  rw[List.getElem?_map] at hd
  obtain⟨w,hw',rfl⟩:=Dl.map_some hd
  have hj:j < W.length:=(List.getElem?_eq_some_iff.mp hw').1
  rw[iD hj] at hw'
  cases hw'
  refine⟨?_,fun _=>rfl⟩
  show fB (f2 bI (f2 ao (ab 1) (ab 2)) (ab 3)) [some (nD j),some (aq (au W j)),some (.int (sI b)),some (nD i)]=_
  simp only[fB]
  rw[hV (a:=.int (aG b (au W j))) (b:=nD i) (by rw[hV (a:=aq (au W j)) (b:=.int (sI b)) rfl rfl,nN]) rfl,cF]
  rfl
 have t5:aK 5 [1,2,3] (ak 2 [1,2] (ba (aa (ab 3) ae)) (fY 0 1) (fB (f2 bI (f2 ao (ab 1) (ab 2)) (ab 3))) (ab 0)) [.val (aw G T W),.val (.int (sI b)),.val (nD i),.val (.tuple (W.map aq)),.val (af p.2),.non]=some (.nx [.val (aw G T W),.val (.int (sI b)),.val (nD i),.val (.tuple (W.map aq)),.val (af p.2),.own ((own b W i).map nD)]):=by
  have hh:hand [1,2,3] 0 [Slot.val (aw G T W),.val (.int (sI b)),.val (nD i),.val (.tuple (W.map aq)),.val (af p.2),.non]=[Slot.val (aw G T W),.val (.int (sI b)),.val (nD i),.val (.tuple (W.map aq)),.val (af p.2),.non]:=rfl
  simp only[aK,hh,bJ,List.map_cons,List.map_nil,Slot.frz,c5,Option.map_some,List.set_cons_succ,List.set_cons_zero]
 have hk:gY (f2 nA (ab 3) (f2 ao (f2 ao (ab 2) (ab 0)) (f2 Dl.gK (fC (.int 1)) (ab 1)))) [none,some (.int (sI b)),some (.tuple (W.map aq)),some (af p.2)] ((own b W i).map nD)=some (((own b W i).map nD).map fun d=>.int (kD b W p.2 d)):=by
  refine l9 fun d hd=>?_
  obtain⟨j,hj,rfl⟩:=List.mem_map.mp hd
  obtain⟨hjl,hje⟩:=ck.mp hj
  show f2 nA (ab 3) (f2 ao (f2 ao (ab 2) (ab 0)) (f2 Dl.gK (fC (.int 1)) (ab 1))) [some (nD j),some (.int (sI b)),some (.tuple (W.map aq)),some (af p.2)]=_
  have ew:ao (.tuple (W.map aq)) (nD j)=some (aq (au W j)):=mv (iD hjl)
  rw[hV (a:=af p.2) (b:=.int (bX b (au W j))) rfl ?_]
  ·have hm:bX b (au W j)∈p.2:=(h.lik e).mem_iff.mpr (by rw[<- jQ];exact List.mem_map.mpr ⟨j,hj,rfl⟩)
   simp only[nA,af,cJ,Option.bind_some,mn hm,Option.map_some,kD,ip,Int.toNat_natCast]
   first|rfl|(congr 3;funext o;congr)
  ·rw[hV (a:=aq (au W j)) (b:=.int (1 - sI b)) ?_ ?_,Eh]
   ·rw[hV (a:=.tuple (W.map aq)) (b:=nD j) rfl rfl,ew]
   ·rw[hV (a:=.int 1) (b:=.int (sI b)) rfl rfl,oO]
 have hi:intsOf (((own b W i).map nD).map fun d=>PyData.int (kD b W p.2 d))=some (((own b W i).map nD).map (kD b W p.2)):=by
  rw[show (((own b W i).map nD).map fun d=>PyData.int (kD b W p.2 d))=(((own b W i).map nD).map (kD b W p.2)).map PyData.int by simp only[List.map_map];rfl,cJ]
 have t6:aJ (cf (l8 [1,3,4] (ab 5) (f2 nA (ab 3) (f2 ao (f2 ao (ab 2) (ab 0)) (f2 Dl.gK (fC (.int 1)) (ab 1)))))) [.val (aw G T W),.val (.int (sI b)),.val (nD i),.val (.tuple (W.map aq)),.val (af p.2),.own ((own b W i).map nD)]=some (.rt (.list ((d0 b W i p.2).map nD))):=by
  have es:l8 [1,3,4] (ab 5) (f2 nA (ab 3) (f2 ao (f2 ao (ab 2) (ab 0)) (f2 Dl.gK (fC (.int 1)) (ab 1)))) [some (aw G T W),some (.int (sI b)),some (nD i),some (.tuple (W.map aq)),some (af p.2),some (.list ((own b W i).map nD))]=some ((d0 b W i p.2).map nD):=by
   unfold l8
   show (gY _ [none,some (.int (sI b)),some (.tuple (W.map aq)),some (af p.2)] ((own b W i).map nD)).bind _=_
   rw[hk,Option.bind_some,hi,Option.bind_some,if_pos (by rw[List.length_map];omega),B0 h e _ fun j hj=>?_]
   simp[hj]
  simp only[aJ,bc,List.map_cons,List.map_nil,sD,sd,cf,es,Option.map_some]
 refine aL ?_
 show jW [.val (aw G T W),.val (.int (sI b)),.val (nD i),.non,.non,.non]=_
 unfold jW
 rw[ah t3,ah t4,ah t5,t6]
local macro_rules|`(tactic| dsimp! [$ts,*])=>`(tactic| simp only[ab,fC,f1,f2,aa,ae,ag,bb,ma,aQ,fM,cf,fB,gB,bw,f9,ox,ba,bc,bJ,sD,sd,yx,yF,yC,yE,List.map_cons,List.map_nil,List.getElem?_cons_zero,List.getElem?_cons_succ,Option.bind_some,Option.map_some,Option.getD_some,List.length_cons,List.length_nil,Nat.reduceAdd,Nat.zero_add,reduceIte,List.set_cons_succ,List.set_cons_zero,$ts,*])
theorem jl {S α:Type}{tgt:ai->D->Option ai}{gb:ai->Option Out}(R:S->ai->Prop) (f:α->D) (st:S->α->S):∀ {l:List α}{s:S}{ρ:ai},
  (∀s ρ x,x∈l->R s ρ->∃ρ1 ρ2,tgt ρ (f x)=some ρ1/\gb ρ1=some (.nx ρ2)/\R (st s x) ρ2)->R s ρ->∃ρ',eQ tgt gb (l.map f) ρ=some (.nx ρ')/\R (l.foldl st s) ρ'
 | [],s,ρ,_,h=>⟨ρ,rfl,h⟩
 | d::ds,s,ρ,hh,h=>by
  obtain⟨ρ1,ρ2,e1,e2,h2⟩:=hh s ρ d List.mem_cons_self h
  obtain⟨ρ',e3,h3⟩:=jl R f st (fun s ρ x hx=>hh s ρ x (List.mem_cons_of_mem _ hx)) h2
  refine⟨ρ',?_,h3⟩
  rw[List.map_cons,eQ,e1,Option.bind_some,e2]
  exact e3
theorem fu {α:Type}{tgt:ai->D->Option ai}{gb:ai->Option Out}(R:ai->Prop) (f:α->D) (q:α->Bool) (out:α->D):∀ {l:List α}{ρ:ai},
  (∀ρ x,x∈l->R ρ->∃ρ1,tgt ρ (f x)=some ρ1/\(q x=true->gb ρ1=some (.rt (out x)))/\(q x=false->∃ρ2,gb ρ1=some (.nx ρ2)/\R ρ2))->R ρ ->
  (∀x,l.find? q=some x->eQ tgt gb (l.map f) ρ=some (.rt (out x)))/\(l.find? q=none->∃ρ',eQ tgt gb (l.map f) ρ=some (.nx ρ')/\R ρ')
 | [],ρ,_,h=>⟨fun x hx=>(by cases hx),fun _=>⟨ρ,rfl,h⟩⟩
 | x::l,ρ,hh,h=>by
  obtain⟨ρ1,e1,e2,e3⟩:=hh ρ x List.mem_cons_self h
  rw[List.map_cons,eQ,e1,Option.bind_some]
  cases hq:q x with
  | true =>
   rw[List.find?_cons_of_pos (by simpa using hq),e2 hq]
   exact⟨fun y hy=>(by cases hy;rfl),fun hn=>(by cases hn)⟩
  | false =>
   obtain⟨ρ2,e4,h2⟩:=e3 hq
   rw[List.find?_cons_of_neg (by simp[hq]),e4]
   exact fu R f q out (fun ρ x hx=>hh ρ x (List.mem_cons_of_mem _ hx)) h2
theorem b9 {fz:List Nat}{fi:Dl.Env->Option (List D)}{tgt:ai->D->Option ai}{gb:ai->Option Out}{ρ ρ1:ai}{ds:List D}{o:Option Out}(h:eQ tgt gb ds ρ1=o) (hi:fi (bJ ρ1)=some ds) (hh:hand fz 0 ρ=ρ1):dz fz fi tgt gb ρ=o:=by
 simp only[dz,hh,hi,Option.bind_some,h]
theorem nV {i:Nat}{fz:List Nat}{f:Dl.Env->Option (List D)}{ρ ρ':ai}{ds:List D}(hh:hand fz 0 ρ=ρ') (hf:f (bJ ρ')=some ds):aK i fz f ρ=some (.nx (ρ'.set i (.own ds))):=by
 simp only[aK,hh,hf,Option.map_some]
theorem il {i:Nat}{fz:List Nat}{f:Dl.Env->Option (List D)}{ρ:ai}{ds:List D}(hf:f (bJ ρ)=some ds) (hh:hand fz 0 ρ=ρ):aK i fz f ρ=some (.nx (ρ.set i (.own ds))):=nV hh hf
theorem ow {i:Nat}{fz:List Nat}{f:Dl.Env->Option D}{ρ ρ':ai}(hh:hand fz 0 ρ=ρ') {d:D}(hA:f (bc ρ)=some d) (hF:f (bJ ρ')=some d) (hs:Dl.kZ d=false):Dl.ay i fz f ρ=some (.nx (ρ'.set i (.val d))):=by
 simp only[Dl.ay,hA,Option.bind_some,hs,Bool.false_eq_true,if_false,hh,hF,Option.map_some]
theorem call_of {n:Nat}{m:List D->Option D}{fs:Dl.Env->Option (List D)}{ρ:Dl.Env}{ds:List D}{d:D}(h:m ds=some d) (hf:fs ρ=some ds) (hn:ds.length=n):ag n m fs ρ=some d:=by
 unfold ag
 rw[hf,Option.bind_some,if_pos hn,h]
theorem cons_of {f:Dl.Env->Option D}{fs:Dl.Env->Option (List D)}{ρ:Dl.Env}{d:D}{ds:List D}(h:f ρ=some d) (hs:fs ρ=some ds):aa f fs ρ=some (d::ds):=by
 unfold aa
 rw[h,hs]
 rfl
theorem aN {f:Dl.Env->Option D}{ρ:ai}{d:D}(hf:f (bc ρ)=some d):aJ f ρ=some (.rt d):=by
 simp only[aJ,hf,Option.map_some]
theorem dH {f:Dl.Env->Option D}{ρ:ai}{d:D}(hf:f (bc ρ)=some d):i4 f ρ=some (.nx ρ):=by
 simp only[i4,hf,Option.map_some]
theorem dm {t:Dl.Env->Option Bool}{g:ai->Option Out}{ρ:ai}(h:t (bc ρ)=some false):fq t g f7 ρ=some (.nx ρ):=by
 simp[fq,h,f7]
theorem eX {t:Dl.Env->Option Bool}{g g2:ai->Option Out}{ρ:ai}(h:t (bc ρ)=some true):fq t g g2 ρ=g ρ:=by
 simp[fq,h]
theorem iF {g1 g2:ai->Option Out}{ρ:ai}{d:D}(h:g1 ρ=some (.rt d)):av g1 g2 ρ=some (.rt d):=by
 simp only[av,h,Option.bind_some]
theorem zF {i:Nat}{fz:List Nat}{fk f:Dl.Env->Option D}{ρ:ai}{d:D}{k:Nat}{ds:List D}(hf:f (bc ρ)=some d) (hs:Dl.kZ d=true) (hk:fk (bc ρ)=some (nD k)) (ho:ρ[i]?=some (.own ds)) (hl:k < ds.length):yg i fz fk f ρ=some (.nx (ρ.set i (.own (ds.set k d)))):=by
 have hx:Eb ds.length ((k:Nat):Int)=some k:=by
  unfold Eb
  rw[if_pos (Int.natCast_nonneg k),if_pos (by omega)]
  simp
 simp only[yg,j9,hf,Option.bind_some,hs,if_true,hk,nu,ho,hx,Option.map_some]
noncomputable def lp {S:Type}(cont:S->Bool) (st:S->S):Nat->S->S
 | 0,s=>s
 | n+1,s=>if cont s=true then lp cont st n (st s) else s
theorem vC {S:Type}{t:Dl.Env->Option Bool}{gb:ai->Option Out}(R:S->ai->Prop) (cont:S->Bool) (st:S->S) (μ:S->Nat)
  (ht:∀s ρ,R s ρ->t (bc ρ)=some (cont s)) (hb:∀s ρ,R s ρ->cont s=true->∃ρ',gb ρ=some (.nx ρ')/\R (st s) ρ'/\μ (st s) < μ s) :
  ∀ (n:Nat) (s:S) (ρ:ai),μ s < n->R s ρ->∃ρ',Ee t gb n ρ=some (.nx ρ')/\R (lp cont st n s) ρ'/\cont (lp cont st n s)=false
 | 0,s,ρ,h,_=>absurd h (by omega)
 | n+1,s,ρ,h,r=>by
  rw[Ee,ht s ρ r,Option.bind_some,lp]
  cases hc:cont s with
  | false=>exact⟨ρ,by simp,by simpa [hc] using r,by simpa [hc] using hc⟩
  | true =>
   obtain⟨ρ',e,r',hm⟩:=hb s ρ r hc
   obtain⟨ρ2,e2,r2,c2⟩:=vC R cont st μ ht hb n (st s) ρ' (by omega) r'
   refine⟨ρ2,?_,by simpa [hc] using r2,by simpa [hc] using c2⟩
   simp only[if_true,e,Option.bind_some]
   exact e2
theorem dC {off:List Int}{i:Nat}(h:i < off.length):ao (af off) (nD i)=some (.int (off.getD i 0)):=mv (f:=PyData.int) (l:=off) (by simp[h])
theorem Il {off:List Int}{i:Nat}(h:i < off.length):ao (.list (off.map PyData.int)) (nD i)=some (.int (off.getD i 0)):=F7 (f:=PyData.int) (l:=off) (by simp[h])
theorem oV {W:List Wy}{i:Nat}(h:i < W.length):ao (.tuple (W.map aq)) (nD i)=some (aq (au W i)):=mv (iD h)
theorem Li (a b c:Int):wB [.int a,.int b,.int c]=some (.int (min (min a b) c)):=rfl
theorem yO (l:List Int) (k:Nat) (v:Int):(l.map PyData.int).set k (.int v)=(l.set k v).map PyData.int:=by rw[List.map_set]
theorem Fy (l:List Int):bG [.list (l.map PyData.int)]=some (af l):=rfl
theorem BE (l:List D):bG [.list l]=some (.tuple l):=rfl
theorem y1 (l:List D):bz [.tuple l]=some (nD l.length):=rfl
theorem Ed (l:List Int):bz [af l]=some (nD l.length):=by
 show some (PyData.int ((l.map PyData.int).length:Nat))=_
 rw[List.length_map]
theorem zM {n:Nat}(h:n<=1000):kl [nD n]=some ((List.range n).map nD):=by
 rw[uJ (sT h),Int.toNat_natCast]
theorem tY {fs:Dl.Env->Option (List D)}{ρ:Dl.Env}{n:Nat}(h:fs ρ=some [nD n]) (hn:n<=1000):bQ fs ρ=some ((List.range n).map nD):=by
 unfold bQ
 rw[h,Option.bind_some,zM hn]
theorem sub_int (i j:Int):Dl.gK (.int i) (.int j)=some (.int (i - j)):=oO i j
theorem zeros {fi:Dl.Env->Option (List D)}{ρ:Dl.Env}{ds:List D}(hfi:fi ρ=some ds) (hl:ds.length<=1000):ak 1 [] fi (fG 0) (fun _=>some true) (fC (.int 0)) ρ=some ((List.replicate ds.length (0:Int)).map PyData.int):=by
 rw[bU (h:=fun _=>.int 0) hfi (by omega) fun d hd=>rfl]
 simp[List.map_const']
theorem uG {ds:List D}{k:Int}(h1:uN k=true) (h2:ds.length * k.toNat<=sizeLine):wb ds (.int k)=some (List.replicate k.toNat ds).flatten:=by
 simp only[wb]
 rw[if_pos (And.intro h1 h2)]
theorem GF:∀n,(List.replicate n [PyData.int 0]).flatten=(List.replicate n (0:Int)).map PyData.int
 | 0=>rfl
 | n+1=>by rw[List.replicate_succ,List.flatten_cons,GF n,List.replicate_succ];rfl
theorem qT {r:List (Option D)}:∀ (a b:List Int),b0 (fY 0 1) (fun _=>some true) (f2 aA (ab 0) (ab 1)) (none::none::r) (gT (a.map PyData.int) (b.map PyData.int))=some ((List.zipWith (·+·) a b).map PyData.int)
 | [],b=>by cases b<;>rfl
 | x::a,[]=>rfl
 | x::a,y::b=>by
  have ih:=qT (r:=r) a b
  have hg:fY 0 1 (none::none::r) (.tuple [.int x,.int y])=some (some (.int x)::some (.int y)::r):=by
   simp only[fY,isFree,List.getElem?_cons_zero,List.getElem?_cons_succ,Option.getD_some,Option.isNone_none,and_self,if_true,List.set_cons_zero,List.set_cons_succ]
  rw[List.map_cons,List.map_cons,gT,b0,hg,Option.bind_some]
  dsimp! [eD,ih,List.zipWith_cons_cons]
theorem BQ {fi:Dl.Env->Option (List D)}{ρ:Dl.Env}{a b:List Int}(hfi:fi ρ=some (gT (a.map PyData.int) (b.map PyData.int))) (hl:a.length<=1000) :
  ak 2 [] fi (fY 0 1) (fun _=>some true) (f2 aA (ab 0) (ab 1)) ρ=some ((List.zipWith (·+·) a b).map PyData.int):=by
 have:=qT (r:=[]) a b
 simp only[ak,hfi,Option.bind_some,dQ,List.replicate,List.map_nil,List.append_nil,this]
 refine aS ?_
 rw[List.length_map,List.length_zipWith]
 omega
noncomputable def cV (W:List Wy) (off:List Int) (left:Int) (i:Nat):Int:=min (min (off.getD i 0) (au W i).2.2) left
noncomputable def i8 (W:List Wy) (off:List Int) (s:Int×List Int) (i:Nat):Int×List Int:=(s.1 - cV W off s.1 i,s.2.set i (cV W off s.1 i))
noncomputable def nR (W:List Wy) (off:List Int) (amt:Int) (is:List Nat):List Int:=(is.foldl (i8 W off) (amt,List.replicate W.length 0)).2
theorem ua (W:List Wy) (off:List Int):∀ (is:List Nat) (s:Int×List Int),(is.foldl (i8 W off) s).2.length=s.2.length
 | [],s=>rfl
 | i::is,s=>by rw[List.foldl_cons,ua W off is];simp[i8]
theorem lH (W:List Wy) (off:List Int) (amt:Int) (is:List Nat):(nR W off amt is).length=W.length:=by rw[nR,ua];simp
theorem Kr {G T:List Pl}{W:List Wy}{b:Bool}{i:Nat}{p:Pl}(e:(br b G T)[i]?=some p):ao (.tuple ((br b G T).map bH)) (nD i)=some (bH p):=mv e
theorem Hl {G T:List Pl}{W:List Wy}{off:List Int}{d1 d2:D}{s:Int×List Int}{i:Nat}(hi:i < W.length) (ho:off.length=W.length) (hs:s.2.length=W.length) :
  (av (yg 4 [0,3,5,6] (ab 6) (bb wB (aa (f2 ao (ab 3) (ab 6)) (aa (f2 ao (f2 ao (f2 ao (ab 0) (fC (.int 2))) (ab 6)) (fC (.int 2))) (aa (ab 5) ae))))) (Dl.ay 5 [4,5,6] (f2 Dl.gK (ab 5) (f2 ao (ab 4) (ab 6))))) [.val (aw G T W),.val d1,.val d2,.val (af off),.own (s.2.map PyData.int),.val (.int s.1),.val (nD i)]=some (.nx [.val (aw G T W),.val d1,.val d2,.val (af off),.own ((i8 W off s i).2.map PyData.int),.val (.int (i8 W off s i).1),.val (nD i)]):=by
 have hv:(bb wB (aa (f2 ao (ab 3) (ab 6)) (aa (f2 ao (f2 ao (f2 ao (ab 0) (fC (.int 2))) (ab 6)) (fC (.int 2))) (aa (ab 5) ae)))) (bc [.val (aw G T W),.val d1,.val d2,.val (af off),.own (s.2.map PyData.int),.val (.int s.1),.val (nD i)])=some (.int (cV W off s.1 i)):=by
  dsimp! [dC (show i < off.length by omega),lN,oV hi,yU,Li,cV]
 have t1:=zF (i:=4) (fz:=[0,3,5,6]) (fk:=ab 6) (k:=i) (ds:=s.2.map PyData.int) hv rfl rfl rfl (by rw[List.length_map];omega)
 rw[yO] at t1
 rw[ah t1]
 have hl:i < (s.2.set i (cV W off s.1 i)).length:=by rw[List.length_set];omega
 have hg:(s.2.set i (cV W off s.1 i)).getD i 0=cV W off s.1 i:=by
  have:i < s.2.length:=by omega
  simp[this]
 have hv2:(f2 Dl.gK (ab 5) (f2 ao (ab 4) (ab 6))) (bc ([.val (aw G T W),.val d1,.val d2,.val (af off),.own (s.2.map PyData.int),.val (.int s.1),.val (nD i)].set 4 (.own ((s.2.set i (cV W off s.1 i)).map PyData.int))))=some (.int (i8 W off s i).1):=by
  dsimp! [Il hl,sub_int,hg,i8]
 rw[bK hv2 rfl]
 rfl
theorem jn {G T:List Pl}{W:List Wy}{off:List Int}(h:Wd G T W) (ho:off.length=W.length) {b:Bool}{i:Nat}{p:Pl}(e:(br b G T)[i]?=some p) :
  bZ [aw G T W,.int (sI b),nD i,af off]=some (af (nR W off p.1 (d0 b W i p.2))):=by
 have hw:W.length<=16:=h.wl
 have t4:aK 4 [0] (ak 1 [] (aQ (f2 ao (ab 0) (fC (.int 2)))) (fG 0) (fun _=>some true) (fC (.int 0))) [.val (aw G T W),.val (.int (sI b)),.val (nD i),.val (af off),.non,.non,.non]=some (.nx [.val (aw G T W),.val (.int (sI b)),.val (nD i),.val (af off),.own ((List.replicate W.length (0:Int)).map PyData.int),.non,.non]):=by
  have z:=zeros (fi:=aQ (f2 ao (ab 0) (fC (.int 2)))) (ρ:=bJ [.val (aw G T W),.val (.int (sI b)),.val (nD i),.val (af off),.non,.non,.non]) (ds:=W.map aq) rfl (by rw[List.length_map];omega)
  rw[List.length_map] at z
  exact nV rfl z
 have t5:Dl.ay 5 [0,1,2] (f2 ao (f2 ao (f2 ao (ab 0) (ab 1)) (ab 2)) (fC (.int 0))) [.val (aw G T W),.val (.int (sI b)),.val (nD i),.val (af off),.own ((List.replicate W.length (0:Int)).map PyData.int),.non,.non]=some (.nx [.val (aw G T W),.val (.int (sI b)),.val (nD i),.val (af off),.own ((List.replicate W.length (0:Int)).map PyData.int),.val (.int p.1),.non]) :=
  bK (d:=.int p.1) (by dsimp! [k8,Kr (W:=W) e,E6]) rfl
 obtain⟨ρ',e3,hs',x,rfl⟩:=jl (tgt:=uv 6) (gb:=(av (yg 4 [0,3,5,6] (ab 6) (bb wB (aa (f2 ao (ab 3) (ab 6)) (aa (f2 ao (f2 ao (f2 ao (ab 0) (fC (.int 2))) (ab 6)) (fC (.int 2))) (aa (ab 5) ae))))) (Dl.ay 5 [4,5,6] (f2 Dl.gK (ab 5) (f2 ao (ab 4) (ab 6)))))) (R:=fun s ρ=>s.2.length=W.length/\∃x,ρ=[.val (aw G T W),.val (.int (sI b)),.val (nD i),.val (af off),.own (s.2.map PyData.int),.val (.int s.1),x]) nD (i8 W off)
  (l:=d0 b W i p.2) (s:=(p.1,List.replicate W.length (0:Int))) (ρ:=[.val (aw G T W),.val (.int (sI b)),.val (nD i),.val (af off),.own ((List.replicate W.length (0:Int)).map PyData.int),.val (.int p.1),.non])
  (fun s ρ j hj ⟨hs,x,hρ⟩=>by
   subst hρ
   obtain⟨hjl,_⟩:=ck.mp ((eF h e).mem_iff.mp hj)
   refine⟨_,_,rfl,Hl hjl ho hs,?_,.val (nD j),rfl⟩
   simp[i8,hs]) ⟨by simp,_,rfl⟩
 refine aL ?_
 show gc [.val (aw G T W),.val (.int (sI b)),.val (nD i),.val (af off),.non,.non,.non]=_
 unfold gc
 rw[ah t4,ah t5,ah (b9 e3 (by dsimp! [qV h e]) rfl)]
 exact aN rfl
noncomputable def bL (b:Bool) (G T:List Pl) (i:Nat):Pl:=(br b G T).getD i (0,[])
noncomputable def vp (b:Bool) (G T:List Pl) (W:List Wy) (off s:List Int) (i:Nat):List Int:=List.zipWith (·+·) s (nR W off (bL b G T i).1 (d0 b W i (bL b G T i).2))
noncomputable def fU (b:Bool) (G T:List Pl) (W:List Wy) (off:List Int):List Int:=(List.range (br b G T).length).foldl (vp b G T W off) (List.replicate W.length 0)
theorem kJ {b:Bool}{G T:List Pl}{i:Nat}(h:i < (br b G T).length):(br b G T)[i]?=some (bL b G T i):=by simp[bL,h]
theorem nW {b:Bool}{G T:List Pl}{W:List Wy}{off s:List Int}{i:Nat}(h:s.length=W.length):(vp b G T W off s i).length=W.length:=by
 unfold vp
 rw[List.length_zipWith,lH,h,Nat.min_self]
theorem jP {S α:Type}{f:S->α->S}(R:S->Prop):∀ {l:List α}{s:S},(∀s x,x∈l->R s->R (f s x))->R s->R (l.foldl f s)
 | [],s,_,h=>h
 | x::l,s,hh,h=>by
  rw[List.foldl_cons]
  exact jP (l:=l) R (fun s y hy=>hh s y (List.mem_cons_of_mem _ hy)) (hh s x List.mem_cons_self h)
theorem kW (b:Bool) (G T:List Pl) (W:List Wy) (off:List Int):(fU b G T W off).length=W.length :=
 jP (fun s:List Int=>s.length=W.length) (fun s i _ h=>nW h) (by simp)
theorem Wd.pl {G T:List Pl}{W:List Wy}(h:Wd G T W) (b:Bool):(br b G T).length<=4:=by
 cases b
 ·exact h.g4
 ·exact h.t4
noncomputable def Ms:ai->Option Out:=(av (Dl.ay 5 [0,1,2,4] (ag 4 bZ (aa (ab 0) (aa (ab 1) (aa (ab 4) (aa (ab 2) ae)))))) (aK 3 [3,5] (ak 2 [] (eV (aa (ab 3) (aa (ab 5) ae))) (fY 0 1) (fun _=>some true) (f2 aA (ab 0) (ab 1)))))
theorem eR {G T:List Pl}{W:List Wy}{off:List Int}(h:Wd G T W) (ho:off.length=W.length) (b:Bool) :
  aV [aw G T W,.int (sI b),af off]=some (af (fU b G T W off)):=by
 have hw:W.length<=16:=h.wl
 have hp:=h.pl b
 have t3:aK 3 [0] (ak 1 [] (aQ (f2 ao (ab 0) (fC (.int 2)))) (fG 0) (fun _=>some true) (fC (.int 0))) [.val (aw G T W),.val (.int (sI b)),.val (af off),.non,.non,.non]=some (.nx [.val (aw G T W),.val (.int (sI b)),.val (af off),.own ((List.replicate W.length (0:Int)).map PyData.int),.non,.non]):=by
  have z:=zeros (fi:=aQ (f2 ao (ab 0) (fC (.int 2)))) (ρ:=bJ [.val (aw G T W),.val (.int (sI b)),.val (af off),.non,.non,.non]) (ds:=W.map aq) rfl (by rw[List.length_map];omega)
  rw[List.length_map] at z
  exact il z rfl
 obtain⟨ρ',e3,hs',x,y,rfl⟩:=jl (tgt:=uv 4) (gb:=Ms) (R:=fun s ρ=>s.length=W.length/\∃x y,ρ=[.val (aw G T W),.val (.int (sI b)),.val (af off),.own (s.map PyData.int),x,y]) nD (vp b G T W off)
  (l:=List.range (br b G T).length) (s:=List.replicate W.length (0:Int)) (ρ:=[.val (aw G T W),.val (.int (sI b)),.val (af off),.own ((List.replicate W.length (0:Int)).map PyData.int),.non,.non])
  (fun s ρ i hi ⟨hs,x,y,hρ⟩=>by
   subst hρ
   have ei:=kJ (List.mem_range.mp hi)
   have t1:Dl.ay 5 [0,1,2,4] (ag 4 bZ (aa (ab 0) (aa (ab 1) (aa (ab 4) (aa (ab 2) ae))))) [.val (aw G T W),.val (.int (sI b)),.val (af off),.own (s.map PyData.int),.val (nD i),y]=some (.nx [.val (aw G T W),.val (.int (sI b)),.val (af off),.own (s.map PyData.int),.val (nD i),.val (af (nR W off (bL b G T i).1 (d0 b W i (bL b G T i).2)))]):=by
    refine ow (ρ':=[.val (aw G T W),.val (.int (sI b)),.val (af off),.own (s.map PyData.int),.val (nD i),y]) rfl (d:=af (nR W off (bL b G T i).1 (d0 b W i (bL b G T i).2))) ?_ ?_ rfl
    ·dsimp! [jn h ho ei]
    ·dsimp! [jn h ho ei]
   have t2:aK 3 [3,5] (ak 2 [] (eV (aa (ab 3) (aa (ab 5) ae))) (fY 0 1) (fun _=>some true) (f2 aA (ab 0) (ab 1))) [.val (aw G T W),.val (.int (sI b)),.val (af off),.own (s.map PyData.int),.val (nD i),.val (af (nR W off (bL b G T i).1 (d0 b W i (bL b G T i).2)))]=some (.nx [.val (aw G T W),.val (.int (sI b)),.val (af off),.own ((vp b G T W off s i).map PyData.int),.val (nD i),.val (af (nR W off (bL b G T i).1 (d0 b W i (bL b G T i).2)))]):=by
    refine nV (ρ':=[.val (aw G T W),.val (.int (sI b)),.val (af off),.val (.list (s.map PyData.int)),.val (nD i),.val (af (nR W off (bL b G T i).1 (d0 b W i (bL b G T i).2)))]) rfl (ds:=(vp b G T W off s i).map PyData.int) ?_
    exact BQ (a:=s) (b:=nR W off (bL b G T i).1 (d0 b W i (bL b G T i).2)) rfl (by omega)
   exact⟨_,_,rfl,(ah t1).trans t2,nW hs,_,_,rfl⟩) ⟨by simp,_,_,rfl⟩
 refine aL ?_
 show da [.val (aw G T W),.val (.int (sI b)),.val (af off),.non,.non,.non]=_
 unfold da
 rw[ah t3]
 refine (ah (b9 e3 (tY (by dsimp! [k8,y1,List.length_map]) (by omega)) rfl)).trans ?_
 exact aN rfl
theorem lE {xs ys:List D}(h:(xs++ys).length<=4000):Dl.aA (.tuple xs) (.tuple ys)=some (.tuple (xs++ys)):=by
 simp only[Dl.aA,uo,EW,aS h,Option.map_some,Option.none_or,Option.some_or]
theorem DU {f:Dl.Env->Option D}{ρ:Dl.Env}{d:D}(h:f ρ=some d):aF (aa f ae) ρ=some (.tuple [d]):=by
 simp only[aF,aa,ae,h,Option.bind_some,Option.map_some]
 rw[aS (by simp),Option.map_some]
theorem LQ {f g:Dl.Env->Option D}{ρ:Dl.Env}{d e:D}(h:f ρ=some d) (h2:g ρ=some e):aF (aa f (aa g ae)) ρ=some (.tuple [d,e]):=by
 simp only[aF,aa,ae,h,h2,Option.bind_some,Option.map_some]
 rw[aS (by simp),Option.map_some]
theorem ax {g:D->D->Option D}{fa fb:Dl.Env->Option D}{ρ:Dl.Env}{a b c:D}(h:g a b=some c) (ha:fa ρ=some a) (hb:fb ρ=some b):f2 g fa fb ρ=some c:=by rw[hV ha hb,h]
theorem wK {f g:Dl.Env->Option D}{ρ:Dl.Env}{ds:List D}{k:Nat}(h:f ρ=some (.tuple ds)) (h2:g ρ=some (nD k)):fV cQ f fW (pO g) ρ=some (.tuple (ds.take k)):=by
 simp only[fV,h,fW,pO,h2,Option.bind_some,gI,Option.map_some,cQ,Ct]
theorem Dd {f g:Dl.Env->Option D}{ρ:Dl.Env}{ds:List D}{k:Nat}(h:f ρ=some (.tuple ds)) (h2:g ρ=some (nD k)):fV cQ f (pO g) fW ρ=some (.tuple (ds.drop k)):=by
 simp only[fV,h,fW,pO,h2,Option.bind_some,gI,Option.map_some,cQ,uC]
theorem LC (d:D) (ds:List D):ao (.tuple (d::ds)) (.int 0)=some d:=n5 (i:=0) rfl
theorem L5 (c d:D) (ds:List D):ao (.tuple (c::d::ds)) (.int 1)=some d:=n5 (i:=1) rfl
theorem nL (c:List Int) (i:Nat) (v:Int) (h:i < c.length):((c.map PyData.int).take i++[PyData.int v])++(c.map PyData.int).drop (i+1)=(c.set i v).map PyData.int:=by
 rw[List.set_eq_take_append_cons_drop,if_pos h]
 simp
theorem MH (i:Nat):Dl.aA (nD i) (.int 1)=some (nD (i+1)):=by
 rw[eD]
 rfl
theorem yd {c:List Int}{i:Nat}{v:Int}(h:i < c.length) (hl:c.length<=1000):iC [af c,nD i,.int v]=some (af (c.set i v)):=by
 refine aL ?_
 show kc [.val (af c),.val (nD i),.val (.int v)]=_
 refine aN ?_
 refine ax (a:=.tuple ((c.map PyData.int).take i++[PyData.int v])) (b:=.tuple ((c.map PyData.int).drop (i+1))) ?_ (ax (a:=.tuple ((c.map PyData.int).take i)) (b:=.tuple [.int v]) (lE ?_) (wK rfl rfl) (DU rfl)) (Dd rfl (ax (MH i) rfl rfl))
 ·rw[lE,nL c i v h]
  ·rfl
  ·rw[nL c i v h];simp;omega
 ·simp;omega
theorem rY {c:List Int}{i:Nat}{v:Int}(h:i < c.length) (hl:c.length<=1000):bV [af c,nD i,.int v]=some (af (c.set i v)):=by
 refine aL ?_
 show me [.val (af c),.val (nD i),.val (.int v)]=_
 exact aN (call_of (yd h hl) rfl rfl)
noncomputable def dO (W:List Wy):List Int:=W.map fun w=>w.2.2
theorem Cv {G T:List Pl}{W:List Wy}(h:Wd G T W) {f:Dl.Env->Option D}{ρ:Dl.Env}(hf:f ρ=some (aw G T W)):(bb bG (aa (cf (ak 1 [] (aQ (f2 ao f (fC (.int 2)))) (fG 0) (fun _=>some true) (f2 ao (ab 0) (fC (.int 2))))) ae)) ρ=some (af (dO W)):=by
 have hw:=h.wl
 have hs:(aQ (f2 ao f (fC (.int 2)))) ρ=some (W.map aq):=by
  unfold aQ
  rw[ax (lN G T W) hf rfl]
  rfl
 have e:ak 1 [] (aQ (f2 ao f (fC (.int 2)))) (fG 0) (fun _=>some true) (f2 ao (ab 0) (fC (.int 2))) ρ=some ((dO W).map PyData.int):=by
  rw[bU (h:=fun d=>.int (ip ((bg d).getD 2 .none))) hs (by rw[List.length_map];omega) fun d hd=>?_]
  ·rw[dO,List.map_map,List.map_map]
   rfl
  ·obtain⟨w,hw',rfl⟩:=List.mem_map.mp hd
   rfl
 simp only[bb,aa,ae,cf,e,Option.map_some,Option.bind_some,Fy]
theorem ll {G T:List Pl}{W:List Wy}(h:Wd G T W):eN [aw G T W]=some (af (dO W)):=by
 refine aL ?_
 show pK [.val (aw G T W)]=_
 exact aN (Cv h rfl)
theorem kX (W:List Wy):(dO W).length=W.length:=by simp[dO]
noncomputable def uK (G T:List Pl) (W:List Wy) (c:List Int):List Int:=fU true G T W (fU false G T W c)
noncomputable def qR (G T:List Pl) (W:List Wy) (c:List Int) (k:Nat):Bool:=decide ((uK G T W c).getD k 0 < (fU false G T W c).getD k 0)
noncomputable def wV (G T:List Pl) (W:List Wy) (c:List Int):Option (Nat×Int):=((List.range W.length).find? (qR G T W c)).map fun k=>(k,(uK G T W c).getD k 0)
noncomputable def w8:Option (Nat×Int)->D
 | none=>.none
 | some p=>.tuple [nD p.1,.int p.2]
theorem enum_zip:∀ (ds:List D) (k:Nat),bu k ds=(ds.zipIdx k).map fun q=>.tuple [nD q.2,q.1]
 | [],k=>rfl
 | d::ds,k=>by rw[bu,enum_zip ds (k+1),List.zipIdx_cons];rfl
theorem zL (l:List Int):bu 0 (l.map PyData.int)=(List.range l.length).map fun k=>.tuple [nD k,.int (l.getD k 0)]:=by
 rw[enum_zip]
 apply List.ext_getElem
 ·simp
 ·intro i h1 h2
  have:i < l.length:=by simpa using h2
  simp[this]
theorem Io (G T:List Pl) (W:List Wy) (c:List Int):(uK G T W c).length=W.length:=kW _ _ _ _ _
noncomputable def LU:ai->Option Out:=(fq (fB (f2 zh (ab 5) (f2 ao (ab 2) (ab 4)))) (aJ (aF (aa (ab 4) (aa (ab 5) ae)))) f7)
theorem jN {G T:List Pl}{W:List Wy}{c:List Int}(h:Wd G T W) (ho:c.length=W.length):dq [aw G T W,af c]=some (w8 (wV G T W c)):=by
 have hw:W.length<=16:=h.wl
 have t2:Dl.ay 2 [0,1] (ag 3 aV (aa (ab 0) (aa (fC (.int 0)) (aa (ab 1) ae)))) [.val (aw G T W),.val (af c),.non,.non,.non,.non]=some (.nx [.val (aw G T W),.val (af c),.val (af (fU false G T W c)),.non,.non,.non]) :=
  bW (call_of (eR h ho false) rfl rfl) rfl rfl rfl
 have t3:Dl.ay 3 [0,2] (ag 3 aV (aa (ab 0) (aa (fC (.int 1)) (aa (ab 2) ae)))) [.val (aw G T W),.val (af c),.val (af (fU false G T W c)),.non,.non,.non]=some (.nx [.val (aw G T W),.val (af c),.val (af (fU false G T W c)),.val (af (uK G T W c)),.non,.non]) :=
  bW (call_of (eR h (kW _ _ _ _ _) true) rfl rfl) rfl rfl rfl
 have hl:=fu (tgt:=eY 4 5) (gb:=LU) (R:=fun ρ=>∃x y,ρ=[.val (aw G T W),.val (af c),.val (af (fU false G T W c)),.val (af (uK G T W c)),x,y]) (fun k=>.tuple [nD k,.int ((uK G T W c).getD k 0)]) (qR G T W c) (fun k=>.tuple [nD k,.int ((uK G T W c).getD k 0)])
  (l:=List.range W.length) (ρ:=[.val (aw G T W),.val (af c),.val (af (fU false G T W c)),.val (af (uK G T W c)),.non,.non])
  (fun ρ k hk ⟨x,y,hρ⟩=>by
   subst hρ
   have hk':k < (fU false G T W c).length:=by rw[kW];exact List.mem_range.mp hk
   have hc:(fB (f2 zh (ab 5) (f2 ao (ab 2) (ab 4)))) (bc [.val (aw G T W),.val (af c),.val (af (fU false G T W c)),.val (af (uK G T W c)),.val (nD k),.val (.int ((uK G T W c).getD k 0))])=some (qR G T W c k):=by
    dsimp! [dC hk',iS,qR]
   refine⟨[.val (aw G T W),.val (af c),.val (af (fU false G T W c)),.val (af (uK G T W c)),.val (nD k),.val (.int ((uK G T W c).getD k 0))],rfl,fun hq=>?_,fun hq=>?_⟩
   ·rw[hq] at hc
    unfold LU
    rw[eX hc]
    exact aN (LQ rfl rfl)
   ·rw[hq] at hc
    unfold LU
    rw[dm hc]
    exact⟨_,rfl,_,_,rfl⟩) ⟨_,_,rfl⟩
 have hi:(ba (aa (ab 3) ae)) (bJ [.val (aw G T W),.val (af c),.val (af (fU false G T W c)),.val (af (uK G T W c)),.non,.non])=some ((List.range W.length).map fun k=>.tuple [nD k,.int ((uK G T W c).getD k 0)]):=by
  have:=zL (uK G T W c)
  rw[Io] at this
  rw[<- this]
  rfl
 refine aL ?_
 show jX [.val (aw G T W),.val (af c),.non,.non,.non,.non]=_
 unfold jX
 rw[ah t2,ah t3]
 unfold wV
 cases hq:(List.range W.length).find? (qR G T W c) with
 | some k =>
  exact iF (b9 (hl.1 k hq) hi rfl)
 | none =>
  obtain⟨ρ',e,x,y,rfl⟩:=hl.2 hq
  exact (ah (b9 e hi rfl)).trans (aN rfl)
theorem cW (l:List Int) (k:Nat) (v:Int) (i:Nat):(l.set k v).getD i 0=if k=i/\i < l.length then v else l.getD i 0:=by
 simp only[List.getD_eq_getElem?_getD,List.getElem?_set]
 by_cases h:k=i
 ·subst h
  by_cases h2:k < l.length
  ·simp[h2]
  ·simp[h2]
 ·simp[h]
theorem u9 {a b:List Int}{i:Nat}(ha:i < a.length) (hb:i < b.length):(List.zipWith (·+·) a b).getD i 0=a.getD i 0+b.getD i 0:=by
 rw[List.getD_eq_getElem?_getD,List.getD_eq_getElem?_getD,List.getD_eq_getElem?_getD,List.getElem?_zipWith,List.getElem?_eq_getElem ha,List.getElem?_eq_getElem hb]
 rfl
noncomputable def Off (off:List Int):Prop:=∀i,0<=off.getD i 0
noncomputable def K7 (W:List Wy):Prop:=∀i,0<=(au W i).2.2
theorem Wd.lim {G T:List Pl}{W:List Wy}(h:Wd G T W):K7 W:=fun i=>by
 by_cases hi:i < W.length
 ·have:=h.wr (au W i) (by rw[<- gF hi];exact List.getElem_mem hi)
  omega
 ·simp only[au,List.getD_eq_getElem?_getD]
  rw[List.getElem?_eq_none (by omega)]
  simp
theorem Wd.amt {G T:List Pl}{W:List Wy}(h:Wd G T W) (b:Bool) (i:Nat):0<=(bL b G T i).1:=by
 unfold bL
 rw[List.getD_eq_getElem?_getD]
 cases e:(br b G T)[i]? with
 | none=>simp
 | some p =>
  have hm:=List.mem_of_getElem? e
  cases b
  ·exact (h.ga p hm).1
  ·exact (h.ta p hm).1
theorem HC {W:List Wy}{off:List Int}(ho:Off off) (hl:K7 W) {amt:Int}(ha:0<=amt) (is:List Nat) (i:Nat):0<=(nR W off amt is).getD i 0/\(nR W off amt is).getD i 0<=off.getD i 0:=by
 have:=jP (l:=is) (f:=i8 W off) (s:=(amt,List.replicate W.length 0)) (fun s=>0<=s.1/\∀i,0<=s.2.getD i 0/\s.2.getD i 0<=off.getD i 0) (fun s k _ ⟨h1,h2⟩=>by
  have ok:=ho k
  have lk:=hl k
  have v0:0<=cV W off s.1 k:=by unfold cV;omega
  have v1:cV W off s.1 k<=off.getD k 0:=by unfold cV;omega
  have v2:cV W off s.1 k<=s.1:=by unfold cV;omega
  refine⟨by simp only[i8];omega,fun i=>?_⟩
  simp only[i8,cW]
  split
  ·rename_i z
   rw[<- z.1]
   exact⟨v0,v1⟩
  ·exact h2 i) ⟨ha,fun i=>by
   have:=ho i
   have z:(List.replicate W.length (0:Int)).getD i 0=0:=by
    simp only[List.getD_eq_getElem?_getD,List.getElem?_replicate]
    split<;>rfl
   simp only[z]
   omega⟩
 exact this.2 i
theorem zr {W:List Wy}{off:List Int}{amt:Int}{is:List Nat}{i:Nat}(hi:i∉is):(nR W off amt is).getD i 0=0:=by
 refine jP (l:=is) (f:=i8 W off) (s:=(amt,List.replicate W.length 0)) (fun s=>s.2.getD i 0=0) (fun s k hk h=>?_) ?_
 ·simp only[i8,cW]
  have hki:¬ (k=i/\i < s.2.length):=fun z=>hi (z.1 ▸ hk)
  rw[if_neg hki,h]
 ·simp only[List.getD_eq_getElem?_getD,List.getElem?_replicate]
  split<;>rfl
theorem sA {G T:List Pl}{W:List Wy}(h:Wd G T W) {off:List Int}(ho:Off off) (b:Bool):∀ (n:Nat),n<=(br b G T).length ->
  ((List.range n).foldl (vp b G T W off) (List.replicate W.length 0)).length=W.length/\∀i,i < W.length->(0<=((List.range n).foldl (vp b G T W off) (List.replicate W.length 0)).getD i 0/\((List.range n).foldl (vp b G T W off) (List.replicate W.length 0)).getD i 0<=off.getD i 0)/\((n:Nat)<=aG b (au W i)->((List.range n).foldl (vp b G T W off) (List.replicate W.length 0)).getD i 0=0)
 | 0,_=>by
  refine⟨by simp,fun i hi=>?_⟩
  have:=ho i
  have z:((List.range 0).foldl (vp b G T W off) (List.replicate W.length 0)).getD i 0=0:=by simp[List.getD_eq_getElem?_getD,hi]
  rw[z]
  exact⟨by omega,fun _=>rfl⟩
 | n+1,hn=>by
  obtain⟨h1,h2⟩:=sA h ho b n (by omega)
  rw[List.range_succ,List.foldl_append,List.foldl_cons,List.foldl_nil]
  generalize (List.range n).foldl (vp b G T W off) (List.replicate W.length 0)=s at h1 h2
  refine⟨nW h1,fun i hi=>?_⟩
  obtain⟨h3,h4⟩:=h2 i hi
  have e:=kJ (b:=b) (G:=G) (T:=T) (i:=n) (by omega)
  have hc:=HC ho h.lim (h.amt b n) (d0 b W n (bL b G T n).2) i
  have hz:(vp b G T W off s n).getD i 0=s.getD i 0+(nR W off (bL b G T n).1 (d0 b W n (bL b G T n).2)).getD i 0:=u9 (by omega) (by rw[lH];exact hi)
  rw[hz]
  by_cases he:aG b (au W i)=n
  ·rw[h4 (by omega)]
   exact⟨by omega,fun z=>by omega⟩
  ·have hni:i∉d0 b W n (bL b G T n).2:=fun z=>he (ck.mp ((eF h e).mem_iff.mp z)).2
   rw[zr hni]
   exact⟨by omega,fun z=>by rw[h4 (by omega)];rfl⟩
theorem vg {l:List Int}{i:Nat}(h:l.length<=i):l.getD i 0=0:=by simp[List.getD_eq_getElem?_getD,h]
theorem lA {G T:List Pl}{W:List Wy}(h:Wd G T W) {off:List Int}(ho:Off off) (b:Bool):Off (fU b G T W off):=fun i=>by
 by_cases hi:i < W.length
 ·exact ((sA h ho b _ (Nat.le_refl _)).2 i hi).1.1
 ·rw[vg (by rw[kW];omega)]
  exact Int.le_refl 0
theorem xa {G T:List Pl}{W:List Wy}(h:Wd G T W) {off:List Int}(ho:Off off) (b:Bool) {i:Nat}(hi:i < W.length):(fU b G T W off).getD i 0<=off.getD i 0 :=
 ((sA h ho b _ (Nat.le_refl _)).2 i hi).1.2
theorem CM {G T:List Pl}{W:List Wy}(h:Wd G T W) {c:List Int}(ho:Off c) {p:Nat×Int}(e:wV G T W c=some p):p.1 < W.length/\0<=p.2/\p.2 < c.getD p.1 0:=by
 unfold wV at e
 obtain⟨k,hk,rfl⟩:=Dl.map_some e
 have hm:=List.mem_of_find?_eq_some hk
 have hq:=List.find?_some hk
 have hi:=List.mem_range.mp hm
 rw[qR,decide_eq_true_eq] at hq
 have a:=xa h ho false hi
 have b:=lA h (lA h ho false) true k
 exact⟨hi,b,by simp only;omega⟩
noncomputable def mea (c:List Int):Nat:=(c.map Int.toNat).sum
theorem yW:∀ {c:List Int}{k:Nat}{v:Int},0<=v->v < c.getD k 0->mea (c.set k v) < mea c
 | [],k,v,h0,h1=>by simp at h1;omega
 | x::c,0,v,h0,h1=>by
  simp at h1
  simp only[mea,List.set_cons_zero,List.map_cons,List.sum_cons]
  omega
 | x::c,k+1,v,h0,h1=>by
  have:=yW (c:=c) (k:=k) h0 (by simpa using h1)
  simp only[mea,List.set_cons_succ,List.map_cons,List.sum_cons] at this ⊢
  omega
theorem yI:∀ {W:List Wy},(∀w∈W,w.2.2<=9)->mea (dO W)<=9 * W.length
 | [],_=>by simp[mea,dO]
 | w::W,h=>by
  have:=yI (W:=W) fun x hx=>h x (List.mem_cons_of_mem _ hx)
  have:=h w List.mem_cons_self
  simp only[mea,dO,List.map_cons,List.sum_cons,List.length_cons] at *
  omega
theorem EF {G T:List Pl}{W:List Wy}(h:Wd G T W):Off (dO W):=fun i=>by
 have:=h.lim i
 by_cases hi:i < W.length
 ·simpa [dO,au,List.getD_eq_getElem?_getD,hi] using this
 ·rw[vg (by rw[kX];omega)]
  exact Int.le_refl 0
theorem FB {c:List Int}(h:Off c) {k:Nat}{v:Int}(hv:0<=v):Off (c.set k v):=fun i=>by
 rw[cW]
 split
 ·exact hv
 ·exact h i
theorem ya (a:List Int):SeqAt.shaped (af a)=true :=
 (iq.tup (b:=a.length) (k:=0) (by simp) fun x hx=>by obtain⟨i,_,rfl⟩:=List.mem_map.mp hx;exact jR _).shaped (by decide)
theorem oH (a b:List Int):PyData.eqv (af a) (af b)=decide (a=b):=by
 rw[af,af,PyData.eqv,oN]
theorem bB {f:Dl.Env->Option D}{ρ:Dl.Env}{b:Bool}(h:f ρ=some (.bool b)):fB f ρ=some b:=by
 simp only[fB,h,Option.bind_some,gB]
theorem dJ {t:Dl.Env->Option Bool}{ρ:Dl.Env}{b:Bool}(h:t ρ=some b):bw t ρ=some (!b):=by
 simp only[bw,h,Option.map_some]
theorem HN {t u:Dl.Env->Option Bool}{ρ:Dl.Env}(h:t ρ=some false) (h2:u ρ=some false):ox t u ρ=some false:=by
 simp only[ox,h,Option.bind_some,h2]
theorem Er (x:Option (Nat×Int)):mX (w8 x) .none=some (.bool x.isSome):=by cases x<;>rfl
theorem bf {i:Nat}{fz:List Nat}{f:Dl.Env->Option D}{ρ:ai}{d:D}(hA:f (bc ρ)=some d) (hF:f (bJ ρ)=some d) (hh:hand fz 0 ρ=ρ):Dl.ay i fz f ρ=some (.nx (ρ.set i (.val d))):=by
 cases hs:Dl.kZ d with
 | true=>exact bK hA hs
 | false=>exact ow hh hA hF hs
theorem IR {i:Nat}{fz:List Nat}{f:Dl.Env->Option D}{ρ:ai}{d:D}{ds:List D}(hA:f (bc ρ)=some d) (hF:f (bJ ρ)=some d) (hh:hand fz 0 ρ=ρ) (ho:ρ[i]?=some (.own ds)) (hl:ds.length < 4000):kH i fz f ρ=some (.nx (ρ.set i (.own (ds++[d])))):=by
 have hz:ds.length < sizeLine:=Nat.lt_of_lt_of_le hl (by decide)
 have hi:j9 fz f ρ=some (d,ρ):=by
  unfold j9
  rw[hA,Option.bind_some,hh,hF]
  cases Dl.kZ d<;>rfl
 simp only[kH,hi,Option.bind_some,nu,ho,hz,if_true,Option.map_some]
theorem d9 {G T:List Pl}{W:List Wy}(h:Wd G T W):aY [aw G T W]=some .none:=by
 have hw:b8 [aw G T W]=some (.bool true):=by rw[yb h.fit (by decide),IV,h.lok]
 have hc:(bw (fB (ag 1 b8 (aa (ab 0) ae)))) (bc [.val (aw G T W)])=some false:=dJ (bB (call_of hw rfl rfl))
 have:cU [.val (aw G T W)]=some (.nx [.val (aw G T W)]):=by
  unfold cU
  rw[dm hc]
 show (cU [.val (aw G T W)]).map _=_
 rw[this]
 rfl
theorem qa {a b:Int}{i:Int}(h1:a<=i) (h2:i<=b):d7 [.int i,.int a,.int b]=some .none:=by
 have hw:aO [.int i,.int a,.int b]=some (.bool true):=by rw[fL rfl];simp[whole,h1,h2]
 have hc:(bw (fB (ag 3 aO (aa (ab 0) (aa (ab 1) (aa (ab 2) ae)))))) (bc [.val (.int i),.val (.int a),.val (.int b)])=some false:=dJ (bB (call_of hw rfl rfl))
 have:cY [.val (.int i),.val (.int a),.val (.int b)]=some (.nx [.val (.int i),.val (.int a),.val (.int b)]):=by
  unfold cY
  rw[dm hc]
 show (cY [.val (.int i),.val (.int a),.val (.int b)]).map _=_
 rw[this]
 rfl
theorem fO {n i:Int}(h1:0<=i) (h2:i<=n - 1):bq [.int i,.int n]=some .none:=by
 have:cL [.val (.int i),.val (.int n)]=some (.nx [.val (.int i),.val (.int n)]):=by
  unfold cL
  exact dH (call_of (qa h1 h2) (cons_of rfl (cons_of rfl (cons_of (ax (sub_int n 1) rfl rfl) rfl))) rfl)
 show (cL [.val (.int i),.val (.int n)]).map _=_
 rw[this]
 rfl
theorem sf (b:Bool):fj [.int (sI b)]=some .none:=by
 have:dD [.val (.int (sI b))]=some (.nx [.val (.int (sI b))]):=by
  unfold dD
  exact dH (call_of (fO (n:=2) (i:=sI b) (by cases b<;>decide) (by cases b<;>decide)) rfl rfl)
 show (dD [.val (.int (sI b))]).map _=_
 rw[this]
 rfl
noncomputable abbrev Sp:=List (Nat×Int)×List Int
noncomputable def JN (G T:List Pl) (W:List Wy) (s:Sp):Bool:=(wV G T W s.2).isSome
noncomputable def spS (G T:List Pl) (W:List Wy) (s:Sp):Sp:=match wV G T W s.2 with|some p=>(s.1++[p],s.2.set p.1 p.2)|none=>s
noncomputable def low (c:List Int) (p:Nat×Int):List Int:=c.set p.1 p.2
structure A6 (W:List Wy) (s:Sp):Prop where
 len:s.2.length=W.length
 off:Off s.2
 eq:s.2=s.1.foldl low (dO W)
 bd:s.1.length+mea s.2<=mea (dO W)
 mem:∀p∈s.1,p.1 < W.length
theorem A6.start {G T:List Pl}{W:List Wy}(h:Wd G T W):A6 W ([],dO W):=⟨kX W,EF h,rfl,by simp,fun p hp=>by cases hp⟩
theorem yo {G T:List Pl}{W:List Wy}{s:Sp}{p:Nat×Int}(e:wV G T W s.2=some p):spS G T W s=(s.1++[p],s.2.set p.1 p.2):=by
 unfold spS
 rw[e]
theorem A6.step {G T:List Pl}{W:List Wy}(h:Wd G T W) {s:Sp}(i:A6 W s) {p:Nat×Int}(e:wV G T W s.2=some p):A6 W (spS G T W s)/\mea (spS G T W s).2 < mea s.2:=by
 obtain⟨h1,h2,h3⟩:=CM h i.off e
 have hm:=yW h2 h3
 rw[yo e]
 refine⟨⟨by simp[i.len],FB i.off h2,?_,?_,fun q hq=>?_⟩,hm⟩
 ·rw[List.foldl_append,<- i.eq]
  rfl
 ·have:=i.bd
  simp only[List.length_append,List.length_singleton]
  omega
 ·rcases List.mem_append.mp hq with z|z
  ·exact i.mem q z
  ·rw[List.mem_singleton] at z
   rw[z]
   exact h1
theorem Wd.mea {G T:List Pl}{W:List Wy}(h:Wd G T W):mea (dO W)<=144:=by
 have:=yI (W:=W) fun w hw=>(h.wr w hw).2.2.2
 have:=h.wl
 omega
noncomputable def pN (r:List (Nat×Int)):List D:=(r.map fun p=>[((p.1:Nat):Int),p.2]).map af
theorem ER (r:List (Nat×Int)) (p:Nat×Int):pN (r++[p])=pN r++[w8 (some p)]:=by simp[pN];rfl
theorem EM (r:List (Nat×Int)):(pN r).length=r.length:=by simp[pN]
noncomputable def fin (G T:List Pl) (W:List Wy):Sp:=lp (JN G T W) (spS G T W) Rf.turns ([],dO W)
noncomputable def LH:ai->Option Out:=(av (kH 1 [3] (ab 3)) (av (Dl.ay 2 [2,3] (ag 3 bV (aa (ab 2) (aa (f2 ao (ab 3) (fC (.int 0))) (aa (f2 ao (ab 3) (fC (.int 1))) ae))))) (Dl.ay 3 [0,2] (ag 2 dq (aa (ab 0) (aa (ab 2) ae))))))
noncomputable def Gy (G T:List Pl) (W:List Wy) (s:Sp):ai:=[.val (aw G T W),.own (pN s.1),.val (af s.2),.val (w8 (wV G T W s.2))]
theorem EN {G T:List Pl}{W:List Wy}(h:Wd G T W) {s:Sp}(i:A6 W s) {p:Nat×Int}(e:wV G T W s.2=some p):LH (Gy G T W s)=some (.nx (Gy G T W (spS G T W s))):=by
 obtain⟨h1,h2,h3⟩:=CM h i.off e
 obtain⟨i2,hm⟩:=i.step h e
 have hb:=h.mea
 have hbd:=i.bd
 have hw:=h.wl
 have t1:kH 1 [3] (ab 3) (Gy G T W s)=some (.nx [.val (aw G T W),.own (pN s.1++[w8 (some p)]),.val (af s.2),.val (w8 (some p))]):=by
  unfold Gy
  rw[e]
  exact IR rfl rfl rfl rfl (by rw[EM];omega)
 have hlow:∀ρ:Dl.Env,ab 2 ρ=some (af s.2)->ab 3 ρ=some (w8 (some p))->(ag 3 bV (aa (ab 2) (aa (f2 ao (ab 3) (fC (.int 0))) (aa (f2 ao (ab 3) (fC (.int 1))) ae)))) ρ=some (af (s.2.set p.1 p.2)):=fun ρ a b =>
  call_of (rY (c:=s.2) (i:=p.1) (v:=p.2) (by rw[i.len];exact h1) (by rw[i.len];omega)) (cons_of a (cons_of (ax (LC _ _) b rfl) (cons_of (ax (L5 _ _ _) b rfl) rfl))) rfl
 have t2:Dl.ay 2 [2,3] (ag 3 bV (aa (ab 2) (aa (f2 ao (ab 3) (fC (.int 0))) (aa (f2 ao (ab 3) (fC (.int 1))) ae)))) [.val (aw G T W),.own (pN s.1++[w8 (some p)]),.val (af s.2),.val (w8 (some p))]=some (.nx [.val (aw G T W),.own (pN s.1++[w8 (some p)]),.val (af (s.2.set p.1 p.2)),.val (w8 (some p))]) :=
  bf (hlow _ rfl rfl) (hlow _ rfl rfl) rfl
 have hl2:(s.2.set p.1 p.2).length=W.length:=by rw[List.length_set,i.len]
 have t3:Dl.ay 3 [0,2] (ag 2 dq (aa (ab 0) (aa (ab 2) ae))) [.val (aw G T W),.own (pN s.1++[w8 (some p)]),.val (af (s.2.set p.1 p.2)),.val (w8 (some p))]=some (.nx [.val (aw G T W),.own (pN s.1++[w8 (some p)]),.val (af (s.2.set p.1 p.2)),.val (w8 (wV G T W (s.2.set p.1 p.2)))]) :=
  bf (call_of (jN h hl2) rfl rfl) (call_of (jN h hl2) rfl rfl) rfl
 unfold LH
 rw[ah t1,ah t2,t3,yo e]
 unfold Gy
 rw[ER]
theorem vY {G T:List Pl}{W:List Wy}{s:Sp}(h:JN G T W s=true):∃p,wV G T W s.2=some p:=Option.isSome_iff_exists.mp h
theorem Gi {G T:List Pl}{W:List Wy}(h:Wd G T W):nF [aw G T W]=some (.list (pN (fin G T W).1))/\A6 W (fin G T W):=by
 have hb:=h.mea
 have t1:aK 1 [] (cN ae) [.val (aw G T W),.non,.non,.non]=some (.nx [.val (aw G T W),.own [],.non,.non]):=il (f:=cN ae) (ds:=[]) (show small []=some [] from aS (by simp)) rfl
 have t2:Dl.ay 2 [0] (ag 1 eN (aa (ab 0) ae)) [.val (aw G T W),.own [],.non,.non]=some (.nx [.val (aw G T W),.own [],.val (af (dO W)),.non]) :=
  bf (call_of (ll h) rfl rfl) (call_of (ll h) rfl rfl) rfl
 have t3:Dl.ay 3 [0,2] (ag 2 dq (aa (ab 0) (aa (ab 2) ae))) [.val (aw G T W),.own [],.val (af (dO W)),.non]=some (.nx (Gy G T W ([],dO W))) :=
  bf (call_of (jN h (kX W)) rfl rfl) (call_of (jN h (kX W)) rfl rfl) rfl
 obtain⟨ρ',ew,⟨rfl,iv⟩,_⟩:=vC (t:=(fB (f2 mX (ab 3) (fC .none)))) (gb:=LH) (R:=fun s ρ=>ρ=Gy G T W s/\A6 W s) (JN G T W) (spS G T W) (fun s=>mea s.2)
  (fun s ρ ⟨hρ,i⟩=>by
   subst hρ
   exact bB (ax (Er _) rfl rfl))
  (fun s ρ ⟨hρ,i⟩ hc=>by
   subst hρ
   obtain⟨p,e⟩:=vY hc
   exact⟨_,EN h i e,⟨rfl,(i.step h e).1⟩,(i.step h e).2⟩)
  Rf.turns ([],dO W) (Gy G T W ([],dO W)) (Nat.lt_of_le_of_lt hb (by decide)) ⟨rfl,A6.start h⟩
 refine⟨?_,iv⟩
 refine aL ?_
 show nQ [.val (aw G T W),.non,.non,.non]=_
 unfold nQ
 rw[ah t1,ah t2,ah t3]
 refine (ah ew).trans ?_
 exact aN rfl
theorem Fj (c:List Int) (p:Nat×Int):(low c p).length=c.length:=by simp[low]
theorem BV {G T:List Pl}{W:List Wy}(h:Wd G T W) {r:List (Nat×Int)}(hr:∀p∈r,p.1 < W.length):lG [aw G T W,.list (pN r)]=some (af (r.foldl low (dO W))):=by
 have hw:=h.wl
 have t2:Dl.ay 2 [0] (ag 1 eN (aa (ab 0) ae)) [.val (aw G T W),.val (.list (pN r)),.non,.non,.non]=some (.nx [.val (aw G T W),.val (.list (pN r)),.val (af (dO W)),.non,.non]) :=
  bf (call_of (ll h) rfl rfl) (call_of (ll h) rfl rfl) rfl
 obtain⟨ρ',e3,hs',x,y,rfl⟩:=jl (tgt:=eY 3 4) (gb:=Dl.ay 2 [2,3,4] (ag 3 bV (aa (ab 2) (aa (ab 3) (aa (ab 4) ae))))) (R:=fun (c:List Int) ρ=>c.length=W.length/\∃x y,ρ=[.val (aw G T W),.val (.list (pN r)),.val (af c),x,y]) (fun p:Nat×Int=>af [((p.1:Nat):Int),p.2]) low
  (l:=r) (s:=dO W) (ρ:=[.val (aw G T W),.val (.list (pN r)),.val (af (dO W)),.non,.non])
  (fun c ρ p hp ⟨hc,x,y,hρ⟩=>by
   subst hρ
   have el:=rY (c:=c) (i:=p.1) (v:=p.2) (by rw[hc];exact hr p hp) (by omega)
   have t:Dl.ay 2 [2,3,4] (ag 3 bV (aa (ab 2) (aa (ab 3) (aa (ab 4) ae)))) [.val (aw G T W),.val (.list (pN r)),.val (af c),.val (nD p.1),.val (.int p.2)]=some (.nx [.val (aw G T W),.val (.list (pN r)),.val (af (low c p)),.val (nD p.1),.val (.int p.2)]) :=
    bf (call_of el rfl rfl) (call_of el rfl rfl) rfl
   exact⟨_,_,rfl,t,by rw[Fj,hc],_,_,rfl⟩) ⟨kX W,_,_,rfl⟩
 refine aL ?_
 show lb [.val (aw G T W),.val (.list (pN r)),.non,.non,.non]=_
 unfold lb
 rw[ah t2]
 refine (ah (b9 e3 ?_ rfl)).trans (aN rfl)
 show some (pN r)=_
 rw[pN,List.map_map]
 rfl
theorem qo {G T:List Pl}{W:List Wy}(h:Wd G T W):bo [aw G T W]=some (af (fU false G T W (fin G T W).2)):=by
 obtain⟨e1,i⟩:=Gi h
 have e2:=BV h i.mem
 rw[<- i.eq] at e2
 refine aL ?_
 show d6 [.val (aw G T W)]=_
 unfold d6
 refine (ah (dH (call_of (d9 h) rfl rfl))).trans ?_
 exact aN (call_of (eR h i.len false) (cons_of rfl (cons_of rfl (cons_of (call_of e2 (cons_of rfl (cons_of (call_of e1 rfl rfl) rfl)) rfl) rfl))) rfl)
noncomputable def JG (w:Wy):Wy:=(w.2.1,w.1,w.2.2)
structure Ord (W:List Wy) (π:List Nat):Prop where
 perm:π.Perm (List.range W.length)
 up:π.Pairwise fun i j=>(au W i).2.1 < (au W j).2.1\/((au W i).2.1=(au W j).2.1/\(au W i).1 < (au W j).1)
noncomputable def cC (W:List Wy) (π:List Nat):List Wy:=π.map fun i=>JG (au W i)
noncomputable def mf (P:List Int) (π:List Nat):List Int:=π.map fun i=>P.getD i 0
section
variable {W:List Wy}{π π':List Nat}{P:List Int}{G T:List Pl}
theorem Ord.len (o:Ord W π):π.length=W.length:=by rw[o.perm.length_eq,List.length_range]
theorem Ord.lt (o:Ord W π) {k:Nat}(hk:k < W.length):π.getD k 0 < W.length:=by
 have h:k < π.length:=by rw[o.len];exact hk
 have:=o.perm.mem_iff.mp (List.getElem_mem h)
 rw[List.getD_eq_getElem?_getD,List.getElem?_eq_getElem h]
 simpa using this
theorem Ord.ex (o:Ord W π) {i:Nat}(hi:i < W.length):∃k,k < W.length/\π.getD k 0=i:=by
 have:i∈π:=o.perm.mem_iff.mpr (by simpa using hi)
 obtain⟨k,hk,e⟩:=List.getElem_of_mem this
 exact⟨k,by rw[<- o.len];exact hk,by rw[List.getD_eq_getElem?_getD,List.getElem?_eq_getElem hk];exact e⟩
theorem cP (o:Ord W π):(cC W π).length=W.length:=by simp[cC,o.len]
theorem EV (o:Ord W π):(mf P π).length=W.length:=by simp[mf,o.len]
theorem fE (o:Ord W π) {k:Nat}(hk:k < W.length):au (cC W π) k=JG (au W (π.getD k 0)):=by
 have h:k < π.length:=by rw[o.len];exact hk
 simp[au,cC,h,List.getD_eq_getElem?_getD]
theorem td (o:Ord W π) {k:Nat}(hk:k < W.length):(mf P π).getD k 0=P.getD (π.getD k 0) 0:=by
 have h:k < π.length:=by rw[o.len];exact hk
 simp[mf,h,List.getD_eq_getElem?_getD]
theorem sE (b:Bool) (w:Wy):aG (!b) (JG w)=aG b w:=by cases b<;>rfl
theorem sg (b:Bool) (w:Wy):bX (!b) (JG w)=bX b w:=by cases b<;>rfl
theorem Ord.ris (o:Ord W π):wI (cC W π):=by
 unfold wI cC
 rw[List.pairwise_map]
 exact o.up
theorem Jj (h:wI W) {i j:Nat}(hi:i < W.length) (hj:j < W.length) (e:(au W i).1 < (au W j).1\/((au W i).1=(au W j).1/\(au W i).2.1 < (au W j).2.1)):i < j:=by
 rcases Nat.lt_or_ge i j with q|q
 ·exact q
 ·exfalso
  rcases Nat.eq_or_lt_of_le q with q|q
  ·subst q;omega
  ·have:=List.pairwise_iff_getElem.mp h j i hj hi q
   rw[gF hi,gF hj] at this
   omega
theorem xh {l:List Nat}{n:Nat}(p:l.Perm (List.range n)) (h:l.Pairwise (· < ·)):l=List.range n:=by
 refine gy (fun i=>((i:Nat):Int)) p (h.imp fun {a b} q=>by omega) (List.pairwise_lt_range.imp fun {a b} q=>by omega)
theorem map_getD (l:List Nat):(List.range l.length).map (fun k=>l.getD k 0)=l:=by
 apply List.ext_getElem
 ·simp
 ·intro i h1 h2
  simp[h2]
theorem Ord.back (h:wI W) (o:Ord W π) (o':Ord (cC W π) π'):π'.map (fun k=>π.getD k 0)=List.range W.length:=by
 have hl:(cC W π).length=W.length:=cP o
 refine xh ?_ ?_
 ·have:=(o'.perm.map fun k=>π.getD k 0)
  rw[hl,<- o.len,map_getD] at this
  exact this.trans o.perm
 ·rw[List.pairwise_map]
  refine o'.up.imp_of_mem fun {i j} hi hj q=>?_
  have hi':i < W.length:=by have:=o'.perm.mem_iff.mp hi;rw[hl] at this;simpa using this
  have hj':j < W.length:=by have:=o'.perm.mem_iff.mp hj;rw[hl] at this;simpa using this
  rw[fE o hi',fE o hj'] at q
  exact Jj h (o.lt hi') (o.lt hj') q
theorem Fw (h:wI W) (o:Ord W π) (o':Ord (cC W π) π'):cC (cC W π) π'=W:=by
 have hl:(cC W π).length=W.length:=cP o
 have e:cC (cC W π) π'=(π'.map fun k=>π.getD k 0).map fun i=>au W i:=by
  unfold cC
  rw[List.map_map]
  refine List.map_congr_left fun k hk=>?_
  have hk':k < W.length:=by have:=o'.perm.mem_iff.mp hk;rw[hl] at this;simpa using this
  have:=fE o hk'
  unfold cC at this
  rw[this];rfl
 rw[e,o.back h o']
 have:=map_range (0,0,0) (fun w:Wy=>w) W
 simpa [au] using this
theorem CL (o:Ord W π) (b:Bool) (p:Int):((own (!b) (cC W π) p).map fun k=>π.getD k 0).Perm (own b W p):=by
 have hl:(cC W π).length=W.length:=cP o
 have e:((own (!b) (cC W π) p).map fun k=>π.getD k 0)=π.filter fun i=>decide (aG b (au W i)=p):=by
  conv=>rhs;rw[<- map_getD π,List.filter_map,o.len]
  unfold own
  rw[hl]
  congr 1
  refine List.filter_congr fun k hk=>?_
  have hk':k < W.length:=by simpa using hk
  rw[fE o hk',sE];rfl
 rw[e]
 exact o.perm.filter _
theorem B1 (o:Ord W π) (b:Bool) (p:Int):(JH (!b) (cC W π) p).Perm (JH b W p):=by
 have hl:(cC W π).length=W.length:=cP o
 rw[<- jQ,<- jQ]
 have:=(CL o b p).map fun i=>bX b (au W i)
 rw[List.map_map] at this
 refine List.Perm.trans (List.Perm.of_eq ?_) this
 refine List.map_congr_left fun k hk=>?_
 have hk':k < W.length:=by have:=(ck.mp hk).1;rwa [hl] at this
 show bX (!b) (au (cC W π) k)=bX b (au W (π.getD k 0))
 rw[fE o hk',sg]
theorem Ord.wd (h:Wd G T W) (o:Ord W π):Wd T G (cC W π) where
 g1:=h.t1
 g4:=h.t4
 t1:=h.g1
 t4:=h.g4
 ga:=h.ta
 ta:=h.ga
 gl:=fun i p e=>(h.tl i p e).trans (B1 o true i).symm
 tl:=fun i p e=>(h.gl i p e).trans (B1 o false i).symm
 wr:=fun w hw=>by
  obtain⟨i,hi,rfl⟩:=List.mem_map.mp hw
  have hi':i < W.length:=by have:=o.perm.mem_iff.mp hi;simpa using this
  have:=h.wr (au W i) (by rw[<- gF hi'];exact List.getElem_mem _)
  exact⟨this.2.1,this.1,this.2.2⟩
 wp:=o.ris
 wl:=by rw[cP o];exact h.wl
theorem sZ (b:Bool) (G T:List Pl):br (!b) T G=br b G T:=by cases b<;>rfl
theorem BZ (b:Bool) (G T:List Pl) (i:Nat):bL (!b) T G i=bL b G T i:=by unfold bL;rw[sZ]
noncomputable def kM (b:Bool) (W:List Wy) (P:List Int) (p:Int):Int:=((own b W p).map fun i=>P.getD i 0).sum
theorem pC {l m:List Int}(p:l.Perm m):l.sum=m.sum:=by
 induction p with
 | nil=>rfl
 | cons x _ ih=>simp[ih]
 | swap x y l=>simp only[List.sum_cons];omega
 | trans _ _ h1 h2=>exact h1.trans h2
theorem By (o:Ord W π) (b:Bool) (p:Int):kM (!b) (cC W π) (mf P π) p=kM b W P p:=by
 have hl:(cC W π).length=W.length:=cP o
 have:=pC ((CL o b p).map fun i=>P.getD i 0)
 unfold kM
 rw[<- this,List.map_map]
 congr 1
 refine List.map_congr_left fun k hk=>?_
 have hk':k < W.length:=by have:=(ck.mp hk).1;rwa [hl] at this
 exact td o hk'
theorem GV (h:Wd G T W) (o:Ord W π) {b:Bool}{i:Nat}{p:Pl}(e:(br b G T)[i]?=some p) {x:Int}(hx:x∈p.2):nr (!b) (cC W π) i x < W.length/\π.getD (nr (!b) (cC W π) i x) 0=nr b W i x:=by
 have e':(br (!b) T G)[i]?=some p:=by rw[sZ];exact e
 obtain⟨h1,h2,h3⟩:=lC (o.wd h) e' hx
 obtain⟨g1,g2,g3⟩:=lC h e hx
 rw[cP o] at h1
 rw[fE o h1,sE] at h2
 rw[fE o h1,sg] at h3
 exact⟨h1,u4 h.wp (o.lt h1) g1 (by rw[h2,g2]) (by rw[h3,g3])⟩
end
noncomputable def rE (L:List Int) (x:Int):Nat:=L.findIdx fun o=>decide (o=x)
noncomputable def rH (b:Bool) (G T:List Pl) (W:List Wy) (P:List Int) (k:Nat):Bool :=
 decide (kM b W P (aG b (au W k)) < (bL b G T (aG b (au W k)).toNat).1) ||
 ((bL b G T (aG b (au W k)).toNat).2.drop (rE (bL b G T (aG b (au W k)).toNat).2 (bX b (au W k))+1)).any fun o=>decide (0 < P.getD (nr b W (aG b (au W k)) o) 0)
noncomputable def dy (G T:List Pl) (W:List Wy) (P:List Int) (k:Nat):Nat :=
 if P.getD k 0=(au W k).2.2 then 0 else if rH false G T W P k=false then 1 else if rH true G T W P k=false then 2 else 3
noncomputable def Gx (G T:List Pl) (W:List Wy) (P:List Int):List Nat:=(List.range W.length).filter fun k=>decide (dy G T W P k=3)
section
variable {W:List Wy}{π π':List Nat}{P:List Int}{G T:List Pl}
theorem Wd.end_pl (h:Wd G T W) (b:Bool) {k:Nat}(hk:k < W.length):0<=aG b (au W k)/\(aG b (au W k)).toNat < (br b G T).length/\((aG b (au W k)).toNat:Int)=aG b (au W k):=by
 have:=h.wr (au W k) (by rw[<- gF hk];exact List.getElem_mem _)
 cases b
 ·simp only[aG,br,Bool.false_eq_true,if_false];omega
 ·simp only[aG,br,if_true];omega
theorem qU {α:Type}{p q:α->Bool}:∀ {l:List α},(∀x∈l,p x=q x)->l.any p=l.any q
 | [],_=>rfl
 | a::l,h=>by rw[List.any_cons,List.any_cons,h a List.mem_cons_self,qU fun x hx=>h x (List.mem_cons_of_mem _ hx)]
theorem Bh (h:Wd G T W) (o:Ord W π) (b:Bool) {k:Nat}(hk:k < W.length):rH (!b) T G (cC W π) (mf P π) k=rH b G T W P (π.getD k 0):=by
 obtain⟨h1,h2,h3⟩:=h.end_pl b (o.lt hk)
 unfold rH
 rw[fE o hk,sE,sg,BZ,By o]
 congr 1
 rw[<- h3]
 simp only[Int.toNat_natCast]
 refine qU fun x hx=>?_
 obtain⟨e1,e2⟩:=GV h o (kJ h2) (List.mem_of_mem_drop hx)
 rw[td o e1,e2]
structure Pn (G T:List Pl) (W:List Wy) (P:List Int):Prop where
 len:P.length=W.length
 bd:∀k,k < W.length->0<=P.getD k 0/\P.getD k 0<=(au W k).2.2
 am:∀ (b:Bool) (i:Nat),i < (br b G T).length->kM b W P i<=(bL b G T i).1
theorem Pn.tu (h:Wd G T W) (o:Ord W π) (p:Pn G T W P):Pn T G (cC W π) (mf P π) where
 len:=by rw[EV o,cP o]
 bd:=fun k hk=>by
  rw[cP o] at hk
  rw[td o hk,fE o hk]
  exact p.bd _ (o.lt hk)
 am:=fun b i hi=>by
  have:=p.am (!b) i (by rw[<- sZ b T G] at hi;exact hi)
  rw[<- By o (!b),<- BZ (!b),Bool.not_not] at this
  exact this
end
section
variable {W:List Wy}{G T:List Pl}{off:List Int}
theorem zd (h:Wd G T W) (b:Bool):∀ (n:Nat),n<=(br b G T).length ->
  ((List.range n).foldl (vp b G T W off) (List.replicate W.length 0)).length=W.length/\∀k,k < W.length ->
   ((List.range n).foldl (vp b G T W off) (List.replicate W.length 0)).getD k 0=if aG b (au W k) < n then (nR W off (bL b G T (aG b (au W k)).toNat).1 (d0 b W (aG b (au W k)).toNat (bL b G T (aG b (au W k)).toNat).2)).getD k 0 else 0
 | 0,_=>by
  refine⟨by simp,fun k hk=>?_⟩
  obtain⟨h1,_,_⟩:=h.end_pl b hk
  rw[if_neg (by omega)]
  simp[List.getD_eq_getElem?_getD,hk]
 | n+1,hn=>by
  obtain⟨h1,h2⟩:=zd h b n (by omega)
  rw[List.range_succ,List.foldl_append,List.foldl_cons,List.foldl_nil]
  generalize (List.range n).foldl (vp b G T W off) (List.replicate W.length 0)=s at h1 h2
  refine⟨nW h1,fun k hk=>?_⟩
  have hz:(vp b G T W off s n).getD k 0=s.getD k 0+(nR W off (bL b G T n).1 (d0 b W n (bL b G T n).2)).getD k 0:=u9 (by omega) (by rw[lH];exact hk)
  rw[hz,h2 k hk]
  obtain⟨g1,_,_⟩:=h.end_pl b hk
  have e:=kJ (b:=b) (G:=G) (T:=T) (i:=n) (by omega)
  by_cases he:aG b (au W k)=n
  ·have hn':(aG b (au W k)).toNat=n:=by omega
   rw[if_neg (by omega),if_pos (by omega),hn']
   omega
  ·have hni:k∉d0 b W n (bL b G T n).2:=fun z=>he (ck.mp ((eF h e).mem_iff.mp z)).2
   rw[zr hni]
   by_cases hlt:aG b (au W k) < n
   ·rw[if_pos hlt,if_pos (by omega)];omega
   ·rw[if_neg hlt,if_neg (by omega)];rfl
theorem Jf (h:Wd G T W) (b:Bool) {k:Nat}(hk:k < W.length):(fU b G T W off).getD k 0=(nR W off (bL b G T (aG b (au W k)).toNat).1 (d0 b W (aG b (au W k)).toNat (bL b G T (aG b (au W k)).toNat).2)).getD k 0:=by
 have:=(zd (off:=off) h b _ (Nat.le_refl _)).2 k hk
 obtain⟨_,h2,h3⟩:=h.end_pl b hk
 rw[if_pos (by omega)] at this
 exact this
theorem yB {amt:Int}:∀ (is:List Nat) (s:Int×List Int),is.Nodup->(∀i∈is,i < s.2.length/\s.2.getD i 0=0) ->
  ((is.foldl (i8 W off) s).2.length=s.2.length)/\(is.map fun i=>(is.foldl (i8 W off) s).2.getD i 0).sum=s.1 - (is.foldl (i8 W off) s).1/\∀j,j∉is->(is.foldl (i8 W off) s).2.getD j 0=s.2.getD j 0
 | [],s,_,_=>⟨rfl,by simp,fun _ _=>rfl⟩
 | i::is,s,hn,hz=>by
  rw[List.nodup_cons] at hn
  obtain⟨hi,h0⟩:=hz i List.mem_cons_self
  have hs:∀j∈is,j < (i8 W off s i).2.length/\(i8 W off s i).2.getD j 0=0:=fun j hj=>by
   obtain⟨a,b⟩:=hz j (List.mem_cons_of_mem _ hj)
   refine⟨by simpa [i8] using a,?_⟩
   simp only[i8,cW]
   have hne:¬ (i=j/\j < s.2.length):=fun z=>hn.1 (z.1 ▸ hj)
   rw[if_neg hne,b]
  obtain⟨r1,r2,r3⟩:=yB (amt:=amt) is (i8 W off s i) hn.2 hs
  rw[List.foldl_cons]
  refine⟨by rw[r1];simp[i8],?_,fun j hj=>?_⟩
  ·rw[List.map_cons,List.sum_cons,r2,r3 i hn.1]
   simp only[i8,cW]
   rw[if_pos ⟨trivial,hi⟩]
   omega
  ·rw[r3 j fun z=>hj (List.mem_cons_of_mem _ z)]
   simp only[i8,cW]
   have hne:¬ (i=j/\j < s.2.length):=fun z=>hj (z.1 ▸ List.mem_cons_self)
   rw[if_neg hne]
theorem uV (ho:Off off) (hl:K7 W):∀ (is:List Nat) (s:Int×List Int),0<=s.1->0<=(is.foldl (i8 W off) s).1
 | [],s,h=>h
 | i::is,s,h=>by
  rw[List.foldl_cons]
  refine uV ho hl is _ ?_
  simp only[i8,cV]
  have:=ho i;have:=hl i
  omega
theorem E9 (h:Wd G T W) (ho:Off off) {b:Bool}{i:Nat}(hi:i < (br b G T).length) :
  ((own b W i).map fun k=>(nR W off (bL b G T i).1 (d0 b W i (bL b G T i).2)).getD k 0).sum<=(bL b G T i).1:=by
 have e:=kJ hi
 have pm:=eF h e
 rw[<- pC (pm.map fun k=>(nR W off (bL b G T i).1 (d0 b W i (bL b G T i).2)).getD k 0)]
 have hn:(d0 b W i (bL b G T i).2).Nodup:=pm.nodup_iff.mpr (List.nodup_range.filter _)
 obtain⟨_,r2,_⟩:=yB (W:=W) (off:=off) (amt:=0) (d0 b W i (bL b G T i).2) ((bL b G T i).1,List.replicate W.length 0) hn fun k hk=>by
  have hk':=(ck.mp (pm.mem_iff.mp hk)).1
  refine⟨by simpa using hk',by simp[List.getD_eq_getElem?_getD,hk']⟩
 have:=uV ho h.lim (d0 b W i (bL b G T i).2) ((bL b G T i).1,List.replicate W.length 0) (h.amt b i)
 unfold nR
 rw[r2]
 show (bL b G T i).1 - _<=(bL b G T i).1
 omega
theorem zv (h:Wd G T W) (ho:Off off) {b:Bool}{i:Nat}(hi:i < (br b G T).length):kM b W (fU b G T W off) i<=(bL b G T i).1:=by
 refine Int.le_trans (Int.le_of_eq ?_) (E9 h ho hi)
 unfold kM
 congr 1
 refine List.map_congr_left fun k hk=>?_
 obtain⟨hk',he⟩:=ck.mp hk
 have:=Jf (off:=off) h b hk'
 rw[he,Int.toNat_natCast] at this
 exact this
theorem mz {b:Bool}{P Q:List Int}{p:Int}(h:∀k,k < W.length->P.getD k 0=Q.getD k 0):kM b W P p=kM b W Q p:=by
 unfold kM
 congr 1
 exact List.map_congr_left fun k hk=>h k (ck.mp hk).1
theorem Fg (h:Wd G T W) {c:List Int}(ho:Off c) (hc:∀k,k < W.length->c.getD k 0<=(au W k).2.2) (e:wV G T W c=none):Pn G T W (fU false G T W c) where
 len:=kW _ _ _ _ _
 bd:=fun k hk=>⟨lA h ho false k,Int.le_trans (xa h ho false hk) (hc k hk)⟩
 am:=fun b i hi=>by
  cases b
  ·exact zv h ho hi
  ·have hke:∀k,k < W.length->(uK G T W c).getD k 0=(fU false G T W c).getD k 0:=fun k hk=>by
    have h1:=xa h (lA h ho false) true hk
    have h2:qR G T W c k=false:=by
     unfold wV at e
     rw[Option.map_eq_none_iff] at e
     have:=List.find?_eq_none.mp e k (by simpa using hk)
     simpa using this
    unfold qR at h2
    have h3:=of_decide_eq_false h2
    unfold uK at h3 ⊢
    omega
   rw[<- mz hke]
   exact zv h (lA h ho false) hi
end
noncomputable def oG (G T:List Pl) (W:List Wy) (P:List Int):Bool :=
 ((List.range G.length).all fun i=>decide (kM false W P i<=(bL false G T i).1))&&((List.range T.length).all fun i=>decide (kM true W P i<=(bL true G T i).1))
noncomputable def zs (n:Nat):List Int:=List.replicate n 0
noncomputable def kA (d:Nat->Int) (G T:List Pl) (W:List Wy):Nat->List Int
 | 0=>[]
 | k+1=>if oG G T W ((kA d G T W k++[d k])++zs (W.length - (kA d G T W k++[d k]).length))=true then kA d G T W k++[d k] else kA d G T W k++[0]
section
variable {W:List Wy}{G T:List Pl}{d:Nat->Int}
theorem fx {P:List Int}:oG G T W P=true↔∀ (b:Bool) (i:Nat),i < (br b G T).length->kM b W P i<=(bL b G T i).1:=by
 unfold oG
 rw[Bool.and_eq_true,List.all_eq_true,List.all_eq_true]
 constructor
 ·rintro⟨h1,h2⟩ b i hi
  cases b
  ·exact of_decide_eq_true (h1 i (by simpa [br] using hi))
  ·exact of_decide_eq_true (h2 i (by simpa [br] using hi))
 ·intro h
  exact⟨fun i hi=>decide_eq_true (h false i (by simpa [br] using hi)),fun i hi=>decide_eq_true (h true i (by simpa [br] using hi))⟩
theorem lh:∀k,(kA d G T W k).length=k
 | 0=>rfl
 | k+1=>by
  unfold kA
  split<;>simp[lh k]
theorem BU {b:Bool}{P:List Int}{p:Int}(h:∀k,P.getD k 0=0):kM b W P p=0:=by
 unfold kM
 have:((own b W p).map fun i=>P.getD i 0)=(own b W p).map fun _=>(0:Int):=List.map_congr_left fun k _=>h k
 rw[this]
 generalize own b W p=l
 induction l with
 | nil=>rfl
 | cons a l ih=>simp[ih]
theorem Gv (n k:Nat):(zs n).getD k 0=0:=by
 simp only[zs,List.getD_eq_getElem?_getD,List.getElem?_replicate]
 split<;>rfl
theorem Co (l:List Int) (n k:Nat):(l++zs n).getD k 0=l.getD k 0:=by
 by_cases h:k < l.length
 ·simp[List.getD_eq_getElem?_getD,List.getElem?_append_left h]
 ·have h':l.length<=k:=by omega
  have:=Gv n (k - l.length)
  simp only[List.getD_eq_getElem?_getD] at this ⊢
  rw[List.getElem?_append_right h',this]
  simp[h']
theorem Me (l:List Int) (k:Nat):(l++[0]).getD k 0=l.getD k 0:=Co l 1 k
theorem zg (h:Wd G T W):∀k,oG G T W (kA d G T W k)=true
 | 0=>fx.mpr fun b i hi=>by
  rw[BU fun k=>by simp[kA]]
  exact h.amt b i
 | k+1=>by
  unfold kA
  split
  ·rename_i e
   refine fx.mpr fun b i hi=>?_
   have:=fx.mp e b i hi
   rw[mz (Q:=kA d G T W k++[d k]) fun j _=>Co _ _ _] at this
   exact this
  ·refine fx.mpr fun b i hi=>?_
   rw[mz (Q:=kA d G T W k) fun j _=>Me _ _]
   exact fx.mp (zg h k) b i hi
theorem xH (hd:∀k,k < W.length->0<=d k/\d k<=(au W k).2.2) (hl:K7 W):∀k,k<=W.length->∀j,j < k->0<=(kA d G T W k).getD j 0/\(kA d G T W k).getD j 0<=(au W j).2.2
 | 0,_,j,hj=>by omega
 | k+1,hk,j,hj=>by
  have ih:=xH hd hl k (by omega) j
  have len:(kA d G T W k).length=k:=lh k
  have key:∀x,(0<=x/\x<=(au W k).2.2)->0<=(kA d G T W k++[x]).getD j 0/\(kA d G T W k++[x]).getD j 0<=(au W j).2.2:=fun x hx=>by
   by_cases hjk:j < k
   ·rw[List.getD_eq_getElem?_getD,List.getElem?_append_left (by omega),<- List.getD_eq_getElem?_getD]
    exact ih hjk
   ·have:j=k:=by omega
    subst this
    rw[List.getD_eq_getElem?_getD,List.getElem?_append_right (by omega),len]
    simpa using hx
  unfold kA
  split
  ·exact key _ (hd k (by omega))
  ·exact key _ ⟨by omega,hl k⟩
theorem IA (h:Wd G T W) (hd:∀k,k < W.length->0<=d k/\d k<=(au W k).2.2):Pn G T W (kA d G T W W.length) where
 len:=lh _
 bd:=xH hd h.lim W.length (Nat.le_refl _)
 am:=fx.mp (zg h _)
theorem Pn.fit {P:List Int}(p:Pn G T W P):oG G T W P=true:=fx.mpr p.am
end
theorem qX {tt:Dl.Env->Option Bool}{te:Dl.Env->Option D}{r:List (Option D)}{x y h:Nat->D}{p:Nat->Bool}:∀ (is:List Nat),
  (∀i∈is,tt (some (x i)::some (y i)::r)=some (p i)/\(p i=true->te (some (x i)::some (y i)::r)=some (h i))) ->
  b0 (fY 0 1) tt te (none::none::r) (is.map fun i=>.tuple [x i,y i])=some ((is.filter p).map h)
 | [],_=>rfl
 | i::is,hh=>by
  obtain⟨h1,h2⟩:=hh i List.mem_cons_self
  have ih:=qX is fun j hj=>hh j (List.mem_cons_of_mem _ hj)
  have hg:fY 0 1 (none::none::r) (.tuple [x i,y i])=some (some (x i)::some (y i)::r):=by
   simp only[fY,isFree,List.getElem?_cons_zero,List.getElem?_cons_succ,Option.getD_some,Option.isNone_none,and_self,if_true,List.set_cons_zero,List.set_cons_succ]
  rw[List.map_cons,b0,hg]
  simp only[Option.bind_some,h1]
  cases hp:p i with
  | true=>simp[h2 hp,ih,hp]
  | false=>simp[ih,hp]
theorem k6 {cs:List Nat}{fi:Dl.Env->Option (List D)}{tt:Dl.Env->Option Bool}{te:Dl.Env->Option D}{ρ:Dl.Env}{n:Nat}{x y h:Nat->D}{p:Nat->Bool}(hfi:fi ρ=some ((List.range n).map fun i=>.tuple [x i,y i])) (hl:n<=1000)
  (hh:∀i,i < n->tt (some (x i)::some (y i)::cs.map fun j=>(ρ[j]?).getD none)=some (p i)/\(p i=true->te (some (x i)::some (y i)::cs.map fun j=>(ρ[j]?).getD none)=some (h i))) :
  ak 2 cs fi (fY 0 1) tt te ρ=some (((List.range n).filter p).map h):=by
 have:=qX (tt:=tt) (te:=te) (r:=cs.map fun j=>(ρ[j]?).getD none) (p:=p) (h:=h) (List.range n) fun i hi=>hh i (by simpa using hi)
 simp only[ak,hfi,Option.bind_some,dQ,List.replicate,List.cons_append,List.nil_append,this]
 refine aS ?_
 rw[List.length_map]
 refine Nat.le_trans (List.length_filter_le _ _) ?_
 rw[List.length_range]
 omega
theorem qQ {W:List Wy}{P:List Int}(h:P.length=W.length):gT (W.map aq) (P.map PyData.int)=(List.range W.length).map fun i=>.tuple [aq (au W i),.int (P.getD i 0)]:=by
 apply List.ext_getElem?
 intro i
 by_cases hi:i < W.length
 ·have hz:i < (gT (W.map aq) (P.map PyData.int)).length:=by rw[lM];simp[h];exact hi
  rw[List.getElem?_eq_getElem hz]
  obtain⟨x,y,e1,e2,e3⟩:=o3 (List.getElem?_eq_getElem hz)
  rw[List.getElem?_map,iD hi] at e1
  rw[List.getElem?_map,List.getElem?_eq_getElem (by omega)] at e2
  cases e1
  have e2:PyData.int P[i]=y:=by simpa using e2
  rw[e3,<- e2]
  have:i < P.length:=by omega
  simp[hi,this,List.getD_eq_getElem?_getD]
 ·rw[List.getElem?_eq_none (by rw[lM];simp;omega),List.getElem?_eq_none (by simp;omega)]
noncomputable def Sm (P:List Int):Prop:=∀k,-1000000<=P.getD k 0/\P.getD k 0<=1000000
theorem zz {W:List Wy}{P:List Int}(hs:Sm P) (hw:W.length<=16) (b:Bool) (p:Int):Ho ((own b W p).map fun i=>P.getD i 0)=true:=by
 unfold Ho
 rw[Bool.and_eq_true,decide_eq_true_eq,List.all_eq_true]
 refine⟨?_,fun x hx=>?_⟩
 ·have:=sO b W p
  rw[List.length_map]
  omega
 ·obtain⟨i,_,rfl⟩:=List.mem_map.mp hx
  rw[Bool.and_eq_true,decide_eq_true_eq,decide_eq_true_eq]
  exact hs i
theorem qN {G T:List Pl}{W:List Wy}(h:Wd G T W) {P:List Int}(hp:P.length=W.length) (hs:Sm P) (b:Bool) (p:Int):cM [aw G T W,af P,.int (sI b),.int p]=some (.int (kM b W P p)):=by
 have hw:=h.wl
 refine aL ?_
 show mF [.val (aw G T W),.val (af P),.val (.int (sI b)),.val (.int p)]=_
 have hz:eV (aa (f2 ao (ab 0) (fC (.int 2))) (aa (ab 1) ae)) [some (aw G T W),some (af P),some (.int (sI b)),some (.int p)]=some ((List.range W.length).map fun i=>.tuple [aq (au W i),.int (P.getD i 0)]):=by
  rw[<- qQ hp]
  rfl
 have c:ak 2 [2,3] (eV (aa (f2 ao (ab 0) (fC (.int 2))) (aa (ab 1) ae))) (fY 0 1) (fB (f2 bI (f2 ao (ab 0) (ab 2)) (ab 3))) (ab 1) [some (aw G T W),some (af P),some (.int (sI b)),some (.int p)]=some ((own b W p).map fun i=>.int (P.getD i 0)):=by
  rw[k6 (p:=fun i=>decide (aG b (au W i)=p)) (h:=fun i=>.int (P.getD i 0)) hz (by omega) fun i hi=>⟨?_,fun _=>rfl⟩]
  ·rfl
  ·show fB (f2 bI (f2 ao (ab 0) (ab 2)) (ab 3)) [some (aq (au W i)),some (.int (P.getD i 0)),some (.int (sI b)),some (.int p)]=_
   exact bB (by rw[hV (a:=.int (aG b (au W i))) (b:=.int p) (ax (nN b _) rfl rfl) rfl,cF])
 refine aN ?_
 have e:((own b W p).map fun i=>PyData.int (P.getD i 0))=((own b W p).map fun i=>P.getD i 0).map PyData.int:=by rw[List.map_map];rfl
 show bb qb (aa (cf (ak 2 [2,3] (eV (aa (f2 ao (ab 0) (fC (.int 2))) (aa (ab 1) ae))) (fY 0 1) (fB (f2 bI (f2 ao (ab 0) (ab 2)) (ab 3))) (ab 1))) ae) [some (aw G T W),some (af P),some (.int (sI b)),some (.int p)]=_
 rw[e] at c
 simp only[bb,aa,ae,cf,c,Option.map_some,Option.bind_some]
 show qb [.list (((own b W p).map fun i=>P.getD i 0).map PyData.int)]=_
 simp only[qb,cT,oneOf,fM,Option.bind_some,cJ,zz hs hw b p,if_true]
 rfl
theorem pI (L:List Pl):bu 0 (L.map bH)=(List.range L.length).map fun i=>.tuple [nD i,bH (L.getD i (0,[]))]:=by
 rw[enum_zip]
 apply List.ext_getElem
 ·simp
 ·intro i h1 h2
  have:i < L.length:=by simpa using h2
  simp[this,List.getD_eq_getElem?_getD]
theorem rK {p:Nat->Bool}(is:List Nat):lF [.list (is.map fun i=>.bool (p i))]=some (.bool (is.all p)):=by
 have:∀is:List Nat,boolsOf (is.map fun i=>PyData.bool (p i))=some (is.map p):=fun is=>by
  induction is with
  | nil=>rfl
  | cons i is ih=>simp[boolsOf,ih]
 simp only[lF,oneOf,Option.bind_some,this,Option.map_some,List.all_map]
 rfl
theorem zt {G T:List Pl}{W:List Wy}(h:Wd G T W) {P:List Int}(hp:P.length=W.length) (hs:Sm P) (b:Bool):cn [aw G T W,af P,.int (sI b)]=some (.bool ((List.range (br b G T).length).all fun i=>decide (kM b W P i<=(bL b G T i).1))):=by
 have hl:=h.pl b
 refine aL ?_
 show eP [.val (aw G T W),.val (af P),.val (.int (sI b))]=_
 have he:ba (aa (f2 ao (ab 0) (ab 2)) ae) [some (aw G T W),some (af P),some (.int (sI b))]=some ((List.range (br b G T).length).map fun i=>.tuple [nD i,bH (bL b G T i)]):=by
  have:=pI (br b G T)
  unfold bL
  rw[<- this]
  cases b<;>rfl
 have c:=k6 (cs:=[0,1,2]) (tt:=fun _=>some true) (te:=f2 yA (ag 4 cM (aa (ab 2) (aa (ab 3) (aa (ab 4) (aa (ab 0) ae))))) (f2 ao (ab 1) (fC (.int 0)))) (p:=fun _=>true) (h:=fun i=>.bool (decide (kM b W P i<=(bL b G T i).1))) he (by omega) fun i hi=>⟨rfl,fun _=>ax (a:=.int (kM b W P i)) (b:=.int (bL b G T i).1) rfl (call_of (qN h hp hs b i) rfl rfl) rfl⟩
 refine aN ?_
 show bb lF (aa (cf (ak 2 [0,1,2] (ba (aa (f2 ao (ab 0) (ab 2)) ae)) (fY 0 1) (fun _=>some true) (f2 yA (ag 4 cM (aa (ab 2) (aa (ab 3) (aa (ab 4) (aa (ab 0) ae))))) (f2 ao (ab 1) (fC (.int 0)))))) ae) [some (aw G T W),some (af P),some (.int (sI b))]=_
 simp only[bb,aa,ae,cf,c,Option.map_some,Option.bind_some]
 rw[show (List.range (br b G T).length).filter (fun _=>true)=List.range (br b G T).length by simp,rK]
theorem Ck {fa fb:Dl.Env->Option D}{ρ:Dl.Env}{d:D}(ha:fa ρ=some (.bool true)) (hb:fb ρ=some d):jY fa fb ρ=some d:=by
 simp only[jY,ha,Option.bind_some,hb]
theorem Ge {fa fb:Dl.Env->Option D}{ρ:Dl.Env}(ha:fa ρ=some (.bool false)):jY fa fb ρ=some (.bool false):=by
 simp only[jY,ha,Option.bind_some]
theorem FF {fa fb:Dl.Env->Option D}{ρ:Dl.Env}{a b:Bool}(ha:fa ρ=some (.bool a)) (hb:fb ρ=some (.bool b)):jY fa fb ρ=some (.bool (a&&b)):=by
 cases a
 ·exact Ge ha
 ·exact Ck ha hb
theorem xf {g:List D->Option D}{f:Dl.Env->Option D}{ρ:Dl.Env}{d:D}(h:f ρ=some d):bb g (aa f ae) ρ=g [d]:=by
 simp only[bb,aa,ae,h,Option.map_some,Option.bind_some]
theorem mC {α:Type}{k:α->D}{f:Dl.Env->Option D}{ρ:Dl.Env}{l:List α}(h:f ρ=some (.tuple (l.map k))):bb bz (aa f ae) ρ=some (nD l.length):=by
 rw[xf h,y1,List.length_map]
noncomputable def KW (W:List Wy) (P:List Int):Bool:=(List.range W.length).all fun k=>decide (0<=P.getD k 0)&&decide (P.getD k 0<=(au W k).2.2)
noncomputable def yT (b:Bool) (G T:List Pl) (W:List Wy) (P:List Int):Bool:=(List.range (br b G T).length).all fun i=>decide (kM b W P i<=(bL b G T i).1)
noncomputable def Kz (G T:List Pl) (W:List Wy) (P:List Int):Bool:=KW W P&&(yT false G T W P&&yT true G T W P)
theorem FS {G T:List Pl}{W:List Wy}{P:List Int}(hp:P.length=W.length):Kz G T W P=true↔Pn G T W P:=by
 simp only[Kz,KW,yT,Bool.and_eq_true,List.all_eq_true,List.mem_range,decide_eq_true_eq]
 constructor
 ·rintro⟨h1,h2,h3⟩
  exact⟨hp,h1,fun b=>by cases b<;>assumption⟩
 ·intro p
  exact⟨p.bd,p.am false,p.am true⟩
theorem HS (P:List Int):mU (af P)=true:=rfl
theorem zN {G T:List Pl}{W:List Wy}(h:Wd G T W) {P:List Int}(hp:P.length=W.length) (hs:Sm P):g9 [aw G T W,af P]=some (.bool (Kz G T W P)):=by
 have hw:=h.wl
 have hlen:(P.map PyData.int).length=W.length:=by rw[List.length_map,hp]
 refine aL ?_
 show jU [.val (aw G T W),.val (af P),.non]=_
 unfold jU
 have t1:Dl.ay 2 [0] (f2 ao (ab 0) (fC (.int 2))) [.val (aw G T W),.val (af P),.non]=some (.nx [.val (aw G T W),.val (af P),.val (.tuple (W.map aq))]):=bW (d:=.tuple (W.map aq)) rfl rfl rfl rfl
 rw[ah t1]
 have el:aX [af P,nD W.length,nD W.length]=some (.bool true):=by
  rw[show nD W.length=.int ((W.length:Nat):Int) from rfl,dY (HS P)]
  simp[long,af,hp]
 have hl:∀ρ:Dl.Env,ab 2 ρ=some (.tuple (W.map aq))->bb bz (aa (ab 2) ae) ρ=some (nD W.length):=fun ρ hr=>mC hr
 have c1:(bw (fB (ag 3 aX (aa (ab 1) (aa (bb bz (aa (ab 2) ae)) (aa (bb bz (aa (ab 2) ae)) ae)))))) (bc [.val (aw G T W),.val (af P),.val (.tuple (W.map aq))])=some false :=
  dJ (bB (call_of el (cons_of rfl (cons_of (hl _ rfl) (cons_of (hl _ rfl) rfl))) rfl))
 rw[ah (dm c1)]
 have hz:eV (aa (ab 2) (aa (ab 1) ae)) [some (aw G T W),some (af P),some (.tuple (W.map aq))]=some ((List.range W.length).map fun i=>.tuple [aq (au W i),.int (P.getD i 0)]):=by
  rw[<- qQ hp]
  rfl
 have c2:=k6 (cs:=[]) (tt:=fun _=>some true) (te:=ag 3 aO (aa (ab 1) (aa (fC (.int 0)) (aa (f2 ao (ab 0) (fC (.int 2))) ae)))) (p:=fun _=>true) (h:=fun k=>.bool (decide (0<=P.getD k 0)&&decide (P.getD k 0<=(au W k).2.2))) hz (by omega)
  fun i hi=>⟨rfl,fun _=>call_of (fL (d:=.int (P.getD i 0)) rfl 0 (au W i).2.2) rfl rfl⟩
 have hall:(fB (bb lF (aa (cf (ak 2 [] (eV (aa (ab 2) (aa (ab 1) ae))) (fY 0 1) (fun _=>some true) (ag 3 aO (aa (ab 1) (aa (fC (.int 0)) (aa (f2 ao (ab 0) (fC (.int 2))) ae)))))) ae))) [some (aw G T W),some (af P),some (.tuple (W.map aq))]=some (KW W P):=by
  refine bB ?_
  simp only[bb,aa,ae,cf,c2,Option.map_some,Option.bind_some]
  rw[show (List.range W.length).filter (fun _=>true)=List.range W.length by simp,rK]
  rfl
 have k0:=zt h hp hs false
 have k1:=zt h hp hs true
 cases hb:KW W P with
 | false =>
  rw[hb] at hall
  refine iF ((eX (dJ hall)).trans ?_)
  rw[Kz,hb]
  exact aN rfl
 | true =>
  rw[hb] at hall
  rw[ah (dm (dJ hall)),Kz,hb,Bool.true_and]
  exact aN (FF (call_of k0 rfl rfl) (call_of k1 rfl rfl))
theorem tI {W:List Wy}{k:Nat}(hk:k < W.length):au W k∈W:=gF hk ▸ List.getElem_mem hk
theorem Pn.sm {G T:List Pl}{W:List Wy}(h:Wd G T W) {P:List Int}(p:Pn G T W P):Sm P:=fun k=>by
 by_cases hk:k < W.length
 ·have:=p.bd k hk
  have:=(h.wr _ (tI hk)).2.2.2
  omega
 ·rw[List.getD_eq_getElem?_getD,List.getElem?_eq_none (by rw[p.len];omega)]
  simp
section
variable {G T:List Pl}{W:List Wy}{P:List Int}
theorem qc (h:Wd G T W) (p:Pn G T W P):g9 [aw G T W,af P]=some (.bool true):=by
 rw[zN h p.len (p.sm h),(FS p.len).mpr p]
theorem e9 (h:Wd G T W) (p:Pn G T W P):bh [aw G T W,af P]=some .none:=by
 have:dA [.val (aw G T W),.val (af P)]=some (.nx [.val (aw G T W),.val (af P)]):=by
  unfold dA
  refine (ah (dH (call_of (d9 h) rfl rfl))).trans ?_
  exact dm (dJ (bB (call_of (qc h p) rfl rfl)))
 show (dA [.val (aw G T W),.val (af P)]).map _=_
 rw[this]
 rfl
end
noncomputable def lr (W:List Wy) (i:Nat):List Int:=[(au W i).2.1,(au W i).1]
noncomputable def fZ (W:List Wy):List (List Int):=(List.range W.length).map (lr W)
noncomputable def aI (W:List Wy):List Nat:=nK (fun i=>rk (fZ W) ((fZ W).getD i [])) (List.range W.length) 0
theorem Bu (z:Nat->Int) (n:Nat):nK z ((List.range n).map nD) .none=(nK z (List.range n) 0).map nD:=by
 unfold nK
 rw[List.length_map]
 split
 ·rfl
 ·rename_i h
  rw[List.map_map]
  obtain⟨hp,_⟩:=SP.gv (z:=z) (n:=(List.range n).length) (by omega)
  refine List.map_congr_left fun i hi=>?_
  have hi':i < (List.range n).length:=by have:=hp.mem_iff.mp hi;simpa using this
  rw[List.length_range] at hi'
  simp[hi']
theorem BW {W:List Wy}{i:Nat}(hi:i < W.length):(fZ W).getD i []=lr W i:=by
 simp[fZ,hi]
theorem iR {W:List Wy}(h:wI W):Ord W (aI W) where
 perm:=fy _ _ _
 up:=by
  have hp:(aI W).Perm (List.range W.length):=fy _ _ _
  have hs:(aI W).Pairwise fun i j=>rk (fZ W) (lr W i)<=rk (fZ W) (lr W j):=by
   refine o9 _ _ _ (fun i=>rk (fZ W) (lr W i)) fun i hi=>?_
   rw[List.length_range] at hi
   have e:(List.range W.length).getD i 0=i:=by simp[hi]
   show rk (fZ W) ((fZ W).getD i [])=rk (fZ W) (lr W ((List.range W.length).getD i 0))
   rw[e,BW hi]
  have hn:(aI W).Nodup:=hp.nodup_iff.mpr List.nodup_range
  refine (hs.and hn).imp_of_mem fun {i j} hi hj hij=>?_
  have hi':i < W.length:=by have:=hp.mem_iff.mp hi;simpa using this
  have hj':j < W.length:=by have:=hp.mem_iff.mp hj;simpa using this
  obtain⟨hle,hne⟩:=hij
  have mj:lr W j∈fZ W:=List.mem_map.mpr ⟨j,by simpa using hj',rfl⟩
  have n1:Dl.lexLt (lr W j) (lr W i)=false:=by
   rw[yD mj,decide_eq_false_iff_not]
   omega
  simp only[lr,HT.lexLt] at n1
  by_cases e1:(au W j).2.1=(au W i).2.1
  ·rw[if_pos e1] at n1
   by_cases e2:(au W j).1=(au W i).1
   ·exact absurd (nU h hj' hi' e2 e1).symm hne
   ·rw[if_neg e2,decide_eq_false_iff_not] at n1
    exact .inr ⟨e1.symm,by omega⟩
  ·rw[if_neg e1,decide_eq_false_iff_not] at n1
   exact .inl (by omega)
theorem tup_is {fs:Dl.Env->Option (List D)}{ρ:Dl.Env}{ds:List D}(h:fs ρ=some ds) (hl:ds.length<=1000):aF fs ρ=some (.tuple ds):=by
 simp only[aF,h,Option.bind_some,aS (show ds.length<=4000 by omega),Option.map_some]
theorem Ll (w:Wy):ao (aq w) (.int 0)=some (.int w.1):=rfl
theorem Lu (w:Wy):ao (aq w) (.int 1)=some (.int w.2.1):=rfl
section
variable {G T:List Pl}{W:List Wy}{P:List Int}
theorem jw (h:Wd G T W):aU [aw G T W]=some (.list ((aI W).map nD)):=by
 have hw:=h.wl
 have t1:Dl.ay 1 [0] (f2 ao (ab 0) (fC (.int 2))) [.val (aw G T W),.non]=some (.nx [.val (aw G T W),.val (.tuple (W.map aq))]):=bW (d:=.tuple (W.map aq)) rfl rfl rfl rfl
 have hl:(bb bz (aa (ab 1) ae)) [some (aw G T W),some (.tuple (W.map aq))]=some (nD W.length):=mC (l:=W) (k:=aq) rfl
 have hk:gY (aF (aa (f2 ao (f2 ao (ab 1) (ab 0)) (fC (.int 1))) (aa (f2 ao (f2 ao (ab 1) (ab 0)) (fC (.int 0))) ae))) [none,some (.tuple (W.map aq))] ((List.range W.length).map nD)=some (((List.range W.length).map nD).map fun d=>af (lr W (ip d).toNat)):=by
  refine l9 fun d hd=>?_
  obtain⟨j,hj,rfl⟩:=List.mem_map.mp hd
  have hj':j < W.length:=by simpa using hj
  have a:∀ρ:Dl.Env,ab 1 ρ=some (.tuple (W.map aq))->ab 0 ρ=some (nD j)->(f2 ao (ab 1) (ab 0)) ρ=some (aq (au W j)):=fun ρ e1 e2=>ax (oV hj') e1 e2
  show aF (aa (f2 ao (f2 ao (ab 1) (ab 0)) (fC (.int 1))) (aa (f2 ao (f2 ao (ab 1) (ab 0)) (fC (.int 0))) ae)) [some (nD j),some (.tuple (W.map aq))]=_
  have c2:(aa (f2 ao (f2 ao (ab 1) (ab 0)) (fC (.int 1))) (aa (f2 ao (f2 ao (ab 1) (ab 0)) (fC (.int 0))) ae)) [some (nD j),some (.tuple (W.map aq))]=some [.int (au W j).2.1,.int (au W j).1] :=
   cons_of (ax (Lu (au W j)) (a _ rfl rfl) rfl) (cons_of (ax (Ll (au W j)) (a _ rfl rfl) rfl) rfl)
  rw[tup_is c2 (by simp)]
  simp[ip,lr,af]
 have hr:rowsOf (((List.range W.length).map nD).map fun d=>af (lr W (ip d).toNat))=some (fZ W):=by
  have e:(((List.range W.length).map nD).map fun d=>af (lr W (ip d).toNat))=(fZ W).map af:=by
   simp only[List.map_map,fZ]
   refine List.map_congr_left fun j hj=>?_
   simp[ip]
  rw[e,kG]
  intro ns hns
  obtain⟨j,_,rfl⟩:=List.mem_map.mp hns
  exact List.cons_ne_nil _ _
 refine aL ?_
 show dI [.val (aw G T W),.non]=_
 unfold dI
 rw[ah t1]
 refine aN ?_
 have es:pf [1] (aa (bb bz (aa (ab 1) ae)) ae) (aF (aa (f2 ao (f2 ao (ab 1) (ab 0)) (fC (.int 1))) (aa (f2 ao (f2 ao (ab 1) (ab 0)) (fC (.int 0))) ae))) [some (aw G T W),some (.tuple (W.map aq))]=some ((aI W).map nD):=by
  unfold pf
  rw[cons_of hl rfl,Option.bind_some]
  show (if (0:Int)<=((W.length:Nat):Int)/\((W.length:Nat):Int) < 64 then _ else none)=_
  rw[if_pos ⟨by omega,by omega⟩,Int.toNat_natCast]
  show (gY _ [none,some (.tuple (W.map aq))] ((List.range W.length).map nD)).bind _=_
  rw[hk,Option.bind_some,hr,Option.map_some]
  exact congrArg some (Bu _ _)
 show cf _ [some (aw G T W),some (.tuple (W.map aq))]=_
 simp only[cf,es,Option.map_some]
theorem l4 {cs:List Nat}{fi:Dl.Env->Option (List D)}{te:Dl.Env->Option D}{ρ:Dl.Env}{is:List Nat}{f:Nat->D}(hfi:fi ρ=some (is.map nD)) (hl:is.length<=1000) (hh:∀i∈is,te (some (nD i)::cs.map fun j=>(ρ[j]?).getD none)=some (f i)):ak 1 cs fi (fG 0) (fun _=>some true) te ρ=some (is.map f):=by
 rw[bU (h:=fun d=>f (ip d).toNat) hfi (by rw[List.length_map];omega) fun d hd=>?_]
 ·rw[List.map_map]
  refine congrArg some (List.map_congr_left fun i _=>?_)
  simp[ip]
 ·obtain⟨i,hi,rfl⟩:=List.mem_map.mp hd
  rw[hh i hi]
  simp[ip]
theorem uE {n:Nat}{m:List D->Option D}{fs:Dl.Env->Option (List D)}{ρ:Dl.Env}{ds es:List D}(h:m ds=some (.list es)) (hf:fs ρ=some ds) (hn:ds.length=n):aQ (ag n m fs) ρ=some es:=by
 simp only[aQ,call_of h hf hn,Option.bind_some,fM]
theorem yR (h:wI W) {i:Nat}(hi:i∈aI W):i < W.length:=by
 have:=(iR h).perm.mem_iff.mp hi
 simpa using this
theorem vb (h:wI W):(aI W).length=W.length:=(iR h).len
theorem mN {r:List (Option D)}:∀ (l:List Wy),b0 (Ec 0 1 2) (fun _=>some true) (aF (aa (ab 1) (aa (ab 0) (aa (ab 2) ae)))) (none::none::none::r) (l.map aq)=some ((l.map JG).map aq)
 | []=>rfl
 | w::l=>by
  have ih:=mN (r:=r) l
  have hg:Ec 0 1 2 (none::none::none::r) (aq w)=some (some (.int w.1)::some (.int w.2.1)::some (.int w.2.2)::r):=rfl
  rw[List.map_cons,b0,hg,Option.bind_some]
  have e:aF (aa (ab 1) (aa (ab 0) (aa (ab 2) ae))) (some (.int w.1)::some (.int w.2.1)::some (.int w.2.2)::r)=some (aq (JG w)):=rfl
  simp only[Option.bind_some,if_true,e,ih,Option.map_some,List.map_cons]
theorem oq (h:Wd G T W):eG [aw G T W]=some (aw T G (cC W (aI W))):=by
 have hw:=h.wl
 have hn:=vb h.wp
 refine aL ?_
 show lO [.val (aw G T W),.non]=_
 unfold lO
 refine (ah (dH (call_of (d9 h) rfl rfl))).trans ?_
 have c:ak 1 [0] (aQ (ag 1 aU (aa (ab 0) ae))) (fG 0) (fun _=>some true) (f2 ao (f2 ao (ab 1) (fC (.int 2))) (ab 0)) [some (aw G T W),none]=some ((aI W).map fun i=>aq (au W i)) :=
  l4 (uE (jw h) rfl rfl) (by omega) fun i hi=>ax (oV (yR h.wp hi)) rfl rfl
 have t2:aK 1 [0] (ak 1 [0] (aQ (ag 1 aU (aa (ab 0) ae))) (fG 0) (fun _=>some true) (f2 ao (f2 ao (ab 1) (fC (.int 2))) (ab 0))) [.val (aw G T W),.non]=some (.nx [.val (aw G T W),.own ((aI W).map fun i=>aq (au W i))]):=il c rfl
 rw[ah t2]
 refine aN ?_
 have e3:ak 3 [] (aQ (ab 1)) (Ec 0 1 2) (fun _=>some true) (aF (aa (ab 1) (aa (ab 0) (aa (ab 2) ae)))) [some (aw G T W),some (.list ((aI W).map fun i=>aq (au W i)))]=some ((cC W (aI W)).map aq):=by
  have:=mN (r:=[]) ((aI W).map fun i=>au W i)
  rw[List.map_map,List.map_map] at this
  have hf:aQ (ab 1) [some (aw G T W),some (.list ((aI W).map fun i=>aq (au W i)))]=some ((aI W).map fun i=>aq (au W i)):=rfl
  unfold ak
  rw[hf,Option.bind_some]
  show (b0 (Ec 0 1 2) (fun _=>some true) (aF (aa (ab 1) (aa (ab 0) (aa (ab 2) ae)))) [none,none,none] ((aI W).map fun i=>aq (au W i))).bind small=_
  rw[show ((aI W).map fun i=>aq (au W i))=List.map (aq ∘ fun i=>au W i) (aI W) from rfl,this,Option.bind_some]
  rw[aS (by simp;omega),cC]
  simp only[List.map_map]
  rfl
 show aF (aa (f2 ao (ab 0) (fC (.int 1))) (aa (f2 ao (ab 0) (fC (.int 0))) (aa (bb bG (aa (cf (ak 3 [] (aQ (ab 1)) (Ec 0 1 2) (fun _=>some true) (aF (aa (ab 1) (aa (ab 0) (aa (ab 2) ae)))))) ae)) ae))) [some (aw G T W),some (.list ((aI W).map fun i=>aq (au W i)))]=_
 have e4:(bb bG (aa (cf (ak 3 [] (aQ (ab 1)) (Ec 0 1 2) (fun _=>some true) (aF (aa (ab 1) (aa (ab 0) (aa (ab 2) ae)))))) ae)) [some (aw G T W),some (.list ((aI W).map fun i=>aq (au W i)))]=some (.tuple ((cC W (aI W)).map aq)):=by
  simp only[bb,aa,ae,cf,e3,Option.map_some,Option.bind_some,BE]
 exact tup_is (ds:=[.tuple (T.map bH),.tuple (G.map bH),.tuple ((cC W (aI W)).map aq)]) (cons_of (ax (a:=aw G T W) (b:=.int 1) (c:=.tuple (T.map bH)) rfl rfl rfl) (cons_of (ax (a:=aw G T W) (b:=.int 0) (c:=.tuple (G.map bH)) rfl rfl rfl) (cons_of e4 rfl))) (by simp)
theorem j7 (h:Wd G T W) (p:Pn G T W P):bR [aw G T W,af P]=some (af (mf P (aI W))):=by
 have hw:=h.wl
 have hn:=vb h.wp
 refine aL ?_
 show eh [.val (aw G T W),.val (af P)]=_
 unfold eh
 refine (ah (dH (call_of (e9 h p) rfl rfl))).trans ?_
 have c:ak 1 [1] (aQ (ag 1 aU (aa (ab 0) ae))) (fG 0) (fun _=>some true) (f2 ao (ab 1) (ab 0)) [some (aw G T W),some (af P)]=some ((aI W).map fun i=>.int (P.getD i 0)) :=
  l4 (uE (jw h) rfl rfl) (by omega) fun i hi=>ax (dC (by rw[p.len];exact yR h.wp hi)) rfl rfl
 refine aN ?_
 show bb bG (aa (cf (ak 1 [1] (aQ (ag 1 aU (aa (ab 0) ae))) (fG 0) (fun _=>some true) (f2 ao (ab 1) (ab 0)))) ae) [some (aw G T W),some (af P)]=_
 simp only[bb,aa,ae,cf,c,Option.map_some,Option.bind_some,BE]
 simp[af,mf]
end
theorem FV {f g:Dl.Env->Option D}{ρ:Dl.Env}{ds:List D}{k:Nat}(h:f ρ=some (.list ds)) (h2:g ρ=some (nD k)):fV cQ f (pO g) fW ρ=some (.list (ds.drop k)):=by
 have:=uC ds k
 simp only[fV,h,pO,h2,fW,gI,cQ,Option.bind_some,Option.map_some,this]
theorem Az {p:Nat->Bool}(is:List Nat):Rf.B5 [.list (is.map fun i=>.bool (p i))]=some (.bool (is.any p)):=by
 have:∀is:List Nat,boolsOf (is.map fun i=>PyData.bool (p i))=some (is.map p):=fun is=>by
  induction is with
  | nil=>rfl
  | cons i is ih=>simp[boolsOf,ih]
 simp only[Rf.B5,oneOf,Option.bind_some,this,Option.map_some,List.any_map]
 rfl
theorem lK {α β:Type}(f:α->β) (p:β->Bool) (q:α->Bool):∀ (l:List α),(∀x∈l,p (f x)=q x)->(l.map f).findIdx p=l.findIdx q
 | [],_=>rfl
 | x::l,h=>by
  rw[List.map_cons,List.findIdx_cons,List.findIdx_cons,h x List.mem_cons_self,lK f p q l fun y hy=>h y (List.mem_cons_of_mem _ hy)]
section
variable {G T:List Pl}{W:List Wy}{P:List Int}
theorem G9 (h:Wd G T W) {b:Bool}{i:Nat}{p:Pl}(e:(br b G T)[i]?=some p) {k:Nat}(hk:k < W.length) (he:aG b (au W k)=i):nA (.list ((d0 b W i p.2).map nD)) (nD k)=some (nD (rE p.2 (bX b (au W k)))):=by
 have ko:k∈own b W i:=ck.mpr ⟨hk,he⟩
 have km:k∈d0 b W i p.2:=(eF h e).mem_iff.mpr ko
 have e1:(d0 b W i p.2).map nD=((d0 b W i p.2).map fun j=>((j:Nat):Int)).map PyData.int:=by rw[List.map_map];rfl
 have m1:((k:Nat):Int)∈(d0 b W i p.2).map fun j=>((j:Nat):Int):=List.mem_map.mpr ⟨k,km,rfl⟩
 rw[e1]
 show (intsOf _).bind _=_
 rw[cJ,Option.bind_some,mn m1,Option.map_some]
 have e2:((d0 b W i p.2).map fun j=>((j:Nat):Int)).findIdx (fun o=>decide (o=((k:Nat):Int)))=rE p.2 (bX b (au W k)):=by
  unfold d0 rE
  rw[List.map_map]
  refine lK _ _ _ _ fun x hx=>?_
  obtain⟨hl,h1,h2⟩:=lC h e hx
  show decide (((nr b W i x:Nat):Int)=(k:Int))=decide (x=bX b (au W k))
  rw[decide_eq_decide]
  constructor
  ·intro z
   have z:nr b W i x=k:=by omega
   rw[<- z,h2]
  ·intro z
   rw[z,sH h.wp ko]
 rw[e2]
theorem kN (h:Wd G T W) (hp:P.length=W.length) (hs:Sm P) (b:Bool) {k:Nat}(hk:k < W.length):cg [aw G T W,af P,.int (sI b),nD k]=some (.bool (rH b G T W P k)):=by
 have hw:=h.wl
 obtain⟨z1,z2,z3⟩:=h.end_pl b hk
 have hx:(br b G T)[(aG b (au W k)).toNat]?=some (bL b G T (aG b (au W k)).toNat):=by
  rw[List.getElem?_eq_getElem z2]
  simp[bL,z2]
 have hL:∀x∈(bL b G T (aG b (au W k)).toNat).2,_:=fun x hx'=>lC h hx hx'
 have hb:(bL b G T (aG b (au W k)).toNat).2.length<=16:=by
  have:=(eF h hx).length_eq
  have h2:=sO b W ((aG b (au W k)).toNat:Int)
  unfold d0 at this
  rw[List.length_map] at this
  omega
 have ei:=G9 h hx hk z3.symm
 have ew:=qV h hx
 generalize hpl:bL b G T (aG b (au W k)).toNat=pl at *
 generalize hj:(aG b (au W k)).toNat=j at *
 have ez:PyData.int (aG b (au W k))=nD j:=by rw[<- z3]
 refine aL ?_
 show fg [.val (aw G T W),.val (af P),.val (.int (sI b)),.val (nD k),.non,.non,.non]=_
 unfold fg
 have t4:Dl.ay 4 [0,2,3] (f2 ao (f2 ao (f2 ao (ab 0) (fC (.int 2))) (ab 3)) (ab 2)) [.val (aw G T W),.val (af P),.val (.int (sI b)),.val (nD k),.non,.non,.non]=some (.nx [.val (aw G T W),.val (af P),.val (.int (sI b)),.val (nD k),.val (nD j),.non,.non]):=by
  rw[<- ez]
  exact bK (d:=.int (aG b (au W k))) (ax (nN b _) (ax (oV hk) rfl rfl) rfl) rfl
 rw[ah t4]
 have ep:ao (.tuple ((br b G T).map bH)) (nD j)=some (bH pl):=mv hx
 have ct:(fB (f2 zh (ag 4 cM (aa (ab 0) (aa (ab 1) (aa (ab 2) (aa (ab 4) ae))))) (f2 ao (f2 ao (f2 ao (ab 0) (ab 2)) (ab 4)) (fC (.int 0))))) (bc [.val (aw G T W),.val (af P),.val (.int (sI b)),.val (nD k),.val (nD j),.non,.non])=some (decide (kM b W P j < pl.1)):=by
  refine bB (ax (iS _ _) (call_of (qN h hp hs b j) rfl rfl) ?_)
  refine ax (a:=bH pl) (b:=.int 0) rfl (ax ep (ax (k8 b G T W) rfl rfl) rfl) rfl
 have hm:rH b G T W P k=(decide (kM b W P j < pl.1)||(pl.2.drop (rE pl.2 (bX b (au W k))+1)).any fun o=>decide (0 < P.getD (nr b W j o) 0)):=by
  unfold rH
  rw[hj,hpl,z3]
 rw[hm]
 cases hc:decide (kM b W P j < pl.1) with
 | true =>
  rw[hc] at ct
  exact iF ((eX ct).trans (aN rfl))
 | false =>
  rw[hc] at ct
  rw[ah (dm ct),Bool.false_or]
  have t5:Dl.ay 5 [0,2,4] (ag 3 dW (aa (ab 0) (aa (ab 2) (aa (ab 4) ae)))) [.val (aw G T W),.val (af P),.val (.int (sI b)),.val (nD k),.val (nD j),.non,.non]=some (.nx [.val (aw G T W),.val (af P),.val (.int (sI b)),.val (nD k),.val (nD j),.val (.list ((d0 b W j pl.2).map nD)),.non]) :=
   bf (call_of ew rfl rfl) (call_of ew rfl rfl) rfl
  rw[ah t5]
  have cu:∀ρ:Dl.Env,ab 5 ρ=some (.list ((d0 b W j pl.2).map nD))->ab 3 ρ=some (nD k)->(fV cQ (ab 5) (pO (f2 aA (f2 nA (ab 5) (ab 3)) (fC (.int 1)))) fW) ρ=some (.list (((d0 b W j pl.2).map nD).drop (rE pl.2 (bX b (au W k))+1))):=fun ρ a c =>
   FV a (ax (eD _ _) (ax ei a c) rfl)
  have t6:Dl.ay 6 [3,5] (fV cQ (ab 5) (pO (f2 aA (f2 nA (ab 5) (ab 3)) (fC (.int 1)))) fW) [.val (aw G T W),.val (af P),.val (.int (sI b)),.val (nD k),.val (nD j),.val (.list ((d0 b W j pl.2).map nD)),.non]=some (.nx [.val (aw G T W),.val (af P),.val (.int (sI b)),.val (nD k),.val (nD j),.val (.list ((d0 b W j pl.2).map nD)),.val (.list (((d0 b W j pl.2).drop (rE pl.2 (bX b (au W k))+1)).map nD))]):=by
   rw[List.map_drop]
   exact bf (cu _ rfl rfl) (cu _ rfl rfl) rfl
  rw[ah t6]
  have c:ak 1 [1] (aQ (ab 6)) (fG 0) (fun _=>some true) (f2 sS (f2 ao (ab 1) (ab 0)) (fC (.int 0))) [some (aw G T W),some (af P),some (.int (sI b)),some (nD k),some (nD j),some (.list ((d0 b W j pl.2).map nD)),some (.list (((d0 b W j pl.2).drop (rE pl.2 (bX b (au W k))+1)).map nD))]=some (((d0 b W j pl.2).drop (rE pl.2 (bX b (au W k))+1)).map fun i=>.bool (decide (0 < P.getD i 0))):=by
   refine l4 rfl ?_ fun i hi=>?_
   ·rw[List.length_drop,d0,List.length_map]
    omega
   ·have hi':=List.mem_of_mem_drop hi
    unfold d0 at hi'
    obtain⟨x,hx',rfl⟩:=List.mem_map.mp hi'
    exact ax (eu _ _) (ax (dC (by rw[hp];exact (hL x hx').1)) rfl rfl) rfl
  refine aN ?_
  show bb Rf.B5 (aa (cf (ak 1 [1] (aQ (ab 6)) (fG 0) (fun _=>some true) (f2 sS (f2 ao (ab 1) (ab 0)) (fC (.int 0))))) ae) [some (aw G T W),some (af P),some (.int (sI b)),some (nD k),some (nD j),some (.list ((d0 b W j pl.2).map nD)),some (.list (((d0 b W j pl.2).drop (rE pl.2 (bX b (au W k))+1)).map nD))]=_
  simp only[bb,aa,ae,cf,c,Option.map_some,Option.bind_some,Az]
  unfold d0
  rw[<- List.map_drop,List.any_map]
  rfl
noncomputable def eW:Nat->D|0=>.str "full" | 1=>.str "giver" | 2=>.str "taker" | _=>.none
theorem kr (h:Wd G T W) (hp:P.length=W.length) (hs:Sm P) {k:Nat}(hk:k < W.length):bF [aw G T W,af P,nD k]=some (eW (dy G T W P k)):=by
 refine aL ?_
 show ir [.val (aw G T W),.val (af P),.val (nD k)]=_
 unfold ir dy
 have c1:(fB (f2 bI (f2 ao (ab 1) (ab 2)) (f2 ao (f2 ao (f2 ao (ab 0) (fC (.int 2))) (ab 2)) (fC (.int 2))))) (bc [.val (aw G T W),.val (af P),.val (nD k)])=some (decide (P.getD k 0=(au W k).2.2)) :=
  bB (ax (cF _ _) (ax (dC (by rw[hp];exact hk)) rfl rfl) (ax (a:=aq (au W k)) (b:=.int 2) rfl (ax (oV hk) rfl rfl) rfl))
 have w0:=kN h hp hs false hk
 have w1:=kN h hp hs true hk
 have c2:(bw (fB (ag 4 cg (aa (ab 0) (aa (ab 1) (aa (fC (.int 0)) (aa (ab 2) ae))))))) (bc [.val (aw G T W),.val (af P),.val (nD k)])=some (!(rH false G T W P k)):=dJ (bB (call_of w0 rfl rfl))
 have c3:(bw (fB (ag 4 cg (aa (ab 0) (aa (ab 1) (aa (fC (.int 1)) (aa (ab 2) ae))))))) (bc [.val (aw G T W),.val (af P),.val (nD k)])=some (!(rH true G T W P k)):=dJ (bB (call_of w1 rfl rfl))
 by_cases e1:P.getD k 0=(au W k).2.2
 ·rw[decide_eq_true e1] at c1
  rw[if_pos e1]
  exact iF ((eX c1).trans (aN rfl))
 ·rw[decide_eq_false e1] at c1
  rw[if_neg e1,ah (dm c1)]
  cases e2:rH false G T W P k with
  | false =>
   rw[e2] at c2
   rw[if_pos rfl]
   exact iF ((eX c2).trans (aN rfl))
  | true =>
   rw[e2] at c2
   rw[if_neg (by simp),ah (dm c2)]
   cases e3:rH true G T W P k with
   | false =>
    rw[e3] at c3
    rw[if_pos rfl]
    exact iF ((eX c3).trans (aN rfl))
   | true =>
    rw[e3] at c3
    rw[if_neg (by simp),ah (dm c3)]
    exact aN rfl
theorem si (G T:List Pl) (W:List Wy) (P:List Int) (k:Nat):dy G T W P k<=3:=by
 unfold dy
 split
 ·omega
 ·split
  ·omega
  ·split<;>omega
theorem sG (n:Nat) (h:n<=3):i6 (eW n) .none=some (.bool (decide (n=3))):=by
 match n,h with
 | 0,_=>rfl
 | 1,_=>rfl
 | 2,_=>rfl
 | 3,_=>rfl
theorem vo {ρ:Dl.Env}{f:Dl.Env->Option D}(hp:P.length=W.length) (hf:f ρ=some (af P)):(aa (bb bz (aa f ae)) ae) ρ=some [nD W.length]:=by
 have:=Ed P
 rw[hp] at this
 refine cons_of ?_ rfl
 rw[xf hf,this]
theorem nB (h:Wd G T W) (hp:P.length=W.length) (hs:Sm P):dc [aw G T W,af P]=some (match (List.range W.length).find? fun k=>decide (dy G T W P k=3) with|some k=>nD k|none=>.none):=by
 have hw:=h.wl
 refine aL ?_
 show dg [.val (aw G T W),.val (af P),.non]=_
 unfold dg
 obtain⟨f1,f2'⟩:=fu (tgt:=uv 2) (gb:=fq (fB (f2 i6 (ag 3 bF (aa (ab 0) (aa (ab 1) (aa (ab 2) ae)))) (fC .none))) (aJ (ab 2)) f7) (fun ρ=>∃x,ρ=[.val (aw G T W),.val (af P),x]) nD (fun k=>decide (dy G T W P k=3)) nD
  (l:=List.range W.length) (ρ:=[.val (aw G T W),.val (af P),.non])
  (fun ρ k hk hρ=>by
   obtain⟨x,rfl⟩:=hρ
   have hk':k < W.length:=by simpa using hk
   have c:(fB (f2 i6 (ag 3 bF (aa (ab 0) (aa (ab 1) (aa (ab 2) ae)))) (fC .none))) (bc [.val (aw G T W),.val (af P),.val (nD k)])=some (decide (dy G T W P k=3)) :=
    bB (ax (sG _ (si G T W P k)) (call_of (kr h hp hs hk') rfl rfl) rfl)
   refine⟨_,rfl,fun hq=>?_,fun hq=>?_⟩
   ·show fq _ _ _ [.val (aw G T W),.val (af P),.val (nD k)]=_
    rw[hq] at c
    exact (eX c).trans (aN rfl)
   ·rw[hq] at c
    exact⟨_,dm c,_,rfl⟩) ⟨_,rfl⟩
 have hr:bQ (aa (bb bz (aa (ab 1) ae)) ae) [some (aw G T W),some (af P),none]=some ((List.range W.length).map nD):=tY (vo hp rfl) (by omega)
 cases e:(List.range W.length).find? fun k=>decide (dy G T W P k=3) with
 | some k=>exact iF (b9 (f1 k e) hr rfl)
 | none =>
  obtain⟨ρ',e',x,rfl⟩:=f2' e
  exact (ah (b9 e' hr rfl)).trans (aN rfl)
theorem yh (h:Wd G T W) (hp:P.length=W.length) (hs:Sm P):iT [aw G T W,af P]=some (.bool (decide (Gx G T W P=[]))):=by
 refine aL ?_
 show iP [.val (aw G T W),.val (af P)]=_
 unfold iP
 refine aN (ax ?_ (call_of (nB h hp hs) rfl rfl) rfl)
 cases e:(List.range W.length).find? fun k=>decide (dy G T W P k=3) with
 | some k =>
  have:Gx G T W P≠[]:=fun z=>by
   have hm:=List.mem_of_find?_eq_some e
   have hq:=List.find?_some e
   have:k∈Gx G T W P:=List.mem_filter.mpr ⟨hm,hq⟩
   rw[z] at this
   cases this
  rw[decide_eq_false this]
  rfl
 | none =>
  have:Gx G T W P=[]:=by
   rw[List.find?_eq_none] at e
   exact List.filter_eq_nil_iff.mpr e
  rw[decide_eq_true this]
  rfl
theorem Es (h:Wd G T W) (p:Pn G T W P):lQ [aw G T W,af P]=some (.bool (decide (Gx G T W P=[]))):=by
 refine aL ?_
 show nI [.val (aw G T W),.val (af P)]=_
 unfold nI
 refine (ah (dH (call_of (e9 h p) rfl rfl))).trans ?_
 exact aN (call_of (yh h p.len (p.sm h)) rfl rfl)
theorem mY {tt:Dl.Env->Option Bool}{te:Dl.Env->Option D}{r:List (Option D)}{f:Nat->D}{q:Nat->Bool}:∀ (is:List Nat),(∀i∈is,tt (some (nD i)::r)=some (q i)/\(q i=true->te (some (nD i)::r)=some (f i)))->b0 (fG 0) tt te (none::r) (is.map nD)=some ((is.filter q).map f)
 | [],_=>rfl
 | i::is,h=>by
  have ih:=mY (tt:=tt) (te:=te) (r:=r) (f:=f) (q:=q) is fun j hj=>h j (List.mem_cons_of_mem _ hj)
  obtain⟨h1,h2⟩:=h i List.mem_cons_self
  have hg:fG 0 (none::r) (nD i)=some (some (nD i)::r):=rfl
  rw[List.map_cons,b0,hg,Option.bind_some,h1,Option.bind_some,List.filter_cons]
  cases e:q i with
  | true =>
   rw[if_pos rfl,if_pos rfl,h2 e,Option.bind_some,ih]
   rfl
  | false =>
   rw[if_neg (by simp),if_neg (by simp),ih]
theorem yf {cs:List Nat}{fi:Dl.Env->Option (List D)}{tt:Dl.Env->Option Bool}{te:Dl.Env->Option D}{ρ:Dl.Env}{is:List Nat}{f:Nat->D}{q:Nat->Bool}(hfi:fi ρ=some (is.map nD)) (hl:is.length<=1000) (hh:∀i∈is,tt (some (nD i)::cs.map fun j=>(ρ[j]?).getD none)=some (q i)/\(q i=true->te (some (nD i)::cs.map fun j=>(ρ[j]?).getD none)=some (f i))):ak 1 cs fi (fG 0) tt te ρ=some ((is.filter q).map f):=by
 have:=mY is hh
 simp only[ak,hfi,Option.bind_some,dQ,List.replicate,List.cons_append,List.nil_append,this]
 refine aS ?_
 rw[List.length_map]
 refine Nat.le_trans (List.length_filter_le _ _) ?_
 omega
theorem AB (h:Wd G T W) (p:Pn G T W P):hZ [aw G T W,af P]=some (.list ((Gx G T W P).map nD)):=by
 have hw:=h.wl
 have hp:=p.len
 refine aL ?_
 show jK [.val (aw G T W),.val (af P)]=_
 unfold jK
 refine (ah (dH (call_of (e9 h p) rfl rfl))).trans ?_
 have c:ak 1 [0,1] (bQ (aa (bb bz (aa (ab 1) ae)) ae)) (fG 0) (fB (f2 i6 (ag 3 bF (aa (ab 1) (aa (ab 2) (aa (ab 0) ae)))) (fC .none))) (ab 0) [some (aw G T W),some (af P)]=some ((Gx G T W P).map nD) :=
  yf (tY (vo hp rfl) (by omega)) (by rw[List.length_range];omega) fun k hk=>⟨bB (ax (sG _ (si G T W P k)) (call_of (kr h hp (p.sm h) (by simpa using hk)) rfl rfl) rfl),fun _=>rfl⟩
 refine aN ?_
 show cf _ [some (aw G T W),some (af P)]=_
 simp only[cf,c,Option.map_some]
theorem p8 (h:Wd G T W) {c:List Int}(hb:bo [aw T G (cC W (aI W))]=some (af c)) (p:Pn T G (cC W (aI W)) c):cy [aw G T W]=some (af (mf c (aI (cC W (aI W))))):=by
 have o:=iR h.wp
 have h':=o.wd h
 refine aL ?_
 show eB [.val (aw G T W),.non]=_
 unfold eB
 have t1:Dl.ay 1 [0] (ag 1 eG (aa (ab 0) ae)) [.val (aw G T W),.non]=some (.nx [.val (aw G T W),.val (aw T G (cC W (aI W)))]):=bf (call_of (oq h) rfl rfl) (call_of (oq h) rfl rfl) rfl
 rw[ah t1]
 exact aN (call_of (j7 h' p) (cons_of rfl (cons_of (call_of hb rfl rfl) rfl)) rfl)
end
theorem sk {tgt:ai->D->Option ai}{gb:ai->Option Out}(f:Nat->D) (R:Nat->ai->Prop):∀ (n k:Nat) (ρ:ai),
  (∀j ρ,k<=j->j < k+n->R j ρ->∃ρ1 ρ2,tgt ρ (f j)=some ρ1/\gb ρ1=some (.nx ρ2)/\R (j+1) ρ2)->R k ρ->∃ρ',eQ tgt gb ((List.range' k n).map f) ρ=some (.nx ρ')/\R (k+n) ρ'
 | 0,k,ρ,_,h=>⟨ρ,rfl,h⟩
 | n+1,k,ρ,hh,h=>by
  obtain⟨ρ1,ρ2,e1,e2,h2⟩:=hh k ρ (Nat.le_refl _) (by omega) h
  obtain⟨ρ',e3,h3⟩:=sk f R n (k+1) ρ2 (fun j ρ a b=>hh j ρ (by omega) (by omega)) h2
  refine⟨ρ',?_,by rw[show k+(n+1)=k+1+n by omega];exact h3⟩
  rw[List.range'_succ,List.map_cons,eQ,e1,Option.bind_some,e2]
  exact e3
theorem JP {n:Nat}(hl:n<=1000):Dl.dU (.tuple [.int 0]) (nD n)=some (af (zs n)):=by
 have e:uB (.tuple [.int 0]) (nD n)=some (af (zs n)):=by
  show (if uN ((n:Nat):Int)=true/\[PyData.int 0].length * ((n:Nat):Int).toNat<=sizeLine then some (PyData.tuple (List.replicate ((n:Nat):Int).toNat [PyData.int 0]).flatten) else none)=_
  have hz:[PyData.int 0].length * n<=sizeLine:=by
   rw[List.length_singleton,Nat.one_mul]
   exact Nat.le_trans hl (by decide)
  rw[Int.toNat_natCast,if_pos ⟨sT hl,hz⟩,GF]
  rfl
 show ((uo pU fun i j=>PyData.int (i * j)) (.tuple [.int 0]) (nD n)).or (uB (.tuple [.int 0]) (nD n))=_
 rw[e]
 rfl
section
variable {G T:List Pl}{W:List Wy}{P:List Int}
theorem yj (h:P.length=W.length):gT (P.map PyData.int) (W.map aq)=(List.range W.length).map fun i=>.tuple [.int (P.getD i 0),aq (au W i)]:=by
 have:∀ (a:List Int) (l:List Wy),a.length=l.length->gT (a.map PyData.int) (l.map aq)=(List.range l.length).map fun i=>.tuple [.int (a.getD i 0),aq (au l i)]:=by
  intro a
  induction a with
  | nil=>intro l e;cases l with|nil=>rfl|cons _ _=>simp at e
  | cons x a ih =>
   intro l e
   cases l with
   | nil=>simp at e
   | cons w l =>
    rw[List.map_cons,List.map_cons,gT,ih l (by simpa using e),List.length_cons,List.range_succ_eq_map,List.map_cons,List.map_map]
    rfl
 exact this P W h
theorem xw (h:Wd G T W) (hp:P.length=W.length) (hs:Sm P) (b:Bool) (p:Int):cD [aw G T W,af P,.int (sI b),.int p]=some (.int (kM b W P p)):=by
 have hw:=h.wl
 refine aL ?_
 show jF [.val (aw G T W),.val (af P),.val (.int (sI b)),.val (.int p)]=_
 have hz:eV (aa (ab 1) (aa (f2 ao (ab 0) (fC (.int 2))) ae)) [some (aw G T W),some (af P),some (.int (sI b)),some (.int p)]=some ((List.range W.length).map fun i=>.tuple [.int (P.getD i 0),aq (au W i)]):=by
  rw[<- yj hp]
  rfl
 have c:ak 2 [2,3] (eV (aa (ab 1) (aa (f2 ao (ab 0) (fC (.int 2))) ae))) (fY 0 1) (fB (f2 bI (f2 ao (ab 1) (ab 2)) (ab 3))) (ab 0) [some (aw G T W),some (af P),some (.int (sI b)),some (.int p)]=some ((own b W p).map fun i=>.int (P.getD i 0)):=by
  rw[k6 (p:=fun i=>decide (aG b (au W i)=p)) (h:=fun i=>.int (P.getD i 0)) hz (by omega) fun i hi=>⟨?_,fun _=>rfl⟩]
  ·rfl
  ·show fB (f2 bI (f2 ao (ab 1) (ab 2)) (ab 3)) [some (.int (P.getD i 0)),some (aq (au W i)),some (.int (sI b)),some (.int p)]=_
   exact bB (by rw[hV (a:=.int (aG b (au W i))) (b:=.int p) (ax (nN b _) rfl rfl) rfl,cF])
 refine aN ?_
 have e:((own b W p).map fun i=>PyData.int (P.getD i 0))=((own b W p).map fun i=>P.getD i 0).map PyData.int:=by rw[List.map_map];rfl
 show bb qb (aa (cf (ak 2 [2,3] (eV (aa (ab 1) (aa (f2 ao (ab 0) (fC (.int 2))) ae))) (fY 0 1) (fB (f2 bI (f2 ao (ab 1) (ab 2)) (ab 3))) (ab 0))) ae) [some (aw G T W),some (af P),some (.int (sI b)),some (.int p)]=_
 rw[e] at c
 simp only[bb,aa,ae,cf,c,Option.map_some,Option.bind_some]
 show qb [.list (((own b W p).map fun i=>P.getD i 0).map PyData.int)]=_
 simp only[qb,cT,oneOf,fM,Option.bind_some,cJ,zz hs hw b p,if_true]
 rfl
noncomputable def Lv:ai->Option Out:=(dz [0,2] (ba (aa (f2 ao (ab 0) (ab 2)) ae)) (eY 3 4) (fq (fB (f2 sS (ag 4 cD (aa (ab 0) (aa (ab 1) (aa (ab 2) (aa (ab 3) ae))))) (f2 ao (ab 4) (fC (.int 0))))) (aJ (fC (.bool false))) f7))
theorem Ek (h:Wd G T W) (hp:P.length=W.length) (hs:Sm P) (b:Bool) (x y:Slot):(yT b G T W P=false->Lv [.val (aw G T W),.val (af P),.val (.int (sI b)),x,y]=some (.rt (.bool false)))/\(yT b G T W P=true->∃x' y',Lv [.val (aw G T W),.val (af P),.val (.int (sI b)),x,y]=some (.nx [.val (aw G T W),.val (af P),.val (.int (sI b)),x',y'])):=by
 have hl:=h.pl b
 obtain⟨f1,f2'⟩:=fu (tgt:=eY 3 4) (gb:=fq (fB (f2 sS (ag 4 cD (aa (ab 0) (aa (ab 1) (aa (ab 2) (aa (ab 3) ae))))) (f2 ao (ab 4) (fC (.int 0))))) (aJ (fC (.bool false))) f7)
  (fun ρ=>∃x y,ρ=[.val (aw G T W),.val (af P),.val (.int (sI b)),x,y]) (fun i:Nat=>.tuple [nD i,bH (bL b G T i)]) (fun i=>decide ((bL b G T i).1 < kM b W P i)) (fun _=>.bool false)
  (l:=List.range (br b G T).length) (ρ:=[.val (aw G T W),.val (af P),.val (.int (sI b)),x,y])
  (fun ρ i hi hρ=>by
   obtain⟨x,y,rfl⟩:=hρ
   have c:(fB (f2 sS (ag 4 cD (aa (ab 0) (aa (ab 1) (aa (ab 2) (aa (ab 3) ae))))) (f2 ao (ab 4) (fC (.int 0))))) (bc [.val (aw G T W),.val (af P),.val (.int (sI b)),.val (nD i),.val (bH (bL b G T i))])=some (decide ((bL b G T i).1 < kM b W P i)) :=
    bB (ax (eu _ _) (call_of (xw h hp hs b i) rfl rfl) (ax (a:=bH (bL b G T i)) (b:=.int 0) rfl rfl rfl))
   refine⟨_,rfl,fun hq=>?_,fun hq=>?_⟩
   ·rw[hq] at c
    exact (eX c).trans (aN rfl)
   ·rw[hq] at c
    exact⟨_,dm c,_,_,rfl⟩) ⟨_,_,rfl⟩
 have he:ba (aa (f2 ao (ab 0) (ab 2)) ae) (bJ [.val (aw G T W),.val (af P),.val (.int (sI b)),x,y])=some ((List.range (br b G T).length).map fun i=>.tuple [nD i,bH (bL b G T i)]):=by
  have:=pI (br b G T)
  unfold bL
  rw[<- this]
  cases b<;>rfl
 have hh:hand [0,2] 0 [Slot.val (aw G T W),.val (af P),.val (.int (sI b)),x,y]=[Slot.val (aw G T W),.val (af P),.val (.int (sI b)),x,y]:=rfl
 unfold yT
 constructor
 ·intro hk
  cases e:(List.range (br b G T).length).find? fun i=>decide ((bL b G T i).1 < kM b W P i) with
  | some i=>exact b9 (f1 i e) he hh
  | none =>
   rw[List.find?_eq_none] at e
   rw[List.all_eq_false] at hk
   obtain⟨i,hi,hn⟩:=hk
   have:=e i hi
   simp only[decide_eq_true_eq] at this hn
   omega
 ·intro hk
  have e:(List.range (br b G T).length).find? (fun i=>decide ((bL b G T i).1 < kM b W P i))=none:=by
   rw[List.find?_eq_none]
   intro i hi
   have:=List.all_eq_true.mp hk i hi
   simp only[decide_eq_true_eq] at this ⊢
   omega
  obtain⟨ρ',e',x',y',rfl⟩:=f2' e
  exact⟨x',y',b9 e' he hh⟩
theorem G6:oG G T W P=(yT false G T W P&&yT true G T W P):=rfl
theorem xb (h:Wd G T W) (hp:P.length=W.length) (hs:Sm P):cH [aw G T W,af P]=some (.bool (oG G T W P)):=by
 obtain⟨f1,f2'⟩:=fu (tgt:=uv 2) (gb:=Lv)
  (fun ρ=>∃x y z,ρ=[.val (aw G T W),.val (af P),x,y,z]) (fun b:Bool=>.int (sI b)) (fun b=>!(yT b G T W P)) (fun _=>.bool false)
  (l:=[false,true]) (ρ:=[.val (aw G T W),.val (af P),.non,.non,.non])
  (fun ρ b _ hρ=>by
   obtain⟨x,y,z,rfl⟩:=hρ
   obtain⟨r1,r2⟩:=Ek h hp hs b y z
   refine⟨_,rfl,fun hq=>?_,fun hq=>?_⟩
   ·exact r1 (by simpa using hq)
   ·obtain⟨x',y',e⟩:=r2 (by simpa using hq)
    exact⟨_,e,_,_,_,rfl⟩) ⟨_,_,_,rfl⟩
 have hr:bQ (aa (fC (.int 2)) ae) (bJ [.val (aw G T W),.val (af P),.non,.non,.non])=some ([false,true].map fun b=>.int (sI b)):=tY (n:=2) rfl (by omega)
 refine aL ?_
 show gh [.val (aw G T W),.val (af P),.non,.non,.non]=_
 unfold gh
 rw[G6]
 cases e0:yT false G T W P with
 | false =>
  have e:[false,true].find? (fun b=>!(yT b G T W P))=some false:=by rw[List.find?_cons_of_pos (by simp[e0])]
  exact iF (b9 (f1 _ e) hr rfl)
 | true =>
  cases e1:yT true G T W P with
  | false =>
   have e:[false,true].find? (fun b=>!(yT b G T W P))=some true:=by rw[List.find?_cons_of_neg (by simp[e0]),List.find?_cons_of_pos (by simp[e1])]
   exact iF (b9 (f1 _ e) hr rfl)
  | true =>
   have e:[false,true].find? (fun b=>!(yT b G T W P))=none:=by rw[List.find?_cons_of_neg (by simp[e0]),List.find?_cons_of_neg (by simp[e1])];rfl
   obtain⟨ρ',e',x,y,z,rfl⟩:=f2' e
   exact (ah (b9 e' hr rfl)).trans (aN rfl)
end
theorem Sm.app {a b:List Int}(ha:Sm a) (hb:Sm b):Sm (a++b):=fun k=>by
 by_cases hk:k < a.length
 ·have:=ha k
  rwa [show (a++b).getD k 0=a.getD k 0 by simp[List.getElem?_append_left hk]]
 ·have:=hb (k - a.length)
  rwa [show (a++b).getD k 0=b.getD (k - a.length) 0 by simp[List.getElem?_append_right (by omega:a.length<=k)]]
theorem HR {x:Int}(h1:-1000000<=x) (h2:x<=1000000):Sm [x]:=fun k=>by
 cases k with
 | zero=>exact⟨h1,h2⟩
 | succ k=>simp
theorem JQ (n:Nat):Sm (zs n):=fun k=>by rw[Gv];omega
section
variable {ns:List Int}{G T:List Pl}{W:List Wy}{at':Int}
noncomputable def pM (ns:List Int) (at':Int) (W:List Wy) (k:Nat):Int:=dr ns (at'+(k:Nat)) ((au W k).2.2+1)
theorem xN (hl:ns.length<=63) (h:Wd G T W) {k:Nat}(hk:k < W.length):0<=pM ns at' W k/\pM ns at' W k<=(au W k).2.2:=by
 have:=(h.wr _ (tI hk)).2.2
 have h1:=GA (ns:=ns) (at'+(k:Nat)) ((au W k).2.2+1) hl (by omega)
 have h2:=GO (ns:=ns) (at'+(k:Nat)) ((au W k).2.2+1) hl (by omega)
 unfold pM
 omega
noncomputable def Lh:ai->Option Out:=(av (ay 6 [0,1,3,4,5] (f2 aA (ab 3) (aF (aa (ag 3 aj (aa (ab 0) (aa (f2 aA (ab 1) (ab 4)) (aa (f2 aA (f2 ao (ab 5) (fC (.int 2))) (fC (.int 1))) ae)))) ae)))) (av (ay 7 [2,6] (ag 2 cH (aa (ab 2) (aa (f2 aA (ab 6) (f2 dU (aF (aa (fC (.int 0)) ae)) (f2 Dl.gK (bb bz (aa (f2 ao (ab 2) (fC (.int 2))) ae)) (bb bz (aa (ab 6) ae))))) ae)))) (ay 3 [3,6,7] (rg (fB (ab 7)) (ab 6) (f2 aA (ab 3) (aF (aa (fC (.int 0)) ae)))))))
theorem tO {a b:List Int}(h:a.length+b.length<=1000):Dl.aA (af a) (af b)=some (af (a++b)):=by
 unfold af
 rw[lE (by simp;omega),List.map_append]
theorem nX {tc:Dl.Env->Option Bool}{fa fb:Dl.Env->Option D}{ρ:Dl.Env}{d:D}(h:tc ρ=some true) (ha:fa ρ=some d):rg tc fa fb ρ=some d:=by
 simp only[rg,h,Option.bind_some,ha]
theorem oa {tc:Dl.Env->Option Bool}{fa fb:Dl.Env->Option D}{ρ:Dl.Env}{d:D}(h:tc ρ=some false) (ha:fb ρ=some d):rg tc fa fb ρ=some d:=by
 simp only[rg,h,Option.bind_some,ha]
theorem Jp (hl:ns.length<=63) (h:Wd G T W) {k:Nat}(hk:k<=W.length):Sm (kA (pM ns at' W) G T W k):=fun j=>by
 by_cases hj:j < k
 ·have:=xH (d:=pM ns at' W) (G:=G) (T:=T) (W:=W) (fun k hk=>xN hl h hk) h.lim k hk j hj
  have:=(h.wr _ (tI (show j < W.length by omega))).2.2
  omega
 ·rw[List.getD_eq_getElem?_getD,List.getElem?_eq_none (by rw[lh];omega)]
  simp
theorem Fb (hl:ns.length<=63) (h:Wd G T W) {k:Nat}(hk:k < W.length) (x y:Slot):∃x' y',Lh [.val (cm ns),.val (.int at'),.val (aw G T W),.val (af (kA (pM ns at' W) G T W k)),.val (nD k),.val (aq (au W k)),x,y]=some (.nx [.val (cm ns),.val (.int at'),.val (aw G T W),.val (af (kA (pM ns at' W) G T W (k+1))),.val (nD k),.val (aq (au W k)),x',y']):=by
 have hw:=h.wl
 have hr:=(h.wr _ (tI hk)).2.2
 have hsm:=Jp (at':=at') hl h (Nat.le_of_lt hk)
 have hfl:=lh (d:=pM ns at' W) (G:=G) (T:=T) (W:=W) k
 have hdb:=xN (at':=at') hl h hk
 have e2:kA (pM ns at' W) G T W (k+1)=if oG G T W ((kA (pM ns at' W) G T W k++[pM ns at' W k])++zs (W.length - (kA (pM ns at' W) G T W k++[pM ns at' W k]).length))=true then kA (pM ns at' W) G T W k++[pM ns at' W k] else kA (pM ns at' W) G T W k++[0]:=rfl
 rw[e2]
 clear e2
 generalize hf:kA (pM ns at' W) G T W k=f at hsm hfl ⊢
 generalize hd:pM ns at' W k=d at hdb ⊢
 have ed:∀ρ:Dl.Env,ab 0 ρ=some (cm ns)->ab 1 ρ=some (.int at')->ab 4 ρ=some (nD k)->ab 5 ρ=some (aq (au W k))->(ag 3 aj (aa (ab 0) (aa (f2 aA (ab 1) (ab 4)) (aa (f2 aA (f2 ao (ab 5) (fC (.int 2))) (fC (.int 1))) ae)))) ρ=some (.int d):=fun ρ a b c e=>by
  rw[<- hd]
  exact call_of (rf (at'+((k:Nat):Int)) ((au W k).2.2+1) hl (by omega)) (cons_of a (cons_of (ax (eD at' k) b c) (cons_of (ax (eD (au W k).2.2 1) (ax (yU _) e rfl) rfl) rfl))) rfl
 have em:∀ρ:Dl.Env,ab 0 ρ=some (cm ns)->ab 1 ρ=some (.int at')->ab 3 ρ=some (af f)->ab 4 ρ=some (nD k)->ab 5 ρ=some (aq (au W k))->(f2 aA (ab 3) (aF (aa (ag 3 aj (aa (ab 0) (aa (f2 aA (ab 1) (ab 4)) (aa (f2 aA (f2 ao (ab 5) (fC (.int 2))) (fC (.int 1))) ae)))) ae))) ρ=some (af (f++[d])):=fun ρ a b z c e =>
  ax (tO (a:=f) (b:=[d]) (by simp;omega)) z (DU (ed ρ a b c e))
 have t6:Dl.ay 6 [0,1,3,4,5] (f2 aA (ab 3) (aF (aa (ag 3 aj (aa (ab 0) (aa (f2 aA (ab 1) (ab 4)) (aa (f2 aA (f2 ao (ab 5) (fC (.int 2))) (fC (.int 1))) ae)))) ae))) [.val (cm ns),.val (.int at'),.val (aw G T W),.val (af f),.val (nD k),.val (aq (au W k)),x,y]=some (.nx [.val (cm ns),.val (.int at'),.val (aw G T W),.val (af f),.val (nD k),.val (aq (au W k)),.val (af (f++[d])),y]) :=
  bf (em _ rfl rfl rfl rfl rfl) (em _ rfl rfl rfl rfl rfl) rfl
 have hlen:(f++[d]).length=k+1:=by simp[hfl]
 have hsub:((W.length:Nat):Int) - (((f++[d]).length:Nat):Int)=((W.length - (f++[d]).length:Nat):Int):=by omega
 have hwl:((f++[d])++zs (W.length - (f++[d]).length)).length=W.length:=by simp[zs,hfl];omega
 have hsl:Sm ((f++[d])++zs (W.length - (f++[d]).length)):=(hsm.app (HR (by omega) (by omega))).app (JQ _)
 have ef:∀ρ:Dl.Env,ab 2 ρ=some (aw G T W)->ab 6 ρ=some (af (f++[d]))->(ag 2 cH (aa (ab 2) (aa (f2 aA (ab 6) (f2 dU (aF (aa (fC (.int 0)) ae)) (f2 Dl.gK (bb bz (aa (f2 ao (ab 2) (fC (.int 2))) ae)) (bb bz (aa (ab 6) ae))))) ae))) ρ=some (.bool (oG G T W ((f++[d])++zs (W.length - (f++[d]).length)))):=fun ρ a b=>by
  refine call_of (xb h hwl hsl) (cons_of a (cons_of (ax (tO ?_) b (ax (JP (n:=W.length - (f++[d]).length) (by omega)) (DU rfl) ?_)) rfl)) rfl
  ·rw[<- List.length_append,hwl];omega
  ·rw[show nD (W.length - (f++[d]).length)=.int (((W.length:Nat):Int) - (((f++[d]).length:Nat):Int)) by rw[hsub]]
   exact ax (sub_int _ _) (mC (l:=W) (k:=aq) (ax (lN G T W) a rfl)) (mC (l:=f++[d]) (k:=PyData.int) b)
 have t7:Dl.ay 7 [2,6] (ag 2 cH (aa (ab 2) (aa (f2 aA (ab 6) (f2 dU (aF (aa (fC (.int 0)) ae)) (f2 Dl.gK (bb bz (aa (f2 ao (ab 2) (fC (.int 2))) ae)) (bb bz (aa (ab 6) ae))))) ae))) [.val (cm ns),.val (.int at'),.val (aw G T W),.val (af f),.val (nD k),.val (aq (au W k)),.val (af (f++[d])),y]=some (.nx [.val (cm ns),.val (.int at'),.val (aw G T W),.val (af f),.val (nD k),.val (aq (au W k)),.val (af (f++[d])),.val (.bool (oG G T W ((f++[d])++zs (W.length - (f++[d]).length))))]) :=
  bf (ef _ rfl rfl) (ef _ rfl rfl) rfl
 unfold Lh
 rw[ah t6,ah t7]
 have h0:∀ρ:Dl.Env,ab 3 ρ=some (af f)->(f2 aA (ab 3) (aF (aa (fC (.int 0)) ae))) ρ=some (af (f++[0])):=fun ρ z=>ax (tO (a:=f) (b:=[0]) (by simp;omega)) z (DU rfl)
 generalize oG G T W ((f++[d])++zs (W.length - (f++[d]).length))=fb
 cases fb with
 | true =>
  rw[if_pos rfl]
  exact⟨_,_,bf (nX (bB rfl) rfl) (nX (bB rfl) rfl) rfl⟩
 | false =>
  rw[if_neg (by simp)]
  exact⟨_,_,bf (oa (bB rfl) (h0 _ rfl)) (oa (bB rfl) (h0 _ rfl)) rfl⟩
theorem rz (W:List Wy):bu 0 (W.map aq)=(List.range' 0 W.length).map fun i=>.tuple [nD i,aq (au W i)]:=by
 rw[<- List.range_eq_range',enum_zip]
 apply List.ext_getElem
 ·simp
 ·intro i h1 h2
  have:i < W.length:=by simpa using h2
  simp[gF this]
theorem xn (hl:ns.length<=63) (h:Wd G T W):eL [cm ns,.int at',aw G T W]=some (af (kA (pM ns at' W) G T W W.length)):=by
 have hw:=h.wl
 obtain⟨ρ',e,x4,x5,x6,x7,rfl⟩:=sk (tgt:=eY 4 5) (gb:=Lh) (fun i=>.tuple [nD i,aq (au W i)]) (fun k ρ=>∃x4 x5 x6 x7,ρ=[.val (cm ns),.val (.int at'),.val (aw G T W),.val (af (kA (pM ns at' W) G T W k)),x4,x5,x6,x7]) W.length 0 [.val (cm ns),.val (.int at'),.val (aw G T W),.val (af []),.non,.non,.non,.non]
  (fun j ρ _ hj hρ=>by
   obtain⟨x4,x5,x6,x7,rfl⟩:=hρ
   obtain⟨x',y',e⟩:=Fb (at':=at') hl h (show j < W.length by omega) x6 x7
   exact⟨_,_,rfl,e,_,_,_,_,rfl⟩) ⟨_,_,_,_,rfl⟩
 refine aL ?_
 show gu [.val (cm ns),.val (.int at'),.val (aw G T W),.non,.non,.non,.non,.non]=_
 unfold gu
 have t3:Dl.ay 3 [] (aF ae) [.val (cm ns),.val (.int at'),.val (aw G T W),.non,.non,.non,.non,.non]=some (.nx [.val (cm ns),.val (.int at'),.val (aw G T W),.val (af []),.non,.non,.non,.non]) :=
  bf (tup_is (ds:=[]) rfl (by simp)) (tup_is (ds:=[]) rfl (by simp)) rfl
 rw[ah t3]
 have he:ba (aa (f2 ao (ab 2) (fC (.int 2))) ae) (bJ [.val (cm ns),.val (.int at'),.val (aw G T W),.val (af []),.non,.non,.non,.non])=some ((List.range' 0 W.length).map fun i=>.tuple [nD i,aq (au W i)]):=by
  rw[<- rz]
  rfl
 rw[Nat.zero_add] at e
 exact (ah (b9 e he rfl)).trans (aN rfl)
theorem Fq (hl:ns.length<=63) (h:Wd G T W):Pn G T W (kA (pM ns at' W) G T W W.length):=IA h fun k hk=>xN hl h hk
end
theorem yu {S:Type}(cont:S->Bool) (st:S->S) (μ:S->Nat) (I:S->Prop) (hb:∀s,I s->cont s=true->I (st s)/\μ (st s) < μ s):∀ (n:Nat) (s:S),μ s < n->I s->cont (lp cont st n s)=false/\I (lp cont st n s)
 | 0,s,h,_=>absurd h (by omega)
 | n+1,s,h,i=>by
  rw[lp]
  cases hc:cont s with
  | false=>exact⟨by simpa [hc] using hc,by simpa using i⟩
  | true =>
   obtain⟨i2,hm⟩:=hb s i hc
   have:=yu cont st μ I hb n (st s) (by omega) i2
   simpa using this
section
variable {G T:List Pl}{W:List Wy}
theorem GZ {k:Nat}(hk:k < W.length):(dO W).getD k 0=(au W k).2.2:=by
 unfold dO
 rw[List.getD_eq_getElem?_getD,List.getElem?_map,iD hk]
 rfl
theorem Fl (h:Wd G T W):wV G T W (fin G T W).2=none/\A6 W (fin G T W)/\∀k,k < W.length->(fin G T W).2.getD k 0<=(au W k).2.2:=by
 have hb:=h.mea
 obtain⟨h1,i,h2⟩:=yu (JN G T W) (spS G T W) (fun s=>mea s.2) (fun s=>A6 W s/\∀k,k < W.length->s.2.getD k 0<=(au W k).2.2)
  (fun s ⟨i,l⟩ hc=>by
   obtain⟨p,e⟩:=vY hc
   obtain⟨a,b,c⟩:=CM h i.off e
   obtain⟨i2,hm⟩:=i.step h e
   refine⟨⟨i2,fun k hk=>?_⟩,hm⟩
   rw[yo e]
   show (s.2.set p.1 p.2).getD k 0<=_
   by_cases z:k=p.1
   ·subst z
    have:=l p.1 a
    have hl:p.1 < s.2.length:=by rw[i.len];exact a
    rw[show (s.2.set p.1 p.2).getD p.1 0=p.2 by simp[hl]]
    omega
   ·rw[show (s.2.set p.1 p.2).getD k 0=s.2.getD k 0 by simp[List.getElem?_set_ne (Ne.symm z)]]
    exact l k hk) Rf.turns ([],dO W) (Nat.lt_of_le_of_lt hb (by decide)) ⟨A6.start h,fun k hk=>by rw[GZ hk];omega⟩
 refine⟨?_,i,h2⟩
 have:JN G T W (fin G T W)=false:=h1
 unfold JN at this
 exact Option.isNone_iff_eq_none.mp (by simpa using this)
noncomputable def K5 (G T:List Pl) (W:List Wy):List Int:=fU false G T W (fin G T W).2
theorem CN (h:Wd G T W):Pn G T W (K5 G T W):=by
 obtain⟨h1,i,h2⟩:=Fl h
 exact Fg h i.off h2 h1
theorem Ci (h:Wd G T W):bo [aw G T W]=some (af (K5 G T W)):=qo h
theorem m6:∀ {l:List D},(∀d∈l,PyData.eqv d d=true)->PyData.eqvAll l l=true
 | [],_=>by simp[PyData.eqvAll]
 | d::l,h=>by
  rw[PyData.eqvAll,h d List.mem_cons_self,m6 fun x hx=>h x (List.mem_cons_of_mem _ hx)]
  rfl
theorem Jr (a:List Int):PyData.eqv (af a) (af a)=true:=by rw[oH];simp
theorem G8 (a:Int):PyData.eqv (.int a) (.int a)=true:=by
 have:=Jr [a]
 rw[af,PyData.eqv,List.map_cons,List.map_nil,PyData.eqvAll] at this
 simp only[Bool.and_eq_true] at this
 exact this.1
theorem zP (a:Bool):ie (.bool a) (.bool a)=some (.bool false):=by cases a<;>simp[ie,Gb,SeqAt.shaped,PyData.canLay0,PyData.depth,PyData.eqv]
end
section
variable {W:List Wy}{G T:List Pl}{P off:List Int}
theorem BS {is:List Nat}{s:Int×List Int}{k:Nat}(hk:k∉is):(is.foldl (i8 W off) s).2.getD k 0=s.2.getD k 0:=by
 induction is generalizing s with
 | nil=>rfl
 | cons i is ih =>
  rw[List.foldl_cons,ih fun z=>hk (List.mem_cons_of_mem _ z)]
  simp only[i8,cW]
  have hne:¬ (i=k/\k < s.2.length):=fun z=>hk (z.1 ▸ List.mem_cons_self)
  rw[if_neg hne]
theorem EO {amt:Int}{xs ys:List Nat}{k:Nat}(hk:k < W.length) (hy:k∉ys):(nR W off amt (xs++k::ys)).getD k 0=cV W off (xs.foldl (i8 W off) (amt,List.replicate W.length 0)).1 k:=by
 unfold nR
 rw[List.foldl_append,List.foldl_cons,BS hy]
 simp only[i8,cW]
 rw[if_pos ⟨trivial,by rw[ua];simpa using hk⟩]
theorem uu:∀ (xs:List Nat),(∀i∈xs,0<=off.getD i 0)->0<=(xs.map fun i=>off.getD i 0).sum
 | [],_=>by simp
 | i::xs,h=>by
  have:=uu xs fun j hj=>h j (List.mem_cons_of_mem _ hj)
  have:=h i List.mem_cons_self
  rw[List.map_cons,List.sum_cons];omega
theorem uP:∀ (xs:List Nat) (s:Int×List Int),(∀i∈xs,0<=off.getD i 0/\off.getD i 0<=(au W i).2.2)->(xs.map fun i=>off.getD i 0).sum<=s.1->(xs.foldl (i8 W off) s).1=s.1 - (xs.map fun i=>off.getD i 0).sum
 | [],s,_,_=>by simp
 | i::xs,s,hb,hs=>by
  rw[List.map_cons,List.sum_cons] at hs
  have h0:0<=(xs.map fun i=>off.getD i 0).sum:=uu xs fun j hj=>(hb j (List.mem_cons_of_mem _ hj)).1
  obtain⟨b1,b2⟩:=hb i List.mem_cons_self
  have hc:cV W off s.1 i=off.getD i 0:=by unfold cV;omega
  rw[List.foldl_cons,uP xs (i8 W off s i) (fun j hj=>hb j (List.mem_cons_of_mem _ hj)) (by simp only[i8,hc];omega)]
  simp only[i8,hc,List.map_cons,List.sum_cons]
  omega
theorem zx:∀ (xs:List Nat),(∀i∈xs,0<=P.getD i 0)->(0 < (xs.map fun i=>P.getD i 0).sum↔(xs.any fun i=>decide (0 < P.getD i 0))=true)
 | [],_=>by simp
 | i::xs,h=>by
  have ih:=zx xs fun j hj=>h j (List.mem_cons_of_mem _ hj)
  have h0:=uu (off:=P) xs fun j hj=>h j (List.mem_cons_of_mem _ hj)
  have hi:=h i List.mem_cons_self
  rw[List.map_cons,List.sum_cons,List.any_cons,Bool.or_eq_true,decide_eq_true_eq,<- ih]
  omega
theorem EB (h:Wd G T W) {b:Bool}{k:Nat}(hk:k < W.length) :
  let i:=(aG b (au W k)).toNat
  let L:=(bL b G T i).2
  d0 b W i L=(L.take (rE L (bX b (au W k)))).map (nr b W i)++k::(L.drop (rE L (bX b (au W k))+1)).map (nr b W i):=by
 intro i L
 obtain⟨h1,h2,h3⟩:=h.end_pl b hk
 have e:=kJ h2
 have hm:bX b (au W k)∈L:=by
  rw[(h.lik e).mem_iff,<- jQ]
  exact List.mem_map.mpr ⟨k,ck.mpr ⟨hk,h3.symm⟩,rfl⟩
 have hlt:rE L (bX b (au W k)) < L.length:=by
  unfold rE
  exact List.findIdx_lt_length_of_exists ⟨_,hm,by simp⟩
 have hg:L[rE L (bX b (au W k))]=bX b (au W k):=by
  have:=List.findIdx_getElem (w:=hlt)
  exact of_decide_eq_true this
 have hx:nr b W i (bX b (au W k))=k:=sH h.wp (ck.mpr ⟨hk,h3.symm⟩)
 unfold d0
 conv=>lhs;rw[<- List.take_append_drop (rE L (bX b (au W k))) L,List.drop_eq_getElem_cons hlt,hg,List.map_append,List.map_cons,hx]
theorem zj (h:Wd G T W) (p:Pn G T W P) (b:Bool) {k:Nat}(hk:k < W.length) (hl:P.getD k 0 < (au W k).2.2) :
  decide (P.getD k 0 < (nR W (P.set k (P.getD k 0+1)) (bL b G T (aG b (au W k)).toNat).1 (d0 b W (aG b (au W k)).toNat (bL b G T (aG b (au W k)).toNat).2)).getD k 0)=rH b G T W P k:=by
 obtain⟨h1,h2,h3⟩:=h.end_pl b hk
 have e:=kJ h2
 have pm:=eF h e
 have cut:=EB h (b:=b) hk
 simp only at cut
 have hn:(d0 b W (aG b (au W k)).toNat (bL b G T (aG b (au W k)).toNat).2).Nodup:=pm.nodup_iff.mpr (List.nodup_range.filter _)
 have hin:∀j∈d0 b W (aG b (au W k)).toNat (bL b G T (aG b (au W k)).toNat).2,j < W.length:=fun j hj=>(ck.mp (pm.mem_iff.mp hj)).1
 have hs:=pC (pm.map fun j=>P.getD j 0)
 have ham:=p.am b _ h2
 unfold kM at ham
 unfold rH kM
 rw[h3] at *
 rw[<- hs] at ham
 rw[<- hs]
 generalize (bL b G T (aG b (au W k)).toNat).1=amt at *
 have hany:(((bL b G T (aG b (au W k)).toNat).2.drop (rE (bL b G T (aG b (au W k)).toNat).2 (bX b (au W k))+1)).any fun o=>decide (0 < P.getD (nr b W (aG b (au W k)) o) 0)) =
   ((((bL b G T (aG b (au W k)).toNat).2.drop (rE (bL b G T (aG b (au W k)).toNat).2 (bX b (au W k))+1)).map (nr b W (aG b (au W k)))).any fun j=>decide (0 < P.getD j 0)):=by
  rw[List.any_map];rfl
 rw[hany]
 generalize ((bL b G T (aG b (au W k)).toNat).2.drop (rE (bL b G T (aG b (au W k)).toNat).2 (bX b (au W k))+1)).map (nr b W (aG b (au W k)))=ys at *
 generalize ((bL b G T (aG b (au W k)).toNat).2.take (rE (bL b G T (aG b (au W k)).toNat).2 (bX b (au W k)))).map (nr b W (aG b (au W k)))=xs at *
 rw[cut] at hn hin ham ⊢
 have hkx:k∉xs:=fun z=>(List.nodup_append.mp hn).2.2 k z k List.mem_cons_self rfl
 have hky:k∉ys:=(List.nodup_cons.mp (List.nodup_append.mp hn).2.1).1
 have hP:∀j∈xs,(P.set k (P.getD k 0+1)).getD j 0=P.getD j 0:=fun j hj=>by
  have hne:¬ (k=j/\j < P.length):=fun z=>hkx (z.1 ▸ hj)
  rw[cW,if_neg hne]
 have hb:∀j,j < W.length->0<=P.getD j 0/\P.getD j 0<=(au W j).2.2:=p.bd
 have exs:(xs.map fun j=>(P.set k (P.getD k 0+1)).getD j 0)=xs.map fun j=>P.getD j 0:=List.map_congr_left hP
 rw[EO hk hky]
 rw[List.map_append,List.map_cons,List.sum_append,List.sum_cons] at ham ⊢
 have hy0:=uu (off:=P) ys fun j hj=>(hb j (hin j (List.mem_append_right _ (List.mem_cons_of_mem _ hj)))).1
 have hyp:=zx (P:=P) ys fun j hj=>(hb j (hin j (List.mem_append_right _ (List.mem_cons_of_mem _ hj)))).1
 have hk0:=(hb k hk).1
 rw[uP (off:=P.set k (P.getD k 0+1)) xs _ (fun j hj=>by rw[hP j hj];exact hb j (hin j (List.mem_append_left _ hj))) (by rw[exs];show _<=amt;omega),exs]
 unfold cV
 rw[cW,if_pos ⟨rfl,by rw[p.len];exact hk⟩]
 rw[Bool.eq_iff_iff,Bool.or_eq_true,decide_eq_true_eq,decide_eq_true_eq,<- hyp]
 show P.getD k 0 < min (min (P.getD k 0+1) (au W k).2.2) (amt - (xs.map fun j=>P.getD j 0).sum)↔_
 omega
end
namespace K12M
section
variable {G T:List Pl}{W:List Wy}{P:List Int}
theorem rJ {α:Type}{te:Dl.Env->Option D}{r:List (Option D)}{g f:α->D}:∀ (l:List α),(∀x∈l,te (some (g x)::r)=some (f x))->b0 (fG 0) (fun _=>some true) te (none::r) (l.map g)=some (l.map f)
 | [],_=>rfl
 | x::l,h=>by
  have ih:=rJ (te:=te) (r:=r) (g:=g) (f:=f) l fun y hy=>h y (List.mem_cons_of_mem _ hy)
  have hg:fG 0 (none::r) (g x)=some (some (g x)::r):=rfl
  rw[List.map_cons,b0,hg,Option.bind_some]
  simp only[Option.bind_some,if_true,h x List.mem_cons_self,ih,Option.map_some,List.map_cons]
theorem Bt {α:Type}{cs:List Nat}{fi:Dl.Env->Option (List D)}{te:Dl.Env->Option D}{ρ:Dl.Env}{l:List α}{g f:α->D}(hfi:fi ρ=some (l.map g)) (hl:l.length<=1000) (hh:∀x∈l,te (some (g x)::cs.map fun j=>(ρ[j]?).getD none)=some (f x)):ak 1 cs fi (fG 0) (fun _=>some true) te ρ=some (l.map f):=by
 have:=rJ l hh
 simp only[ak,hfi,Option.bind_some,dQ,List.replicate,List.cons_append,List.nil_append,this]
 refine aS ?_
 rw[List.length_map]
 omega
theorem pV (h:Wd G T W) (b:Bool) {i:Nat}(hi:i < (br b G T).length):eA [aw G T W,.int (sI b),nD i]=some .none:=by
 have:cX [.val (aw G T W),.val (.int (sI b)),.val (nD i)]=some (.nx [.val (aw G T W),.val (.int (sI b)),.val (nD i)]):=by
  unfold cX
  refine (ah (dH (call_of (sf b) rfl rfl))).trans ?_
  exact dH (call_of (fO (n:=((br b G T).length:Nat)) (i:=(i:Nat)) (by omega) (by omega)) (cons_of rfl (cons_of (mC (l:=br b G T) (k:=bH) (ax (k8 b G T W) rfl rfl)) rfl)) rfl)
 show (cX [.val (aw G T W),.val (.int (sI b)),.val (nD i)]).map _=_
 rw[this]
 rfl
noncomputable def EZ (b:Bool) (G T:List Pl) (W:List Wy) (off:List Int) (k:Nat):List Int:=nR W off (bL b G T (aG b (au W k)).toNat).1 (d0 b W (aG b (au W k)).toNat (bL b G T (aG b (au W k)).toNat).2)
theorem vP (h:Wd G T W) {off:List Int}(ho:off.length=W.length) (b:Bool) {k:Nat}(hk:k < W.length):fF [aw G T W,.int (sI b),.int (aG b (au W k)),af off]=some (af (EZ b G T W off k)):=by
 obtain⟨z1,z2,z3⟩:=h.end_pl b hk
 have hx:(br b G T)[(aG b (au W k)).toNat]?=some (bL b G T (aG b (au W k)).toNat):=by
  rw[List.getElem?_eq_getElem z2]
  simp[bL,z2]
 have e:=jn h ho hx
 have ez:PyData.int (aG b (au W k))=nD (aG b (au W k)).toNat:=by rw[<- z3];simp
 rw[ez]
 refine aL ?_
 show lz [.val (aw G T W),.val (.int (sI b)),.val (nD (aG b (au W k)).toNat),.val (af off)]=_
 unfold lz
 refine (ah (dH (call_of (d9 h) rfl rfl))).trans ?_
 refine (ah (dH (call_of (pV h b z2) rfl rfl))).trans ?_
 exact aN (call_of e rfl rfl)
theorem vM (h:Wd G T W) (p:Pn G T W P) {k:Nat}(hk:k < W.length):fT [aw G T W,af P,nD k]=some (eW (dy G T W P k)):=by
 refine aL ?_
 show k9 [.val (aw G T W),.val (af P),.val (nD k)]=_
 unfold k9
 refine (ah (dH (call_of (e9 h p) rfl rfl))).trans ?_
 refine (ah (dH (call_of (fO (n:=(W.length:Nat)) (i:=(k:Nat)) (by omega) (by omega)) (cons_of rfl (cons_of (mC (l:=W) (k:=aq) (ax (lN G T W) rfl rfl)) rfl)) rfl))).trans ?_
 exact aN (call_of (kr h p.len (p.sm h) hk) rfl rfl)
theorem uM:∀ (n:Nat),n<=3->ie (eW n) (eW n)=some (.bool false)
 | 0,_=>by simp[eW,ie,Gb,SeqAt.shaped,PyData.canLay0,PyData.depth,PyData.eqv];decide +kernel
 | 1,_=>by simp[eW,ie,Gb,SeqAt.shaped,PyData.canLay0,PyData.depth,PyData.eqv];decide +kernel
 | 2,_=>by simp[eW,ie,Gb,SeqAt.shaped,PyData.canLay0,PyData.depth,PyData.eqv];decide +kernel
 | 3,_=>by simp[eW,ie,Gb,SeqAt.shaped,PyData.canLay0,PyData.depth,PyData.eqv]
theorem vD {a:List Int}:∀ {l:List (List Int)}{j:Nat},l[j]?=some a->(∀m,m < j->l[m]?≠some a)->tK (af a) (l.map af)=some j
 | [],j,h,_=>by cases h
 | x::l,0,h,_=>by
  cases h
  rw[List.map_cons,tK,if_pos (by rw[oH];simp)]
 | x::l,j+1,h,hn=>by
  have:x≠a:=fun e=>hn 0 (by omega) (by rw[e];rfl)
  rw[List.map_cons,tK,if_neg (by rw[oH];simpa using this),vD (l:=l) (j:=j) (by simpa using h) fun m hm=>by simpa using hn (m+1) (by omega)]
  rfl
theorem Js (h:Wd G T W) {k:Nat}(hk:k < W.length):∃j,j < W.length/\(aI W).getD j 0=k/\tK (af [(au W k).2.1,(au W k).1]) ((cC W (aI W)).map fun w=>af [w.1,w.2.1])=some j:=by
 have o:=iR h.wp
 have h':=o.wd h
 obtain⟨j,hj,e⟩:=o.ex hk
 have hl:=cP o
 refine⟨j,hj,e,?_⟩
 have hw:=fE o hj
 rw[e] at hw
 rw[show (cC W (aI W)).map (fun w=>af [w.1,w.2.1])=((cC W (aI W)).map fun w=>[w.1,w.2.1]).map af by rw[List.map_map];rfl]
 refine vD ?_ fun m hm e2=>?_
 ·rw[List.getElem?_map,iD (by omega),hw]
  rfl
 ·rw[List.getElem?_map,iD (by omega),Option.map_some,Option.some.injEq] at e2
  simp only[List.cons.injEq,and_true] at e2
  have:m=j:=nU h'.wp (by omega) (by omega) (by rw[e2.1,hw];rfl) (by rw[e2.2,hw];rfl)
  omega
noncomputable def gn (G T:List Pl) (W:List Wy) (P:List Int) (k:Nat):List D:=((List.range k).filter fun k=>decide (dy G T W P k=3)).map nD
theorem FI (k:Nat):gn G T W P (k+1)=gn G T W P k++if dy G T W P k=3 then [nD k] else []:=by
 unfold gn
 rw[List.range_succ,List.filter_append,List.map_append]
 congr 1
 by_cases e:dy G T W P k=3
 ·simp[e]
 ·simp[e]
theorem Jl (k:Nat):(gn G T W P k).length<=k:=by
 unfold gn
 rw[List.length_map]
 refine Nat.le_trans (List.length_filter_le _ _) ?_
 rw[List.length_range]
 exact Nat.le_refl _
noncomputable def JJ (a b:Bool):D:=if a=false then .str "giver" else if b=true then .none else .str "taker"
theorem Bc (P:List Int) (k:Nat) (hl:P.getD k 0≠(au W k).2.2):JJ (rH false G T W P k) (rH true G T W P k)=eW (dy G T W P k):=by
 unfold dy
 rw[if_neg hl]
 unfold JJ
 cases rH false G T W P k<;>cases rH true G T W P k<;>rfl
theorem CG {f12:Dl.Env->Option D}{ρ:Dl.Env}{x y:Bool}{i j:Int}(h1:f2 ao f12 (fC (.int i)) ρ=some (.bool x)) (h2:f2 ao f12 (fC (.int j)) ρ=some (.bool y)):rg (bw (fB (f2 ao f12 (fC (.int i))))) (fC (.str "giver")) (rg (fB (f2 ao f12 (fC (.int j)))) (fC .none) (fC (.str "taker"))) ρ=some (JJ x y):=by
 cases x
 ·exact nX (dJ (bB h1)) rfl
 ·cases y
  ·exact oa (dJ (bB h1)) (oa (bB h2) rfl)
  ·exact oa (dJ (bB h1)) (nX (bB h2) rfl)
theorem vB (a b:Bool):Dl.kZ (JJ a b)=true:=by cases a<;>cases b<;>rfl
theorem Cz (n:Nat):Dl.kZ (eW n)=true:=by
 match n with
 | 0=>rfl
 | 1=>rfl
 | 2=>rfl
 | n+3=>rfl
theorem IZ {t:Dl.Env->Option Bool}{g g2:ai->Option Out}{ρ:ai}(h:t (bc ρ)=some false):fq t g g2 ρ=g2 ρ:=by
 simp[fq,h]
theorem Fn {t u:Dl.Env->Option Bool}{ρ:Dl.Env}(h:t ρ=some false):f9 t u ρ=some false:=by
 simp only[f9,h,Option.bind_some]
theorem Bj {t u:Dl.Env->Option Bool}{ρ:Dl.Env}{b:Bool}(h:t ρ=some true) (h2:u ρ=some b):f9 t u ρ=some b:=by
 simp only[f9,h,Option.bind_some,h2]
noncomputable def Ml:Dl.Env->Option D:=(f2 aA (f2 aA (fV cQ (ab 3) fW (pO (ab 6))) (aF (aa (f2 aA (f2 ao (ab 3) (ab 6)) (fC (.int 1))) ae))) (fV cQ (ab 3) (pO (f2 aA (ab 6) (fC (.int 1)))) fW))
theorem BG {k:Nat}(h:k < P.length) (hl:P.length<=1000) {ρ:Dl.Env}(h3:ab 3 ρ=some (af P)) (h6:ab 6 ρ=some (nD k)):Ml ρ=some (af (P.set k (P.getD k 0+1))):=by
 refine ax (a:=.tuple ((P.map PyData.int).take k++[PyData.int (P.getD k 0+1)])) (b:=.tuple ((P.map PyData.int).drop (k+1))) ?_ (ax (a:=.tuple ((P.map PyData.int).take k)) (b:=.tuple [.int (P.getD k 0+1)]) (lE ?_) (wK h3 h6) (DU (ax (eD _ _) (ax (dC h) h3 h6) rfl))) (Dd h3 (ax (eD _ _) h6 rfl))
 ·rw[lE,nL P k _ h]
  ·rfl
  ·rw[nL P k _ h];simp;omega
 ·simp;omega
theorem rep1 (d:D):wb [d] (.int 1)=some [d]:=(uG (ds:=[d]) (k:=1) (by decide) (show 1 * 1<=sizeLine from Nat.le_trans (show 1 * 1<=1000 by omega) (by decide))).trans rfl
theorem rep0 (d:D):wb [d] (.int 0)=some []:=(uG (ds:=[d]) (k:=0) (by decide) (show 1 * 0<=sizeLine from Nat.zero_le _)).trans rfl
theorem Ew {f:Dl.Env->Option D}{g:Dl.Env->Option D}{ρ:Dl.Env}{d:D}{n:Nat}(hn:n<=3) (hf:f ρ=some d) (hg:g ρ=some (eW n)):mO (cN (aa f ae)) (bb p7 (aa (f2 i6 g (fC .none)) ae)) ρ=some (if n=3 then [d] else []):=by
 have e1:cN (aa f ae) ρ=some [d]:=by
  simp only[cN,cons_of hf (show ae ρ=some [] from rfl),Option.bind_some,aS (show [d].length<=4000 by simp)]
 have e2:bb p7 (aa (f2 i6 g (fC .none)) ae) ρ=some (.int (if decide (n=3)=true then 1 else 0)):=by
  rw[xf (ax (sG n hn) hg rfl)]
  rfl
 unfold mO
 rw[e1,Option.bind_some,e2,Option.bind_some]
 by_cases e:n=3
 ·rw[if_pos e,if_pos (by simpa using e),rep1]
 ·rw[if_neg e,if_neg (by simpa using e),rep0]
theorem xo {f:Dl.Env->Option (List D)}{ρ:Dl.Env}{ds:List D}(h:f ρ=some ds):cf f ρ=some (.list ds):=by
 simp only[cf,h,Option.map_some]
theorem yy {f:Dl.Env->Option D}{ρ:Dl.Env}{ds:List D}(h:f ρ=some (.tuple ds)):aQ f ρ=some ds:=by
 simp only[aQ,h,Option.bind_some,fM]
theorem HX {f g:Dl.Env->Option D}{ρ:Dl.Env}{xs ys:List D}(h:f ρ=some (.list xs)) (h2:g ρ=some (.list ys)) (hl:(xs++ys).length<=4000):Hz jv f g ρ=some (xs++ys):=by
 simp only[Hz,h,h2,Option.bind_some,jv,aS hl]
theorem xC {fs:Dl.Env->Option (List D)}{ρ:Dl.Env}{ds:List D}(h:fs ρ=some ds) (hl:ds.length<=1000):cN fs ρ=some ds:=by
 simp only[cN,h,Option.bind_some,aS (show ds.length<=4000 by omega)]
noncomputable def Lf:ai->Option Out:=(av (Dl.ay 10 [1,3,6] (ag 3 fT (aa (ab 1) (aa (ab 3) (aa (ab 6) ae))))) (av (Dl.ay 11 [3,6] (f2 aA (f2 aA (fV cQ (ab 3) fW (pO (ab 6))) (aF (aa (f2 aA (f2 ao (ab 3) (ab 6)) (fC (.int 1))) ae))) (fV cQ (ab 3) (pO (f2 aA (ab 6) (fC (.int 1)))) fW))) (av (aK 12 [1,3,6,7,8,11] (cN (aa (f2 sS (f2 ao (ag 4 fF (aa (ab 1) (aa (fC (.int 0)) (aa (ab 7) (aa (ab 11) ae))))) (ab 6)) (f2 ao (ab 3) (ab 6))) (aa (f2 sS (f2 ao (ag 4 fF (aa (ab 1) (aa (fC (.int 1)) (aa (ab 8) (aa (ab 11) ae))))) (ab 6)) (f2 ao (ab 3) (ab 6))) ae)))) (av (fq (fB (f2 bI (f2 ao (ab 3) (ab 6)) (ab 9))) (Dl.ay 13 [] (fC (.str "full"))) (Dl.ay 13 [12] (rg (bw (fB (f2 ao (ab 12) (fC (.int 0))))) (fC (.str "giver")) (rg (fB (f2 ao (ab 12) (fC (.int 1)))) (fC .none) (fC (.str "taker")))))) (av (fq (fB (f2 ie (ab 10) (ab 13))) (aJ (fC (.bool false))) f7) (av (aK 5 [5,6,10] (Hz jv (ab 5) (cf (mO (cN (aa (ab 6) ae)) (bb p7 (aa (f2 i6 (ab 10) (fC .none)) ae)))))) (av (Dl.ay 14 [2,7,8] (f2 xB (cf (ak 1 [] (aQ (f2 ao (ab 2) (fC (.int 2)))) (fG 0) (fun _=>some true) (fV cQ (ab 0) fW (pO (fC (.int 2)))))) (aF (aa (ab 8) (aa (ab 7) ae))))) (av (Dl.ay 13 [12] (rg (bw (fB (f2 ao (ab 12) (fC (.int 1))))) (fC (.str "giver")) (rg (fB (f2 ao (ab 12) (fC (.int 0)))) (fC .none) (fC (.str "taker"))))) (fq (f9 (fB (f2 Dl.zh (f2 ao (ab 3) (ab 6)) (ab 9))) (fB (f2 ie (ag 3 fT (aa (ab 2) (aa (ab 4) (aa (ab 14) ae)))) (ab 13)))) (aJ (fC (.bool false))) f7)))))))))
theorem Ei (h:Wd G T W) (p:Pn G T W P) {k:Nat}(hk:k < W.length) {s:D}{x10 x11 x12 x13 x14:Slot}:∃y10 y11 y12 y13 y14,Lf [.val s,.val (aw G T W),.val (aw T G (cC W (aI W))),.val (af P),.val (af (mf P (aI W))),.own (gn G T W P k),.val (nD k),.val (.int (au W k).1),.val (.int (au W k).2.1),.val (.int (au W k).2.2),x10,x11,x12,x13,x14]=some (.nx [.val s,.val (aw G T W),.val (aw T G (cC W (aI W))),.val (af P),.val (af (mf P (aI W))),.own (gn G T W P (k+1)),.val (nD k),.val (.int (au W k).1),.val (.int (au W k).2.1),.val (.int (au W k).2.2),y10,y11,y12,y13,y14]):=by
 have hw:=h.wl
 have o:=iR h.wp
 have h':=o.wd h
 have p':=p.tu h o
 have hkP:k < P.length:=by rw[p.len];exact hk
 have hPl:P.length<=1000:=by rw[p.len];omega
 have er:=vM h p hk
 have hn:=si G T W P k
 have ho:(P.set k (P.getD k 0+1)).length=W.length:=by rw[List.length_set,p.len]
 have c0:=vP h ho false hk
 have c1:=vP h ho true hk
 have l0:k < (EZ false G T W (P.set k (P.getD k 0+1)) k).length:=by unfold EZ;rw[lH];exact hk
 have l1:k < (EZ true G T W (P.set k (P.getD k 0+1)) k).length:=by unfold EZ;rw[lH];exact hk
 have m0:=fun hl=>zj h p false hk hl
 have m1:=fun hl=>zj h p true hk hl
 obtain⟨j,hj,ej,ei⟩:=Js h hk
 have hj':j < (cC W (aI W)).length:=by rw[cP o];exact hj
 have er2:=vM h' p' hj'
 have q1:(mf P (aI W)).getD j 0=P.getD k 0:=by rw[td o hj,ej]
 have q2:(au (cC W (aI W)) j).2.2=(au W k).2.2:=by rw[fE o hj,ej];rfl
 have w1:=Bh (P:=P) h o false hj
 have w0:=Bh (P:=P) h o true hj
 rw[ej] at w0 w1
 have d2:P.getD k 0≠(au W k).2.2->JJ (rH true G T W P k) (rH false G T W P k)=eW (dy T G (cC W (aI W)) (mf P (aI W)) j):=fun hl=>by
  rw[<- Bc (G:=T) (T:=G) (W:=cC W (aI W)) (mf P (aI W)) j (by rw[q1,q2];exact hl)]
  rw[<- w0,<- w1]
  rfl
 change ∀_,decide (P.getD k 0 < (EZ false G T W (P.set k (P.getD k 0+1)) k).getD k 0)=_ at m0
 change ∀_,decide (P.getD k 0 < (EZ true G T W (P.set k (P.getD k 0+1)) k).getD k 0)=_ at m1
 generalize EZ false G T W (P.set k (P.getD k 0+1)) k=C0 at *
 generalize EZ true G T W (P.set k (P.getD k 0+1)) k=C1 at *
 unfold Lf
 have hg5:=Jl (G:=G) (T:=T) (W:=W) (P:=P) k
 refine⟨.val (eW (dy G T W P k)),.val (af (P.set k (P.getD k 0+1))),.own [.bool (decide (P.getD k 0 < C0.getD k 0)),.bool (decide (P.getD k 0 < C1.getD k 0))],.val (JJ (decide (P.getD k 0 < C1.getD k 0)) (decide (P.getD k 0 < C0.getD k 0))),.val (nD j),?_⟩
 refine (ah (bK (call_of er rfl rfl) (Cz _))).trans ?_
 refine (ah (bf (f:=Ml) (BG hkP hPl rfl rfl) (BG hkP hPl rfl rfl) rfl)).trans ?_
 refine (ah (il (ds:=[.bool (decide (P.getD k 0 < C0.getD k 0)),.bool (decide (P.getD k 0 < C1.getD k 0))]) (xC (cons_of (ax (eu _ _) (ax (dC l0) (call_of c0 rfl rfl) rfl) (ax (dC hkP) rfl rfl)) (cons_of (ax (eu _ _) (ax (dC l1) (call_of c1 rfl rfl) rfl) (ax (dC hkP) rfl rfl)) rfl)) (by simp)) rfl)).trans ?_
 generalize ha0:decide (P.getD k 0 < C0.getD k 0)=a0 at *
 generalize ha1:decide (P.getD k 0 < C1.getD k 0)=a1 at *
 have t4:fq (fB (f2 bI (f2 ao (ab 3) (ab 6)) (ab 9))) (Dl.ay 13 [] (fC (.str "full"))) (Dl.ay 13 [12] (rg (bw (fB (f2 ao (ab 12) (fC (.int 0))))) (fC (.str "giver")) (rg (fB (f2 ao (ab 12) (fC (.int 1)))) (fC .none) (fC (.str "taker"))))) [.val s,.val (aw G T W),.val (aw T G (cC W (aI W))),.val (af P),.val (af (mf P (aI W))),.own (gn G T W P k),.val (nD k),.val (.int (au W k).1),.val (.int (au W k).2.1),.val (.int (au W k).2.2),.val (eW (dy G T W P k)),.val (af (P.set k (P.getD k 0+1))),.own [.bool a0,.bool a1],x13,x14]=some (.nx [.val s,.val (aw G T W),.val (aw T G (cC W (aI W))),.val (af P),.val (af (mf P (aI W))),.own (gn G T W P k),.val (nD k),.val (.int (au W k).1),.val (.int (au W k).2.1),.val (.int (au W k).2.2),.val (eW (dy G T W P k)),.val (af (P.set k (P.getD k 0+1))),.own [.bool a0,.bool a1],.val (eW (dy G T W P k)),x14]):=by
  by_cases e:P.getD k 0=(au W k).2.2
  ·have e3:eW (dy G T W P k)=.str "full":=by unfold dy;rw[if_pos e];rfl
   rw[e3]
   exact (eX (bB (ax ((cF _ _).trans (by rw[decide_eq_true e])) (ax (dC hkP) rfl rfl) rfl))).trans (bK rfl rfl)
  ·have hlt:P.getD k 0 < (au W k).2.2:=by have:=(p.bd k hk).2;omega
   rw[<- Bc (G:=G) (T:=T) P k e,<- m0 hlt,<- m1 hlt]
   exact (IZ (bB (ax ((cF _ _).trans (by rw[decide_eq_false e])) (ax (dC hkP) rfl rfl) rfl))).trans (bK (CG rfl rfl) (vB _ _))
 refine (ah t4).trans ?_
 refine (ah (dm (bB (ax (uM _ hn) rfl rfl)))).trans ?_
 have hcat:(Hz jv (ab 5) (cf (mO (cN (aa (ab 6) ae)) (bb p7 (aa (f2 i6 (ab 10) (fC .none)) ae))))) (bJ [.val s,.val (aw G T W),.val (aw T G (cC W (aI W))),.val (af P),.val (af (mf P (aI W))),.val (.list (gn G T W P k)),.val (nD k),.val (.int (au W k).1),.val (.int (au W k).2.1),.val (.int (au W k).2.2),.val (eW (dy G T W P k)),.val (af (P.set k (P.getD k 0+1))),.own [.bool a0,.bool a1],.val (eW (dy G T W P k)),x14])=some (gn G T W P (k+1)):=by
  have hr:(cf (mO (cN (aa (ab 6) ae)) (bb p7 (aa (f2 i6 (ab 10) (fC .none)) ae)))) (bJ [.val s,.val (aw G T W),.val (aw T G (cC W (aI W))),.val (af P),.val (af (mf P (aI W))),.val (.list (gn G T W P k)),.val (nD k),.val (.int (au W k).1),.val (.int (au W k).2.1),.val (.int (au W k).2.2),.val (eW (dy G T W P k)),.val (af (P.set k (P.getD k 0+1))),.own [.bool a0,.bool a1],.val (eW (dy G T W P k)),x14])=some (.list (if dy G T W P k=3 then [nD k] else [])):=by
   exact xo (Ew (d:=nD k) hn rfl rfl)
  rw[FI]
  refine HX (xs:=gn G T W P k) rfl hr ?_
  rw[List.length_append]
  split<;>simp<;>omega
 refine (ah (nV (ρ':=[.val s,.val (aw G T W),.val (aw T G (cC W (aI W))),.val (af P),.val (af (mf P (aI W))),.val (.list (gn G T W P k)),.val (nD k),.val (.int (au W k).1),.val (.int (au W k).2.1),.val (.int (au W k).2.2),.val (eW (dy G T W P k)),.val (af (P.set k (P.getD k 0+1))),.own [.bool a0,.bool a1],.val (eW (dy G T W P k)),x14]) rfl hcat)).trans ?_
 have hix:∀ρ:Dl.Env,ab 2 ρ=some (aw T G (cC W (aI W)))->ab 7 ρ=some (.int (au W k).1)->ab 8 ρ=some (.int (au W k).2.1)->(f2 xB (cf (ak 1 [] (aQ (f2 ao (ab 2) (fC (.int 2)))) (fG 0) (fun _=>some true) (fV cQ (ab 0) fW (pO (fC (.int 2)))))) (aF (aa (ab 8) (aa (ab 7) ae)))) ρ=some (nD j):=fun ρ a b c=>by
  refine ax (a:=.list ((cC W (aI W)).map fun w=>af [w.1,w.2.1])) (b:=af [(au W k).2.1,(au W k).1]) ?_ ?_ ?_
  ·have hs:SeqAt.shaped (.list ((cC W (aI W)).map fun w=>af [w.1,w.2.1]))=true:=by
    rw[show (cC W (aI W)).map (fun w=>af [w.1,w.2.1])=((cC W (aI W)).map fun w=>[w.1,w.2.1]).map af by rw[List.map_map];rfl]
    exact mS _
   have hz:((cC W (aI W)).map fun w=>af [w.1,w.2.1]).length<=sizeLine:=by
    rw[List.length_map,cP o]
    exact Nat.le_trans hw (by decide)
   simp only[xB]
   rw[if_pos ⟨ya _,hs,hz⟩,ei]
   rfl
  ·have hf:aQ (f2 ao (ab 2) (fC (.int 2))) ρ=some ((cC W (aI W)).map aq):=yy (ax (lN T G (cC W (aI W))) a rfl)
   exact xo (Bt (g:=aq) (f:=fun w=>af [w.1,w.2.1]) hf (by rw[cP o];omega) fun w _=>wK (k:=2) (ds:=[.int w.1,.int w.2.1,.int w.2.2]) rfl rfl)
  ·exact tup_is (cons_of c (cons_of b rfl)) (by simp)
 refine (ah (bK (hix _ rfl rfl rfl) rfl)).trans ?_
 refine (ah (bK (CG (x:=a1) (y:=a0) rfl rfl) (vB _ _))).trans ?_
 refine dm ?_
 by_cases e:P.getD k 0 < (au W k).2.2
 ·refine Bj (bB (ax ((iS _ _).trans (by rw[decide_eq_true e])) (ax (dC hkP) rfl rfl) rfl)) (bB (ax ?_ (call_of er2 rfl rfl) rfl))
  rw[m0 e,m1 e,d2 (by omega)]
  exact uM _ (si _ _ _ _ _)
 ·exact Fn (bB (ax ((iS _ _).trans (by rw[decide_eq_false e])) (ax (dC hkP) rfl rfl) rfl))
noncomputable def K2:ai->Option Out:=(av (Dl.ay 4 [1,3] (ag 2 bR (aa (ab 1) (aa (ab 3) ae)))) (av (aK 5 [] (cN ae)) (av (dz [1] (ba (aa (f2 ao (ab 1) (fC (.int 2))) ae)) (qS 6 7 8 9) Lf) (fq (ox (fB (f2 ie (ag 2 hZ (aa (ab 1) (aa (ab 3) ae))) (ab 5))) (fB (f2 ie (ag 2 lQ (aa (ab 1) (aa (ab 3) ae))) (f2 bI (ab 5) (cf (cN ae)))))) (aJ (fC (.bool false))) f7))))
theorem DX (l:List Nat):PyData.eqvAll (l.map nD) (l.map nD)=true:=m6 fun d hd=>by
 obtain⟨i,_,rfl⟩:=List.mem_map.mp hd
 exact G8 _
theorem jC {l:List Nat}:SeqAt.shaped (.list (l.map nD))=true :=
 (iq.lst (b:=l.length) (k:=0) (by simp) fun x hx=>by obtain⟨i,_,rfl⟩:=List.mem_map.mp hx;exact jR _).shaped (by decide)
theorem AQ (l:List Nat):ie (.list (l.map nD)) (.list (l.map nD))=some (.bool false):=by
 simp only[ie,Gb,jC,and_self,if_true,PyData.eqv,DX,Option.map_some,Bool.not_true]
theorem oz (l:List Nat):bI (.list (l.map nD)) (.list [])=some (.bool (decide (l=[]))):=by
 have h0:SeqAt.shaped (.list [])=true:=jC (l:=[])
 have e:(l.map nD).isEmpty=decide (l=[]):=by cases l<;>rfl
 simp only[bI,Je,jC,h0,and_self,if_true,PyData.eqv,pH,e,Option.map_some]
theorem Ez (h:Wd G T W) (p:Pn G T W P) {s:D}{x4 x5 x6 x7 x8 x9 x10 x11 x12 x13 x14:Slot}:∃y4 y5 y6 y7 y8 y9 y10 y11 y12 y13 y14,K2 [.val s,.val (aw G T W),.val (aw T G (cC W (aI W))),.val (af P),x4,x5,x6,x7,x8,x9,x10,x11,x12,x13,x14]=some (.nx [.val s,.val (aw G T W),.val (aw T G (cC W (aI W))),.val (af P),y4,y5,y6,y7,y8,y9,y10,y11,y12,y13,y14]):=by
 have hw:=h.wl
 have etp:=j7 h p
 obtain⟨ρ',e,y6,y7,y8,y9,y10,y11,y12,y13,y14,rfl⟩:=sk (tgt:=qS 6 7 8 9) (gb:=Lf) (fun i=>.tuple [nD i,aq (au W i)]) (fun k ρ=>∃x6 x7 x8 x9 x10 x11 x12 x13 x14,ρ=[.val s,.val (aw G T W),.val (aw T G (cC W (aI W))),.val (af P),.val (af (mf P (aI W))),.own (gn G T W P k),x6,x7,x8,x9,x10,x11,x12,x13,x14]) W.length 0 [.val s,.val (aw G T W),.val (aw T G (cC W (aI W))),.val (af P),.val (af (mf P (aI W))),.own (gn G T W P 0),x6,x7,x8,x9,x10,x11,x12,x13,x14]
  (fun j ρ _ hj hρ=>by
   obtain⟨x6,x7,x8,x9,x10,x11,x12,x13,x14,rfl⟩:=hρ
   obtain⟨y10,y11,y12,y13,y14,e⟩:=Ei (s:=s) (x10:=x10) (x11:=x11) (x12:=x12) (x13:=x13) (x14:=x14) h p (show j < W.length by omega)
   exact⟨_,_,rfl,e,_,_,_,_,_,_,_,_,_,rfl⟩) ⟨_,_,_,_,_,_,_,_,_,rfl⟩
 rw[Nat.zero_add] at e
 have he:ba (aa (f2 ao (ab 1) (fC (.int 2))) ae) (bJ [.val s,.val (aw G T W),.val (aw T G (cC W (aI W))),.val (af P),.val (af (mf P (aI W))),.own (gn G T W P 0),x6,x7,x8,x9,x10,x11,x12,x13,x14])=some ((List.range' 0 W.length).map fun i=>.tuple [nD i,aq (au W i)]):=by
  rw[<- rz]
  rfl
 refine⟨.val (af (mf P (aI W))),.own (gn G T W P W.length),y6,y7,y8,y9,y10,y11,y12,y13,y14,?_⟩
 unfold K2
 refine (ah (bf (call_of etp rfl rfl) (call_of etp rfl rfl) rfl)).trans ?_
 refine (ah (il (ds:=gn G T W P 0) (xC (ds:=[]) rfl (by simp)) rfl)).trans ?_
 refine (ah (b9 e he rfl)).trans ?_
 exact dm (HN (bB (ax (AQ _) (call_of (AB h p) rfl rfl) rfl)) (bB (ax (zP _) (call_of (Es h p) rfl rfl) (ax (oz (Gx G T W P)) rfl (xo (xC (ds:=[]) rfl (by simp)))))))
theorem main (ns:List Int) (hl:ns.length<=63):hC [.list (ns.map PyData.int)]=some (.bool true):=by
 obtain⟨G,T,W,ew,h,_⟩:=wk (ns:=ns) (a:=0) (mo:=9) hl (by omega)
 have ep:=xn (ns:=ns) (at':=70) hl h
 have p:=Fq (ns:=ns) (at':=70) hl h
 generalize kA (pM ns 70 W) G T W W.length=P at ep p
 have o:=iR h.wp
 have h':=o.wd h
 have o':=iR h'.wp
 have eWW:=Fw h.wp o o'
 have et:=oq h
 have eb:=Ci h
 have pb:=CN h
 have eb2:=Ci h'
 have pb2:=CN h'
 generalize K5 G T W=A at eb pb
 generalize K5 T G (cC W (aI W))=B at eb2 pb2
 have ekb:cy [aw G T W]=some (af (mf B (aI (cC W (aI W))))):=p8 h eb2 pb2
 have pB:Pn G T W (mf B (aI (cC W (aI W)))):=by
  have:=pb2.tu h' o'
  rwa [eWW] at this
 generalize mf B (aI (cC W (aI W)))=C at ekb pB
 obtain⟨ρ',e,_,hρ⟩:=jl (tgt:=uv 3) (gb:=K2) (R:=fun (_:Unit) ρ=>∃x3 x4 x5 x6 x7 x8 x9 x10 x11 x12 x13 x14,ρ=[.val (cm ns),.val (aw G T W),.val (aw T G (cC W (aI W))),x3,x4,x5,x6,x7,x8,x9,x10,x11,x12,x13,x14]) af (fun s _=>s)
  (l:=[P,A,C]) (s:=()) (ρ:=[.val (cm ns),.val (aw G T W),.val (aw T G (cC W (aI W))),.non,.non,.non,.non,.non,.non,.non,.non,.non,.non,.non,.non])
  (fun _ ρ Q hQ hρ=>by
   obtain⟨x3,x4,x5,x6,x7,x8,x9,x10,x11,x12,x13,x14,rfl⟩:=hρ
   have pQ:Pn G T W Q:=by
    simp only[List.mem_cons,List.not_mem_nil,or_false] at hQ
    rcases hQ with rfl|rfl|rfl<;>assumption
   obtain⟨y4,y5,y6,y7,y8,y9,y10,y11,y12,y13,y14,e⟩:=Ez (s:=cm ns) (x4:=x4) (x5:=x5) (x6:=x6) (x7:=x7) (x8:=x8) (x9:=x9) (x10:=x10) (x11:=x11) (x12:=x12) (x13:=x13) (x14:=x14) h pQ
   exact⟨_,_,rfl,e,_,_,_,_,_,_,_,_,_,_,_,_,rfl⟩) ⟨_,_,_,_,_,_,_,_,_,_,_,_,rfl⟩
 refine aL ?_
 show md [.val (cm ns),.non,.non,.non,.non,.non,.non,.non,.non,.non,.non,.non,.non,.non,.non]=_
 show (av (Dl.ay 1 [0] (ag 3 bM (aa (ab 0) (aa (fC (.int 0)) (aa (fC (.int 9)) ae))))) (av (Dl.ay 2 [1] (ag 1 eG (aa (ab 1) ae))) (av (dz [0,1] (aQ (aF (aa (ag 3 eL (aa (ab 0) (aa (fC (.int 70)) (aa (ab 1) ae)))) (aa (ag 1 bo (aa (ab 1) ae)) (aa (ag 1 cy (aa (ab 1) ae)) ae))))) (uv 3) K2) (aJ (fC (.bool true)))))) [.val (cm ns),.non,.non,.non,.non,.non,.non,.non,.non,.non,.non,.non,.non,.non,.non]=_
 refine (ah (bf (call_of ew rfl rfl) (call_of ew rfl rfl) rfl)).trans ?_
 refine (ah (bf (call_of et rfl rfl) (call_of et rfl rfl) rfl)).trans ?_
 refine (ah (b9 e (yy (tup_is (ds:=[P,A,C].map af) (cons_of (call_of ep rfl rfl) (cons_of (call_of eb rfl rfl) (cons_of (call_of ekb rfl rfl) rfl))) (by simp))) rfl)).trans ?_
 exact aN rfl
end
end K12M
end Wm
namespace K12
open PySem L2 Dl PySem.Spec PyProof.Rows Pg Hd
theorem main (ns:List Int) (h:ns.length<=63):hC [.list (ns.map PyData.int)]=some (.bool true):=Wm.K12M.main ns h
theorem ins (P:Params):KB (Kf P):=⟨f3 70 69 gq,f2 77 76 gq,f3 84 83 gq,f2 89 88 gq,f2 96 95 gq,f3 103 102 gq,f3 108 107 gq,f1 113 112 gq,f1 118 117 gq,f4 123 122 gq,f3 128 127 gq,f2 133 132 gq,f1 140 139 gq,f2 147 146 gq,f3 154 153 gq,f2 161 160 gq,f1 168 167 gq,f3 175 174 gq,f3 182 181 gq,l1 189 188 gq,f1 194 193 gq,f2 199 198 gq,l3 204 203 rG,f4 209 208 rG,f4 216 215 rG,f4 221 220 rG,f3 228 227 rG,f2 235 234 rG,f2 242 241 rG,f2 247 246 rG,f2 254 253 rG,f3 261 260 rG,f3 266 265 wH,f1 271 270 wH,f3 278 277 wH,f2 285 284 wH,f1 292 291 wH,f2 299 298 wH,f1 306 305 wH,f1 313 312 wH,f2 320 319 uy,f3 327 326 uy,f3 334 333 uy,f3 339 338 uy,f4 344 343 uy,f2 351 350 uy,f1 356 355 uy,f3 363 362 uy,f1 368 367 uy,Dl.Gq (t:=257) (by kernel_rfl),Dl.Gq (t:=259) (by kernel_rfl),Dl.HZ (by kernel_rfl) (by kernel_rfl) (by kernel_rfl) (by kernel_rfl) (by kernel_rfl) (by kernel_rfl) (by kernel_rfl) (by kernel_rfl) (by kernel_rfl) (by kernel_rfl) (by kernel_rfl) (by kernel_rfl) (by kernel_rfl) (by kernel_rfl) (by kernel_rfl) (by kernel_rfl) (by kernel_rfl)⟩
theorem MB (w:World):lL (Kf w.params) [184,201]=true:=by kernel_rfl
end K12
open PySem PySem.W PyProof.Rows
theorem PySem.Challenge.cw_stillflow_k12_whole_reasons_holds : PySem.Challenge.rw_stillflow_k12_whole_reasons.Holds := by
 refine holds_law K12.Lx fun k1=>?_
 refine holds_open (XP:=XL K12.vw []) (YP:=K12.hk.says) K12.left K12.hk.of K12.hk.keeps (fun s e=>xl_of s (Bool.and_eq_true_iff.mp e).1) XL.keeps (by rfl) (by rfl) (by rfl) (fun s e=>recFacts_of (Bool.and_eq_true_iff.mp e).2) (by rfl) k1 (by decide +kernel) ⟨rfl,rfl,rfl,rfl,rfl,by decide +kernel⟩ ?hw ?hc
 case hw=>w_witness2
 case hc=>exact K12.walk (l:=PySem.Challenge.rw_stillflow_k12_whole_reasons) (K:=K12.Kf) (ts:=[184,201]) rfl rfl rfl (fun w h Y=>⟨Y.1,Y.2⟩) K12.MB (fun w=>K12.ins w.params) K12.main
