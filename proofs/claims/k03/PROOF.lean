import PyProof.Rows.All
import Wide.All
import OpenK.AllK
import Wide.FinOn
import Lean
import PyProof.EqAt
import PyProof.EqKinds
import PyProof.TupleCall
import PyProof.Draws
import PyProof.ListRange
import PySem.Challenge.RW_stillflow_k03_whole_turned
set_option Elab.async false
set_option linter.all false
set_option maxRecDepth 100000
set_option maxHeartbeats 4000000
namespace L2
open PySem PySem.Spec PyProof.Rows
noncomputable abbrev tO:=Sum Int Str
noncomputable def FP:tO->Value->Bool
 | .inl k,v=>Value.isInt k v
 | .inr x,v=>Value.isStrOf x v
noncomputable def Ly (w:World):tO->Int
 | .inl k=>hashInt k
 | .inr x=>hashStr w x
theorem bL:∀ {k:tO}{v:Value},FP k v=true->(∃i t,k=Sum.inl i/\v=Value.int i t)\/(∃x t,k=Sum.inr x/\v=Value.str x t)
 | .inl i,v,h=>by
  obtain⟨t,e⟩:=Value.isInt_shape (k:=i) (v:=v) h
  exact .inl ⟨i,t,rfl,e⟩
 | .inr x,v,h=>by
  obtain⟨t,e⟩:=Value.isStrOf_shape (x:=x) (v:=v) h
  exact .inr ⟨x,t,rfl,e⟩
theorem II (a b:Int):decide ((Sum.inl a:tO)=Sum.inl b)=(a == b):=by
 by_cases e:a=b
 ·subst e;simp
 ·have h:¬ (Sum.inl a:tO)=Sum.inl b:=fun q=>e (Sum.inl.inj q)
  rw[decide_eq_false h]
  exact (beq_eq_false_iff_ne.mpr e).symm
theorem HS (a b:Str):decide ((Sum.inr a:tO)=Sum.inr b)=decide (a=b):=by
 by_cases e:a=b
 ·subst e;simp
 ·have h:¬ (Sum.inr a:tO)=Sum.inr b:=fun q=>e (Sum.inr.inj q)
  rw[decide_eq_false h,decide_eq_false e]
theorem GJ (a:Int) (b:Str):decide ((Sum.inl a:tO)=Sum.inr b)=false:=decide_eq_false (fun q=>nomatch q)
theorem HG (a:Str) (b:Int):decide ((Sum.inr a:tO)=Sum.inl b)=false:=decide_eq_false (fun q=>nomatch q)
noncomputable def xY (prog:Program) (w:World):PySem.KeyKind prog w tO where
 is:=FP
 hash:=Ly w
 inj:=fun v a b ha hb=>by
  rcases bL ha with ⟨i,t,rfl,rfl⟩|⟨x,t,rfl,rfl⟩
  ·rcases bL hb with ⟨j,u,rfl,e⟩|⟨y,u,rfl,e⟩
   ·injection e with e1 _;rw[e1]
   ·exact nomatch e
  ·rcases bL hb with ⟨j,u,rfl,e⟩|⟨y,u,rfl,e⟩
   ·exact nomatch e
   ·injection e with e1 _;rw[e1]
 byValue:=fun k v h=>by
  rcases bL h with ⟨i,t,rfl,rfl⟩|⟨x,t,rfl,rfl⟩<;>rfl
 pyHash:=fun hv h=>by
  rcases bL hv with ⟨i,t,rfl,rfl⟩|⟨x,t,rfl,rfl⟩
  ·exact wpAny_pyHash_int h
  ·exact wpAny_pyHash_str h
 eqBool:=fun hu hv h=>by
  rcases bL hu with ⟨i,t,rfl,rfl⟩|⟨x,t,rfl,rfl⟩
  ·rcases bL hv with ⟨j,u,rfl,rfl⟩|⟨y,u,rfl,rfl⟩
   ·rw[II] at h;exact wpAny_eqBool_int h
   ·rw[GJ] at h;exact SeqAt.EqAt.int_str i t y u _ _ _ _ h
  ·rcases bL hv with ⟨j,u,rfl,rfl⟩|⟨y,u,rfl,rfl⟩
   ·rw[HG] at h;exact SeqAt.EqAt.str_int x t j u _ _ _ _ h
   ·rw[HS] at h;exact wpAny_eqBool_str h
 «strs»:=fun k x t v h=>by
  rcases bL h with ⟨i,u,rfl,e⟩|⟨y,u,rfl,e⟩
  ·exact nomatch e
  ·injection e with e1 _
   subst e1
   cases v<;>rfl
end L2
namespace L2
open PySem PySem.Spec PyProof.Rows
inductive V where
 | non|bl (b:Bool)|int (i:Int)|str (x:Str)|byt (b:Array UInt8)|flt (b:UInt64)|ref (a:Addr)|ty (n:String)
 deriving DecidableEq
noncomputable def RelV:V->Value->Prop
 | .non,u=>u=Value.none
 | .bl b,u=>u=Value.bool b
 | .int i,u=>∃t,u=Value.int i t
 | .str x,u=>∃t,u=Value.str x t
 | .byt b,u=>∃t,u=Value.bytes b t
 | .flt b,u=>∃t,u=Value.float b t
 | .ref a,u=>u=Value.ref a
 | .ty n,u=>u=Value.type n
noncomputable abbrev az:List V->List Value->Prop:=Paired RelV
theorem az.length {xs:List V}{us:List Value}(r:az xs us):xs.length=us.length:=Paired.length r
theorem az.get:∀ {xs:List V}{us:List Value}{i:Nat}{x:V},az xs us->xs[i]?=some x->∃u,us[i]?=some u/\RelV x u
 | _,_,_,_,.nil,e=>by simp at e
 | _,_,0,_,.cons r _,e=>by simp at e;subst e;exact⟨_,rfl,r⟩
 | _,_,i+1,x,.cons _ t,e=>by
  obtain⟨u,h1,h2⟩:=az.get (i:=i) (x:=x) t (by simpa using e)
  exact⟨u,by simpa using h1,h2⟩
theorem az.set {x:V}{u:Value}(r:RelV x u):∀ {xs:List V}{us:List Value}(i:Nat),az xs us->az (xs.set i x) (us.set i u)
 | _,_,_,.nil=>.nil
 | _,_,0,.cons _ t=>.cons r t
 | _,_,i+1,.cons q t=>.cons q (az.set r i t)
theorem az.append:∀ {xs ys:List V}{us ws:List Value},az xs us->az ys ws->az (xs++ys) (us++ws)
 | _,_,_,_,.nil,s=>s
 | _,_,_,_,.cons r t,s=>.cons r (az.append t s)
theorem az.take:∀ {xs:List V}{us:List Value}(n:Nat),az xs us->az (xs.take n) (us.take n)
 | _,_,0,_=>.nil
 | _,_,_+1,.nil=>.nil
 | _,_,n+1,.cons r t=>.cons r (az.take n t)
theorem az.drop:∀ {xs:List V}{us:List Value}(n:Nat),az xs us->az (xs.drop n) (us.drop n)
 | _,_,0,r=>r
 | _,_,_+1,.nil=>.nil
 | _,_,n+1,.cons _ t=>az.drop n t
noncomputable def Jl:Option V->Option Value->Prop
 | some v,some u=>RelV v u
 | none,none=>True
 | _,_=>False
noncomputable def KV {κ:Type}:List (κ×V)->List (κ×Value)->Prop:=Paired fun (p:κ×V) (q:κ×Value)=>p.1=q.1/\RelV p.2 q.2
noncomputable def kV:tO->V
 | .inl i=>.int i
 | .inr x=>.str x
inductive HO where
  | lst (xs:List V)
  | tup (xs:List V)
  | dK (kvs:List (tO×V))|dT (kvs:List (List tO×V))
  | set (S:Int->Bool) (n:Nat)
  | ins (C dx:Addr) (fs:List (Str×V))
  | own (x:Addr)
  | xd (fs:List (Str×V))
  | met (f x:Addr)
  | rng (lo hi:Int)
  | frz (o:Obj) (u:HO)
  | tab (q:Str)
 | cod (q:Str)
  | ext (φ:Heap->Prop)
noncomputable abbrev Hp:=Addr->Option HO
noncomputable def upd (H:Hp) (a:Addr) (o:HO):Hp:=fun b=>if b=a then some o else H b
theorem aD {H:Hp}{a:Addr}{o:HO}:upd H a o a=some o:=by unfold upd;rw[if_pos rfl]
theorem ay {H:Hp}{a b:Addr}{o:HO}(h:b≠a):upd H a o b=H b:=by unfold upd;rw[if_neg h]
theorem aJ {H:Hp}{a b:Addr}{o:HO}(h:H a=some o) (h':H b=none):a≠b:=by
 intro e;subst e;rw[h] at h';cases h'
noncomputable def lQ (h:Heap) (a:Addr) (its:Array Value):Prop:=IsTup h a its/\∃o,h.get? a=some o/\o.dict=none
theorem lQ.new (h:Heap) (its:Array Value):lQ (h.push { cls:=.type "tuple",data:=.seq its }) h.objs.size its:=⟨IsTup.new _ _,_,Heap.get?_push_size _ rfl,rfl⟩
section
variable (P:Program) (w:World)
noncomputable def eF (H:Hp) (h:Heap) (a:Addr):HO->Prop
 | .lst xs=>xs.length<=sizeLine/\∃ (its:List Value) (n:Nat),az xs its/\h.get? a=some { cls:=.type "list",data:=.seq its.toArray n }
 | .tup xs=>xs.length<=sizeLine/\∃its:List Value,az xs its/\lQ h a its.toArray
 | .dK kvs=>kvs.length<=sizeLine/\(a == sysModules)=false/\∃vs,KV kvs vs/\h.DictOf (xY P w) a vs
 | .dT kvs=>kvs.length<=sizeLine/\(a == sysModules)=false/\∃xs:List (List tO×Addr×Value),
   Paired (fun (p:List tO×V) (q:List tO×Addr×Value)=>p.1=q.1/\H q.2.1=some (.tup (p.1.map kV))/\RelV p.2 q.2.2) kvs xs /\
   ∃o es ep,h.get? a=some o/\o.ExactDict/\o.data=.dict es ep/\es.toList=xs.map (entryOfKey (tupleKind (xY P w)))/\(xs.map (·.1)).Nodup
 | .set S n=>h.SetOf (intKind P w) a S n
 | .ins C dx fs=>H dx=some (.own a)/\fs.length<=1000/\dx≠a/\h.get? a=some (PySem.W.instObj C dx) /\
   ∃mA,h.Ns1 dx mA/\(∀f,Jl (fs.lookup f) (mA f))/\PySem.Within mA (fs.map (·.1))
 | .own _=>∃o,h.get? a=some o
 | .xd fs=>∃mA,h.Ns1 a mA/\∀f,Jl (fs.lookup f) (mA f)
 | .rng lo hi=>∃t u v,h.get? a=some { cls:=.type "range",data:=.fields #[.int lo t,.int hi u,.int 1 v] }
 | .frz o u=>h.get? a=some o/\eF H h a u
 | .tab q=>∃ps:Array Value,h.get? a=some { cls:=.none,data:=.fields ps }/\TriplesOk ps.toList/\∀pos v,codeAmong pos ps.toList=some v->∃c,v=.ref c/\H c=some (.cod q)
 | .cod q=>h.CodeRec (.ref a) q
 | .met f x=>h.get? a=some (PySem.W.methodObj (.ref f) (.ref x))
 | .ext φ=>φ h/\(∃o,h.get? a=some o)/\∀h1 h2:Heap,φ h1->(∀o,h1.get? a=some o->h2.get? a=some o)->φ h2
noncomputable def nB (H:Hp) (h:Heap):Prop:=∀a o,H a=some o->eF P w H h a o
end
section
variable {P:Program}{w:World}{H H':Hp}{h h':Heap}{a:Addr}{o:HO}
theorem eF.lt (x:eF P w H h a o):a < h.objs.size:=by
 cases o with
 | lst xs=>obtain⟨_,_,_,_,e⟩:=x;exact Heap.lt_size e
 | tup xs=>obtain⟨_,_,_,p⟩:=x;exact p.1.lt
 | dK kvs=>obtain⟨_,_,_,_,o,_,_,e,_⟩:=x;exact Heap.lt_size e
 | dT kvs=>obtain⟨_,_,_,_,o,_,_,e,_⟩:=x;exact Heap.lt_size e
 | set S n=>obtain⟨o,_,_,_,e,_⟩:=x;exact Heap.lt_size e
 | ins C dx fs=>obtain⟨_,_,_,e,_⟩:=x;exact Heap.lt_size e
 | own y=>obtain⟨_,e⟩:=x;exact Heap.lt_size e
 | xd fs=>obtain⟨_,⟨_,_,_,e,_⟩,_⟩:=x;exact Heap.lt_size e
 | rng lo hi=>obtain⟨_,_,_,e⟩:=x;exact Heap.lt_size e
 | frz ob u=>obtain⟨e,_⟩:=x;exact Heap.lt_size e
 | tab q=>obtain⟨_,e,_⟩:=x;exact Heap.lt_size e
 | cod q=>obtain⟨_,_,_,_,e0,e,_⟩:=x;cases e0;exact Heap.lt_size e
 | met f y=>exact Heap.lt_size (show h.get? a=some _ from x)
 | ext φ=>obtain⟨_,⟨_,e⟩,_⟩:=x;exact Heap.lt_size e
theorem Paired.mapP {α β:Type}{F G:α->β->Prop}:∀ {l₁:List α}{l₂:List β},Paired F l₁ l₂->(∀a b,F a b->G a b)->Paired G l₁ l₂
 | _,_,.nil,_=>.nil
 | _,_,.cons r t,f=>.cons (f _ _ r) (Paired.mapP t f)
noncomputable def LL:HO->Prop
 | .tup _=>True
 | .cod _=>True
 | _=>False
theorem eF.stay (x:eF P w H h a o) (k:∀b u,(b=a\/H b=some (.own a))->h.get? b=some u->h'.get? b=some u)
  (ho:∀b,H b=some (.own a)->H' b=some (.own a)) (ht:∀b u,H b=some u->LL u->H' b=some u):eF P w H' h' a o:=by
 induction o with
 | lst xs=>obtain⟨z,its,n,r,e⟩:=x;exact⟨z,its,n,r,k _ _ (.inl rfl) e⟩
 | tup xs=>obtain⟨z,its,r,⟨ob,e,c⟩,o2,e2,d2⟩:=x;exact⟨z,its,r,⟨ob,k _ _ (.inl rfl) e,c⟩,o2,k _ _ (.inl rfl) e2,d2⟩
 | dK kvs=>obtain⟨z,y,vs,r,ob,es,ep,e,c⟩:=x;exact⟨z,y,vs,r,ob,es,ep,k _ _ (.inl rfl) e,c⟩
 | dT kvs =>
  obtain⟨z,y,xs,r,ob,es,ep,e,c⟩:=x
  exact⟨z,y,xs,Paired.mapP r fun p q z=>⟨z.1,ht _ _ z.2.1 trivial,z.2.2⟩,ob,es,ep,k _ _ (.inl rfl) e,c⟩
 | set S n=>obtain⟨ob,es,ep,t,e,c⟩:=x;exact⟨ob,es,ep,t,k _ _ (.inl rfl) e,c⟩
 | ins C dx fs =>
  obtain⟨d,z,ne,e,mA,⟨od,es,ep,e2,c⟩,r⟩:=x
  exact⟨ho _ d,z,ne,k _ _ (.inl rfl) e,mA,⟨od,es,ep,k _ _ (.inr d) e2,c⟩,r⟩
 | own y=>obtain⟨ob,e⟩:=x;exact⟨ob,k _ _ (.inl rfl) e⟩
 | xd fs=>obtain⟨mA,⟨od,es,ep,e,c⟩,r⟩:=x;exact⟨mA,⟨od,es,ep,k _ _ (.inl rfl) e,c⟩,r⟩
 | rng lo hi=>obtain⟨t,u,v,e⟩:=x;exact⟨t,u,v,k _ _ (.inl rfl) e⟩
 | frz ob u ih=>obtain⟨e,q⟩:=x;exact⟨k _ _ (.inl rfl) e,ih q⟩
 | tab q=>obtain⟨ps,e,t,c⟩:=x;exact⟨ps,k a _ (.inl rfl) e,t,fun pos v z=>let ⟨c0,z1,z2⟩:=c pos v z;⟨c0,z1,ht _ _ z2 trivial⟩⟩
 | cod q=>obtain⟨c,oc,vs,t,e0,e,r⟩:=x;cases e0;exact⟨_,oc,vs,t,rfl,k _ _ (.inl rfl) e,r⟩
 | met f y =>
  have e:h.get? a=some (PySem.W.methodObj (.ref f) (.ref y)):=x
  show h'.get? a=some (PySem.W.methodObj (.ref f) (.ref y))
  exact k a _ (.inl rfl) e
 | ext φ=>obtain⟨p,⟨o,e⟩,st⟩:=x;exact⟨st _ _ p fun o q=>k _ _ (.inl rfl) q,⟨o,k _ _ (.inl rfl) e⟩,st⟩
theorem nB.lt (x:nB P w H h) (e:H a=some o):a < h.objs.size:=(x a o e).lt
theorem nB.fresh (x:nB P w H h) (e:h.objs.size<=a):H a=none:=by
 cases q:H a with
 | none=>rfl
 | some u=>exact absurd (Nat.lt_of_lt_of_le (x.lt q) e) (Nat.lt_irrefl _)
theorem nB.kept (x:nB P w H h) (k:∀b u,h.get? b=some u->h'.get? b=some u):nB P w H h':=fun a o e =>
 (x a o e).stay (fun b u _ q=>k b u q) (fun _ q=>q) fun _ _ q _=>q
theorem nB.laid (x:nB P w H h) (k:∀b u,h.get? b=some u->h'.get? b=some u) (hp:h.objs.size<=a) (new:eF P w (upd H a o) h' a o):nB P w (upd H a o) h':=fun b u e=>by
 have hn:=x.fresh hp
 by_cases hb:b=a
 ·subst hb;rw[aD] at e;cases e;exact new
 ·rw[ay hb] at e
  exact (x b u e).stay (fun c v _ q=>k c v q) (fun c q=>by rw[ay (aJ q hn)];exact q) fun c xs q _=>by rw[ay (aJ q hn)];exact q
end
noncomputable def Rd (H:Hp) (a:Addr) (u:HO):Prop:=H a=some u\/∃o,H a=some (.frz o u)
theorem Rd.of {H:Hp}{a:Addr}{u:HO}(h:H a=some u):Rd H a u:=.inl h
theorem Rd.ok {P:Program}{w:World}{H:Hp}{h:Heap}{a:Addr}{u:HO}(r:Rd H a u) (x:nB P w H h):eF P w H h a u:=by
 rcases r with r|⟨o,r⟩
 ·exact x a u r
 ·obtain⟨_,q⟩:=x a _ r
  exact q
noncomputable def Jr:Option HO->Prop
 | some (.lst _)=>True
 | some (.dK _)=>True
 | some (.dT _)=>True
 | some (.set _ _)=>True
 | some (.ins _ _ _)=>True
 | some (.ext _)=>True
 | _=>False
section
variable {P:Program}{w:World}{H:Hp}{h h':Heap}{x e:Addr}{o':HO}
theorem nB.write (ok:nB P w H h) (mu:Jr (H x)) (he:e=x\/H e=some (.own x)) (k:∀b u,b≠e->h.get? b=some u->h'.get? b=some u) (heo:∃u,h'.get? e=some u)
  (new:eF P w (upd H x o') h' x o'):nB P w (upd H x o') h':=fun b u q=>by
 have nown:∀c y,H c=some (.own y)->c≠x:=fun c y r z=>by subst z;rw[r] at mu;exact mu
 have ntup:∀c u,H c=some u->LL u->c≠x:=fun c u r hr z=>by subst z;rw[r] at mu;cases u<;>first|exact mu|exact hr
 by_cases hb:b=x
 ·subst hb;rw[aD] at q;cases q;exact new
 ·rw[ay hb] at q
  by_cases hbe:b=e
  ·have q':H b=some (.own x):=by
    rcases he with z|z
    ·exact absurd (hbe.trans z) hb
    ·rw[hbe];exact z
   rw[q] at q';cases q'
   obtain⟨v,hv⟩:=heo
   exact⟨v,by rw[hbe];exact hv⟩
  ·refine (ok b u q).stay (fun c v hc r=>k c v ?_ r) (fun c r=>by rw[ay (nown c b r)];exact r) fun c xs r hr=>by rw[ay (ntup c xs r hr)];exact r
   rcases hc with rfl|hc
   ·exact hbe
   ·rintro rfl
    rcases he with z|z
    ·exact nown c b hc z
    ·rw[hc] at z;cases z;exact hb rfl
end
noncomputable def Ks:HO->Prop
 | .tab _=>True
 | .cod _=>True
 | _=>False
theorem Ks.not_mut {u:HO}(h:Ks u):¬ Jr (some u):=by cases u<;>first|exact fun z=>z|exact h.elim
structure F0 (H H':Hp) (h h':Heap):Prop where
 st:∀b u,H b=some u->Ks u->H' b=some u
 gr:∀b q ps,H b=some (.tab q)->h.get? b=some { cls:=.none,data:=.fields ps }->∃more:Array Value,h'.get? b=some { cls:=.none,data:=.fields (ps++more) }
theorem F0.kept {H H':Hp}{h h':Heap}(k:∀b u,(∃q,H b=some (.tab q))->h.get? b=some u->h'.get? b=some u) (st:∀b u,H b=some u->Ks u->H' b=some u):F0 H H' h h' :=
 ⟨st,fun b q ps e z=>⟨#[],by rw[Array.append_empty];exact k b _ ⟨q,e⟩ z⟩⟩
theorem F0.trans {H H1 H2:Hp}{h h1 h2:Heap}(a:F0 H H1 h h1) (b:F0 H1 H2 h1 h2):F0 H H2 h h2 :=
 ⟨fun c u q t=>b.st c u (a.st c u q t) t,fun c q ps e z=>by
  obtain⟨m1,z1⟩:=a.gr c q ps e z
  obtain⟨m2,z2⟩:=b.gr c q _ (a.st c _ e trivial) z1
  exact⟨m1++m2,by rw[z2,Array.append_assoc]⟩⟩
structure Un (fs ex:List Addr) (H H':Hp) (h h':Heap):Prop where
 keep:∀b o,h.get? b=some o->H b=none->b∉fs->b∉ex->h'.get? b=some o
 slot:∀b o,h.get? b=some o->H b=none->b∈fs->b∉ex->∃sl,h'.get? b=some { o with slots:=sl }
 free:∀b o,h.get? b=some o->H b=none->b∉ex->H' b=none
 there:∀b o,h.get? b=some o->b∉ex->∃o',h'.get? b=some o'
 tups:∀b xs,H b=some (.tup xs)->H' b=some (.tup xs)
 frzs:∀b o u,H b=some (.frz o u)->H' b=some (.frz o u)
 tbls:F0 H H' h h'
section
variable {fs fs' ex ex':List Addr}{H H1 H2:Hp}{h h1 h2 h':Heap}{a x e:Addr}{o:HO}
theorem Un.any (u:Un fs ex H H1 h h1) {b:Addr}{ob:Obj}(q:h.get? b=some ob) (n:H b=none) (hx:b∉ex):∃sl,h1.get? b=some { ob with slots:=sl }:=by
 by_cases hb:b∈fs
 ·exact u.slot b ob q n hb hx
 ·exact⟨ob.slots,u.keep b ob q n hb hx⟩
theorem Un.trans (a:Un fs ex H H1 h h1) (b:Un fs ex H1 H2 h1 h2):Un fs ex H H2 h h2 where
 keep:=fun c ob q n hc hx=>b.keep c ob (a.keep c ob q n hc hx) (a.free c ob q n hx) hc hx
 slot:=fun c ob q n hc hx=>by
  obtain⟨sl,e1⟩:=a.slot c ob q n hc hx
  obtain⟨sl',e2⟩:=b.slot c _ e1 (a.free c ob q n hx) hc hx
  exact⟨sl',e2⟩
 free:=fun c ob q n hx=>by
  obtain⟨o',e1⟩:=a.there c ob q hx
  exact b.free c o' e1 (a.free c ob q n hx) hx
 there:=fun c ob q hx=>by
  obtain⟨o',e1⟩:=a.there c ob q hx
  exact b.there c o' e1 hx
 tups:=fun c xs q=>b.tups c xs (a.tups c xs q)
 frzs:=fun c ob xs q=>b.frzs c ob xs (a.frzs c ob xs q)
 tbls:=a.tbls.trans b.tbls
theorem Un.kept (k:∀b u,h.get? b=some u->h'.get? b=some u):Un fs ex H H h h' :=
 ⟨fun b ob q _ _ _=>k b ob q,fun b ob q _ _ _=>⟨ob.slots,k b ob q⟩,fun _ _ _ n _=>n,fun b ob q _=>⟨ob,k b ob q⟩,fun _ _ q=>q,fun _ _ _ q=>q,.kept (fun b u _ e=>k b u e) fun _ _ e _=>e⟩
theorem Un.refl:Un fs ex H H h h:=Un.kept fun _ _ q=>q
theorem Un.laid (k:∀b u,h.get? b=some u->h'.get? b=some u) (hp:h.objs.size<=a) (hn:H a=none):Un fs ex H (upd H a o) h h' where
 keep:=fun b u q _ _ _=>k b u q
 slot:=fun b u q _ _ _=>⟨u.slots,k b u q⟩
 free:=fun b u q n _=>by rw[ay (Nat.ne_of_lt (Nat.lt_of_lt_of_le (Heap.lt_size q) hp))];exact n
 there:=fun b u q _=>⟨u,k b u q⟩
 tups:=fun b xs q=>by rw[ay (aJ q hn)];exact q
 frzs:=fun b u xs q=>by rw[ay (aJ q hn)];exact q
 tbls:=.kept (fun b u _ e=>k b u e) fun b u q _=>by rw[ay (aJ q hn)];exact q
theorem Un.write (mu:Jr (H x)) (he:e=x\/H e=some (.own x)) (k:∀b u,b≠e->h.get? b=some u->h'.get? b=some u) (heo:∃u,h'.get? e=some u):Un fs ex H (upd H x o) h h':=by
 have hx:∀b,H b=none->b≠x:=fun b n z=>by subst z;rw[n] at mu;exact mu
 have hb:∀b,H b=none->b≠e:=fun b n z=>by
  subst z
  rcases he with r|r
  ·exact hx b n r
  ·rw[n] at r;cases r
 have hm:∀b u,H b=some u->¬ Jr (some u)->b≠x:=fun b u q nm z=>by subst z;rw[q] at mu;exact nm mu
 refine⟨fun b u q n _ _=>k b u (hb b n) q,fun b u q n _ _=>⟨u.slots,k b u (hb b n) q⟩,fun b u q n _=>by rw[ay (hx b n)];exact n,fun b u q _=>?_,
  fun b xs q=>by rw[ay (hm b _ q fun z=>z)];exact q,fun b u xs q=>by rw[ay (hm b _ q fun z=>z)];exact q,.kept (fun b u z e=>k b u (fun r=>by subst r;rcases he with r|r<;>first|(subst r;rcases z with ⟨q,z⟩;rw[z] at mu;exact mu)|(rcases z with ⟨q,z⟩;rw[z] at r;cases r)) e) fun b u q nm=>by rw[ay (hm b _ q (nm.not_mut))];exact q⟩
 by_cases hbe:b=e
 ·subst hbe;exact heo
 ·exact⟨u,k b u hbe q⟩
theorem Un.mono (u:Un fs ex H H1 h h1) (hs:∀b∈fs,b∈fs') (hx:∀b∈ex,b∈ex'):Un fs' ex' H H1 h h1 :=
 ⟨fun b ob q n hb he=>u.keep b ob q n (fun z=>hb (hs b z)) fun z=>he (hx b z),fun _ _ q n _ he=>u.any q n fun z=>he (hx _ z),fun b ob q n he=>u.free b ob q n fun z=>he (hx b z),fun b ob q he=>u.there b ob q fun z=>he (hx b z),u.tups,u.frzs,u.tbls⟩
end
noncomputable def KB (h:Heap) (H:Hp):List Addr:=(List.range h.objs.size).filter fun a=>(H a).isSome
noncomputable def sO (h:Heap) (H:Hp):Heap:=PySem.W.hideAll h (KB h H)
theorem zy (h:Heap) (H:Hp):(sO h H).objs.size=h.objs.size:=PySem.W.hideAll_size _ _
theorem Bb {h:Heap}{H:Hp}{b:Addr}{o:Obj}(e:h.get? b=some o) (n:H b=none):(sO h H).get? b=some o :=
 PySem.W.hideAll_get _ e fun hm=>by
  have q:(H b).isSome=true:=(List.mem_filter.mp hm).2
  rw[n] at q;simp at q
theorem EO {h:Heap}{H:Hp}{b:Addr}{o:Obj}(e:(sO h H).get? b=some o):h.get? b=some o/\H b=none:=by
 have e':h.get? b=some o:=PySem.W.of_hideAll (KB h H) e
 refine⟨e',?_⟩
 cases q:H b with
 | none=>rfl
 | some x =>
  have hm:b∈KB h H:=List.mem_filter.mpr ⟨List.mem_range.mpr (Heap.lt_size e'),by simp[q]⟩
  have z:(sO h H).get? b=none:=PySem.W.hideAll_none (KB h H) hm
  rw[z] at e;cases e
noncomputable def Dq (g h:Heap) (L:Addr):List (Addr×Obj):=(List.range h.objs.size).filterMap fun a=>if a=L\/(g.get? a).isSome=true then none else (h.get? a).map fun o=>(a,o)
noncomputable def rest (g h:Heap) (L d:Addr):List (Addr×Obj):=(Dq g h L).filter fun p=>decide (p.1≠d)
end L2
namespace L2
open PySem PySem.Spec PyProof.Rows
noncomputable def Kv (mg:Str->Option Value) (base:Heap):Prop:=∃bm o,mg "__builtins__"=some (.ref bm)/\bm≠builtinsNs/\bm≠mainGlobals/\base.get? bm=some o/\o.cls=.type "module"/\o.dict=some builtinsNs/\o.data=.plain
structure Mod (K:PySem.W.Frag) (mg:Str->Option Value) (base:Heap):Prop where
 kin:K.In base
 glob:base.Ns mainGlobals mg
 blt:∃mb,base.Ns builtinsNs mb/\∀x:Str,x≠"__name__"->mb x=bootBuiltins x
 nolimit:base.NoLimit
 bmd:Kv mg base
structure Cx where
 prog:Program
 w:World
 K:PySem.W.Frag
 mg:Str->Option Value
 base:Heap
 A:Around
 N:List Str
 s₀:Shared
 H₀:Hp
 env:Env
 outer:List Env
 stack:List Env
 ex:List Addr
 fn:Str->Bool
 calm:Bool
 pn:List (Addr×Obj)
 xe:Value->Shared->Prop
noncomputable def A7 (l:List Env):List Addr:=l.filterMap (·.frame)
noncomputable abbrev Cx.fs (X:Cx):List Addr:=A7 X.outer
noncomputable def FD (sc:Scope) (x:Str):Prop:=sc.names.lookup x=some .local \/ sc.names.lookup x=some .cell\/sc.names.lookup x=some .free
noncomputable def Loc (sc:Scope) (x:Str):Prop:=sc.names.lookup x=some .local \/ sc.names.lookup x=some .cell
noncomputable def Look (env:Env) (h:Heap) (m:Str->Option Value) (x:Str) (u:Value):Prop :=
 (env.kindOf x=some .local /\ m x=some u)\/((env.kindOf x=some .cell\/env.kindOf x=some .free)/\∃c,env.cells.lookup x=some c/\h.IsCell c (some u))
structure Cx.Ok (X:Cx):Prop where
 mod:Mod X.K X.mg X.base
 kind:X.env.scope.kind=.function
 glob:X.env.globals=mainGlobals
 blt:X.env.builtins=builtinsNs
 above:X.s₀.heap.objs.size<=X.env.locals
 inj:∀x y c,X.env.cells.lookup x=some c->X.env.cells.lookup y=some c->x=y
 has:∀x,(X.env.kindOf x=some .cell\/X.env.kindOf x=some .free)->∃c,X.env.cells.lookup x=some c
 cab:∀x c,X.fn x=true->X.env.cells.lookup x=some c->X.s₀.heap.objs.size<=c
 hd:X.calm=true->X.A.handled=none
 frames:X.A.frames=some X.stack
 stk:X.stack=X.outer\/(X.stack=X.env::X.outer/\X.env.frame=some X.env.locals)
 exf:∀b∈X.ex,b≠X.env.locals/\∀x c,X.env.cells.lookup x=some c->c≠b
 bs:∀b o,X.base.get? b=some o->X.s₀.heap.get? b=some o/\X.H₀ b=none
 bsz:X.base.objs.size<=X.s₀.heap.objs.size
 noex:∀b o,X.base.get? b=some o->b∉X.ex
 exfs:∀b∈X.ex,b∉X.fs
 funs:X.s₀.heap.FunFrames X.base X.outer
 frf:∀b∈X.fs,X.H₀ b=none
structure Inv (X:Cx) (pins:List (Addr×Obj)) (σ:List (Option V)) (H:Hp) (s:Shared):Prop where
 ok:X.Ok
 os:s.os=X.s₀.os
 bare:AllBare s.gens
 base:Un X.fs X.ex X.H₀ H X.s₀.heap s.heap
 loc:∃m,s.heap.Ns X.env.locals m/\∀ (i:Nat) (x:Str) (v:V),X.N[i]?=some x->σ[i]?=some (some v)->FD X.env.scope x->∃u,RelV v u/\Look X.env s.heap m x u
 cell:∀x c,X.env.cells.lookup x=some c->∃v,s.heap.IsCell c v
 free:H X.env.locals=none
 freeC:∀x c,X.env.cells.lookup x=some c->H c=none
 pin:∀p∈X.pn++pins,s.heap.get? p.1=some p.2/\H p.1=none/\p.1≠X.env.locals/\p.1∉X.fs/\∀v,p.2.data≠.cell v
 hok:nB X.prog X.w H s.heap
 len:σ.length=X.N.length
section
variable {X:Cx}{pins:List (Addr×Obj)}{σ:List (Option V)}{H H':Hp}{s:Shared}{h':Heap}
theorem Cx.Ok.nofr (ok:X.Ok) {b:Addr}{o:Obj}(e:X.base.get? b=some o):b∉X.fs:=fun hb=>by
 have:=(ok.funs.mem hb).1
 rw[e] at this;cases this
theorem Inv.bs (I:Inv X pins σ H s):∀b o,X.base.get? b=some o->s.heap.get? b=some o/\H b=none:=fun b o e =>
 ⟨I.base.keep b o (I.ok.bs b o e).1 (I.ok.bs b o e).2 (I.ok.nofr e) (I.ok.noex b o e),I.base.free b o (I.ok.bs b o e).1 (I.ok.bs b o e).2 (I.ok.noex b o e)⟩
theorem Inv.bk (I:Inv X pins σ H s):∀b o,X.base.get? b=some o->s.heap.get? b=some o:=fun b o e=>(I.bs b o e).1
theorem Inv.mod (I:Inv X pins σ H s):Mod X.K X.mg X.base:=I.ok.mod
theorem Inv.kIn (I:Inv X pins σ H s):X.K.In s.heap:=I.ok.mod.kin.keeps I.bk
theorem Inv.nolimit (I:Inv X pins σ H s):s.heap.NoLimit:=I.ok.mod.nolimit.keeps I.bk
theorem Inv.lt (I:Inv X pins σ H s):X.env.locals < s.heap.objs.size:=let ⟨_,hn,_⟩:=I.loc;hn.lt
theorem Inv.sz (I:Inv X pins σ H s):X.s₀.heap.objs.size<=s.heap.objs.size:=Nat.le_trans I.ok.above (Nat.le_of_lt I.lt)
theorem Inv.nofs (I:Inv X pins σ H s) {a:Addr}(h:s.heap.objs.size<=a):a∉X.fs:=fun hb=>by
 obtain⟨_,o,ho,_⟩:=I.ok.funs.mem hb
 exact absurd (Nat.lt_of_lt_of_le (Heap.lt_size ho) (Nat.le_trans I.sz h)) (Nat.lt_irrefl _)
theorem Inv.cne (I:Inv X pins σ H s):∀x c,X.env.cells.lookup x=some c->c≠X.env.locals:=fun x c e z=>by
 obtain⟨v,o,ho,hd⟩:=I.cell x c e
 obtain⟨m,⟨o',es,ep,ho',hd',_⟩,_⟩:=I.loc
 rw[z,ho'] at ho;cases ho;rw[hd'] at hd;cases hd
theorem Inv.funs (I:Inv X pins σ H s):s.heap.FunFrames X.base X.outer:=by
 have all:∀ (l:List Env),(∀b∈A7 l,b∈X.fs)->X.s₀.heap.FunFrames X.base l->s.heap.FunFrames X.base l:=by
  intro l
  induction l with
  | nil=>intro _ _;trivial
  | cons env r ih =>
   intro hs hl
   obtain⟨hk,⟨L,o,hf,hn,ho,hd⟩,hr⟩:=hl
   have hL:L∈X.fs:=hs L (by unfold A7;rw[List.filterMap_cons,hf];exact List.mem_cons_self)
   obtain⟨sl,e⟩:=I.base.slot L o ho (I.ok.frf L hL) hL fun z=>I.ok.exfs L z hL
   exact⟨hk,⟨L,_,hf,hn,e,hd⟩,ih (fun b hb=>hs b (by unfold A7;rw[List.filterMap_cons,hf];exact List.mem_cons_of_mem _ hb)) hr⟩
 exact all X.outer (fun _ hb=>hb) I.ok.funs
theorem Inv.stack (I:Inv X pins σ H s):s.heap.FunFrames X.base X.stack:=by
 rcases I.ok.stk with e|⟨e,hf⟩
 ·rw[e];exact I.funs
 ·rw[e]
  obtain⟨m,hn,_⟩:=I.loc
  refine .cons (by rw[I.ok.kind];decide) hf hn ?_ I.funs
  exact Heap.get?_none_of_le (Nat.le_trans I.ok.bsz I.ok.above)
theorem Inv.stkSub (I:Inv X pins σ H s):∀b∈A7 X.stack,b∈X.env.locals::X.fs:=fun b hb=>by
 rcases I.ok.stk with e|⟨e,hf⟩
 ·rw[e] at hb;exact List.mem_cons_of_mem _ hb
 ·rw[e] at hb
  unfold A7 at hb
  rw[List.filterMap_cons,hf] at hb
  exact hb
theorem Inv.stkFree (I:Inv X pins σ H s):∀b∈A7 X.stack,H b=none:=fun b hb=>by
 rcases List.mem_cons.mp (I.stkSub b hb) with e|hb
 ·rw[e];exact I.free
 ·obtain⟨_,o,ho,_⟩:=I.ok.funs.mem hb
  exact I.base.free b o ho (I.ok.frf b hb) fun z=>I.ok.exfs b z hb
theorem Inv.step {g':Array GenState}{t':Nat}{d':Drawn}{ch:List Addr}(I:Inv X pins σ H s)
  (hch:∀b∈ch,(b∈X.ex\/X.s₀.heap.objs.size<=b)/\b≠X.env.locals/\(∀x c,X.env.cells.lookup x=some c->c≠b)/\∀p∈X.pn++pins,p.1≠b)
  (keep:∀b o,b≠X.env.locals->b∉X.fs->b∉ch->s.heap.get? b=some o->H b=none->h'.get? b=some o)
  (slot:∀b o,b≠X.env.locals->b∈X.fs->b∉ch->s.heap.get? b=some o->H b=none->∃sl,h'.get? b=some { o with slots:=sl }) (free:∀b o,b∉ch->s.heap.get? b=some o->H b=none->H' b=none)
  (there:∀b o,b∉ch->s.heap.get? b=some o->∃o',h'.get? b=some o')
  (tups:∀b xs,H b=some (.tup xs)->H' b=some (.tup xs)) (frzs:∀b o u,H b=some (.frz o u)->H' b=some (.frz o u)) (tbls:F0 H H' s.heap h')
  (ns:∀m,s.heap.Ns X.env.locals m->h'.Ns X.env.locals m) (hok:nB X.prog X.w H' h') (hg:AllBare g') :
  Inv X pins σ H' { s with heap:=h',gens:=g',drawn:=d',toks:=t' }:=by
 have neL:∀b o,X.s₀.heap.get? b=some o->b≠X.env.locals:=fun b o e=>Nat.ne_of_lt (Nat.lt_of_lt_of_le (Heap.lt_size e) I.ok.above)
 have neC:∀b o,X.s₀.heap.get? b=some o->b∉X.ex->b∉ch:=fun b o e hx hb=>by
  rcases (hch b hb).1 with z|z
  ·exact hx z
  ·exact absurd (Nat.lt_of_lt_of_le (Heap.lt_size e) z) (Nat.lt_irrefl _)
 have cellK:∀x c,X.env.cells.lookup x=some c->∀v,s.heap.IsCell c v->h'.IsCell c v:=fun x c e v ⟨o,ho,hd⟩=>by
  have nch:c∉ch:=fun z=>(hch c z).2.2.1 x c e rfl
  by_cases hc:c∈X.fs
  ·obtain⟨sl,q⟩:=slot c o (I.cne x c e) hc nch ho (I.freeC x c e)
   exact⟨_,q,hd⟩
  ·exact⟨o,keep c o (I.cne x c e) hc nch ho (I.freeC x c e),hd⟩
 refine⟨I.ok,I.os,hg,⟨fun b o e n hb hx=>?_,fun b o e n hb hx=>?_,fun b o e n hx=>?_,fun b o e hx=>?_,fun b xs e=>tups b xs (I.base.tups b xs e),fun b o xs e=>frzs b o xs (I.base.frzs b o xs e),I.base.tbls.trans tbls⟩,?_,fun x c e=>?_,?_,fun x c e=>?_,fun p hp=>?_,hok,I.len⟩
 ·exact keep b o (neL b o e) hb (neC b o e hx) (I.base.keep b o e n hb hx) (I.base.free b o e n hx)
 ·obtain⟨sl,e1⟩:=I.base.slot b o e n hb hx
  obtain⟨sl',e2⟩:=slot b _ (neL b o e) hb (neC b o e hx) e1 (I.base.free b o e n hx)
  exact⟨sl',e2⟩
 ·obtain⟨o',e1⟩:=I.base.there b o e hx
  exact free b o' (neC b o e hx) e1 (I.base.free b o e n hx)
 ·obtain⟨o',e1⟩:=I.base.there b o e hx
  exact there b o' (neC b o e hx) e1
 ·obtain⟨m,hn,hl⟩:=I.loc
  refine⟨m,ns m hn,fun i x v e1 e2 e3=>?_⟩
  obtain⟨u,r,l⟩:=hl i x v e1 e2 e3
  refine⟨u,r,?_⟩
  rcases l with l|⟨k,c,e,z⟩
  ·exact .inl l
  ·exact .inr ⟨k,c,e,cellK x c e _ z⟩
 ·obtain⟨v,z⟩:=I.cell x c e
  exact⟨v,cellK x c e v z⟩
 ·obtain⟨m,⟨o,_,_,ho,_⟩,_⟩:=I.loc
  exact free _ o (fun z=>(hch _ z).2.1 rfl) ho I.free
 ·obtain⟨v,o,ho,hd⟩:=I.cell x c e
  exact free c o (fun z=>(hch c z).2.2.1 x c e rfl) ho (I.freeC x c e)
 ·obtain⟨e,n,ne,nf,d⟩:=I.pin p hp
  have nch:p.1∉ch:=fun z=>(hch p.1 z).2.2.2 p hp rfl
  exact⟨keep p.1 p.2 ne nf nch e n,free p.1 p.2 nch e n,ne,nf,d⟩
theorem Inv.un {t':Nat}(I:Inv X pins σ H s) (u:Un X.fs [] H H' s.heap h') (hok:nB X.prog X.w H' h'):Inv X pins σ H' { s with heap:=h',toks:=t' }:=by
 obtain⟨m,⟨o,es,ep,ho,r⟩,_⟩:=id I.loc
 obtain⟨sl,hL⟩:=u.any ho I.free (by simp)
 exact I.step (g':=s.gens) (d':=s.drawn) (ch:=[]) (fun _ z=>nomatch z) (fun b o _ hb _ e n=>u.keep b o e n hb (by simp)) (fun b o _ hb _ e n=>u.slot b o e n hb (by simp)) (fun b o _ e n=>u.free b o e n (by simp)) (fun b o _ e=>u.there b o e (by simp)) u.tups u.frzs u.tbls (fun m' hm=>by
  obtain⟨o',es',ep',ho',r'⟩:=hm
  rw[ho] at ho';cases ho'
  exact⟨_,es',ep',hL,r'⟩) hok I.bare
theorem Inv.call {g':Array GenState}{t':Nat}{d':Drawn}{ch:List Addr}(I:Inv X pins σ H s) (u:Un (A7 X.stack) ch H H' s.heap h') (hok:nB X.prog X.w H' h') (hg:AllBare g')
  (hch:∀b∈ch,(b∈X.ex\/X.s₀.heap.objs.size<=b)/\b≠X.env.locals/\(∀x c,X.env.cells.lookup x=some c->c≠b)/\∀p∈X.pn++pins,p.1≠b) :
  Inv X pins σ H' { s with heap:=h',gens:=g',drawn:=d',toks:=t' }:=by
 obtain⟨m,⟨o,es,ep,ho,r⟩,_⟩:=id I.loc
 obtain⟨sl,hL⟩:=u.any ho I.free fun z=>(hch _ z).2.1 rfl
 exact I.step (ch:=ch) hch (fun b o hL hb hc e n=>u.keep b o e n (fun z=>(List.mem_cons.mp (I.stkSub b z)).elim hL hb) hc) (fun b o _ _ hc e n=>u.any e n hc) (fun b o hc e n=>u.free b o e n hc) (fun b o hc e=>u.there b o e hc) u.tups u.frzs u.tbls (fun m' hm=>by
  obtain⟨o',es',ep',ho',r'⟩:=hm
  rw[ho] at ho';cases ho'
  exact⟨_,es',ep',hL,r'⟩) hok hg
theorem Inv.turned {t':Nat}{it:Addr}(I:Inv X pins σ H s) (k:∀b o,b≠it->s.heap.get? b=some o->h'.get? b=some o) (hn:H it=none) (hL:it≠X.env.locals)
  (h1:it∈X.ex\/X.s₀.heap.objs.size<=it) (h2:∀x c,X.env.cells.lookup x=some c->c≠it) (h3:∀p∈X.pn++pins,p.1≠it):Inv X pins σ H { s with heap:=h',toks:=t' }:=by
 have nit:∀b u,H b=some u->b≠it:=fun b u e z=>by rw[z,hn] at e;cases e
 refine I.step (g':=s.gens) (d':=s.drawn) (ch:=[it]) (fun b hb=>?_) (fun b o _ _ hc e _=>k b o (fun z=>hc (by simp[z])) e) (fun b o _ _ hc e _=>⟨o.slots,k b o (fun z=>hc (by simp[z])) e⟩) (fun _ _ _ _ n=>n)
  (fun b o hc e=>⟨o,k b o (fun z=>hc (by simp[z])) e⟩) (fun _ _ e=>e) (fun _ _ _ e=>e) (.kept (fun b u z e=>k b u (fun r=>by subst r;rcases z with ⟨q,z⟩;rw[hn] at z;cases z) e) fun _ _ e _=>e) (fun m hm=>?_) (fun b u e=>?_) I.bare
 ·have e:b=it:=by simpa using hb
  subst e
  exact⟨h1,hL,h2,h3⟩
 ·obtain⟨o,es,ep,ho,r⟩:=hm
  exact⟨o,es,ep,k _ o (Ne.symm hL) ho,r⟩
 ·refine (I.hok b u e).stay (fun c v hc q=>k c v ?_ q) (fun _ q=>q) fun _ _ q _=>q
  rcases hc with z|z
  ·rw[z];exact nit b u e
  ·exact nit c _ z
theorem Inv.tok (I:Inv X pins σ H s) (t:Nat):Inv X pins σ H { s with toks:=t }:=I.un (h':=s.heap) (t':=t) Un.refl I.hok
theorem Inv.kept {t':Nat}(I:Inv X pins σ H s) (k:∀b u,s.heap.get? b=some u->h'.get? b=some u):Inv X pins σ H { s with heap:=h',toks:=t' }:=I.un (Un.kept k) (I.hok.kept k)
theorem Inv.laid {a:Addr}{o:HO}{t':Nat}(I:Inv X pins σ H s) (k:∀b u,s.heap.get? b=some u->h'.get? b=some u) (hp:s.heap.objs.size<=a) (new:eF X.prog X.w (upd H a o) h' a o) :
  Inv X pins σ (upd H a o) { s with heap:=h',toks:=t' }:=I.un (Un.laid k hp (I.hok.fresh hp)) (I.hok.laid k hp new)
theorem Inv.write {x e:Addr}{o:HO}{t':Nat}(I:Inv X pins σ H s) (mu:Jr (H x)) (he:e=x\/H e=some (.own x)) (k:∀b u,b≠e->s.heap.get? b=some u->h'.get? b=some u) (heo:∃u,h'.get? e=some u)
  (new:eF X.prog X.w (upd H x o) h' x o):Inv X pins σ (upd H x o) { s with heap:=h',toks:=t' }:=I.un (Un.write mu he k heo) (I.hok.write mu he k heo new)
theorem Inv.pins_of {pins':List (Addr×Obj)}(I:Inv X pins σ H s) (h:∀p∈pins',s.heap.get? p.1=some p.2/\H p.1=none/\p.1≠X.env.locals/\p.1∉X.fs/\∀v,p.2.data≠.cell v):Inv X pins' σ H s :=
 ⟨I.ok,I.os,I.bare,I.base,I.loc,I.cell,I.free,I.freeC,fun p hp=>(List.mem_append.mp hp).elim (fun z=>I.pin p (List.mem_append_left _ z)) (h p),I.hok,I.len⟩
theorem uU {N:List Str}(hN:N.Nodup) {i j:Nat}{x:Str}(a:N[i]?=some x) (b:N[j]?=some x):i=j:=by
 obtain⟨h1,e1⟩:=List.getElem?_eq_some_iff.mp a
 obtain⟨h2,e2⟩:=List.getElem?_eq_some_iff.mp b
 exact (List.getElem_inj hN).mp (e1.trans e2.symm)
theorem rg {M:Model}{A:Around}{E:Value->Shared->Prop}{i:Nat}{x:Str}{v:V}{u:Value}{Q:Unit->Shared->Prop}(I:Inv X pins σ H s) (hN:X.N.Nodup) (hi:X.N[i]?=some x) (hx:Loc X.env.scope x) (r:RelV v u)
  (h:∀s',Inv X pins (σ.set i (some v)) H s'->(∃a,Heap.SameBut a s.heap s'.heap/\(a=X.env.locals\/X.env.cells.lookup x=some a))->Q () s') (hf:X.fn x=true\/X.env.scope.names.lookup x=some .local:=by first|exact .inl rfl|exact .inr rfl|assumption):wpAny M A (storeName X.env x u) Q E s:=by
 obtain⟨m,hn,hl⟩:=id I.loc
 have hcls:(X.env.scope.kind == .class||(X.env.scope.kind == .module&&X.env.locals != X.env.globals))=false:=by rw[I.ok.kind];rfl
 have hiσ:i < σ.length:=by rw[I.len];exact (List.getElem?_eq_some_iff.mp hi).1
 have cne:=I.cne
 have tracked:∀ {a:Addr}{h':Heap},(∃o,s.heap.get? a=some o/\H a=none)->Heap.SameBut a s.heap h'->nB X.prog X.w H h':=fun {a h'} ha hs b ob e=>by
  obtain⟨_,_,hfree⟩:=ha
  refine (I.hok b ob e).stay (fun c w' hc q=>(hs.2 c ?_).trans q) (fun _ q=>q) fun _ _ q _=>q
  rintro rfl
  rcases hc with rfl|hc
  ·rw[hfree] at e;cases e
  ·rw[hfree] at hc;cases hc
 rcases hx with hk|hk
 ·refine wpAny_storeName_local hk hn (fun h' hn' hs=>?_) hcls
  obtain⟨oL,_,_,hoL,_⟩:=id hn
  refine h _ ⟨I.ok,I.os,I.bare,⟨fun b o e n hb hx=>?_,fun b o e n hb hx=>?_,I.base.free,fun b o e hx=>?_,I.base.tups,I.base.frzs,I.base.tbls.trans (.kept (fun b u z e=>(hs.2 b (fun r=>by rcases z with ⟨q,z⟩;rw[r,I.free] at z;cases z)).trans e) fun _ _ e _=>e)⟩,⟨_,hn',fun j y v' e1 e2 e3=>?_⟩,fun y c e=>?_,I.free,I.freeC,fun p hp=>?_,tracked ⟨oL,hoL,I.free⟩ hs,by simpa using I.len⟩ ⟨_,hs,.inl rfl⟩
  ·exact (hs.2 b (Nat.ne_of_lt (Nat.lt_of_lt_of_le (Heap.lt_size e) I.ok.above))).trans (I.base.keep b o e n hb hx)
  ·obtain⟨sl,e1⟩:=I.base.slot b o e n hb hx
   exact⟨sl,(hs.2 b (Nat.ne_of_lt (Nat.lt_of_lt_of_le (Heap.lt_size e) I.ok.above))).trans e1⟩
  ·obtain⟨o',e1⟩:=I.base.there b o e hx
   exact⟨o',(hs.2 b (Nat.ne_of_lt (Nat.lt_of_lt_of_le (Heap.lt_size e) I.ok.above))).trans e1⟩
  ·by_cases hj:j=i
   ·subst hj
    rw[hi] at e1;cases e1
    rw[List.getElem?_set_self hiσ] at e2
    cases e2
    exact⟨u,r,.inl ⟨hk,by simp⟩⟩
   ·rw[List.getElem?_set_ne (Ne.symm hj)] at e2
    obtain⟨u',r',q⟩:=hl j y v' e1 e2 e3
    refine⟨u',r',?_⟩
    rcases q with ⟨k,e⟩|⟨k,c,e,z⟩
    ·refine .inl ⟨k,?_⟩
     have:y≠x:=fun e=>hj (uU hN e1 (e ▸ hi))
     simp[this,e]
    ·exact .inr ⟨k,c,e,z.sameBut hs (cne y c e)⟩
  ·obtain⟨w',z⟩:=I.cell y c e
   exact⟨w',z.sameBut hs (cne y c e)⟩
  ·obtain⟨e,n,ne,nf,d⟩:=I.pin p hp
   exact⟨(hs.2 p.1 ne).trans e,n,ne,nf,d⟩
 ·have hfn:X.fn x=true:=by
   rcases hf with z|z
   ·exact z
   ·rw[z] at hk;cases hk
  obtain⟨c,hc⟩:=I.ok.has x (.inl hk)
  obtain⟨w',z⟩:=I.cell x c hc
  refine wpAny_storeName_cell I.ok.kind hk hc z (fun h' hc' hs=>?_)
  obtain⟨oc,hoc,hocd⟩:=id z
  refine h { s with heap:=h' } ⟨I.ok,I.os,I.bare,⟨fun b o e n hb hx=>?_,fun b o e n hb hx=>?_,I.base.free,fun b o e hx=>?_,I.base.tups,I.base.frzs,I.base.tbls.trans (.kept (fun b u z e=>(hs.2 b (fun r=>by rcases z with ⟨q,z⟩;rw[r,I.freeC x c hc] at z;cases z)).trans e) fun _ _ e _=>e)⟩,⟨m,hn.sameBut hs (Ne.symm (cne x c hc)),fun j y v' e1 e2 e3=>?_⟩,fun y c' e=>?_,I.free,I.freeC,fun p hp=>?_,tracked ⟨oc,hoc,I.freeC x c hc⟩ hs,by simpa using I.len⟩ ⟨c,hs,.inr hc⟩
  ·exact (hs.2 b (Nat.ne_of_lt (Nat.lt_of_lt_of_le (Heap.lt_size e) (I.ok.cab x c hfn hc)))).trans (I.base.keep b o e n hb hx)
  ·obtain⟨sl,e1⟩:=I.base.slot b o e n hb hx
   exact⟨sl,(hs.2 b (Nat.ne_of_lt (Nat.lt_of_lt_of_le (Heap.lt_size e) (I.ok.cab x c hfn hc)))).trans e1⟩
  ·obtain⟨o',e1⟩:=I.base.there b o e hx
   exact⟨o',(hs.2 b (Nat.ne_of_lt (Nat.lt_of_lt_of_le (Heap.lt_size e) (I.ok.cab x c hfn hc)))).trans e1⟩
  ·by_cases hj:j=i
   ·subst hj
    rw[hi] at e1;cases e1
    rw[List.getElem?_set_self hiσ] at e2
    cases e2
    exact⟨u,r,.inr ⟨.inl hk,c,hc,hc'⟩⟩
   ·rw[List.getElem?_set_ne (Ne.symm hj)] at e2
    obtain⟨u',r',q⟩:=hl j y v' e1 e2 e3
    refine⟨u',r',?_⟩
    rcases q with q|⟨k,c',e,z'⟩
    ·exact .inl q
    ·refine .inr ⟨k,c',e,z'.sameBut hs ?_⟩
     rintro rfl
     exact hj (uU hN e1 (I.ok.inj _ _ _ e hc ▸ hi))
  ·by_cases hcc:c'=c
   ·subst hcc;exact⟨_,hc'⟩
   ·obtain⟨w2,z2⟩:=I.cell y c' e
    exact⟨w2,z2.sameBut hs hcc⟩
  ·obtain⟨e,n,ne,nf,d⟩:=I.pin p hp
   refine⟨(hs.2 p.1 ?_).trans e,n,ne,nf,d⟩
   intro q
   rw[q,hoc] at e
   have q':oc=p.2:=Option.some.inj e
   exact d w' (by rw[<- q'];exact hocd)
theorem uv {M:Model}{A:Around}{E:Value->Shared->Prop}{i:Nat}{x:Str}{v:V}{u:Value}{Q:Unit->Shared->Prop}(I:Inv X pins σ H s) (hN:X.N.Nodup) (hi:X.N[i]?=some x) (hx:Loc X.env.scope x) (r:RelV v u)
  (h:∀s',Inv X pins (σ.set i (some v)) H s'->Q () s') (hf:X.fn x=true\/X.env.scope.names.lookup x=some .local:=by first|exact .inl rfl|exact .inr rfl|assumption):wpAny M A (storeName X.env x u) Q E s :=
 rg I hN hi hx r (fun s' I' _=>h s' I') hf
theorem Inv.call' {s':Shared}{ch:List Addr}(I:Inv X pins σ H s) (ho:s'.os=s.os) (u:Un (A7 X.stack) ch H H' s.heap s'.heap) (hok:nB X.prog X.w H' s'.heap) (hg:AllBare s'.gens)
  (hch:∀b∈ch,(b∈X.ex\/X.s₀.heap.objs.size<=b)/\b≠X.env.locals/\(∀x c,X.env.cells.lookup x=some c->c≠b)/\∀p∈X.pn++pins,p.1≠b):Inv X pins σ H' s':=by
 obtain⟨h',g',d',t',o'⟩:=s'
 have e:o'=s.os:=ho
 subst e
 exact I.call (g':=g') (t':=t') (d':=d') u hok hg hch
end
noncomputable abbrev XK:=Value->Option Addr->Hp->Prop
noncomputable abbrev St:=List (Option V)
noncomputable abbrev VK:=V->Hp->Prop
noncomputable abbrev TE:=St->Hp->VK->Prop
noncomputable abbrev TT:=St->Hp->(Bool->Hp->Prop)->Prop
noncomputable abbrev TA:=St->Hp->(List V->Hp->Prop)->Prop
structure Ends where
 nx:St->Hp->Prop
 rt:VK
 bk:St->Hp->Prop:=fun _ _=>False
 ct:St->Hp->Prop:=fun _ _=>False
noncomputable abbrev TS:=Ends->St->Hp->Prop
noncomputable def EP (X:Cx) (pins:List (Addr×Obj)) (σ:St) (Q:VK) (u:Value) (s':Shared):Prop:=∃v H',Inv X pins σ H' s'/\RelV v u/\Q v H'
noncomputable def TP (X:Cx) (pins:List (Addr×Obj)) (σ:St) (Q:Bool->Hp->Prop) (b:Bool) (s':Shared):Prop:=∃H',Inv X pins σ H' s'/\Q b H'
noncomputable def AP (X:Cx) (pins:List (Addr×Obj)) (σ:St) (Q:List V->Hp->Prop) (us:List Value) (s':Shared):Prop:=∃vs H',Inv X pins σ H' s'/\az vs us/\Q vs H'
noncomputable def SP (X:Cx) (pins:List (Addr×Obj)) (D:Ends) (f:Flow) (s':Shared):Prop :=
 match f with
 | .next=>∃σ' H',Inv X pins σ' H' s'/\D.nx σ' H'
 | .brk=>∃σ' H',Inv X pins σ' H' s'/\D.bk σ' H'
 | .cont=>∃σ' H',Inv X pins σ' H' s'/\D.ct σ' H'
 | .ret u=>∃v σ' H',Inv X pins σ' H' s'/\RelV v u/\D.rt v H'
noncomputable def PE (X:Cx) (e:Expr) (t:TE):Prop :=
 ∀ (pins:List (Addr×Obj)) (s:Shared) (σ:St) (H:Hp) (Q:VK),Inv X pins σ H s->t σ H Q->wpAny (model X.prog X.w) X.A (eval e X.env) (EP X pins σ Q) X.xe s
noncomputable def PT (X:Cx) (e:Expr) (t:TT):Prop :=
 ∀ (pins:List (Addr×Obj)) (s:Shared) (σ:St) (H:Hp) (Q:Bool->Hp->Prop),Inv X pins σ H s->t σ H Q->wpAny (model X.prog X.w) X.A (isTrue e X.env (eval e X.env)) (TP X pins σ Q) X.xe s
noncomputable def PW (X:Cx) (e:Expr) (t:TT):Prop :=
 ∀ (whole:Sem Value) (pins:List (Addr×Obj)) (s:Shared) (σ:St) (H:Hp) (Q:Bool->Hp->Prop),Inv X pins σ H s->t σ H Q->wpAny (model X.prog X.w) X.A (isTrue e X.env whole) (TP X pins σ Q) X.xe s
theorem PW.pt {X:Cx}{e:Expr}{t:TT}(h:PW X e t):PT X e t:=h _
noncomputable def PA (X:Cx) (es:List Expr) (t:TA):Prop :=
 ∀ (pos:Pos) (pins:List (Addr×Obj)) (s:Shared) (σ:St) (H:Hp) (Q:List V->Hp->Prop),Inv X pins σ H s->t σ H Q->wpAny (model X.prog X.w) X.A (spliced (backTo pos (starEach es X.env))) (AP X pins σ Q) X.xe s
noncomputable def PS (X:Cx) (st:Stmt) (t:TS):Prop :=
 ∀ (pins:List (Addr×Obj)) (s:Shared) (σ:St) (H:Hp) (D:Ends),Inv X pins σ H s->t D σ H->wpAny (model X.prog X.w) X.A (exec st X.env) (SP X pins D) X.xe s
noncomputable def vO (X:Cx) (st:List Stmt) (t:TS):Prop :=
 ∀ (pins:List (Addr×Obj)) (s:Shared) (σ:St) (H:Hp) (D:Ends),Inv X pins σ H s->t D σ H->wpAny (model X.prog X.w) X.A (execs st X.env) (SP X pins D) X.xe s
theorem bP {α:Type}{t:Sem α}{Q Q':α->Shared->Prop}{M:Model}{A:Around}{E:Value->Shared->Prop}{s:Shared}(h:wpAny M A t Q E s) (hQ:∀a s,Q a s->Q' a s):wpAny M A t Q' E s:=wpAny_mono h hQ fun _ _ x=>x
end L2
namespace L2
open PySem PySem.Spec PyProof.Rows
section
variable {X:Cx}
theorem bin {a b:Expr}{ta tb:TE}(ha:PE X a ta) (hb:PE X b tb) {pins:List (Addr×Obj)}{s:Shared}{σ:St}{H:Hp}{R:V->V->Hp->Prop}(I:Inv X pins σ H s) (h:ta σ H fun x H1=>tb σ H1 fun y H2=>R x y H2)
  {α:Type}{Q:α->Shared->Prop}{f:Value->Value->Sem α}
  (hf:∀v u s2 x y H2,Inv X pins σ H2 s2->RelV x v->RelV y u->R x y H2->wpAny (model X.prog X.w) X.A (f v u) Q X.xe s2) :
  wpAny (model X.prog X.w) X.A (eval a X.env) (fun v s₁=>wpAny (model X.prog X.w) X.A (eval b X.env) (fun u s₂=>wpAny (model X.prog X.w) X.A (f v u) Q X.xe s₂) X.xe s₁) X.xe s:=by
 refine bP (ha pins s σ H _ I h) fun v s1 ⟨x,H1,I1,r1,q1⟩=>?_
 refine bP (hb pins s1 σ H1 _ I1 q1) fun u s2 ⟨y,H2,I2,r2,q2⟩=>?_
 exact hf v u s2 x y H2 I2 r1 r2 q2
noncomputable def K9 (i:Nat):TE:=fun σ H Q=>∃v,σ[i]?=some (some v)/\Q v H
noncomputable def tC (v:V):TE:=fun _ H Q=>Q v H
theorem oF {i:Nat}{x:Str}{pos:Pos}(hN:X.N[i]?=some x) (hv:FD X.env.scope x) (hd:(x == ("__debug__":Str))=false:=by decide) (hcd:(x == ("__classdict__":Str))=false:=by decide):PE X (.Name x pos) (K9 i):=by
 intro pins s σ H Q I h
 obtain⟨v,e,h⟩:=h
 obtain⟨m,hn,hl⟩:=I.loc
 obtain⟨u,r,l⟩:=hl i x v hN e hv
 have fin:EP X pins σ Q u s:=⟨v,H,I,r,h⟩
 rcases l with ⟨hk,hm⟩|⟨hk,c,hc,hcell⟩
 ·exact wpAny_Name (wpAny_loadName_local I.ok.kind hk hn hm fin) hd
 ·rcases hk with hk|hk
  ·exact wpAny_Name (wpAny_loadName_cell I.ok.kind hk hc hcell fin) hd
  ·exact wpAny_Name (wpAny_loadName_free I.ok.kind hk hc hcell fin hcd) hd
theorem rJ {i j pos}:PE X (.Constant (.int i) j pos) (tC (.int i)):=fun _ _ _ H _ I h=>wpAny_Constant_int ⟨.int i,H,I.tok _,⟨_,rfl⟩,h⟩
theorem Jf {b j pos}:PE X (.Constant (.bool b) j pos) (tC (.bl b)):=fun _ _ _ H _ I h=>Constant_bool ⟨.bl b,H,I,rfl,h⟩
theorem IU {j pos}:PE X (.Constant .none j pos) (tC .non):=fun _ _ _ H _ I h=>Constant_none ⟨.non,H,I,rfl,h⟩
theorem Iu {x j pos}:PE X (.Constant (.str x) j pos) (tC (.str x)):=fun _ _ _ H _ I h=>Calls.Constant_str ⟨.str x,H,I.tok _,⟨_,rfl⟩,h⟩
noncomputable def Gl (X:Cx) (x:Str):Prop:=X.env.kindOf x=some .globalImplicit
theorem yG {E:Value->Shared->Prop}{pins:List (Addr×Obj)}{s:Shared}{σ:St}{H:Hp}{x:Str}{u:Value}{pos:Pos}{Q:Value->Shared->Prop}(I:Inv X pins σ H s) (hg:Gl X x) (hm:X.mg x=some u) (h:Q u s)
  (hd:(x == ("__debug__":Str))=false:=by decide):wpAny (model X.prog X.w) X.A (eval (.Name x pos) X.env) Q E s :=
 Calls.Name_function_global I.ok.kind hg (Calls.loadGlobal_global (by rw[I.ok.glob];exact I.mod.glob.keeps I.bk) hm h) hd
theorem iy {E:Value->Shared->Prop}{pins:List (Addr×Obj)}{s:Shared}{σ:St}{H:Hp}{x:Str}{u:Value}{pos:Pos}{Q:Value->Shared->Prop}(I:Inv X pins σ H s) (hg:Gl X x) (hm:X.mg x=none) (hv:bootBuiltins x=some u) (h:Q u s)
  (hn:x≠"__name__":=by decide) (hd:(x == ("__debug__":Str))=false:=by decide):wpAny (model X.prog X.w) X.A (eval (.Name x pos) X.env) Q E s:=by
 obtain⟨mb,h1,h2⟩:=I.mod.blt
 exact Calls.Name_function_global I.ok.kind hg (Calls.loadGlobal_builtin (by rw[I.ok.glob];exact I.mod.glob.keeps I.bk) hm (by rw[I.ok.blt];exact h1.keeps I.bk) ((h2 x hn).trans hv) h) hd
theorem D5 {x:Str}{v:V}{u:Value}{pos:Pos}(hg:Gl X x) (hm:X.mg x=some u) (r:RelV v u) (hd:(x == ("__debug__":Str))=false:=by decide):PE X (.Name x pos) (tC v) :=
 fun _ _ _ H _ I h=>yG I hg hm ⟨v,H,I,r,h⟩ hd
theorem D3 {x:Str}{v:V}{u:Value}{pos:Pos}(hg:Gl X x) (hm:X.mg x=none) (hv:bootBuiltins x=some u) (r:RelV v u) (hn:x≠"__name__":=by decide) (hd:(x == ("__debug__":Str))=false:=by decide):PE X (.Name x pos) (tC v) :=
 fun _ _ _ H _ I h=>iy I hg hm hv ⟨v,H,I,r,h⟩ hn hd
variable {a b:Expr}{ta tb:TE}{pos:Pos}
noncomputable def tB (t:TE):TT:=fun σ H Q=>t σ H fun x H1=>∃c,x=.bl c/\Q c H1
theorem Iv {e:Expr}{t:TE}(h:PE X e t) (he:∀whole,isTrue e X.env whole=(do let v <- whole;standAt e.pos;holding [v] (truthy v)):=by intro _;rfl):PT X e (tB t):=by
 intro pins s σ H Q I hw
 refine isTrue_plain (bP (h pins s σ H _ I hw) fun v s1 ⟨x,H1,I1,r1,q1⟩=>?_) (he _)
 obtain⟨d,rfl,q⟩:=q1
 cases r1
 exact wpAny_truthy_bool ⟨H1,I1,q⟩
variable {tA tB':TT}{rest:List Expr}
noncomputable def KN (t u:TT):TT:=fun σ H Q=>t σ H fun c H1=>if c=true then u σ H1 Q else Q false H1
noncomputable def LZ (t u:TT):TT:=fun σ H Q=>t σ H fun c H1=>if c=true then Q true H1 else u σ H1 Q
noncomputable def Lh (t:TT):TT:=fun σ H Q=>t σ H fun c H1=>Q (!c) H1
theorem El (ha:PT X a tA):PW X (.BoolOp .And [a] pos) tA:=by
 intro wh pins s σ H Q I h
 refine isTrue_and (bP (ha pins s σ H Q I h) fun c s1 e=>?_)
 cases c with
 | true=>exact isTrue_and_nil e
 | false=>exact e
theorem HW (ha:PT X a tA):PW X (.BoolOp .Or [a] pos) tA:=by
 intro wh pins s σ H Q I h
 refine isTrue_or (bP (ha pins s σ H Q I h) fun c s1 e=>?_)
 cases c with
 | false=>exact isTrue_or_nil e
 | true=>exact e
theorem IG (ha:PT X a tA) (hb:PW X (.BoolOp .And (b::rest) pos) tB'):PW X (.BoolOp .And (a::b::rest) pos) (KN tA tB'):=by
 intro wh pins s σ H Q I h
 refine isTrue_and (bP (ha pins s σ H _ I h) fun c s1 ⟨H1,I1,q1⟩=>?_)
 cases c with
 | true=>exact hb wh pins s1 σ H1 Q I1 q1
 | false=>exact⟨H1,I1,q1⟩
theorem JS (ha:PT X a tA) (hb:PW X (.BoolOp .Or (b::rest) pos) tB'):PW X (.BoolOp .Or (a::b::rest) pos) (LZ tA tB'):=by
 intro wh pins s σ H Q I h
 refine isTrue_or (bP (ha pins s σ H _ I h) fun c s1 ⟨H1,I1,q1⟩=>?_)
 cases c with
 | true=>exact⟨H1,I1,q1⟩
 | false=>exact hb wh pins s1 σ H1 Q I1 q1
theorem HU (ha:PT X a tA):PT X (.UnaryOp .Not a pos) (Lh tA):=by
 intro pins s σ H Q I h
 exact isTrue_not (ha pins s σ H (fun c H1=>Q (!c) H1) I h)
noncomputable def Kg (ta tb:TE):TE:=fun σ H Q=>ta σ H fun x H1=>∃c,x=.bl c/\if c=true then tb σ H1 Q else Q (.bl false) H1
noncomputable def Lb (ta tb:TE):TE:=fun σ H Q=>ta σ H fun x H1=>∃c,x=.bl c/\if c=true then Q (.bl true) H1 else tb σ H1 Q
noncomputable def Jx (ta:TE):TE:=fun σ H Q=>ta σ H fun x H1=>∃c,x=.bl c/\Q (.bl (!c)) H1
theorem Gu {op}{t:TE}(h:PE X a t):PE X (.BoolOp op [a] pos) t:=fun pins s σ H Q I hw=>BoolOp_one (h pins s σ H Q I hw)
theorem IB (ha:PE X a ta) (hb:PE X (.BoolOp .And (b::rest) pos) tb):PE X (.BoolOp .And (a::b::rest) pos) (Kg ta tb):=by
 intro pins s σ H Q I h
 refine BoolOp_and (bP (ha pins s σ H _ I h) fun v s1 ⟨x,H1,I1,r1,q1⟩=>?_)
 obtain⟨c,rfl,q1⟩:=q1
 cases r1
 refine wpAny_truthy_bool ?_
 cases c with
 | true=>exact hb pins s1 σ H1 Q I1 q1
 | false=>exact⟨.bl false,H1,I1,rfl,q1⟩
theorem Be (ha:PE X a ta) (hb:PE X (.BoolOp .Or (b::rest) pos) tb):PE X (.BoolOp .Or (a::b::rest) pos) (Lb ta tb):=by
 intro pins s σ H Q I h
 refine BoolOp_or (bP (ha pins s σ H _ I h) fun v s1 ⟨x,H1,I1,r1,q1⟩=>?_)
 obtain⟨c,rfl,q1⟩:=q1
 cases r1
 refine wpAny_truthy_bool ?_
 cases c with
 | false=>exact hb pins s1 σ H1 Q I1 q1
 | true=>exact⟨.bl true,H1,I1,rfl,q1⟩
theorem Gs (ha:PE X a ta):PE X (.UnaryOp .Not a pos) (Jx ta):=by
 intro pins s σ H Q I h
 refine UnaryOp_ (bP (ha pins s σ H _ I h) fun v s1 ⟨x,H1,I1,r1,q1⟩=>?_)
 obtain⟨c,rfl,q1⟩:=q1
 cases r1
 exact not_of (wpAny_truthy_bool ⟨.bl (!c),H1,I1,rfl,q1⟩)
noncomputable def LQ (t:TT) (ta tb:TE):TE:=fun σ H Q=>t σ H fun c H1=>if c=true then ta σ H1 Q else tb σ H1 Q
theorem Bc {c:Expr}(hc:PT X c tA) (ha:PE X a ta) (hb:PE X b tb):PE X (.IfExp c a b pos) (LQ tA ta tb):=by
 intro pins s σ H Q I h
 refine wpAny_IfExp (bP (hc pins s σ H _ I h) fun d s1 ⟨H1,I1,q1⟩=>?_)
 cases d with
 | true=>exact ha pins s1 σ H1 Q I1 q1
 | false=>exact hb pins s1 σ H1 Q I1 q1
end
end L2
namespace L2
open PySem PySem.Spec PyProof.Rows
noncomputable def gT (K:PySem.W.Frag) (H:Hp) (a:Addr) (xs:List V):Prop :=
 Rd H a (.lst xs) \/
  ∃ (o:Obj) (its:Array Value) (n:Nat),K.lookup a=some o/\o.cls=.type "list"/\o.dict=none/\o.data=.seq its n/\its.size<=sizeLine/\az xs its.toList
noncomputable def iM (K:PySem.W.Frag) (H:Hp) (a:Addr) (xs:List V):Prop :=
 Rd H a (.tup xs) \/
  ∃ (o:Obj) (its:Array Value) (n:Nat),K.lookup a=some o/\o.cls=.type "tuple"/\o.dict=none/\o.data=.seq its n/\its.size<=sizeLine/\az xs its.toList
noncomputable def Lp:Value->Option V
 | .none=>some .non
 | .bool b=>some (.bl b)
 | .int i _=>some (.int i)
 | .str x _=>some (.str x)
 | .bytes b _=>some (.byt b)
 | .float b _=>some (.flt b)
 | .ref a=>some (.ref a)
 | .type n=>some (.ty n)
 | _=>none
theorem RelV.abs {x:V}{u:Value}(r:RelV x u):Lp u=some x:=by
 cases x with
 | non=>cases r;rfl
 | bl _=>cases r;rfl
 | int _=>obtain⟨t,rfl⟩:=r;rfl
 | str _=>obtain⟨t,rfl⟩:=r;rfl
 | byt _=>obtain⟨t,rfl⟩:=r;rfl
 | flt _=>obtain⟨t,rfl⟩:=r;rfl
 | ref _=>cases r;rfl
 | ty _=>cases r;rfl
theorem RelV.inj {x y:V}{u:Value}(r:RelV x u) (q:RelV y u):x=y:=Option.some.inj (r.abs.symm.trans q.abs)
theorem az.inj:∀ {xs ys:List V}{us:List Value},az xs us->az ys us->xs=ys
 | _,_,_,.nil,.nil=>rfl
 | _,_,_,.cons r t,.cons r' t'=>by rw[r.inj r',az.inj t t']
section
variable {X:Cx}{pins:List (Addr×Obj)}{σ:St}{H:Hp}{s:Shared}{a:Addr}{xs ys:List V}
theorem gT.of {K:PySem.W.Frag}(h:H a=some (.lst xs)):gT K H a xs:=.inl (.inl h)
theorem iM.of {K:PySem.W.Frag}(h:H a=some (.tup xs)):iM K H a xs:=.inl (.inl h)
theorem Inv.list (I:Inv X pins σ H s) (h:gT X.K H a xs):∃its:List Value,az xs its/\PlainL s.heap a its.toArray/\xs.length<=sizeLine:=by
 rcases h with h|⟨o,its,n,hk,hc,hd,hs,hz,r⟩
 ·obtain⟨z,its,n,r,e⟩:=h.ok I.hok
  exact⟨its,r,⟨_,n,e,rfl,rfl,rfl⟩,z⟩
 ·refine⟨its.toList,r,⟨o,n,I.kIn a o hk,hc,hd,by simpa using hs⟩,?_⟩
  have e:=r.length
  simp only[Array.length_toList] at e
  omega
theorem Inv.tuple (I:Inv X pins σ H s) (h:iM X.K H a xs):∃its:List Value,az xs its/\IsTup s.heap a its.toArray/\xs.length<=sizeLine:=by
 rcases h with h|⟨o,its,n,hk,hc,_,hs,hz,r⟩
 ·obtain⟨z,its,r,p⟩:=h.ok I.hok
  exact⟨its,r,p.1,z⟩
 ·refine⟨its.toList,r,⟨o,I.kIn a o hk,hc,n,by simpa using hs⟩,?_⟩
  have e:=r.length
  simp only[Array.length_toList] at e
  omega
theorem Inv.list_inj (I:Inv X pins σ H s) (h:gT X.K H a xs) (h':gT X.K H a ys):xs=ys:=by
 obtain⟨its,r,⟨o,n,e,_,_,d⟩,_⟩:=I.list h
 obtain⟨its',r',⟨o',n',e',_,_,d'⟩,_⟩:=I.list h'
 rw[e] at e';cases e'
 rw[d] at d'
 injection d' with d1 _
 have:its=its':=by simpa using congrArg Array.toList d1
 subst this
 exact r.inj r'
theorem Inv.tuple_inj (I:Inv X pins σ H s) (h:iM X.K H a xs) (h':iM X.K H a ys):xs=ys:=by
 obtain⟨its,r,⟨o,e,_,n,d⟩,_⟩:=I.tuple h
 obtain⟨its',r',⟨o',e',_,n',d'⟩,_⟩:=I.tuple h'
 rw[e] at e';cases e'
 rw[d] at d'
 injection d' with d1 _
 have:its=its':=by simpa using congrArg Array.toList d1
 subst this
 exact r.inj r'
end
noncomputable abbrev Cx.wish (X:Cx) (E:Value->Shared->Prop):Cx:={ X with xe:=E }
noncomputable abbrev Cx.nox (X:Cx):Cx:=X.wish fun _ _=>False
theorem Cx.Ok.wish {X:Cx}(ok:X.Ok) (E:Value->Shared->Prop):(X.wish E).Ok :=
 ⟨ok.mod,ok.kind,ok.glob,ok.blt,ok.above,ok.inj,ok.has,ok.cab,ok.hd,ok.frames,ok.stk,ok.exf,ok.bs,ok.bsz,ok.noex,ok.exfs,ok.funs,ok.frf⟩
theorem Cx.Ok.unwish {X:Cx}{E:Value->Shared->Prop}(ok:(X.wish E).Ok):X.Ok :=
 ⟨ok.mod,ok.kind,ok.glob,ok.blt,ok.above,ok.inj,ok.has,ok.cab,ok.hd,ok.frames,ok.stk,ok.exf,ok.bs,ok.bsz,ok.noex,ok.exfs,ok.funs,ok.frf⟩
section
variable {X:Cx}{pins:List (Addr×Obj)}{σ:St}{H:Hp}{s:Shared}{E:Value->Shared->Prop}
theorem Inv.wish (I:Inv X pins σ H s) (E:Value->Shared->Prop):Inv (X.wish E) pins σ H s:=⟨I.ok.wish E,I.os,I.bare,I.base,I.loc,I.cell,I.free,I.freeC,I.pin,I.hok,I.len⟩
theorem Inv.unwish (I:Inv (X.wish E) pins σ H s):Inv X pins σ H s:=⟨I.ok.unwish,I.os,I.bare,I.base,I.loc,I.cell,I.free,I.freeC,I.pin,I.hok,I.len⟩
theorem SP.unwish {D:Ends}{f:Flow}{s':Shared}(h:SP (X.wish E) pins D f s'):SP X pins D f s':=by
 cases f with
 | next=>obtain⟨σ',H',I,q⟩:=h;exact⟨σ',H',I.unwish,q⟩
 | brk=>obtain⟨σ',H',I,q⟩:=h;exact⟨σ',H',I.unwish,q⟩
 | cont=>obtain⟨σ',H',I,q⟩:=h;exact⟨σ',H',I.unwish,q⟩
 | ret u=>obtain⟨v,σ',H',I,r,q⟩:=h;exact⟨v,σ',H',I.unwish,r,q⟩
theorem PE.nox {e:Expr}{t:TE}(h:PE X.nox e t):PE X e t:=fun pins s σ H Q I hw =>
 wpAny_mono (h pins s σ H Q (I.wish _) hw) (fun _ _ ⟨v,H',I',r,q⟩=>⟨v,H',I'.unwish,r,q⟩) fun _ _ z=>False.elim z
theorem PT.nox {e:Expr}{t:TT}(h:PT X.nox e t):PT X e t:=fun pins s σ H Q I hw =>
 wpAny_mono (h pins s σ H Q (I.wish _) hw) (fun _ _ ⟨H',I',q⟩=>⟨H',I'.unwish,q⟩) fun _ _ z=>False.elim z
theorem vO.nox {st:List Stmt}{t:TS}(h:vO X.nox st t):vO X st t:=fun pins s σ H D I hw =>
 wpAny_mono (h pins s σ H D (I.wish _) hw) (fun _ _ q=>q.unwish) fun _ _ z=>False.elim z
end
section
variable {X:Cx}{st:Stmt}{rest:List Stmt}{t u:TS}{e:Expr}{te:TE}{pos:Pos}
noncomputable def B9:TS:=fun D σ H=>D.nx σ H
noncomputable def Lx (t u:TS):TS:=fun D σ H=>t { D with nx:=u D } σ H
theorem E2:vO X [] B9:=fun _ _ σ H _ I h=>wpAny_execs_nil ⟨σ,H,I,h⟩
theorem Cy (h1:PS X st t) (h2:vO X rest u):vO X (st::rest) (Lx t u):=by
 intro pins s σ H D I h
 refine wpAny_execs_cons (bP (h1 pins s σ H { D with nx:=u D } I h) fun f s1 q=>?_)
 cases f with
 | next =>
  obtain⟨σ',H',I',q⟩:=q
  exact h2 pins s1 σ' H' D I' q
 | ret v=>exact q
 | brk=>exact q
 | cont=>exact q
theorem Fm (h1:PS X st t):vO X [st] t:=by
 intro pins s σ H D I h
 refine wpAny_execs_cons (bP (h1 pins s σ H D I h) fun f s1 q=>?_)
 cases f with
 | next=>exact wpAny_execs_nil q
 | ret v=>exact q
 | brk=>exact q
 | cont=>exact q
theorem E8:PS X (.Pass pos) B9:=fun _ _ σ H _ I h=>wpAny_Pass ⟨σ,H,I,h⟩
theorem Inv.quiet {pins:List (Addr×Obj)}{σ:St}{H:Hp}{s:Shared}(I:Inv X pins σ H s):interactive X.env=false:=by simp[interactive,I.ok.kind]
theorem Gc {x j pos pos'}:PS X (.Expr (.Constant (.str x) j pos) pos') B9:=fun _ s σ H _ I h=>wpAny_Expr (Calls.Constant_str (show SP X _ _ .next { s with toks:=s.toks+1 } from ⟨σ,H,I.tok _,h⟩)) I.quiet
noncomputable def Jy (te:TE):TS:=fun D σ H=>te σ H fun _ H1=>D.nx σ H1
theorem nz (he:PE X e te) (hs:swapsWith e none pos.line X.env=pure false:=by rfl):PS X (.Expr e pos) (Jy te):=by
 intro pins s σ H D I h
 exact wpAny_Expr_any (bP (he pins s σ H _ I h) fun v s1 ⟨x,H1,I1,r1,q1⟩=>⟨σ,H1,I1,q1⟩) I.quiet hs
noncomputable def K4 (te:TE):TS:=fun D σ H=>te σ H D.rt
theorem ID (he:PE X e te):PS X (.Return (some e) pos) (K4 te):=by
 intro pins s σ H D I h
 exact wpAny_Return_some (bP (he pins s σ H _ I h) fun v s1 ⟨x,H1,I1,r1,q1⟩=>⟨x,σ,H1,I1,r1,q1⟩)
noncomputable def KZ (c:TT) (t u:TS):TS:=fun D σ H=>c σ H fun b H1=>if b=true then t D σ H1 else u D σ H1
theorem JX {c:Expr}{a b:List Stmt}{tc:TT}(hc:PT X c tc) (ha:vO X a t) (hb:vO X b u):PS X (.If c a b pos) (KZ tc t u):=by
 intro pins s σ H D I h
 refine wpAny_If (bP (hc pins s σ H _ I h) fun d s1 ⟨H1,I1,q1⟩=>?_)
 cases d with
 | true=>exact ha pins s1 σ H1 D I1 q1
 | false=>exact hb pins s1 σ H1 D I1 q1
end
noncomputable abbrev TG:=V->St->Hp->(St->Hp->Prop)->Prop
noncomputable abbrev IC:=List V->St->Hp->(St->Hp->Prop)->Prop
noncomputable def PG (X:Cx) (target:Expr) (t:TG):Prop :=
 ∀ (pins:List (Addr×Obj)) (s:Shared) (σ:St) (H:Hp) (v:V) (u:Value) (Q:St->Hp->Prop),Inv X pins σ H s->RelV v u->t v σ H Q ->
  wpAny (model X.prog X.w) X.A (assign target X.env u) (fun _ s'=>∃σ' H',Inv X pins σ' H' s'/\Q σ' H') X.xe s
noncomputable def KC (X:Cx) (ts:List Expr) (t:IC):Prop :=
 ∀ (pins:List (Addr×Obj)) (s:Shared) (σ:St) (H:Hp) (vs:List V) (us:List Value) (Q:St->Hp->Prop),Inv X pins σ H s->az vs us->t vs σ H Q ->
  wpAny (model X.prog X.w) X.A (assignInOrder ((assignEach ts X.env).map (·.2)) us) (fun _ s'=>∃σ' H',Inv X pins σ' H' s'/\Q σ' H') X.xe s
noncomputable abbrev Ic:=V->V->V->Hp->(Hp->Prop)->Prop
noncomputable def Jg (X:Cx) (t:Ic):Prop :=
 ∀ (pins:List (Addr×Obj)) (s:Shared) (σ:St) (H:Hp) (o i v:V) (ov iv u:Value) (Q:Hp->Prop),Inv X pins σ H s->RelV o ov->RelV i iv->RelV v u->t o i v H Q ->
  wpAny (model X.prog X.w) X.A (setItem ov iv u) (fun _ s'=>∃H',Inv X pins σ H' s'/\Q H') X.xe s
section
variable {X:Cx}{pos:Pos}
noncomputable def uc (i:Nat):TG:=fun v σ H Q=>Q (σ.set i (some v)) H
theorem cK {i:Nat}{x:Str}(hN:X.N.Nodup) (hi:X.N[i]?=some x) (hx:Loc X.env.scope x) (hf:X.fn x=true\/X.env.scope.names.lookup x=some .local:=by first|exact .inl rfl|exact .inr rfl|assumption):PG X (.Name x pos) (uc i):=by
 intro pins s σ H v u Q I r h
 exact wpAny_assign_Name (uv I hN hi hx r (fun s' I'=>⟨_,H,I',h⟩) hf)
noncomputable def K8:IC:=fun vs σ H Q=>vs=[]/\Q σ H
noncomputable def Jp (t:TG) (u:IC):IC:=fun vs σ H Q=>∃v r,vs=v::r/\t v σ H fun σ' H'=>u r σ' H' Q
theorem kL:KC X [] K8:=by
 intro pins s σ H vs us Q I r h
 obtain⟨e,h⟩:=h
 subst e
 cases r
 exact assignInOrder_nil ⟨σ,H,I,h⟩
theorem ck {e:Expr}{es:List Expr}{t:TG}{u:IC}(h1:PG X e t) (h2:KC X es u)
  (hs:(assignEach (e::es) X.env).map (·.2)=assign e X.env::(assignEach es X.env).map (·.2):=by rfl):KC X (e::es) (Jp t u):=by
 intro pins s σ H vs us Q I r h
 obtain⟨v,vr,e1,h⟩:=h
 subst e1
 cases r with
 | cons r rr =>
  rw[hs]
  refine assignInOrder_cons (bP (h1 pins s σ H _ _ _ I r h) fun _ s1 ⟨σ1,H1,I1,q1⟩=>?_)
  exact h2 pins s1 σ1 H1 _ _ Q I1 rr q1
noncomputable def K7 (K:PySem.W.Frag) (n:Nat) (t:IC):TG:=fun v σ H Q=>∃a xs,v=.ref a/\iM K H a xs/\xs.length=n/\t xs σ H Q
theorem nS {es:List Expr}{k:Nat}{t:IC}{n:Nat}(hc:X.calm=true) (h:KC X es t)
  (hn:(assignEach es X.env).length=n:=by rfl) (hst:(assignEach es X.env).findIdx? (·.1)=none:=by rfl):PG X (.Tuple es k pos) (K7 X.K n t):=by
 intro pins s σ H v u Q I r hw
 obtain⟨a,xs,e1,hq,hl,hw⟩:=hw
 subst e1
 cases r
 obtain⟨its,rv,ht,hz⟩:=I.tuple hq
 refine assign_Tuple_tuple (I.ok.hd hc) ht (by simp[hn,<- hl,rv.length]) hst fun h' hx=>?_
 have I1:Inv X pins σ H { s with heap:=h' }:=I.kept (t':=s.toks) fun b o e=>hx b o (Nat.ne_of_lt (Heap.lt_size e)) e
 exact h pins _ σ H xs _ Q I1 (by simpa using rv) hw
noncomputable def fZ (to ti:TE) (t:Ic):TG:=fun v σ H Q=>to σ H fun o H1=>ti σ H1 fun i H2=>t o i v H2 fun H3=>Q σ H3
theorem Ii {o i:Expr}{to ti:TE}{t:Ic}(ho:PE X o to) (hi:PE X i ti) (hs:Jg X t)
  (ha:∀v,assign (.Subscript o i pos) X.env v=(do
   let ov <- holding [v] (eval o X.env)
   let iv <- holding [v,ov] (eval i X.env)
   standAt pos
   holding [v,ov,iv] (setItem ov iv v)
   release [v,ov,iv] []):=by intro _;rfl):PG X (.Subscript o i pos) (fZ to ti t):=by
 intro pins s σ H v u Q I r h
 rw[ha]
 refine wpAny_bind (wpAny_holding (bP (ho pins s σ H _ I h) fun ov s1 ⟨x,H1,I1,r1,q1⟩=>?_))
 refine wpAny_bind (wpAny_holding (bP (hi pins s1 σ H1 _ I1 q1) fun iv s2 ⟨y,H2,I2,r2,q2⟩=>?_))
 refine wpAny_bind (wpAny_standAt (wpAny_bind (wpAny_holding (bP (hs pins s2 σ H2 x y v ov iv u _ I2 r1 r2 r q2) fun _ s3 ⟨H3,I3,q3⟩=>?_))))
 exact wpAny_release ⟨σ,H3,I3,q3⟩
noncomputable def CF (te:TE) (g:TG):TS:=fun D σ H=>te σ H fun x H1=>g x σ H1 D.nx
theorem GH {tg e:Expr}{te:TE}{g:TG}(he:PE X e te) (hg:PG X tg g) (hs:swapsWithSole [tg] e pos.line X.env=pure false:=by rfl) (hw:swappedStores [tg] e X.env=pure none:=by rfl)
  (h1:(assignEach [tg] X.env).map (·.2)=[assign tg X.env]:=by rfl):PS X (.Assign [tg] e pos) (CF te g):=by
 intro pins s σ H D I h
 refine wpAny_Assign_stores (bP (he pins s σ H _ I h) fun v s1 ⟨x,H1,I1,r1,q1⟩=>?_) hs hw
 rw[h1]
 exact bP (hg pins s1 σ H1 x v _ I1 r1 q1) fun _ s2 q=>q
theorem BX {i:Nat}{x:Str}{e:Expr}{te:TE}{pos':Pos}(hN:X.N.Nodup) (hi:X.N[i]?=some x) (hx:Loc X.env.scope x) (he:PE X e te) (hs:swapsWith e (some (.Name x pos')) pos.line X.env=pure false:=by rfl) (hf:X.fn x=true\/X.env.scope.names.lookup x=some .local:=by first|exact .inl rfl|exact .inr rfl|assumption) :
  PS X (.Assign [.Name x pos'] e pos) (CF te (uc i)):=by
 intro pins s σ H D I h
 refine wpAny_Assign_Name (bP (he pins s σ H _ I h) fun v s1 ⟨y,H1,I1,r1,q1⟩=>?_) hs
 exact uv I1 hN hi hx r1 (fun s2 I2=>⟨_,H1,I2,q1⟩) hf
end
section
variable {X:Cx}{pos:Pos}
noncomputable def Hl (c:TT) (tb:TS):TS:=fun D σ H=>∃W:Nat->St->Hp->Prop,(∃m,W m σ H)/\∀m σ H,W m σ H ->
 c σ H fun b H1=>if b=true then ∃N:St->Hp->Prop,(∀σ' H',N σ' H'->∃m',m' < m/\W m' σ' H')/\tb { D with nx:=N,ct:=N,bk:=D.nx } σ H1 else D.nx σ H1
theorem Dg {c:Expr}{body:List Stmt}{tc:TT}{tb:TS}(hp:PassesOwn (model X.prog X.w) X.A X.env X.xe) (hc:PT X c tc) (hb:vO X body tb):PS X (.While c body [] pos) (Hl tc tb):=by
 intro pins s σ H D I h
 obtain⟨W,⟨m0,w0⟩,turn⟩:=h
 refine wpAny_While (codeAny_whileLoop (fun n s'=>∃σ' H',Inv X pins σ' H' s'/\W n σ' H') ?_ m0 ⟨σ,H,I,w0⟩)
 rintro n s1 ⟨σ1,H1,I1,w1⟩
 refine wpAny_passesOwn hp (bP (hc pins s1 σ1 H1 _ I1 (turn n σ1 H1 w1)) fun b s2 ⟨H2,I2,q2⟩=>?_)
 cases b with
 | true =>
  obtain⟨N,hN,q2⟩:=q2
  rw[if_pos rfl]
  refine wpAny_passesOwn hp (bP (hb pins s2 σ1 H2 _ I2 q2) fun f s3 q3=>?_)
  cases f with
  | next =>
   obtain⟨σ3,H3,I3,n3⟩:=q3
   obtain⟨m',hm,w3⟩:=hN σ3 H3 n3
   exact⟨m',hm,σ3,H3,I3,w3⟩
  | cont =>
   obtain⟨σ3,H3,I3,n3⟩:=q3
   obtain⟨m',hm,w3⟩:=hN σ3 H3 n3
   exact⟨m',hm,σ3,H3,I3,w3⟩
  | brk=>exact q3
  | ret v=>exact q3
 | false =>
  rw[if_neg Bool.false_ne_true]
  exact wpAny_execs_nil ⟨σ1,H2,I2,q2⟩
end
structure It where
 go:Nat->Hp->Prop
 yld:Nat->Hp->V->Hp->Prop
 stop:Nat->Hp->Prop
noncomputable def cf (X:Cx) (pins:List (Addr×Obj)) (H:Hp) (b:Addr):Prop :=
 H b=none/\b≠X.env.locals/\b∉X.fs/\(b∈X.ex\/X.s₀.heap.objs.size<=b)/\(∀x c,X.env.cells.lookup x=some c->c≠b)/\∀p∈X.pn++pins,p.1≠b
theorem Inv.fpOk {X:Cx}{pins:List (Addr×Obj)}{σ:St}{H H':Hp}{s:Shared}{b:Addr}(I:Inv X pins σ H s) (hb:s.heap.objs.size<=b) (hn:H' b=none):cf X pins H' b:=by
 refine⟨hn,Nat.ne_of_gt (Nat.lt_of_lt_of_le I.lt hb),I.nofs hb,.inr (Nat.le_trans I.sz hb),fun x c e z=>?_,fun p hp z=>?_⟩
 ·obtain⟨v,q⟩:=I.cell x c e
  exact absurd (Nat.lt_of_lt_of_le q.lt (by rw[z];exact hb)) (Nat.lt_irrefl _)
 ·exact absurd (Nat.lt_of_lt_of_le (Heap.lt_size (I.pin p hp).1) (by rw[z];exact hb)) (Nat.lt_irrefl _)
structure Turn (P:Program) (w:World) (K:PySem.W.Frag) (tg:Expr) (J:It) (fp:List Addr) (it:Addr) (tn:Nat->Heap->Prop):Prop where
 mem:it∈fp
 obj:∀i h,tn i h->∀b∈fp,∃o,h.get? b=some o/\∀v,o.data≠.cell v
 keep:∀i h h',tn i h->(∀b∈fp,∀o,h.get? b=some o->h'.get? b=some o)->tn i h'
 item:∀ (X:Cx),X.prog=P->X.w=w->X.K=K->X.calm=true->∀ (i:Nat) (pins:List (Addr×Obj)) (s:Shared) (σ:St) (H:Hp) (E:Value->Shared->Prop),Inv X pins σ H s->(∀b∈fp,cf X pins H b)->tn i s.heap->J.go i H ->
  wpAny (model P w) X.A (pyNext (.ref it)) (fun r s1=>∃u,r=some u /\
   wpAny (model P w) X.A (letOwnedTupleGo tg (.ref it) u) (fun _ s2=>∃x H',Inv X pins σ H' s2/\RelV x u/\J.yld i H x H'/\tn (i+1) s2.heap/\∀b∈fp,H' b=none) E s1) E s
 done:∀ (X:Cx),X.prog=P->X.w=w->X.K=K->X.calm=true->∀ (i:Nat) (pins:List (Addr×Obj)) (s:Shared) (σ:St) (H:Hp) (E:Value->Shared->Prop),Inv X pins σ H s->(∀b∈fp,cf X pins H b)->tn i s.heap->J.stop i H ->
  wpAny (model P w) X.A (pyNext (.ref it)) (fun r s1=>r=none/\Inv X pins σ H s1) E s
 self:∀ (A:Around) (i:Nat) (s:Shared) (Q:Value->Shared->Prop) (E:Value->Shared->Prop),tn i s.heap->Q (.ref it) s->wpAny (model P w) A (pyIter (.ref it)) Q E s
noncomputable abbrev TI:=St->Hp->(It->Hp->Prop)->Prop
noncomputable def LH (X:Cx) (pins:List (Addr×Obj)) (σ:St) (tg:Expr) (R:It->Hp->Prop) (itv:Value) (s2:Shared):Prop :=
 ∃ (it:Addr) (fp:List Addr) (tn:Nat->Heap->Prop) (J:It) (H':Hp),itv=.ref it/\Inv X pins σ H' s2/\Turn X.prog X.w X.K tg J fp it tn/\tn 0 s2.heap/\(∀b∈fp,cf X pins H' b)/\R J H'
noncomputable def PI (X:Cx) (tg iter:Expr) (wi:TI):Prop :=
 ∀ (pins:List (Addr×Obj)) (s:Shared) (σ:St) (H:Hp) (R:It->Hp->Prop),Inv X pins σ H s->wi σ H R ->
  wpAny (model X.prog X.w) X.A (eval iter X.env) (fun v s1=>wpAny (model X.prog X.w) X.A (pyIter v) (LH X pins σ tg R) X.xe s1) X.xe s
theorem B8 {M:Model}{A:Around}{E:Value->Shared->Prop}{s:Shared}{tg:Expr}{it:Addr}{u:Value}{o:Obj}{n:String}{vs:Array Value}{Q:Unit->Shared->Prop}(ho:s.heap.get? it=some o) (hc:o.cls=.type n) (hd:o.data=.fields vs)
  (hn:["enumerate","zip","dict_itemiterator","dict_reverseitemiterator","odict_iterator","itertools.zip_longest","itertools.pairwise"].contains n=false) (hQ:Q () s):wpAny M A (letOwnedTupleGo tg (.ref it) u) Q E s:=by
 unfold letOwnedTupleGo
 cases tg<;>first
  | exact wpAny_pure hQ
  | (cases u<;>first
    | exact wpAny_pure hQ
    | (refine wpAny_bind (wpAny_load ho ?_)
       rw[hc,hd]
       show wpAny M A (if (["enumerate","zip","dict_itemiterator","dict_reverseitemiterator","odict_iterator","itertools.zip_longest","itertools.pairwise"].contains n&&vs[0]? == some (rawInt _))=true then _ else _) Q E s
       rw[if_neg (by intro h;rw[hn,Bool.false_and] at h;cases h)]
       exact wpAny_pure hQ))
noncomputable def KW (K:PySem.W.Frag) (a:Addr):It :=
 ⟨fun i H=>∃xs x,gT K H a xs/\xs[i]?=some x,fun i H x H'=>H'=H/\∀xs,gT K H a xs->xs[i]?=some x,fun i H=>∃xs,gT K H a xs/\xs.length<=i⟩
noncomputable def Lz (K:PySem.W.Frag) (a:Addr):It :=
 ⟨fun i H=>∃xs x,iM K H a xs/\xs[i]?=some x,fun i H x H'=>H'=H/\∀xs,iM K H a xs->xs[i]?=some x,fun i H=>∃xs,iM K H a xs/\xs.length<=i⟩
noncomputable def Kt (lo:Int) (n:Nat):It:=⟨fun i _=>i < n,fun i H x H'=>H'=H/\x=.int (lo+i),fun i _=>n<=i⟩
theorem zS {P:Program}{w:World}{K:PySem.W.Frag}{tg:Expr}(a it:Addr):Turn P w K tg (KW K a) [it] it (fun i h=>h.IsListIter it a i) where
 mem:=by simp
 obj:=fun i h st b hb=>by
  have e:b=it:=by simpa using hb
  subst e
  obtain⟨o,e,c,d⟩:=st
  exact⟨o,e,fun v z=>by rw[d] at z;cases z⟩
 keep:=fun i h h' st k=>st.at fun o e=>k it (by simp) o e
 item:=by
  intro X hP hw hK hc i pins s σ H E I hf st hg
  subst hP hw hK
  obtain⟨xs,x,hq,hx⟩:=hg
  obtain⟨its,rv,p,hz⟩:=I.list hq
  obtain⟨u,hu,ru⟩:=rv.get hx
  obtain⟨f0,f1,f2,f3,f4,f5⟩:=hf it (by simp)
  refine wpAny_pyNext_list_item st p.isList (x:=u) (by simpa using hu) fun h' st' sb=>?_
  have I1:Inv X pins σ H { s with heap:=h' }:=I.turned (t':=s.toks) (fun b o hb e=>(sb.2 b hb).trans e) f0 f1 f3 f4 f5
  obtain⟨o,e,c,d⟩:=id st'
  exact⟨u,rfl,B8 (s:={ s with heap:=h' }) e c d (by decide) ⟨x,H,I1,ru,⟨rfl,fun ys hy=>by rw[I.list_inj hy hq];exact hx⟩,st',fun b hb=>(hf b hb).1⟩⟩
 done:=by
  intro X hP hw hK hc i pins s σ H E I hf st hg
  subst hP hw hK
  obtain⟨xs,hq,hx⟩:=hg
  obtain⟨its,rv,p,hz⟩:=I.list hq
  obtain⟨f0,f1,f2,f3,f4,f5⟩:=hf it (by simp)
  have hl:=rv.length
  exact wpAny_pyNext_list_end (I.ok.hd hc) st p.isList (by simp;omega) fun h' eb=>⟨rfl,I.turned (t':=s.toks) (fun b o hb e=>eb b o hb e) f0 f1 f3 f4 f5⟩
 self:=fun _ _ _ _ _ st h=>wpAny_pyIter_listiter st h
theorem xy {P:Program}{w:World}{K:PySem.W.Frag}{tg:Expr}(a it:Addr):Turn P w K tg (Lz K a) [it] it (fun i h=>h.IsTupleIter it a i) where
 mem:=by simp
 obj:=fun i h st b hb=>by
  have e:b=it:=by simpa using hb
  subst e
  obtain⟨o,e,c,d⟩:=st
  exact⟨o,e,fun v z=>by rw[d] at z;cases z⟩
 keep:=fun i h h' st k=>st.at fun o e=>k it (by simp) o e
 item:=by
  intro X hP hw hK hc i pins s σ H E I hf st hg
  subst hP hw hK
  obtain⟨xs,x,hq,hx⟩:=hg
  obtain⟨its,rv,p,hz⟩:=I.tuple hq
  obtain⟨u,hu,ru⟩:=rv.get hx
  obtain⟨f0,f1,f2,f3,f4,f5⟩:=hf it (by simp)
  refine wpAny_pyNext_tuple_item st (show s.heap.IsTuple a its.toArray from p) (x:=u) (by simpa using hu) fun h' st' sb=>?_
  have I1:Inv X pins σ H { s with heap:=h' }:=I.turned (t':=s.toks) (fun b o hb e=>(sb.2 b hb).trans e) f0 f1 f3 f4 f5
  obtain⟨o,e,c,d⟩:=id st'
  exact⟨u,rfl,B8 (s:={ s with heap:=h' }) e c d (by decide) ⟨x,H,I1,ru,⟨rfl,fun ys hy=>by rw[I.tuple_inj hy hq];exact hx⟩,st',fun b hb=>(hf b hb).1⟩⟩
 done:=by
  intro X hP hw hK hc i pins s σ H E I hf st hg
  subst hP hw hK
  obtain⟨xs,hq,hx⟩:=hg
  obtain⟨its,rv,p,hz⟩:=I.tuple hq
  obtain⟨f0,f1,f2,f3,f4,f5⟩:=hf it (by simp)
  have hl:=rv.length
  exact wpAny_pyNext_tuple_end (I.ok.hd hc) st (show s.heap.IsTuple a its.toArray from p) (by simp;omega) fun h' eb=>⟨rfl,I.turned (t':=s.toks) (fun b o hb e=>eb b o hb e) f0 f1 f3 f4 f5⟩
 self:=fun _ _ _ _ _ st h=>wpAny_pyIter_tupleiter st h
theorem wx {P:Program}{w:World}{K:PySem.W.Frag}{tg:Expr}(it:Addr) (lo:Int) (n:Nat):Turn P w K tg (Kt lo n) [it] it (fun i h=>IsRangeIter h it (lo+(i:Nat) * 1) ((n:Int) - (i:Nat)) 1) where
 mem:=by simp
 obj:=fun i h st b hb=>by
  have e:b=it:=by simpa using hb
  subst e
  exact⟨_,st,fun v z=>by
   have z':Data.fields _=Data.cell v:=z
   cases z'⟩
 keep:=fun i h h' st k=>k it (by simp) _ st
 item:=by
  intro X hP hw hK hc i pins s σ H E I hf st hg
  subst hP hw hK
  obtain⟨f0,f1,f2,f3,f4,f5⟩:=hf it (by simp)
  have W:=Walks.range (prog:=X.prog) (w:=X.w) (I.ok.hd hc) it lo 1 n
  refine W.item i s _ _ hg st fun v h' tk hv st' kk=>?_
  obtain⟨t,rfl⟩:=hv
  have I1:Inv X pins σ H { s with heap:=h',toks:=tk }:=I.turned (fun b o hb e=>kk b o (by simpa using hb) e) f0 f1 f3 f4 f5
  refine⟨_,rfl,B8 (s:={ s with heap:=h',toks:=tk }) (n:="range_iterator") st' rfl rfl (by decide) ⟨.int (lo+i),H,I1,⟨t,?_⟩,⟨rfl,rfl⟩,st',fun b hb=>(hf b hb).1⟩⟩
  rw[Int.mul_one]
 done:=by
  intro X hP hw hK hc i pins s σ H E I hf st hg
  subst hP hw hK
  obtain⟨f0,f1,f2,f3,f4,f5⟩:=hf it (by simp)
  exact wpAny_pyNext_range_end (I.ok.hd hc) st (by have:n<=i:=hg;omega) fun h' eb=>⟨rfl,I.turned (t':=s.toks) (fun b o hb e=>eb b o hb e) f0 f1 f3 f4 f5⟩
 self:=fun _ _ _ _ _ st h=>wpAny_pyIter_rangeiter st h
end L2
namespace L2
open PySem PySem.Spec PyProof.Rows
section
variable {X:Cx}{tg:Expr}
theorem A5 {pins:List (Addr×Obj)}{σ:St}{H:Hp}{s:Shared}{R:It->Hp->Prop}{E:Value->Shared->Prop}{lo hi:Int}{t u v:Tok}{tk:Nat}(I:Inv X pins σ H s) (h1:-(2 ^ 62)<=lo) (h2:lo < 2 ^ 62) (h3:-(2 ^ 62)<=hi) (h4:hi < 2 ^ 62)
  (q:R (Kt lo (hi - lo).toNat) H):wpAny (model X.prog X.w) X.A (pyIter (.ref s.heap.objs.size)) (LH X pins σ tg R) E { s with heap:=s.heap.push { cls:=.type "range",data:=.fields #[.int lo t,.int hi u,.int 1 v] },toks:=tk }:=by
 refine wpAny_pyIter_range (IsRange.new ..) (small_one h1 h2 h3 h4) ?_
 have I1:Inv X pins σ H { s with heap:=s.heap.push { cls:=.type "range",data:=.fields #[.int lo t,.int hi u,.int 1 v] },toks:=tk }:=I.kept fun b o e=>Heap.get?_push_of_some _ e
 refine⟨(s.heap.push { cls:=.type "range",data:=.fields #[.int lo t,.int hi u,.int 1 v] }).objs.size,[(s.heap.push { cls:=.type "range",data:=.fields #[.int lo t,.int hi u,.int 1 v] }).objs.size],_,_,H,rfl,
  I1.kept (t':=tk) fun b o e=>Heap.get?_push_of_some _ e,wx _ lo (hi - lo).toNat,?_,fun b hb=>?_,q⟩
 ·have e1:lo+((0:Nat):Int) * 1=lo:=by simp
  have e2:(((hi - lo).toNat:Nat):Int) - ((0:Nat):Int)=Builtin.Range.rangeSize lo hi 1:=by rw[rangeSize_one];split<;>omega
  show IsRangeIter _ _ (lo+((0:Nat):Int) * 1) ((((hi - lo).toNat:Nat):Int) - ((0:Nat):Int)) 1
  rw[e1,e2]
  exact Heap.get?_push_size _ rfl
 ·have e:b=(s.heap.push { cls:=.type "range",data:=.fields #[.int lo t,.int hi u,.int 1 v] }).objs.size:=by simpa using hb
  subst e
  exact I1.fpOk (Nat.le_refl _) (I1.hok.fresh (Nat.le_refl _))
noncomputable def Kl (ta:TA):TI:=fun σ H R=>ta σ H fun vs H1=>∃j:Int,vs=[.int j]/\-(2 ^ 62)<=j/\j < 2 ^ 62/\R (Kt 0 j.toNat) H1
theorem zZ {a:Expr}{ta:TA}{p pos:Pos}(hg:Gl X "range") (hm:X.mg "range"=none) (ha:PA X [a] ta) (hs:starEach [a] X.env=[(false,eval a X.env)]:=by rfl):PI X tg (.Call (.Name "range" p) [a] [] pos) (Kl ta):=by
 intro pins s σ H R I h
 refine Call_ (iy I hg hm boot_range (PyProof.Rows.callWith_type1 (bP (ha pos pins s σ H _ I h) fun us s1 ⟨vs,H1,I1,r1,q1⟩=>?_) hs rfl))
 obtain⟨j,e,q1,q2,q⟩:=q1
 subst e
 cases r1 with
 | cons r rr =>
  cases rr
  obtain⟨t,rfl⟩:=r
  exact call_range_1 (A5 I1 (by omega) (by omega) q1 q2 (by simpa using q))
noncomputable def Lf (wi:TI) (g:TG) (tb:TS):TS:=fun D σ H=>wi σ H fun J H1=>∃W:Nat->Nat->St->Hp->Prop,(∃m,W 0 m σ H1)/\∀i m σ H,W i m σ H ->
 (J.stop i H/\D.nx σ H)\/(J.go i H/\∃N:St->Hp->Prop,(∀σ' H',N σ' H'->∃m',m' < m/\W (i+1) m' σ' H')/\∀x H',J.yld i H x H'->g x σ H' fun σ2 H2=>tb { D with nx:=N,ct:=N,bk:=D.nx } σ2 H2)
noncomputable def l7 (fp:List Addr) (h:Heap):List (Addr×Obj):=fp.filterMap fun b=>(h.get? b).map fun o=>(b,o)
theorem cZ {fp:List Addr}{h:Heap}{b:Addr}{o:Obj}(hb:b∈fp) (e:h.get? b=some o):(b,o)∈l7 fp h:=List.mem_filterMap.mpr ⟨b,hb,by rw[e];rfl⟩
theorem zA {fp:List Addr}{h:Heap}{p:Addr×Obj}(hp:p∈l7 fp h):p.1∈fp/\h.get? p.1=some p.2:=by
 obtain⟨b,hb,e⟩:=List.mem_filterMap.mp hp
 cases q:h.get? b with
 | none=>rw[q] at e;cases e
 | some o =>
  rw[q] at e
  have e':(b,o)=p:=Option.some.inj e
  subst e'
  exact⟨hb,q⟩
theorem Inv.pinned {pins:List (Addr×Obj)}{σ:St}{H:Hp}{s:Shared}{fp:List Addr}(I:Inv X pins σ H s) (hf:∀b∈fp,cf X pins H b) (ho:∀b∈fp,∃o,s.heap.get? b=some o/\∀v,o.data≠.cell v):Inv X (pins++l7 fp s.heap) σ H s :=
 I.pins_of fun p hp=>(List.mem_append.mp hp).elim (fun z=>I.pin p (List.mem_append_right _ z)) fun z=>by
  obtain⟨hb,e⟩:=zA z
  obtain⟨f0,f1,f2,_⟩:=hf p.1 hb
  obtain⟨o,e',d⟩:=ho p.1 hb
  rw[e] at e';cases e'
  exact⟨e,f0,f1,f2,d⟩
theorem Inv.unpinned {pins pl:List (Addr×Obj)}{σ:St}{H:Hp}{s:Shared}(I:Inv X (pins++pl) σ H s):Inv X pins σ H s:=I.pins_of fun p hp=>I.pin p (List.mem_append_right _ (List.mem_append_left _ hp))
theorem Ib {iter:Expr}{body:List Stmt}{wi:TI}{g:TG}{tb:TS}{pos:Pos}(hp:PassesOwn (model X.prog X.w) X.A X.env X.xe) (hc:X.calm=true) (hi:PI X tg iter wi) (hg:PG X tg g) (hb:vO X body tb)
  (hs:∀x,foldedSetIterable iter X.env x=pure x:=by intro _;rfl):PS X (.For tg iter body [] pos) (Lf wi g tb):=by
 intro pins s σ H D I h
 refine wpAny_For (bP (hi pins s σ H _ I h) fun v s1 h1=>bP h1 fun itv s2 h2=>?_) hs
 obtain⟨it,fp,tn,J,H2,e,I2,T,st2,f2,W,⟨m0,w0⟩,turn⟩:=h2
 subst e
 have stat:∀ {H':Hp},(∀b∈fp,H' b=none)->∀b∈fp,cf X pins H' b:=fun hn b hb=>⟨hn b hb,(f2 b hb).2⟩
 refine codeAny_forLoop_any (fun n s'=>∃i σ' H',Inv X pins σ' H' s'/\tn i s'.heap/\(∀b∈fp,H' b=none)/\W i n σ' H') ?_ m0 ⟨0,σ,H2,I2,st2,fun b hb=>(f2 b hb).1,w0⟩
 rintro n s3 ⟨i,σ3,H3,I3,st3,fr3,w3⟩
 rcases turn i n σ3 H3 w3 with ⟨stop,qn⟩|⟨go,N,hN,step⟩
 ·refine wpAny_passesOwn hp (bP (T.done X rfl rfl rfl hc i pins s3 σ3 H3 X.xe I3 (stat fr3) st3 stop) fun r s4 ⟨hr,I4⟩=>?_)
  subst hr
  exact wpAny_execs_nil ⟨σ3,H3,I4,qn⟩
 ·refine wpAny_passesOwn hp (bP (T.item X rfl rfl rfl hc i pins s3 σ3 H3 X.xe I3 (stat fr3) st3 go) fun r s4 ⟨u,hr,h4⟩=>?_)
  subst hr
  refine wpAny_passesOwn hp (bP h4 fun _ s5 ⟨x,H5,I5,r5,y5,st5,fr5⟩=>?_)
  have I5':=I5.pinned (stat fr5) (T.obj _ _ st5)
  refine wpAny_passesOwn hp (bP (hg _ s5 σ3 H5 x u _ I5' r5 (step x H5 y5)) fun _ s6 ⟨σ6,H6,I6,q6⟩=>?_)
  refine wpAny_passesOwn hp (bP (hb _ s6 σ6 H6 _ I6 q6) fun f s7 q7=>?_)
  have again:∀ {σ7:St}{H7:Hp},Inv X (pins++l7 fp s5.heap) σ7 H7 s7->N σ7 H7->∃m,m < n/\∃i σ' H',Inv X pins σ' H' s7/\tn i s7.heap/\(∀b∈fp,H' b=none)/\W i m σ' H':=fun {σ7 H7} I7 n7=>by
   obtain⟨m',hm,w7⟩:=hN σ7 H7 n7
   refine⟨m',hm,i+1,σ7,H7,I7.unpinned,T.keep _ _ _ st5 fun b hb o e=>(I7.pin (b,o) (List.mem_append_right _ (List.mem_append_right _ (cZ hb e)))).1,fun b hb=>?_,w7⟩
   obtain⟨o,e,d⟩:=T.obj _ _ st5 b hb
   exact (I7.pin (b,o) (List.mem_append_right _ (List.mem_append_right _ (cZ hb e)))).2.1
  cases f with
  | next=>obtain⟨σ7,H7,I7,n7⟩:=q7;exact again I7 n7
  | cont=>obtain⟨σ7,H7,I7,n7⟩:=q7;exact again I7 n7
  | brk=>obtain⟨σ7,H7,I7,q7⟩:=q7;exact⟨σ7,H7,I7.unpinned,q7⟩
  | ret v=>obtain⟨x7,σ7,H7,I7,r7,q7⟩:=q7;exact⟨x7,σ7,H7,I7.unpinned,r7,q7⟩
end
end L2
namespace L2
open PySem PySem.Spec PyProof.Rows
noncomputable abbrev R2:=V->V->Hp->VK->Prop
noncomputable def gA (X:Cx) (f:Value->Value->Sem Value) (r:R2):Prop :=
 ∀ (pins:List (Addr×Obj)) (s:Shared) (σ:St) (H:Hp) (x y:V) (v u:Value) (Q:VK),Inv X pins σ H s->RelV x v->RelV y u->r x y H Q ->
  wpAny (model X.prog X.w) X.A (f v u) (EP X pins σ Q) X.xe s
noncomputable def Ld (X:Cx) (f:Value->Sem Value) (r:V->Hp->VK->Prop):Prop :=
 ∀ (pins:List (Addr×Obj)) (s:Shared) (σ:St) (H:Hp) (x:V) (v:Value) (Q:VK),Inv X pins σ H s->RelV x v->r x H Q ->
  wpAny (model X.prog X.w) X.A (f v) (EP X pins σ Q) X.xe s
noncomputable def cD (X:Cx) (f:Value) (r:List V->Hp->VK->Prop):Prop :=
 ∀ (pins:List (Addr×Obj)) (s:Shared) (σ:St) (H:Hp) (xs:List V) (us:List Value) (Q:VK),Inv X pins σ H s->az xs us->r xs H Q ->
  wpAny (model X.prog X.w) X.A (call f us) (EP X pins σ Q) X.xe s
noncomputable def JR (r:R2) (ta tb:TE):TE:=fun σ H Q=>ta σ H fun x H1=>tb σ H1 fun y H2=>r x y H2 Q
noncomputable def LX (r:V->Hp->VK->Prop) (ta:TE):TE:=fun σ H Q=>ta σ H fun x H1=>r x H1 Q
noncomputable def rI (C:Int->Int->Prop) (g:Int->Int->V):R2:=fun x y H Q=>∃i j,x=.int i/\y=.int j/\C i j/\Q (g i j) H
noncomputable def Dj (g:Int->Int->V):R2:=fun x y H Q=>∃i j,x=.int i/\y=.int j/\Q (g i j) H
noncomputable def rU (g:Int->V):V->Hp->VK->Prop:=fun x H Q=>∃i,x=.int i/\Q (g i) H
section
variable {X:Cx}{a b c:Expr}{ta tb tc:TE}{pos:Pos}
theorem G0 (ha:PE X a ta) (hb:PE X b tb) {pins:List (Addr×Obj)}{s:Shared}{σ:St}{H:Hp}{R:V->V->Hp->Prop}(I:Inv X pins σ H s)
  (h:ta σ H fun x H1=>tb σ H1 fun y H2=>R x y H2) {Q:Value->Shared->Prop}{f:Value->Value->Sem Value}
  (hf:∀v u s2 x y H2,Inv X pins σ H2 s2->RelV x v->RelV y u->R x y H2->wpAny (model X.prog X.w) X.A (f v u) Q X.xe s2) :
  wpAny (model X.prog X.w) X.A (eval a X.env) (fun v s₁=>wpAny (model X.prog X.w) X.A (eval b X.env) (fun u s₂=>wpAny (model X.prog X.w) X.A (f v u) Q X.xe s₂) X.xe s₁) X.xe s:=by
 refine bP (ha pins s σ H _ I h) fun v s1 ⟨x,H1,I1,r1,q1⟩=>?_
 refine bP (hb pins s1 σ H1 _ I1 q1) fun u s2 ⟨y,H2,I2,r2,q2⟩=>?_
 exact hf v u s2 x y H2 I2 r1 r2 q2
theorem C9 {op:Operator}{r:R2}(ho:gA X (binaryOp op) r) (ha:PE X a ta) (hb:PE X b tb):PE X (.BinOp a op b pos) (JR r ta tb):=by
 intro pins s σ H Q I h
 exact wpAny_BinOp (G0 ha hb I h fun v u s2 x y H2 I2 rx ry q=>ho pins s2 σ H2 x y v u Q I2 rx ry q)
theorem Aw {op:UnaryOp}{r:V->Hp->VK->Prop}(ho:Ld X (unaryOp op) r) (ha:PE X a ta):PE X (.UnaryOp op a pos) (LX r ta):=by
 intro pins s σ H Q I h
 exact UnaryOp_ (bP (ha pins s σ H _ I h) fun v s1 ⟨x,H1,I1,r1,q1⟩=>ho pins s1 σ H1 x v Q I1 r1 q1)
theorem KU {f:Value->Value->Sem Value}{C:Int->Int->Prop}{g:Int->Int->Int}
  (rule:∀ (i j:Int) (t u:Tok) (s:Shared) (Q:Value->Shared->Prop) (E:Value->Shared->Prop),C i j->Q (.int (g i j) s.toks) { s with toks:=s.toks+1 }->wpAny (model X.prog X.w) X.A (f (.int i t) (.int j u)) Q E s) :
  gA X f (rI C fun i j=>.int (g i j)):=by
 intro pins s σ H x y v u Q I rx ry h
 obtain⟨i,j,rfl,rfl,hc,q⟩:=h
 obtain⟨t,rfl⟩:=rx
 obtain⟨t',rfl⟩:=ry
 exact rule i j t t' s _ _ hc ⟨.int (g i j),H,I.tok _,⟨_,rfl⟩,q⟩
theorem Jw {f:Value->Value->Sem Value}{g:Int->Int->Int}
  (rule:∀ (i j:Int) (t u:Tok) (s:Shared) (Q:Value->Shared->Prop) (E:Value->Shared->Prop),Q (.int (g i j) s.toks) { s with toks:=s.toks+1 }->wpAny (model X.prog X.w) X.A (f (.int i t) (.int j u)) Q E s) :
  gA X f (Dj fun i j=>.int (g i j)):=by
 intro pins s σ H x y v u Q I rx ry h
 obtain⟨i,j,rfl,rfl,q⟩:=h
 obtain⟨t,rfl⟩:=rx
 obtain⟨t',rfl⟩:=ry
 exact rule i j t t' s _ _ ⟨.int (g i j),H,I.tok _,⟨_,rfl⟩,q⟩
theorem Fz {f:Value->Value->Sem Value}{g:Int->Int->Bool}
  (rule:∀ (i j:Int) (t u:Tok) (s:Shared) (Q:Value->Shared->Prop) (E:Value->Shared->Prop),Q (.bool (g i j)) s->wpAny (model X.prog X.w) X.A (f (.int i t) (.int j u)) Q E s) :
  gA X f (Dj fun i j=>.bl (g i j)):=by
 intro pins s σ H x y v u Q I rx ry h
 obtain⟨i,j,rfl,rfl,q⟩:=h
 obtain⟨t,rfl⟩:=rx
 obtain⟨t',rfl⟩:=ry
 exact rule i j t t' s _ _ ⟨.bl (g i j),H,I,rfl,q⟩
noncomputable def Ez (i j:Int):Prop:=0 < j/\j < 1073741824
noncomputable def pY (i j:Int):Prop:=(-(2 ^ 64) < i/\i < 2 ^ 64)\/(-(2 ^ 64) < j/\j < 2 ^ 64)
theorem pY.ok {i j:Int}(h:pY i j):IntMulOk i j:=by
 rcases h with ⟨h1,h2⟩|⟨h1,h2⟩
 ·exact .of_left (intBits_le_64 h1 h2)
 ·exact .of_right (intBits_le_64 h1 h2)
theorem Hw:gA X (binaryOp .Add) (Dj fun i j=>.int (i+j)):=Jw fun _ _ _ _ _ _ _ q=>add_int q
theorem GC:gA X (binaryOp .Sub) (Dj fun i j=>.int (i - j)):=Jw fun _ _ _ _ _ _ _ q=>sub_int q
theorem IM:gA X (binaryOp .Mult) (rI pY fun i j=>.int (i * j)):=KU fun _ _ _ _ _ _ _ hc q=>mul_int q hc.ok
theorem EJ:gA X (binaryOp .FloorDiv) (rI Ez fun i j=>.int (i / j)):=KU fun i j _ _ _ _ _ hc q=>by
 have h1:(0:Int) < j:=hc.1
 have h2:j < 1073741824:=hc.2
 exact floordiv_int (by omega) (by rw[Int.fdiv_eq_ediv_of_nonneg i (by omega)];exact q) (.inl (PyProof.noPylong_small (by omega)))
theorem HZ:gA X (binaryOp .Mod) (rI (fun _ j=>0 < j) fun i j=>.int (i % j)):=KU fun i j _ _ _ _ _ hc q=>by
 have h1:(0:Int) < j:=hc
 exact mod_int' (by omega) (by rw[Int.fmod_eq_emod_of_nonneg i (by omega)];exact q)
theorem LU {f:Value->Sem Value}{g:Int->Int}
  (rule:∀ (i:Int) (t:Tok) (s:Shared) (Q:Value->Shared->Prop) (E:Value->Shared->Prop),Q (.int (g i) s.toks) { s with toks:=s.toks+1 }->wpAny (model X.prog X.w) X.A (f (.int i t)) Q E s) :
  Ld X f (rU fun i=>.int (g i)):=by
 intro pins s σ H x v Q I rx h
 obtain⟨i,rfl,q⟩:=h
 obtain⟨t,rfl⟩:=rx
 exact rule i t s _ _ ⟨.int (g i),H,I.tok _,⟨_,rfl⟩,q⟩
theorem v8:Ld X (unaryOp .USub) (rU fun i=>.int (-i)):=LU fun _ _ _ _ _ q=>neg_int q
end
noncomputable def m7:V->V->Bool
 | .non,.non=>true|.non,.int _=>true|.int _,.non=>true|.non,.bl _=>true|.bl _,.non=>true|.non,.str _=>true|.str _,.non=>true
 | .int _,.int _=>true|.bl _,.bl _=>true|.str _,.str _=>true|.byt _,.byt _=>true
 | .int _,.str _=>true|.str _,.int _=>true|.bl _,.str _=>true|.str _,.bl _=>true
 | _,_=>false
section
variable {X:Cx}{a b c:Expr}{ta tb tc:TE}{pos:Pos}
theorem Bj {pins:List (Addr×Obj)}{σ:St}{H:Hp}{s:Shared}{Q:VK}{k k':Bool}(I:Inv X pins σ H s) (q:Q (.bl k) H) (e:k=k'):EP X pins σ Q (.bool k') s:=by
 subst e
 exact⟨.bl k,H,I,rfl,q⟩
theorem B7:gA X (compareOp .Lt) (Dj fun i j=>.bl (decide (i < j))):=Fz fun _ _ _ _ _ _ _ q=>lt_int q
theorem AW:gA X (compareOp .LtE) (Dj fun i j=>.bl (decide (i<=j))):=Fz fun _ _ _ _ _ _ _ q=>le_int q
theorem F9:gA X (compareOp .Gt) (Dj fun i j=>.bl (decide (j < i))):=Fz fun _ _ _ _ _ _ _ q=>gt_int q
theorem F4:gA X (compareOp .GtE) (Dj fun i j=>.bl (decide (j<=i))):=Fz fun _ _ _ _ _ _ _ q=>ge_int q
theorem BW:gA X (compareOp .Is) (fun x y H Q=>y=.non/\Q (.bl (decide (x=.non))) H):=by
 intro pins s σ H x y v u Q I rx ry h
 obtain⟨rfl,q⟩:=h
 cases ry
 refine is_none_gen (Bj I q ?_)
 cases x<;>first
  | (cases rx;rfl)
  | (obtain⟨t,rfl⟩:=rx;rfl)
theorem xQ:gA X (compareOp .IsNot) (fun x y H Q=>y=.non/\Q (.bl (!decide (x=.non))) H):=by
 intro pins s σ H x y v u Q I rx ry h
 obtain⟨rfl,q⟩:=h
 cases ry
 refine isnot_none_gen (Bj I q ?_)
 cases x<;>first
  | (cases rx;rfl)
  | (obtain⟨t,rfl⟩:=rx;rfl)
theorem gA.or {f:Value->Value->Sem Value}{r r':R2}(h:gA X f r) (h':gA X f r'):gA X f (fun x y H Q=>r x y H Q\/r' x y H Q):=by
 intro pins s σ H x y v u Q I rx ry q
 rcases q with q|q
 ·exact h pins s σ H x y v u Q I rx ry q
 ·exact h' pins s σ H x y v u Q I rx ry q
theorem cN (b:Expr) {op:CmpOp}(h:op≠.In:=by decide) (h2:op≠.NotIn:=by decide):behindInMarks op b=false:=by
 have e1:(op == CmpOp.In)=false:=by cases op<;>first|rfl|exact absurd rfl h
 have e2:(op == CmpOp.NotIn)=false:=by cases op<;>first|rfl|exact absurd rfl h2
 cases b<;>simp[behindInMarks,e1,e2]
theorem ED {op:CmpOp}{r:R2}(ho:gA X (compareOp op) r) (ha:PE X a ta) (hb:PE X b tb) (hm:behindInMarks op b=false):PE X (.Compare a [op] [b] pos) (JR r ta tb):=by
 intro pins s σ H Q I h
 exact wpAny_Compare1 (G0 ha hb I h fun v u s2 x y H2 I2 rx ry q=>ho pins s2 σ H2 x y v u Q I2 rx ry q) hm
noncomputable def FJ (t:TE):TT:=fun σ H Q=>t σ H fun x H'=>∃k,x=.bl k/\Q k H'
theorem Fx {op:CmpOp}{r:R2}(ho:gA X (compareOp op) r) (ha:PE X a ta) (hb:PE X b tb) (hm:behindInMarks op b=false):PT X (.Compare a [op] [b] pos) (FJ (JR r ta tb)):=by
 intro pins s σ H Q I h
 refine wpAny_isTrue_Compare1 (bP (ha pins s σ H _ I h) fun v s1 ⟨x,H1,I1,r1,q1⟩=>bP (hb pins s1 σ H1 _ I1 q1) fun u s2 ⟨y,H2,I2,r2,q2⟩ =>
  bP (ho pins s2 σ H2 x y v u _ I2 r1 r2 q2) fun c s3 ⟨z,H3,I3,r3,k,e,q3⟩=>?_) hm
 subst e
 cases r3
 exact wpAny_truthy_bool ⟨H3,I3,q3⟩
noncomputable def v7 (r r':R2) (ta tb tc:TE):TE:=fun σ H Q=>ta σ H fun x H1=>tb σ H1 fun y H2=>r x y H2 fun z H3=>∃k,z=.bl k /\
 (if k=true then tc σ H3 fun w' H4=>r' y w' H4 Q else Q (.bl false) H3)
theorem A3 {op op':CmpOp}{r r':R2}(ho:gA X (compareOp op) r) (ho':gA X (compareOp op') r') (ha:PE X a ta) (hb:PE X b tb) (hc:PE X c tc)
  (hm:lastMarks [op,op'] [b,c]=false:=by with_unfolding_all rfl):PE X (.Compare a [op,op'] [b,c] pos) (v7 r r' ta tb tc):=by
 intro pins s σ H Q I h
 refine Compare_chain (bP (ha pins s σ H _ I h) fun v s1 ⟨x,H1,I1,r1,q1⟩=>chain_link (bP (hb pins s1 σ H1 _ I1 q1) fun u s2 ⟨y,H2,I2,r2,q2⟩ =>
  bP (ho pins s2 σ H2 x y v u _ I2 r1 r2 q2) fun d s3 ⟨z,H3,I3,r3,k,e,q3⟩=>?_)) hm
 subst e
 cases r3
 refine wpAny_truthy_bool ?_
 cases k with
 | false=>exact ite_ff ⟨.bl false,H3,I3,rfl,q3⟩
 | true=>exact ite_tt (chain_last (bP (hc pins s3 σ H3 _ I3 q3) fun w' s4 ⟨z',H4,I4,r4,q4⟩=>ho' pins s4 σ H4 y z' u w' Q I4 r2 r4 q4))
theorem C7 {op op':CmpOp}{r r':R2}(ho:gA X (compareOp op) r) (ho':gA X (compareOp op') r') (ha:PE X a ta) (hb:PE X b tb) (hc:PE X c tc)
  (hm:lastMarks [op,op'] [b,c]=false:=by with_unfolding_all rfl):PT X (.Compare a [op,op'] [b,c] pos) (FJ (v7 r r' ta tb tc)):=by
 intro pins s σ H Q I h
 refine isTrue_chain (bP (ha pins s σ H _ I h) fun v s1 ⟨x,H1,I1,r1,q1⟩=>test_link (bP (hb pins s1 σ H1 _ I1 q1) fun u s2 ⟨y,H2,I2,r2,q2⟩ =>
  bP (ho pins s2 σ H2 x y v u _ I2 r1 r2 q2) fun d s3 ⟨z,H3,I3,r3,k,e,q3⟩=>?_)) hm
 subst e
 cases r3
 refine wpAny_truthy_bool ?_
 cases k with
 | false =>
  obtain⟨k',e',q'⟩:=q3
  cases e'
  exact ite_ff ⟨H3,I3,q'⟩
 | true =>
  refine ite_tt (test_last (bP (hc pins s3 σ H3 _ I3 q3) fun w' s4 ⟨z',H4,I4,r4,q4⟩=>bP (ho' pins s4 σ H4 y z' u w' _ I4 r2 r4 q4) fun d' s5 ⟨z2,H5,I5,r5,k2,e2,q5⟩=>?_))
  subst e2
  cases r5
  exact wpAny_truthy_bool ⟨H5,I5,q5⟩
theorem oG:(sizeLine:Nat) < 2 ^ 63:=by rw[sizeLine_eq];decide
theorem vals1 {x:V}{us:List Value}(r:az [x] us):∃u,us=[u]/\RelV x u:=by
 cases r with
 | cons r1 r2=>cases r2;exact⟨_,rfl,r1⟩
theorem vals2 {x y:V}{us:List Value}(r:az [x,y] us):∃u w',us=[u,w']/\RelV x u/\RelV y w':=by
 cases r with
 | cons r1 r2 =>
  cases r2 with
  | cons r3 r4=>cases r4;exact⟨_,_,rfl,r1,r3⟩
theorem zq:cD X (.type "int") (fun xs H Q=>(∃i,xs=[.int i]/\Q (.int i) H)\/∃k,xs=[.bl k]/\Q (.int (if k then 1 else 0)) H):=by
 intro pins s σ H xs us Q I r h
 rcases h with ⟨i,rfl,q⟩|⟨k,rfl,q⟩
 ·obtain⟨u,rfl,t,rfl⟩:=vals1 r
  exact call_int_int ⟨.int i,H,I,⟨_,rfl⟩,q⟩
 ·obtain⟨u,rfl,r1⟩:=vals1 r
  cases r1
  exact call_int_bool ⟨.int (if k then 1 else 0),H,I.tok _,⟨_,rfl⟩,q⟩
end
end L2
namespace L2
open PySem PySem.Spec PyProof.Rows
structure EC (h:Heap) (x dx C:Addr) (mA:Str->Option Value):Prop where
 obj:h.get? x=some (PySem.W.instObj C dx)
 ns:h.Ns1 dx mA
 ne:dx≠x
theorem zt {h:Heap}{dx:Addr}{mA:Str->Option Value}(n:h.Ns1 dx mA):∃od,h.get? dx=some od/\∀name,PySem.W.lookIn name od=some (mA name):=by
 obtain⟨o,es,ep,ho,hd,hk,_,hm⟩:=n
 refine⟨o,ho,fun name=>?_⟩
 have e:=hm name
 unfold nsFind findBy at e
 rw[<- Array.find?_toList] at e
 unfold PySem.W.lookIn
 rw[hd]
 dsimp only
 split
 ·rename_i y q
  rw[q] at e
  exact congrArg some e
 ·rename_i q
  rw[q] at e
  have a:es.toList.any (·.refKey)=false:=by
   rw[List.any_eq_false]
   intro y hy
   obtain⟨z,t,hkey⟩:=hk y (Array.mem_toList_iff.mp hy)
   simp[DictEntry.refKey,hkey]
  have a':¬ es.toList.any (·.refKey)=true:=by rw[a];exact Bool.false_ne_true
  rw[if_neg a']
  exact congrArg some e
theorem EC.look {h:Heap}{x dx C:Addr}{mA:Str->Option Value}(I:EC h x dx C mA):∃od,PySem.W.InstAt h x (PySem.W.instObj C dx) C (some od)/\∀name,PySem.W.lookIn name od=some (mA name) :=
 let ⟨od,ho,hl⟩:=zt I.ns
 ⟨od,⟨I.obj,rfl,rfl,ho⟩,hl⟩
section
variable {prog:Program}{w:World}{A:Around}{E:Value->Shared->Prop}{s:Shared}{K:PySem.W.Frag}{x dx C f:Addr}{mA:Str->Option Value}{name:Str}{v:Value}
theorem yq {ns:List Str}{Q:Unit->Shared->Prop}(X:K.In s.heap) (I:EC s.heap x dx C mA)
  (hs:PySem.W.findIn K (.ref C) "__setattr__"=some (some (.builtin "object.__setattr__"))) (hp:PySem.W.plainOver K C=true) (ht:PySem.W.takerIn K C name=some none) (hh:PySem.W.hasDictIn K C=true)
  (hw:PySem.Within mA ns) (hsz:ns.length<=sizeLine)
  (h:∀h',EC h' x dx C (fun y=>if y=name then some v else mA y)->Heap.SameBut dx s.heap h'->Q () { s with heap:=h',toks:=s.toks+2 }) :
  wpAny (model prog w) A (setAttr (.ref x) name v) Q E s:=by
 obtain⟨od,J,hl⟩:=I.look
 refine PySem.W.set_plain X J hs (PySem.W.osa_open (s:={ s with toks:=s.toks+1 }) (r:=none) X J hp ht fun b=>?_)
 obtain⟨cd,hc,hd'⟩:=PySem.W.any_some hh
 have hx:s.heap.get? x=some ⟨.ref C,some dx,.plain,#[]⟩:=I.obj
 refine wpAny_bind (wpAny_pure (wpAny_bind (wpAny_bind (wpAny_loadPart hx (wpAny_bind (PySem.W.Looks.here (s:={ s with toks:=s.toks+1 }) (PySem.W.looks_clsIn X hc) ?_))))))
 rw[hd']
 refine wpAny_pure (a:=some dx) (wpAny_bind (wpAny_pure (wpAny_bind ?_)))
 refine wpAny_nsSet1 (s:={ s with toks:=s.toks+1 }) I.ns fun h' hn2 hs2=>?_
 obtain⟨oD,esD,epD,hoD,hdD,hcD⟩:=hn2.count (PySem.Within.cons name v hw)
 refine wpAny_bind (wpAny_lookBehind hoD (by rw[hdD];exact pastItsLine_dict (Nat.le_trans hcD (by rw[List.length_cons];omega))) ?_)
 exact wpAny_pure (h _ ⟨(hs2.2 _ (Ne.symm I.ne)).trans I.obj,hn2,I.ne⟩ hs2)
end
section
variable {P:Program}{w:World}{H H':Hp}{h h':Heap}{a C dx:Addr}{fs fs':List (Str×V)}
end
structure Lk (K:PySem.W.Frag) (C:Addr):Prop where
 pg:PySem.W.plainGet K C Str.empty=true
 hd:PySem.W.hasDictIn K C=true
 po:PySem.W.plainOver K C=true
 sa:PySem.W.findIn K (.ref C) "__setattr__"=some (some (.builtin "object.__setattr__"))
theorem Lk.get {K:PySem.W.Frag}{C:Addr}(c:Lk K C) (f:Str):PySem.W.plainGet K C f=true:=c.pg
structure Mb (K:PySem.W.Frag) (C:Addr) (f:Str) (v:V) (u:Value):Prop where
 at_:PySem.W.findIn K (.ref C) f=some (some u)
 rel:RelV v u
 get:PySem.W.specialIn K u "__get__"=some none
 cp:PySem.W.copiedNames.contains f=false
structure L7 (K:PySem.W.Frag) (C:Addr) (m:Str) (f:Addr):Prop where
 at_:PySem.W.findIn K (.ref C) m=some (some (.ref f))
 fn:PySem.W.isFn K (.ref f)=true
 kp:PySem.W.keepIn K (.ref f)=true
section
variable {X:Cx}{pins:List (Addr×Obj)}{σ:St}{H:Hp}{s:Shared}{a C dx:Addr}{fs:List (Str×V)}{f:Str}{v:V}{A:Around}{E:Value->Shared->Prop}
theorem Inv.made (I:Inv X pins σ H s):Inv X pins σ (upd (upd H s.heap.objs.size (.own (s.heap.objs.size+1))) (s.heap.objs.size+1) (.ins C s.heap.objs.size []))
  { s with heap:=(s.heap.push PySem.W.emptyDict).push (PySem.W.instObj C s.heap.objs.size) }:=by
 have e1:(s.heap.push PySem.W.emptyDict).get? s.heap.objs.size=some PySem.W.emptyDict:=Heap.get?_push_size s.heap rfl
 have e2:((s.heap.push PySem.W.emptyDict).push (PySem.W.instObj C s.heap.objs.size)).get? (s.heap.objs.size+1)=some (PySem.W.instObj C s.heap.objs.size):=by
  have:=Heap.get?_push_size (s.heap.push PySem.W.emptyDict) (o:=PySem.W.instObj C s.heap.objs.size) rfl
  rwa [Heap.size_push] at this
 have e3:(s.heap.push PySem.W.emptyDict).Ns s.heap.objs.size (fun _=>none):=⟨PySem.W.emptyDict,#[],_,e1,rfl,(fun e he=>absurd he (by simp)),fun _=>rfl⟩
 have I1:=I.laid (a:=s.heap.objs.size) (o:=.own (s.heap.objs.size+1)) (h':=s.heap.push PySem.W.emptyDict) (t':=s.toks) (fun b u q=>Heap.get?_push_of_some _ q) (Nat.le_refl _) ⟨_,e1⟩
 refine I1.laid (a:=s.heap.objs.size+1) (o:=.ins C s.heap.objs.size []) (t':=s.toks) (fun b u q=>Heap.get?_push_of_some _ q) (Nat.le_of_eq (Heap.size_push _ _)) ?_
 have ne:s.heap.objs.size≠s.heap.objs.size+1:=Nat.ne_of_lt (Nat.lt_succ_self _)
 refine⟨by rw[ay ne,aD],Nat.zero_le _,ne,e2,fun _=>none,(Heap.Ns1.of_empty e3).at fun o q=>Heap.get?_push_of_some _ q,fun _=>True.intro,fun y hy=>absurd rfl hy⟩
end
section
variable {X:Cx}{o e value:Expr}{f:Str}{pos pos' tpos:Pos}{ta tv:TE}
end
section
variable {X:Cx}{pins:List (Addr×Obj)}{σ:St}{H:Hp}{s:Shared}{A:Around}{E:Value->Shared->Prop}{Q:Value->Shared->Prop}{c:Value}{b:Bool}
inductive nQ (K:PySem.W.Frag) (H:Hp):V->Value->Prop where
 | non:nQ K H .non (.type "NoneType")
 | bl (x:Bool):nQ K H (.bl x) (.type "bool")
 | int (i:Int):nQ K H (.int i) (.type "int")
 | str (x:Str):nQ K H (.str x) (.type "str")
 | flt (x:UInt64):nQ K H (.flt x) (.type "float")
 | lst {a:Addr}{xs:List V}(e:H a=some (.lst xs)):nQ K H (.ref a) (.type "list")
 | frz {a:Addr}{o:Obj}{xs:List V}(e:H a=some (.frz o (.lst xs))):nQ K H (.ref a) (.type "list")
 | tup {a:Addr}{xs:List V}(e:H a=some (.tup xs)):nQ K H (.ref a) (.type "tuple")
 | dK {a:Addr}{kvs:List (tO×V)}(e:H a=some (.dK kvs)):nQ K H (.ref a) (.type "dict")
 | dT {a:Addr}{kvs:List (List tO×V)}(e:H a=some (.dT kvs)):nQ K H (.ref a) (.type "dict")
 | ins {a C dx:Addr}{fs:List (Str×V)}(e:H a=some (.ins C dx fs)) (cl:Lk K C) (ha:PySem.W.findIn K (.ref C) "__class__"=some (some (.builtin "object.__class__")))
   (hn:PySem.W.specialIn K (.builtin "object.__class__") "__get__"=some (some (.builtin "getset_descriptor.__get__"))) (htk:PySem.W.takesIn K (.builtin "object.__class__")=some true)
   (hm:PySem.W.mroIn K C (.type "object")=some true):nQ K H (.ref a) (.ref C)
end
end L2
namespace L2
open PySem PySem.Spec PyProof.Rows
structure dH (k:Nat) (A:Around):Prop where
 hd:A.handled=none
 dp:A.depth+3 * k+5 < recursionLimit
 un:A.units+16 * k+200 < cLine
theorem dH.mono {j k:Nat}{A:Around}(r:dH k A) (h:j<=k):dH j A:=⟨r.hd,by have:=r.dp;omega,by have:=r.un;omega⟩
theorem dH.deeper {k:Nat}{A:Around}(r:dH (k+1) A) (env:Env):dH k (A.deeper env) :=
 ⟨r.hd,by have:=r.dp;show A.depth+1+3 * k+5 < _;omega,by have:=r.un;show A.units+3+16 * k+200 < _;omega⟩
theorem dH.in1 {k:Nat}{A:Around}(r:dH (k+1) A):dH k A.in1 :=
 ⟨r.hd,by have:=r.dp;show A.depth+3 * k+5 < _;omega,by have:=r.un;show A.units+1+16 * k+200 < _;omega⟩
theorem dH.depth {k:Nat}{A:Around}(r:dH k A):A.depth < recursionLimit:=by have:=r.dp;omega
theorem dH.units {k:Nat}{A:Around}(r:dH k A):A.units+64 < cLine:=by have:=r.un;omega
theorem dH.units0 {k:Nat}{A:Around}(r:dH k A):A.units < cLine:=by have:=r.un;omega
noncomputable def KI:TA:=fun _ H Q=>Q [] H
noncomputable def JI (ta:TE) (tr:TA):TA:=fun σ H Q=>ta σ H fun x H1=>tr σ H1 fun xs H2=>Q (x::xs) H2
section
variable {X:Cx}{e:Expr}{es:List Expr}{te:TE}{t:TA}{pos:Pos}
theorem gf:PA X [] KI:=fun _ _ _ _ H Q I h=>Calls.spliced_nil ⟨[],H,I,.nil,h⟩
theorem cW (ha:PE X e te) (hr:PA X es t) (hs:starEach (e::es) X.env=(false,eval e X.env)::starEach es X.env:=by rfl):PA X (e::es) (JI te t):=by
 intro pos pins s σ H Q I h
 rw[hs]
 show wpAny _ _ (spliced ((false,eval e X.env)::backTo pos (starEach es X.env))) _ _ s
 refine Calls.spliced_cons (bP (ha pins s σ H _ I h) fun u s1 ⟨x,H1,I1,r1,q1⟩=>?_)
 exact bP (hr pos pins s1 σ H1 _ I1 q1) fun us s2 ⟨xs,H2,I2,r2,q2⟩=>⟨x::xs,H2,I2,.cons r1 r2,q2⟩
noncomputable def Lw (t:TA):TE:=fun σ H Q=>t σ H fun xs H1=>xs.length<=sizeLine/\∀p,H1 p=none->Q (.ref p) (upd H1 p (.tup xs))
noncomputable def Lc (t:TA):TE:=fun σ H Q=>t σ H fun xs H1=>xs.length<=sizeLine/\∀p,H1 p=none->Q (.ref p) (upd H1 p (.lst xs))
theorem Gi {x1}(h:PA X es t):PE X (.Tuple es x1 pos) (Lw t):=by
 intro pins s σ H Q I hq
 refine wpAny_Tuple_spliced (bP (h pos pins s σ H _ I hq) fun us s1 ⟨xs,H1,I1,r,z,q⟩=>⟨by rw[<- r.length];exact z,?_⟩)
 have hf:H1 s1.heap.objs.size=none:=I1.hok.fresh (Nat.le_refl _)
 refine⟨.ref s1.heap.objs.size,upd H1 s1.heap.objs.size (.tup xs),I1.laid (t':=s1.toks) (fun b u e=>Heap.get?_push_of_some _ e) (Nat.le_refl _) ?_,rfl,q _ hf⟩
 exact⟨z,us,r,⟨_,Heap.get?_push_size _ rfl,rfl,_,rfl⟩,_,Heap.get?_push_size _ rfl,rfl⟩
theorem Hz (h:PA X es t):PE X (.List es pos) (Lc t):=by
 intro pins s σ H Q I hq
 refine wpAny_List_spliced (bP (h pos pins s σ H _ I hq) fun us s1 ⟨xs,H1,I1,r,z,q⟩=>⟨by rw[<- r.length];exact z,?_⟩)
 have hf:H1 s1.heap.objs.size=none:=I1.hok.fresh (Nat.le_refl _)
 refine⟨.ref s1.heap.objs.size,upd H1 s1.heap.objs.size (.lst xs),I1.laid (t':=s1.toks) (fun b u e=>Heap.get?_push_of_some _ e) (Nat.le_refl _) ?_,rfl,q _ hf⟩
 exact⟨z,us,0,r,Heap.get?_push_size _ rfl⟩
end
noncomputable abbrev Sp:=List V->Hp->VK->XK->Prop
noncomputable abbrev z9:=List Env->Hp->Shared->XK->Value->Shared->Prop
structure xm (P:Program) (w:World) (K:PySem.W.Frag) (mg:Str->Option Value) (base:Heap) (A:Around) (outer:List Env) (s:Shared) (H:Hp):Prop where
 frames:A.frames=some outer
 mod:Mod K mg base
 bs:∀b o,base.get? b=some o->s.heap.get? b=some o/\H b=none
 bsz:base.objs.size<=s.heap.objs.size
 funs:s.heap.FunFrames base outer
 frf:∀b∈A7 outer,H b=none
 hok:nB P w H s.heap
 bare:AllBare s.gens
noncomputable def CE (outer:List Env) (P:Program) (w:World) (H:Hp) (s:Shared) (Q:VK) (u:Value) (s':Shared):Prop :=
 ∃v H',s'.os=s.os/\AllBare s'.gens/\Un (A7 outer) [] H H' s.heap s'.heap/\nB P w H' s'.heap/\RelV v u/\Q v H'
noncomputable def CR (CX:z9) (outer:List Env) (P:Program) (w:World) (H:Hp) (s:Shared) (Q:VK) (E:XK) (r:Result) (s':Shared):Prop :=
 match r with
 | .ok (.ret u)=>CE outer P w H s Q u s'
 | .ok _=>False
 | .error e=>CX outer H s E e s'
structure j1 (P:Program) (w:World) (K:PySem.W.Frag) (mg:Str->Option Value) (base:Heap) (CX:z9) (k:Nat) (f:Addr) (fd:FuncData) (ps:List Str) (sp:Sp):Prop where
 len:∀vs H Q E,sp vs H Q E->vs.length=ps.length
 run:∀ (A:Around) (outer:List Env) (s:Shared) (H:Hp) (args:Args) (us:List Value) (vs:List V) (Q:VK) (E:XK),dH k A->xm P w K mg base A outer s H->BindsTo s fd args (ps.zip us)->az vs us->sp vs H Q E ->
  codeAny (model P w) A (.call (.ref f) args) (CR CX outer P w H s Q E) s
theorem j1.mono {P:Program}{w:World}{K:PySem.W.Frag}{mg:Str->Option Value}{base:Heap}{CX:z9}{j k:Nat}{f:Addr}{fd:FuncData}{ps:List Str}{sp:Sp}(F:j1 P w K mg base CX j f fd ps sp) (h:j<=k) :
  j1 P w K mg base CX k f fd ps sp:=⟨F.len,fun A outer s H args us vs Q E hr=>F.run A outer s H args us vs Q E (hr.mono h)⟩
theorem j1.imp {P:Program}{w:World}{K:PySem.W.Frag}{mg:Str->Option Value}{base:Heap}{CX:z9}{k:Nat}{f:Addr}{fd:FuncData}{ps:List Str}{sp sp':Sp}(F:j1 P w K mg base CX k f fd ps sp)
  (h:∀vs H Q E,sp' vs H Q E->sp vs H Q E):j1 P w K mg base CX k f fd ps sp' :=
 ⟨fun vs H Q E q=>F.len vs H Q E (h _ _ _ _ q),fun A outer s H args us vs Q E hr he hb hv hs=>F.run A outer s H args us vs Q E hr he hb hv (h _ _ _ _ hs)⟩
theorem xm.in1 {P:Program}{w:World}{K:PySem.W.Frag}{mg:Str->Option Value}{base:Heap}{A:Around}{outer:List Env}{s:Shared}{H:Hp}(e:xm P w K mg base A outer s H) :
  xm P w K mg base A.in1 outer s H:=⟨e.frames,e.mod,e.bs,e.bsz,e.funs,e.frf,e.hok,e.bare⟩
section
variable {X:Cx}{pins:List (Addr×Obj)}{σ:St}{H:Hp}{s s':Shared}
theorem Inv.env0 (I:Inv X pins σ H s):xm X.prog X.w X.K X.mg X.base X.A X.stack s H :=
 ⟨I.ok.frames,I.ok.mod,I.bs,Nat.le_trans I.ok.bsz I.sz,I.stack,I.stkFree,I.hok,I.bare⟩
theorem Inv.after {Q:VK}{u:Value}(I:Inv X pins σ H s) (h:CE X.stack X.prog X.w H s Q u s'):EP X pins σ Q u s':=by
 obtain⟨v,H',os,bare,un,hok,r,q⟩:=h
 obtain⟨hh,g,d,t,os'⟩:=s'
 obtain rfl:os'=s.os:=os
 exact⟨v,H',I.call (h':=hh) (g':=g) (d':=d) (t':=t) (ch:=[]) un hok bare (fun b z=>absurd z (by simp)),r,q⟩
end
noncomputable def Kc (sp:Sp) (dvs:List V) (E:XK) (t:TA):TE:=fun σ H Q=>t σ H fun vs H1=>sp (vs++dvs) H1 Q E
noncomputable def Binds (K:PySem.W.Frag) (fd:FuncData) (ps:List Str) (ds:List Value):Prop :=
 ∀ (s:Shared) (us:List Value),K.In s.heap->(us++ds).length=ps.length->BindsTo s fd ⟨us,[]⟩ (ps.zip (us++ds))
theorem Binds.all {K:PySem.W.Frag}{fd:FuncData}{ps:List Str}(h:∀us:List Value,us.length=ps.length->bindArgs fd ⟨us,[]⟩=pure (ps.zip us)):Binds K fd ps []:=fun s us _ hl=>by
 rw[List.append_nil] at hl ⊢
 exact .of_eq (h us hl)
noncomputable def xv (CX:z9) (X:Cx) (E:XK):Prop:=∀ (pins:List (Addr×Obj)) (σ:St) (H:Hp) (s:Shared) (e:Value) (s':Shared),Inv X pins σ H s->CX X.stack H s E e s'->X.xe e s'
section
variable {X:Cx}{CX:z9}{k:Nat}{f C:Addr}{fd:FuncData}{ps:List Str}{sp:Sp}{dvs:List V}{ds:List Value}{E:XK}{x m:Str}{p pos apos:Pos}{e o:Expr}{es:List Expr}{ta:TE}{t:TA}
theorem Ia {pins:List (Addr×Obj)}{σ:St}{H:Hp}{s:Shared}{Q:VK}{us:List Value}{vs:List V}(F:j1 X.prog X.w X.K X.mg X.base CX k f fd ps sp) (hr:dH k X.A) (hb:Binds X.K fd ps ds) (hd:az dvs ds) (hx:xv CX X E)
  (I:Inv X pins σ H s) (r:az vs us) (h:sp (vs++dvs) H Q E):wpAny (model X.prog X.w) X.A (call (.ref f) us) (EP X pins σ Q) X.xe s:=by
 have r2:az (vs++dvs) (us++ds):=r.append hd
 have hl:(us++ds).length=ps.length:=by rw[<- r2.length];exact F.len _ _ _ _ h
 refine wpAny_call (codeAny_mono (F.run X.A X.stack s H ⟨us,[]⟩ (us++ds) (vs++dvs) Q E hr I.env0 (hb s us I.kIn hl) r2 h) fun r s' hq=>?_)
 cases r with
 | error e=>exact hx pins σ H s e s' I hq
 | ok fl =>
  cases fl with
  | ret u=>exact I.after hq
  | next=>exact False.elim hq
  | brk=>exact False.elim hq
  | cont=>exact False.elim hq
theorem FA (F:j1 X.prog X.w X.K X.mg X.base CX k f fd ps sp) (hr:dH k X.A) (hg:Gl X x) (hm:X.mg x=some (.ref f)) (hk:PySem.W.keepIn X.K (.ref f)=true) (hb:Binds X.K fd ps ds) (hd:az dvs ds) (hx:xv CX X E)
  (ha:PA X (e::es) t) (hdb:(x == ("__debug__":Str))=false:=by decide) (he:starEach (e::es) X.env=(false,eval e X.env)::starEach es X.env:=by rfl) (hpl:(backTo pos (starEach es X.env)).any (·.1)=false:=by rfl) :
  PE X (.Call (.Name x p) (e::es) [] pos) (Kc sp dvs E t):=by
 intro pins s σ H Q I h
 refine wpAny_Call_Name_kw (yG I hg hm ?_ hdb)
 refine PySem.W.callWith_K (h₀:=X.base) I.ok.mod.kin hk (bP (ha pos pins s σ H _ I h) fun us s1 ⟨vs,H1,I1,r,q⟩=>⟨I1.kIn,?_⟩) he hpl
 exact Ia F hr hb hd hx I1 r q
structure Mk (K:PySem.W.Frag) (C f:Addr):Prop where
 makes:PySem.W.makesIn K C=true
 init:PySem.W.findIn K (.ref C) "__init__"=some (some (.ref f))
 fn:PySem.W.isFn K (.ref f)=true
 kp:PySem.W.keepIn K (.ref C)=true
end
section
variable {X:Cx}{CX:z9}{k:Nat}{f C:Addr}{fd:FuncData}{ps ks:List Str}{sp:Sp}{E:XK}{x m:Str}{p pos apos kpos:Pos}{e o:Expr}{es:List Expr}{kws:List Keyword}{te ta:TE}{t tk:TA}{nm:Option Str}
structure Lm (K:PySem.W.Frag) (fd:FuncData) (ps ks:List Str) (g:List Value->List Value->List Value) (gV:List V->List V->List V):Prop where
 to:∀ (s:Shared) (us ws:List Value),K.In s.heap->(g us ws).length=ps.length->BindsTo s fd ⟨us,ks.zip ws⟩ (ps.zip (g us ws))
 rel:∀ {vs:List V}{us:List Value}{zs:List V}{ws:List Value},az vs us->az zs ws->az (gV vs zs) (g us ws)
variable {g:List Value->List Value->List Value}{gV:List V->List V->List V}
end
structure dZ (N P:List Str) (sc:Scope):Prop where
 kind:sc.kind=.function
 co:sc.isCoroutine=false
 gen:sc.isGenerator=false
 nd:N.Nodup
 pre:N.take P.length=P
 par:∀x∈P,sc.names.lookup x=some .local \/ sc.names.lookup x=some .cell
 nofree:∀y∈sc.names,y.2≠.free
theorem qx {kindOf:Str->Option NameKind}{x:Str}:∀ {binds:List (Str×Value)}{m:Str->Option Value},(∀v,(x,v)∉binds)->bindL kindOf binds m x=m x
 | [],_,_=>rfl
 | (n,v)::r,m,h=>by
  unfold bindL
  rw[qx fun w hw=>h w (List.mem_cons_of_mem _ hw)]
  split
  ·have:x≠n:=by rintro rfl;exact h v List.mem_cons_self
   simp[this]
  ·rfl
theorem qk {kindOf:Str->Option NameKind}{x:Str}:∀ {binds:List (Str×Value)}{m:Str->Option Value},(∀v,(x,v)∉binds)->bindC kindOf binds m x=m x
 | [],_,_=>rfl
 | (n,v)::r,m,h=>by
  unfold bindC
  rw[qk fun w hw=>h w (List.mem_cons_of_mem _ hw)]
  split
  ·rfl
  ·have:x≠n:=by rintro rfl;exact h v List.mem_cons_self
   simp[this]
theorem qL {kindOf:Str->Option NameKind}{x:Str}{v:Value}:∀ {P:List Str}{vs:List Value}{i:Nat}{m:Str->Option Value},P.Nodup->P[i]?=some x->vs[i]?=some v->kindOf x=some .local ->
  bindL kindOf (P.zip vs) m x=some v
 | [],_,_,_,_,h,_,_=>by simp at h
 | _::_,[],_,_,_,_,h,_=>by simp at h
 | p::P,w::vs,0,m,nd,h1,h2,hk=>by
  simp at h1 h2;subst h1;subst h2
  show bindL kindOf ((p,w)::P.zip vs) m p=_
  unfold bindL
  rw[qx fun v hv=>(List.nodup_cons.mp nd).1 (List.of_mem_zip hv).1,if_pos hk]
  simp
 | p::P,w::vs,i+1,m,nd,h1,h2,hk=>by
  show bindL kindOf ((p,w)::P.zip vs) m x=_
  unfold bindL
  exact qL (i:=i) (List.nodup_cons.mp nd).2 (by simpa using h1) (by simpa using h2) hk
theorem qB {kindOf:Str->Option NameKind}{x:Str}{v:Value}:∀ {P:List Str}{vs:List Value}{i:Nat}{m:Str->Option Value},P.Nodup->P[i]?=some x->vs[i]?=some v->kindOf x≠some .local ->
  bindC kindOf (P.zip vs) m x=some v
 | [],_,_,_,_,h,_,_=>by simp at h
 | _::_,[],_,_,_,_,h,_=>by simp at h
 | p::P,w::vs,0,m,nd,h1,h2,hk=>by
  simp at h1 h2;subst h1;subst h2
  show bindC kindOf ((p,w)::P.zip vs) m p=_
  unfold bindC
  rw[qk fun v hv=>(List.nodup_cons.mp nd).1 (List.of_mem_zip hv).1,if_neg hk]
  simp
 | p::P,w::vs,i+1,m,nd,h1,h2,hk=>by
  show bindC kindOf ((p,w)::P.zip vs) m x=_
  unfold bindC
  exact qB (i:=i) (List.nodup_cons.mp nd).2 (by simpa using h1) (by simpa using h2) hk
noncomputable def start (N:List Str) (vs:List V):St:=vs.map some++List.replicate (N.length - vs.length) none
noncomputable def wY (CX:z9) (P:Program) (w:World) (K:PySem.W.Frag) (mg:Str->Option Value) (base:Heap) (N:List Str) (qual:Str) (scope:Scope) (f:Addr) (cd:Value) (A:Around) (outer:List Env) (s:Shared) (H:Hp) (E:XK):Cx where
 prog:=P
 w:=w
 K:=K
 mg:=mg
 base:=base
 A:=A.deeper (envOfC qual scope s.heap.objs.size f cd)
 N:=N
 s₀:=s
 H₀:=H
 env:=envOfC qual scope s.heap.objs.size f cd
 outer:=outer
 stack:=envOfC qual scope s.heap.objs.size f cd::outer
 ex:=[]
 calm:=true
 fn:=fun _=>true
 pn:=[]
 xe:=fun e s'=>wpAny (model P w) (A.deeper (envOfC qual scope s.heap.objs.size f cd)) (leaving (envOfC qual scope s.heap.objs.size f cd) e) (fun _ s''=>CX outer H s E e s'') (fun e' s''=>CX outer H s E e' s'') s'
theorem oR {sc:Scope}{n:Nat}{x:Str}(h:sc.names.lookup x=some .cell):∃c,(cellsFrom n sc.names []).lookup x=some c:=by
 have q:=PySem.W.cellsFrom_some sc.names n [] (.inl h)
 exact Option.isSome_iff_exists.mp q
theorem Ap {CX:z9}{P:Program}{w:World}{K:PySem.W.Frag}{mg:Str->Option Value}{base:Heap}{N ps:List Str}{qual:Str}{scope:Scope}{f:Addr}{cd:Value}{A:Around}{outer:List Env}{s s1:Shared}{H:Hp}{E:XK}{us:List Value}{vs:List V}
  (S:dZ N ps scope) (hd:A.handled=none) (e0:xm P w K mg base A outer s H) (hl:vs.length=ps.length) (r:az vs us)
  (x:InCallC s s.heap.objs.size (bindL (envOfC qual scope s.heap.objs.size f cd).kindOf (ps.zip us) fun _=>none) (cellsFrom (s.heap.objs.size+1) scope.names []) (bindC (envOfC qual scope s.heap.objs.size f cd).kindOf (ps.zip us) fun _=>none) s1) :
  Inv (wY CX P w K mg base N qual scope f cd A outer s H E) [] (start N vs) H s1:=by
 have hpl:ps.length<=N.length:=by have:=congrArg List.length S.pre;rw[List.length_take] at this;omega
 obtain⟨h1,tk,rfl,hk⟩:=x.done
 have noA:∀b:Addr,b∉(wY CX P w K mg base N qual scope f cd A outer s H E).ex:=fun b z=>absurd (show b∈([]:List Addr) from z) (by simp)
 refine⟨⟨e0.mod,S.kind,rfl,rfl,Nat.le_refl _,fun y z c h1 h2=>?_,fun y hy=>?_,fun y c _ h=>?_,fun _=>hd,Around.frames_deeper e0.frames,.inr ⟨rfl,rfl⟩,fun b z=>absurd z (noA b),e0.bs,e0.bsz,fun b _ _=>noA b,fun b z=>absurd z (noA b),e0.funs,e0.frf⟩,
  rfl,e0.bare,Un.kept hk,⟨_,x.toInCall.ns,fun i y v h1 h2 h3=>?_⟩,fun y c h=>⟨_,x.cell y c h⟩,e0.hok.fresh (Nat.le_refl _),fun y c h=>?_,fun p hp=>absurd (show p∈([]:List (Addr×Obj)) from hp) (by simp),e0.hok.kept hk,?_⟩
 ·exact name_of_addr x.apart (PySem.mem_of_lookup h1) (PySem.mem_of_lookup h2)
 ·have hy:scope.names.lookup y=some .cell\/scope.names.lookup y=some .free:=hy
  rcases hy with hy|hy
  ·exact oR hy
  ·exact absurd rfl (S.nofree _ (PySem.mem_of_lookup hy))
 ·exact Nat.le_of_lt (x.above y c (PySem.mem_of_lookup h))
 ·have hi:i < vs.length:=by
   unfold start at h2
   by_cases hi:i < vs.length
   ·exact hi
   ·rw[List.getElem?_append_right (by simpa using hi)] at h2
    rw[List.getElem?_replicate] at h2
    split at h2<;>cases h2
  have ha:vs[i]?=some v:=by
   unfold start at h2
   rw[List.getElem?_append_left (by simpa using hi),List.getElem?_map] at h2
   cases e:vs[i]? with
   | none=>rw[e] at h2;cases h2
   | some a=>rw[e] at h2;cases h2;rfl
  obtain⟨u,hu,rv⟩:=r.get ha
  have hp:ps[i]?=some y:=by
   rw[<- S.pre,List.getElem?_take_of_lt (by omega)];exact h1
  have ndP:ps.Nodup:=by rw[<- S.pre];exact S.nd.sublist (List.take_sublist _ _)
  refine⟨u,rv,?_⟩
  rcases S.par y (List.mem_of_getElem? hp) with k|k
  ·exact .inl ⟨k,qL ndP hp hu k⟩
  ·obtain⟨c,e⟩:=oR (n:=s.heap.objs.size+1) k
   refine .inr ⟨.inl k,c,e,?_⟩
   have q:=x.cell y c e
   rw[qB ndP hp hu (by show scope.names.lookup y≠_;rw[k];decide)] at q
   exact q
 ·exact e0.hok.fresh (Nat.le_of_lt (x.above y c (PySem.mem_of_lookup h)))
 ·unfold start
  show _=N.length
  rw[List.length_append,List.length_map,List.length_replicate]
  omega
theorem FN {CX:z9}{P:Program}{w:World}{K:PySem.W.Frag}{mg:Str->Option Value}{base:Heap}{k:Nat}{f:Addr}{name qual:Str}{params:Arguments}{body:List Stmt}{scope:Scope}{dV kV doc pm cdv ct oc:Value}{an od:Option Addr}
  {osl:Array (Option Value)}{N ps:List Str}{sp:Sp}(lk:K.lookup f=some ⟨oc,od,.func (PySem.W.fnOf name qual params body scope dV kV doc pm an cdv ct),osl⟩) (hcd:PySem.W.codeIn K cdv qual=true) (S:dZ N ps scope)
  (len:∀vs H Q E,sp vs H Q E->vs.length=ps.length)
  (hbody:∀ (A:Around) (outer:List Env) (s:Shared) (H:Hp) (vs:List V) (Q:VK) (E:XK),dH k (A.deeper (envOfC qual scope s.heap.objs.size f cdv))->sp vs H Q E ->
   ∃t,vO (wY CX P w K mg base N qual scope f cdv A outer s H E) body t/\t { nx:=fun _ H'=>Q .non H',rt:=Q } (start N vs) H) :
  j1 P w K mg base CX (k+1) f (PySem.W.fnOf name qual params body scope dV kV doc pm an cdv ct) ps sp:=by
 refine⟨len,fun A outer s H args us vs Q E hr e0 hb r hsp=>?_⟩
 have hl:=len _ _ _ _ hsp
 have KX:K.In s.heap:=e0.mod.kin.keeps fun b o e=>(e0.bs b o e).1
 have lim:s.heap.NoLimit:=e0.mod.nolimit.keeps fun b o e=>(e0.bs b o e).1
 have hkind:∀y∈ps.zip us,scope.names.lookup y.1=some .local \/ (scope.names.lookup y.1=some .cell/\((cellsFrom (s.heap.objs.size+1) scope.names []).lookup y.1).isSome=true):=fun ⟨n,v⟩ hy=>by
  rcases S.par n (List.of_mem_zip hy).1 with q|q
  ·exact .inl q
  ·exact .inr ⟨q,PySem.W.cellsFrom_some _ _ _ (.inl q)⟩
 refine codeAny_call_function hr.depth (KX _ _ lk) rfl S.co S.gen rfl (PySem.W.codeRec_of KX hcd) (hb _ _ _ _ ?_)
 refine wpAny_newFunctionEnv_cells S.kind hkind fun env he s1 x=>?_
 subst he
 refine⟨lim.keeps x.toInCall.keep,codeAny_func ?_⟩
 obtain⟨t,ht,hq⟩:=hbody A outer s H vs Q E (hr.deeper _) hsp
 have I:Inv (wY CX P w K mg base N qual scope f cdv A outer s H E) [] (start N vs) H s1:=Ap S hr.hd e0 hl r x
 refine wpAny_mono (ht [] s1 (start N vs) H _ I hq) (fun fl s' hs=>?_) fun e s' hs=>hs
 have fin:∀ {σ':St}{H':Hp}{v:V}{u:Value},Inv (wY CX P w K mg base N qual scope f cdv A outer s H E) [] σ' H' s'->RelV v u->Q v H'->CE outer P w H s Q u s' :=
  fun {σ' H' v u} J rv q=>⟨v,H',J.os,J.bare,J.base,J.hok,rv,q⟩
 cases fl with
 | ret u =>
  obtain⟨v,σ',H',J,rv,q⟩:=hs
  exact fin J rv q
 | next =>
  obtain⟨σ',H',J,q⟩:=hs
  exact fin (v:=V.non) (u:=Value.none) J rfl q
 | brk =>
  obtain⟨_,_,_,q⟩:=hs
  exact False.elim q
 | cont =>
  obtain⟨_,_,_,q⟩:=hs
  exact False.elim q
end L2
namespace L2
open PySem PySem.Spec PyProof.Rows
section
variable {X:Cx}{x:Str}{p pos:Pos}{e:Expr}{es:List Expr}{t:TA}{id T:String}{r:List V->Hp->VK->Prop}
noncomputable def Kq (r:List V->Hp->VK->Prop) (t:TA):TE:=fun σ H Q=>t σ H fun vs H1=>r vs H1 Q
theorem lr (hc:cD X (.builtin id) r) (hg:Gl X x) (hm:X.mg x=none) (hv:bootBuiltins x=some (.builtin id)) (ha:PA X (e::es) t) (hn:x≠"__name__":=by decide) (hdb:(x == ("__debug__":Str))=false:=by decide)
  (he:starEach (e::es) X.env=(false,eval e X.env)::starEach es X.env:=by rfl) (hpl:(backTo pos (starEach es X.env)).any (·.1)=false:=by rfl):PE X (.Call (.Name x p) (e::es) [] pos) (Kq r t):=by
 intro pins s σ H Q I h
 refine wpAny_Call_Name_kw (iy I hg hm hv ?_ hn hdb)
 exact PyProof.Rows.callWith_builtin1 (bP (ha pos pins s σ H _ I h) fun us s1 ⟨vs,H1,I1,r1,q1⟩=>hc pins s1 σ H1 vs us Q I1 r1 q1) he hpl
theorem lW (hc:cD X (.type T) r) (hg:Gl X x) (hm:X.mg x=none) (hv:bootBuiltins x=some (.type T)) (ha:PA X (e::es) t) (hn:x≠"__name__":=by decide) (hdb:(x == ("__debug__":Str))=false:=by decide)
  (he:starEach (e::es) X.env=(false,eval e X.env)::starEach es X.env:=by rfl) (hpl:(backTo pos (starEach es X.env)).any (·.1)=false:=by rfl):PE X (.Call (.Name x p) (e::es) [] pos) (Kq r t):=by
 intro pins s σ H Q I h
 refine wpAny_Call_Name_kw (iy I hg hm hv ?_ hn hdb)
 exact PyProof.Rows.callWith_type1 (bP (ha pos pins s σ H _ I h) fun us s1 ⟨vs,H1,I1,r1,q1⟩=>hc pins s1 σ H1 vs us Q I1 r1 q1) he hpl
end
end L2
namespace HT
open PySem PyProof.Rows
noncomputable def lexLt:List Int->List Int->Bool
 | [],[]=>false
 | [],_::_=>true
 | _::_,[]=>false
 | x::xs,y::ys=>if x=y then lexLt xs ys else decide (x < y)
theorem da (x y:Int) (xs ys:List Int):lexLt (x::xs) (y::ys)=if x=y then lexLt xs ys else decide (x < y):=rfl
theorem p6:lexLt [] []=false:=rfl
theorem pd (y:Int) (ys:List Int):lexLt [] (y::ys)=true:=rfl
theorem oN (x:Int) (xs:List Int):lexLt (x::xs) []=false:=rfl
theorem Cu (A:Around) (s:Shared) (a:Int) (t:Tok) (c:Int) (u:Tok):∃e,SeqAt.EqAt A s (.int a t) (.int c u) e/\(e=true↔a=c) :=
 ⟨(a == c),SeqAt.EqAt.int_int a t c u,by simp⟩
section
open PySem.SeqAt
open PySem.AutoSeq1 (wpAny_loadPart')
open PySem.MeetsSeq PySem.MeetsSeq2 PySem.MeetsSeq3
end
section
variable {prog:Program}{w:World}{A:Around}{E:Value->Shared->Prop}{s:Shared}
theorem Dx {t b:Addr}{vs ws:List Value}{Q:Value->Shared->Prop}(ht:IsTup s.heap t vs.toArray) (hb:IsTup s.heap b ws.toArray) (hv:vs≠[])
  (h1:ws=[]->Q (.ref t) s) (h2:ws≠[]->Q (.ref s.heap.objs.size) { s with heap:=s.heap.push { cls:=.type "tuple",data:=.seq (vs++ws).toArray } })
  (hsz:vs.length+ws.length<=sizeLine):wpAny (model prog w) A (binaryOp .Add (.ref t) (.ref b)) Q E s:=by
 obtain⟨⟨cls,dd,data,sl⟩,ho,hc,n,hd⟩:=id ht
 obtain⟨⟨cls2,dd2,data2,sl2⟩,ho2,hc2,n2,hd2⟩:=id hb
 simp only at hc hd hc2 hd2
 subst hc hd hc2 hd2
 have e:vs.toArray++ws.toArray=(vs++ws).toArray:=by simp
 by_cases hw:ws=[]
 ·exact concat_meets ⟨_,ho,rfl⟩ ⟨_,ho2,rfl⟩ noFill_tuple_add seq_tuple_add PySem.F.slot_tuple_add PySem.F.entry_tuple_add (PySem.F.args_tuple_add_2 _ _)
   (tuple_addW1 t b vs.toArray ws.toArray n n2 dd dd2 sl sl2 (by simpa using hv) (by simp[hw])) ⟨ho,ho2,h1 hw⟩
 ·refine concat_meets ⟨_,ho,rfl⟩ ⟨_,ho2,rfl⟩ noFill_tuple_add seq_tuple_add PySem.F.slot_tuple_add PySem.F.entry_tuple_add (PySem.F.args_tuple_add_2 _ _)
   (tuple_addW2 t b vs.toArray ws.toArray n n2 dd dd2 sl sl2 (by simpa using hv) (by simpa using hw) (by rw[List.size_toArray,List.size_toArray];exact hsz)) ⟨ho,ho2,?_⟩
  rw[e]
  exact h2 hw
noncomputable def cn (n d:Nat):Option Int->Nat
 | none=>d
 | some v=>if v < 0 then (v+(n:Int)).toNat else min v.toNat n
theorem u6 (n d:Nat):cn n d none=d:=rfl
theorem xP (n d k:Nat):cn n d (some (k:Int))=min k n:=by
 show (if (k:Int) < 0 then ((k:Int)+(n:Int)).toNat else min (k:Int).toNat n)=min k n
 rw[if_neg (by omega),Int.toNat_natCast]
theorem GM (n d:Nat) (hd:d<=n) (o:Option Int):cn n d o<=n:=by
 cases o with
 | none=>exact hd
 | some v =>
  show (if v < 0 then (v+(n:Int)).toNat else min v.toNat n)<=n
  by_cases hv:v < 0
  ·rw[if_pos hv];omega
  ·rw[if_neg hv];exact Nat.min_le_right _ _
theorem yL (v:Int) (n d:Nat):(if v < 0 then max (v+(n:Int)) 0 else min v (n:Int))=((cn n d (some v):Nat):Int):=by
 show (if v < 0 then max (v+(n:Int)) 0 else min v (n:Int))=(((if v < 0 then (v+(n:Int)).toNat else min v.toNat n):Nat):Int)
 by_cases hv:v < 0
 ·simp only[if_pos hv];omega
 ·simp only[if_neg hv];omega
theorem wM (lo hi:Option Int) (n:Nat):Builtin.Slice.sliceAdjust lo hi 1 (n:Int)=(((cn n 0 lo:Nat):Int),((cn n n hi:Nat):Int)):=by
 have h1:¬ ((1:Int) < 0):=by omega
 unfold Builtin.Slice.sliceAdjust
 simp only[h1,if_false]
 refine Prod.ext ?_ ?_
 ·cases lo with
  | none=>rfl
  | some v=>exact yL v n 0
 ·cases hi with
  | none=>rfl
  | some v=>exact yL v n n
theorem wC (i j:Nat):Builtin.Slice.slicePlaces (i:Int) (j:Int) 1=j - i:=by
 unfold Builtin.Slice.slicePlaces
 have h1:(1:Int) > 0:=by omega
 simp only[h1,if_true,Int.ediv_one]
 split<;>omega
theorem o4 {v:Value}{o:Option Int}{Q:Option Int->Shared->Prop}(p:IsPart v o) (h:Q o s):wpAny (model prog w) A (Builtin.Slice.slicePartIndex v) Q E s:=by
 cases p with
 | none=>exact slicePart_none h
 | int i t=>exact slicePart_int h
theorem gD {sl:Addr}{vl vu:Value}{lo hi:Option Int}{n:Nat}{Q:Int×Int×Nat->Shared->Prop}(hs:s.heap.IsSliceOf sl vl vu .none) (pl:IsPart vl lo) (pu:IsPart vu hi)
  (h:Q (((cn n 0 lo:Nat):Int),1,cn n n hi - cn n 0 lo) s):wpAny (model prog w) A (Builtin.Slice.sliceApplied (.ref sl) (pure (n:Int))) Q E s:=by
 obtain⟨os,hos,hcs,hds⟩:=id hs
 unfold Builtin.Slice.sliceApplied Builtin.Slice.sliceFields
 refine wpAny_bind (wpAny_bind (wpAny_field hos hds (x:=vl) rfl (wpAny_bind (wpAny_field hos hds (x:=vu) rfl (wpAny_bind (wpAny_field hos hds (x:=.none) rfl (wpAny_pure ?_)))))))
 refine wpAny_bind (slicePart_none ?_)
 show wpAny _ _ (if ((1:Int) == 0)=true then _ else _) _ _ s
 rw[if_neg (by decide)]
 refine wpAny_bind (o4 pl (wpAny_bind (o4 pu (wpAny_bind (wpAny_pure ?_)))))
 show wpAny _ _ (match Builtin.Slice.sliceAdjust lo hi 1 (n:Int) with|(lo,hi)=>pure (lo,(1:Int),Builtin.Slice.slicePlaces lo hi 1)) _ _ s
 rw[wM lo hi n]
 show wpAny _ _ (pure (((cn n 0 lo:Nat):Int),(1:Int),Builtin.Slice.slicePlaces ((cn n 0 lo:Nat):Int) ((cn n n hi:Nat):Int) 1)) _ _ s
 rw[wC]
 exact wpAny_pure h
theorem BH (xs:Array Value) (i k:Nat):((List.range k).filterMap fun (m:Nat)=>xs[((i:Int)+(m:Int) * 1).toNat]?).toArray=((xs.toList.drop i).take k).toArray:=by
 have e:(fun (m:Nat)=>xs[((i:Int)+(m:Int) * 1).toNat]?)=fun m=>xs[i+m]?:=by
  funext m
  have:((i:Int)+(m:Int) * 1).toNat=i+m:=by omega
  rw[this]
 rw[e]
 have:=pick_run xs i k
 rw[List.filterMap_map] at this
 have e2:((fun x=>xs[x]?) ∘ fun x=>i+x)=fun m=>xs[i+m]?:=rfl
 rw[e2] at this
 rw[this]
theorem kH {t sl:Addr}{items:Array Value}{vl vu:Value}{lo hi:Option Int}{Q:Value->Shared->Prop}(ht:IsTup s.heap t items) (hs:s.heap.IsSliceOf sl vl vu .none) (pl:IsPart vl lo) (pu:IsPart vu hi)
  (hw:¬ (cn items.size 0 lo=0/\cn items.size items.size hi=items.size))
  (h:Q (.ref s.heap.objs.size) { s with heap:=s.heap.push { cls:=.type "tuple",data:=.seq ((items.toList.drop (cn items.size 0 lo)).take (cn items.size items.size hi - cn items.size 0 lo)).toArray } })
  (hsz:items.size<=sizeLine):wpAny (model prog w) A (getItem (.ref t) (.ref sl)) Q E s:=by
 have htake:sizeOk (.seq ((items.toList.drop (cn items.size 0 lo)).take (cn items.size items.size hi - cn items.size 0 lo)).toArray):=by
  show ((items.toList.drop (cn items.size 0 lo)).take (cn items.size items.size hi - cn items.size 0 lo)).toArray.size<=sizeLine
  rw[List.size_toArray,List.length_take,List.length_drop,Array.length_toList]
  omega
 have hj:cn items.size items.size hi<=items.size:=GM _ _ (Nat.le_refl _) hi
 obtain⟨os,hos,hcs,hds⟩:=id hs
 have hTs:s.TypeIs (.ref sl) "slice":=⟨os,hos,hcs⟩
 unfold getItem
 try with_reducible refine wpAny_holding ?_
 first|refine wpAny_bind (wpAny_pure ?_)|skip
 refine wpAny_bind (wpAny_sequenceKey ht.typeIs (by decide) ?_)
 refine wpAny_bind (wpAny_callSpecial?_slot (name:=Str.ofString "__getitem__") ht.typeIs PyProof.Rows.slot_tuple_getitem
  (wpAny_call_entry PyProof.Rows.slot_tuple_getitem ht.typeIs entry_tuple_getitem ?_ (args_tuple_getitem _ _)))
 show wpAny _ _ (Builtin.Tuple.tupleItemsOf (.ref t) >>= _) _ _ s
 refine wpAny_bind (tupleItemsOf_ ht ?_)
 refine wpAny_bind (wpAny_typeOf hTs ?_)
 rw[if_pos (by decide)]
 refine wpAny_bind (gD hs pl pu ?_)
 have hno:¬ ((((cn items.size 0 lo:Nat):Int) == 0&&(1:Int) == 1&&(cn items.size items.size hi - cn items.size 0 lo) == items.size)=true):=by
  intro q
  rw[Bool.and_eq_true,Bool.and_eq_true] at q
  have q1:((cn items.size 0 lo:Nat):Int)=0:=eq_of_beq q.1.1
  have q2:cn items.size items.size hi - cn items.size 0 lo=items.size:=eq_of_beq q.2
  exact hw ⟨by omega,by omega⟩
 show wpAny _ _ (if (((cn items.size 0 lo:Nat):Int) == 0&&(1:Int) == 1&&(cn items.size items.size hi - cn items.size 0 lo) == items.size)=true then _ else _) _ _ s
 rw[if_neg hno,BH]
 first
  | exact wpAny_bind (m:=Builtin.Tuple.tupleExact _) (wpAny_newObj_type (wpAny_pure ⟨_,rfl,wpAny_pure h⟩) htake)
  | exact wpAny_bind (m:=Builtin.Tuple.tupleExact _) (wpAny_newObj_type (wpAny_bind (wpAny_pure (wpAny_pure ⟨_,rfl,wpAny_pure h⟩))) htake)
  | exact wpAny_bind (wpAny_bind (m:=Builtin.Tuple.tupleExact _) (wpAny_newObj_type (wpAny_pure (wpAny_pure ⟨_,rfl,wpAny_pure h⟩)) htake))
  | exact wpAny_bind (wpAny_bind (m:=Builtin.Tuple.tupleExact _) (wpAny_newObj_type (wpAny_pure ⟨_,rfl,wpAny_pure h⟩) htake))
end
end HT
namespace L2
open PySem PySem.Spec PyProof.Rows
noncomputable abbrev TO:=St->Hp->(Option Int->Hp->Prop)->Prop
noncomputable def PO (X:Cx) (e:Option Expr) (t:TO):Prop :=
 ∀ (pins:List (Addr×Obj)) (s:Shared) (σ:St) (H:Hp) (Q:Option Int->Hp->Prop),Inv X pins σ H s->t σ H Q ->
  wpAny (model X.prog X.w) X.A (evalPart e X.env) (fun u s'=>∃o H',Inv X pins σ H' s'/\IsPart u o/\Q o H') X.xe s
noncomputable def EG:TO:=fun _ H Q=>Q none H
noncomputable def JN (t:TE):TO:=fun σ H Q=>t σ H fun x H1=>∃i,x=.int i/\Q (some i) H1
theorem intsAre_of {ns:List Int}:∀ {us:List Value},az (ns.map V.int) us->IntsAre us ns:=by
 induction ns with
 | nil=>intro us r;rw[List.map_nil] at r;cases r;exact .nil
 | cons n ns ih =>
  intro us r
  rw[List.map_cons] at r
  cases r with
  | cons r1 r2 =>
   obtain⟨t,e⟩:=r1
   subst e
   exact .cons n t (ih r2)
section
variable {X:Cx}{e:Expr}{te:TE}{lo hi:Option Expr}{tl th:TO}{pos p2:Pos}
theorem Ep:PO X none EG:=by
 intro pins s σ H Q I h
 rw[evalPart_none]
 exact wpAny_pure ⟨none,H,I,.none,h⟩
theorem nj (h:PE X e te):PO X (some e) (JN te):=by
 intro pins s σ H Q I hw
 rw[evalPart_some]
 refine bP (h pins s σ H _ I hw) fun u s1 ⟨x,H1,I1,r1,q1⟩=>?_
 obtain⟨i,rfl,q⟩:=q1
 obtain⟨t,rfl⟩:=r1
 exact⟨some i,H1,I1,.int i t,q⟩
noncomputable def Fk (X:Cx) (r:V->Option Int->Option Int->Hp->VK->Prop):Prop :=
 ∀ (pins:List (Addr×Obj)) (s:Shared) (σ:St) (H:Hp) (x:V) (v vl vu:Value) (lo hi:Option Int) (sl:Addr) (Q:VK),Inv X pins σ H s->RelV x v->s.heap.IsSliceOf sl vl vu .none->IsPart vl lo->IsPart vu hi->r x lo hi H Q ->
  ∃T id,typeLookup (.type T) "__getitem__"=pure (some (.builtin id))/\s.TypeIs v T/\wpAny (model X.prog X.w) X.A (getItem v (.ref sl)) (EP X pins σ Q) X.xe s
theorem Fk.or {r r':V->Option Int->Option Int->Hp->VK->Prop}(h:Fk X r) (h':Fk X r'):Fk X (fun x lo hi H Q=>r x lo hi H Q\/r' x lo hi H Q):=by
 intro pins s σ H x v vl vu lo hi sl Q I rx hs pl pu q
 rcases q with q|q
 ·exact h pins s σ H x v vl vu lo hi sl Q I rx hs pl pu q
 ·exact h' pins s σ H x v vl vu lo hi sl Q I rx hs pl pu q
noncomputable def L4 (r:V->Option Int->Option Int->Hp->VK->Prop) (te:TE) (tl th:TO):TE:=fun σ H Q=>te σ H fun x H1=>tl σ H1 fun l H2=>th σ H2 fun u H3=>r x l u H3 Q
theorem CN {r:V->Option Int->Option Int->Hp->VK->Prop}(hr:Fk X r) (he:PE X e te) (hl:PO X lo tl) (hu:PO X hi th):PE X (.Subscript e (.Slice lo hi none p2) pos) (L4 r te tl th):=by
 intro pins s σ H Q I h
 refine Subscript_ (bP (he pins s σ H _ I h) fun v s1 ⟨x,H1,I1,r1,q1⟩=>?_)
 refine wpAny_Slice (bP (hl pins s1 σ H1 _ I1 q1) fun vl s2 ⟨l,H2,I2,pl,q2⟩=>bP (hu pins s2 σ H2 _ I2 q2) fun vu s3 ⟨u,H3,I3,pu,q3⟩=>?_)
 rw[evalPart_none]
 refine wpAny_pure ?_
 have I4:Inv X pins σ H3 { s3 with heap:=s3.heap.push { cls:=.type "slice",data:=.fields #[vl,vu,.none] } }:=I3.kept (t':=s3.toks) fun b ob q=>Heap.get?_push_of_some _ q
 obtain⟨T,id,hT,ht,hg⟩:=hr pins { s3 with heap:=s3.heap.push { cls:=.type "slice",data:=.fields #[vl,vu,.none] } } σ H3 x v vl vu l u s3.heap.objs.size Q I4 r1 (Heap.IsSliceOf.new ..) pl pu q3
 show wpAny (model X.prog X.w) X.A (subscriptTail e (.Slice lo hi none p2) v (.ref s3.heap.objs.size)) (EP X pins σ Q) X.xe { s3 with heap:=s3.heap.push { cls:=.type "slice",data:=.fields #[vl,vu,.none] } }
 exact tail_any (ops:=[.ref s3.heap.objs.size,v]) ht hT hg (by with_unfolding_all rfl)
noncomputable def zB (xs:List V) (lo hi:Option Int):List V:=(xs.drop (HT.cn xs.length 0 lo)).take (HT.cn xs.length xs.length hi - HT.cn xs.length 0 lo)
theorem mK (xs:List V) (lo hi:Option Int):(zB xs lo hi).length<=xs.length:=by
 unfold zB
 rw[List.length_take,List.length_drop]
 omega
noncomputable def KE (K:PySem.W.Frag):V->Option Int->Option Int->Hp->VK->Prop:=fun x lo hi H Q=>∃a xs,x=.ref a/\iM K H a xs /\
 ¬ (HT.cn xs.length 0 lo=0/\HT.cn xs.length xs.length hi=xs.length)/\∀p,H p=none->Q (.ref p) (upd H p (.tup (zB xs lo hi)))
theorem GU:Fk X (KE X.K):=by
 intro pins s σ H x v vl vu lo hi sl Q I rx hs pl pu h
 obtain⟨a,xs,rfl,hx,hw,q⟩:=h
 cases rx
 obtain⟨its,r,ht,hz⟩:=I.tuple hx
 have hlen:its.toArray.size=xs.length:=by rw[List.size_toArray];exact r.length.symm
 refine⟨"tuple",_,PyProof.Rows.slot_tuple_getitem.lookup,ht.typeIs,?_⟩
 refine HT.kH ht hs pl pu (by rw[hlen];exact hw) ?_ (by rw[hlen];exact hz)
 rw[hlen]
 refine⟨.ref s.heap.objs.size,_,I.laid (t':=s.toks) (o:=.tup (zB xs lo hi)) (fun b ob q=>Heap.get?_push_of_some _ q) (Nat.le_refl _) ?_,rfl,q _ (I.hok.fresh (Nat.le_refl _))⟩
 exact⟨Nat.le_trans (mK xs lo hi) hz,_,(r.drop (HT.cn xs.length 0 lo)).take (HT.cn xs.length xs.length hi - HT.cn xs.length 0 lo),lQ.new _ _⟩
noncomputable def JG (K:PySem.W.Frag):R2:=fun x y H Q=>∃a b xs ys,x=.ref a/\y=.ref b/\iM K H a xs/\iM K H b ys/\xs≠[]/\xs.length+ys.length<=sizeLine /\
 (ys=[]->Q (.ref a) H)/\(ys≠[]->∀p,H p=none->Q (.ref p) (upd H p (.tup (xs++ys))))
theorem az.nil_iff {xs:List V}{us:List Value}(r:az xs us):us=[]↔xs=[]:=by
 cases r with
 | nil=>simp
 | cons _ _=>simp
theorem E7:gA X (binaryOp .Add) (JG X.K):=by
 intro pins s σ H x y v u Q I rx ry h
 obtain⟨a,b,xs,ys,rfl,rfl,ha,hb,hx,hz,q1,q2⟩:=h
 cases rx
 cases ry
 obtain⟨its,r1,p1,_⟩:=I.tuple ha
 obtain⟨its2,r2,p2,_⟩:=I.tuple hb
 refine HT.Dx p1 p2 (fun z=>hx (r1.nil_iff.mp z)) (fun z=>⟨.ref a,H,I,rfl,q1 (r2.nil_iff.mp z)⟩) (fun z=>?_) (by rw[<- r1.length,<- r2.length];exact hz)
 refine⟨.ref s.heap.objs.size,_,I.laid (t':=s.toks) (o:=.tup (xs++ys)) (fun b ob q=>Heap.get?_push_of_some _ q) (Nat.le_refl _) ?_,rfl,q2 (fun w=>z (r2.nil_iff.mpr w)) _ (I.hok.fresh (Nat.le_refl _))⟩
 exact⟨by rw[List.length_append];exact hz,_,r1.append r2,lQ.new _ _⟩
end
end L2
namespace L2
open PySem PySem.Spec PyProof.Rows
noncomputable def Dm (n:Nat) (i:Int):Option Nat:=if 0<=i then (if i < n then some i.toNat else none) else if -(n:Int)<=i then some (i+n).toNat else none
noncomputable def sH {α:Type}(xs:List α) (i:Int):Option α:=(Dm xs.length i).bind fun j=>xs[j]?
theorem xU {n:Nat}{i:Int}{j:Nat}(h:Dm n i=some j):seqIndex? i n=some j/\j < n/\-(n:Int)<=i/\i < n:=by
 unfold Dm at h
 by_cases h0:0<=i
 ·rw[if_pos h0] at h
  by_cases h1:i < n
  ·rw[if_pos h1] at h
   have e:i.toNat=j:=Option.some.inj h
   exact⟨by rw[seqIndex_of h0 h1,e],by omega,by omega,h1⟩
  ·rw[if_neg h1] at h;cases h
 ·rw[if_neg h0] at h
  by_cases h1:-(n:Int)<=i
  ·rw[if_pos h1] at h
   have e:(i+n).toNat=j:=Option.some.inj h
   exact⟨by rw[seqIndex_neg (by omega) h1,e],by omega,h1,by omega⟩
  ·rw[if_neg h1] at h;cases h
theorem r8 {α:Type}{xs:List α}{i:Int}{v:α}(h:sH xs i=some v):∃j,seqIndex? i xs.length=some j/\xs[j]?=some v/\j < xs.length/\-(xs.length:Int)<=i/\i < xs.length:=by
 unfold sH at h
 cases e:Dm xs.length i with
 | none=>rw[e] at h;cases h
 | some j =>
  rw[e] at h
  obtain⟨h1,h2,h3,h4⟩:=xU e
  exact⟨j,h1,h,h2,h3,h4⟩
theorem sZ {α:Type}{xs:List α}{j:Nat}{v:α}(h:xs[j]?=some v):sH xs (j:Int)=some v:=by
 have hj:j < xs.length:=(List.getElem?_eq_some_iff.mp h).1
 have e:Dm xs.length (j:Int)=some j:=by
  unfold Dm
  rw[if_pos (by omega),if_pos (by omega)];simp
 unfold sH;rw[e];exact h
noncomputable def sj (b:Expr):Prop:=∀o i,subscripted b false o i=operate [o,i] (getItem o i)
noncomputable def Dv (X:Cx) (r:R2):Prop :=
 ∀ (value slice:Expr) (pins:List (Addr×Obj)) (s:Shared) (σ:St) (H:Hp) (x y:V) (v u:Value) (Q:VK),Inv X pins σ H s->RelV x v->RelV y u->r x y H Q ->
  subscripted slice false v u=operate [v,u] (getItem v u)->wpAny (model X.prog X.w) X.A (subscriptTail value slice v u) (EP X pins σ Q) X.xe s
noncomputable def IZ (X:Cx) (id:String) (r:V->List V->Hp->VK->Prop):Prop :=
 ∀ (pins:List (Addr×Obj)) (s:Shared) (σ:St) (H:Hp) (x:V) (xs:List V) (v:Value) (us:List Value) (Q:VK),Inv X pins σ H s->RelV x v->az xs us->r x xs H Q ->
  wpAny (model X.prog X.w) X.A (call (.builtin id) (v::us)) (EP X pins σ Q) X.xe s
section
variable {X:Cx}{a b:Expr}{ta tb:TE}{pos:Pos}
theorem Dv.or {r r':R2}(h:Dv X r) (h':Dv X r'):Dv X (fun x y H Q=>r x y H Q\/r' x y H Q):=by
 intro value slice pins s σ H x y v u Q I rx ry q hs
 rcases q with q|q
 ·exact h value slice pins s σ H x y v u Q I rx ry q hs
 ·exact h' value slice pins s σ H x y v u Q I rx ry q hs
theorem IZ.or {id:String}{r r':V->List V->Hp->VK->Prop}(h:IZ X id r) (h':IZ X id r'):IZ X id (fun x xs H Q=>r x xs H Q\/r' x xs H Q):=by
 intro pins s σ H x xs v us Q I rx rs q
 rcases q with q|q
 ·exact h pins s σ H x xs v us Q I rx rs q
 ·exact h' pins s σ H x xs v us Q I rx rs q
theorem Ke {r:R2}(hr:Dv X r) (ha:PE X a ta) (hb:PE X b tb) (hs:sj b):PE X (.Subscript a b pos) (JR r ta tb):=by
 intro pins s σ H Q I h
 exact Subscript_ (G0 ha hb I h fun v u s2 x y H2 I2 rx ry q=>hr a b pins s2 σ H2 x y v u Q I2 rx ry q (hs _ _))
noncomputable def J2 (K:PySem.W.Frag):R2:=fun x y H Q=>∃p xs i v,x=.ref p/\y=.int i/\gT K H p xs/\sH xs i=some v/\Q v H
noncomputable def JB (K:PySem.W.Frag):R2:=fun x y H Q=>∃p xs i v,x=.ref p/\y=.int i/\iM K H p xs/\sH xs i=some v/\Q v H
noncomputable def JJ:R2:=fun x y H Q=>∃z i c,x=.str z/\y=.int i/\z.length<=sizeLine/\sH z.cps.toList i=some c/\Q (.str ⟨#[c]⟩) H
theorem Ed:Dv X (J2 X.K):=by
 intro value slice pins s σ H x y v u Q I rx ry h hs
 obtain⟨p,xs,i,z,rfl,rfl,hq,he,q⟩:=h
 cases rx
 obtain⟨t,rfl⟩:=ry
 obtain⟨its,r,pl,hz⟩:=I.list hq
 obtain⟨j,h1,h2,h3,h4,h5⟩:=r8 he
 obtain⟨w,ew,rw'⟩:=r.get h2
 have hl:=r.length
 have hn:=oG
 have fin:EP X pins σ Q w s:=⟨z,H,I,rw',q⟩
 by_cases h0:0<=i
 ·have hj:i.toNat=j:=by
   rw[seqIndex_of h0 h5] at h1
   exact Option.some.inj h1
  exact item_listR pl.isList h0 (by omega) (by rw[hj];simpa using ew) fin hs
 ·have hj:(i+(its.toArray.size:Int)).toNat=j:=by
   rw[seqIndex_neg (by omega) h4] at h1
   rw[List.size_toArray,<- hl]
   exact Option.some.inj h1
  exact subscriptTail_builtinR (x:=w) pl.isList.typeIs slot_list_getitem.lookup
   (wpAny_getItem_list_neg (Q:=fun r s'=>r=w/\EP X pins σ Q r s') pl.isList (by omega) (by rw[List.size_toArray]<;>omega) (by omega) (by rw[hj];simpa using ew) ⟨rfl,fin⟩) hs
theorem oq:Dv X (JB X.K):=by
 intro value slice pins s σ H x y v u Q I rx ry h hs
 obtain⟨p,xs,i,z,rfl,rfl,hq,he,q⟩:=h
 cases rx
 obtain⟨t,rfl⟩:=ry
 obtain⟨its,r,pl,hz⟩:=I.tuple hq
 obtain⟨j,h1,h2,h3,h4,h5⟩:=r8 he
 obtain⟨w,ew,rw'⟩:=r.get h2
 have hl:=r.length
 have hn:=oG
 have fin:EP X pins σ Q w s:=⟨z,H,I,rw',q⟩
 exact subscriptTail_builtinR (x:=w) pl.typeIs slot_tuple_getitem.lookup
  (getItem_tuple (j:=j) (Q:=fun r s'=>r=w/\EP X pins σ Q r s') pl (by omega) (by omega) (by rw[List.size_toArray,<- hl];exact h1) (by simpa using ew) ⟨rfl,fin⟩) hs
theorem Hh:Dv X JJ:=by
 intro value slice pins s σ H x y v u Q I rx ry h hs
 obtain⟨z,i,c,rfl,rfl,hz,he,q⟩:=h
 obtain⟨t,rfl⟩:=rx
 obtain⟨t',rfl⟩:=ry
 obtain⟨j,h1,h2,h3,h4,h5⟩:=r8 he
 have hl:z.cps.toList.length=z.length:=by simp[Str.length]
 rw[hl] at h1 h4 h5
 have hn:=oG
 exact tail_any (typeIs_str s z t) slot_str_getitem.lookup (getItem_str (c:=c) (by
  have e1:decide (i < -(2 ^ 63:Int))=false:=decide_eq_false (by omega)
  have e2:decide (i >= 2 ^ 63)=false:=decide_eq_false (by omega)
  rw[e1,e2,Bool.or_false]) (by rw[h1];simpa using h2) ⟨.str ⟨#[c]⟩,H,I.tok _,⟨_,rfl⟩,q⟩) hs
noncomputable def LM (K:PySem.W.Frag):R2:=fun x y H Q=>J2 K x y H Q\/JB K x y H Q\/JJ x y H Q
theorem HL:Dv X (LM X.K):=Ed.or (oq.or Hh)
theorem wV (its:List Value) (n j:Nat) (u:Value):Obj.mapSeq (·.setIfInBounds j u) { cls:=.type "list",data:=.seq its.toArray n }={ cls:=.type "list",data:=.seq (its.set j u).toArray n }:=by
 simp[Obj.mapSeq]
theorem Inv.lst {pins:List (Addr×Obj)}{σ:St}{H:Hp}{s:Shared}{p:Addr}{xs:List V}(I:Inv X pins σ H s) (h:H p=some (.lst xs)) :
  ∃ (its:List Value) (n:Nat),az xs its/\s.heap.get? p=some { cls:=.type "list",data:=.seq its.toArray n }/\xs.length<=sizeLine:=by
 obtain⟨z,its,n,r,e⟩:=I.hok p _ h
 exact⟨its,n,r,e,z⟩
theorem Inv.lstUpd {pins:List (Addr×Obj)}{σ:St}{H:Hp}{s:Shared}{p:Addr}{xs ys:List V}{its its':List Value}{n n':Nat}{f:Obj->Obj}(I:Inv X pins σ H s) (h:H p=some (.lst xs))
  (ho:s.heap.get? p=some { cls:=.type "list",data:=.seq its.toArray n }) (hf:f { cls:=.type "list",data:=.seq its.toArray n }={ cls:=.type "list",data:=.seq its'.toArray n' }) (r:az ys its') (hz:ys.length<=sizeLine) (t:Nat) :
  Inv X pins σ (upd H p (.lst ys)) { s with heap:=s.heap.update p f,toks:=t }:=by
 have e:(s.heap.update p f).get? p=some { cls:=.type "list",data:=.seq its'.toArray n' }:=by
  rw[Heap.get?_update_self f ho (by rw[hf]<;>rfl),hf]
 refine I.write (x:=p) (e:=p) (by rw[h];trivial) (.inl rfl) (fun b u hb q=>(Heap.get?_update_other _ _ (Ne.symm hb)).trans q) ⟨_,e⟩ ?_
 exact⟨hz,its',n',r,e⟩
noncomputable def Jk:V->V->V->Hp->(Hp->Prop)->Prop:=fun o i v H Q=>∃p xs k j,o=.ref p/\i=.int k/\H p=some (.lst xs)/\Dm xs.length k=some j/\Q (upd H p (.lst (xs.set j v)))
theorem set_list:Jg X Jk:=by
 intro pins s σ H o i v ov iv u Q I ro ri rv h
 obtain⟨p,xs,k,j,rfl,rfl,hp,hj,q⟩:=h
 cases ro
 obtain⟨t,rfl⟩:=ri
 obtain⟨its,n,r,ho,hz⟩:=I.lst hp
 obtain⟨h1,h2,h3,h4⟩:=xU hj
 have hl:=r.length
 have hn:=oG
 have I':Inv X pins σ (upd H p (.lst (xs.set j v))) { s with heap:=s.heap.update p (Obj.mapSeq (·.setIfInBounds j u)) } :=
  I.lstUpd hp ho (wV its n j u) (r.set rv j) (by rw[List.length_set];exact hz) s.toks
 by_cases h0:0<=k
 ·have hk:k.toNat=j:=by
   rw[seqIndex_of h0 h4] at h1
   exact Option.some.inj h1
  exact PySem.W.ki_setAt ho h0 (by omega) (by rw[List.size_toArray,<- hl];exact h4) (by rw[hk];exact⟨_,I',q⟩)
 ·have hk:(k+(its.toArray.size:Int)).toNat=j:=by
   rw[seqIndex_neg (by omega) h3] at h1
   rw[List.size_toArray,<- hl]
   exact Option.some.inj h1
  exact PySem.W.ki_setBack ho (by omega) (by rw[List.size_toArray,<- hl];exact h3) (by omega) (by rw[hk];exact⟨_,I',q⟩)
theorem sE (lo hi:Option Int) (n:Nat):(sliceBounds lo hi none n).1=((HT.cn n 0 lo:Nat):Int)/\(sliceBounds lo hi none n).2.1=((HT.cn n n hi:Nat):Int)/\(sliceBounds lo hi none n).2.2=1:=by
 refine⟨?_,?_,rfl⟩
 ·cases lo with
  | none=>simp[sliceBounds,HT.cn]
  | some i =>
   simp only[sliceBounds,HT.cn,Option.getD_none,show (1:Int) > 0 by decide,if_true]
   by_cases h:i < 0
   ·simp only[h,if_true]<;>omega
   ·simp only[h,if_false]<;>omega
 ·cases hi with
  | none=>simp[sliceBounds,HT.cn]
  | some i =>
   simp only[sliceBounds,HT.cn,Option.getD_none,show (1:Int) > 0 by decide,if_true]
   by_cases h:i < 0
   ·simp only[h,if_true]<;>omega
   ·simp only[h,if_false]<;>omega
theorem qf (its:List Value) (lo hi:Option Int):slicePick its.toArray lo hi none=((its.drop (HT.cn its.length 0 lo)).take (HT.cn its.length its.length hi - HT.cn its.length 0 lo)).toArray:=by
 obtain⟨h1,h2,h3⟩:=sE lo hi its.toArray.size
 unfold slicePick
 rw[h1,h2,h3]
 simp only[sliceRange_one,pick_run,List.size_toArray]<;>rfl
noncomputable def HY (K:PySem.W.Frag):V->Option Int->Option Int->Hp->VK->Prop:=fun x lo hi H Q=>∃a xs,x=.ref a/\gT K H a xs/\∀p,H p=none->Q (.ref p) (upd H p (.lst (zB xs lo hi)))
theorem xH:Fk X (HY X.K):=by
 intro pins s σ H x v vl vu lo hi sl Q I rx hs pl pu h
 obtain⟨a,xs,rfl,hx,q⟩:=h
 cases rx
 obtain⟨its,r,ht,hz⟩:=I.list hx
 have hlen:=r.length
 refine⟨"list",_,slot_list_getitem.lookup,ht.isList.typeIs,?_⟩
 refine wpAny_getItem_list_slice ht.isList hs pl pu .none (by simp) ?_ (by rw[List.size_toArray]<;>omega)
 rw[qf,<- hlen]
 refine⟨.ref s.heap.objs.size,_,I.laid (t':=s.toks) (o:=.lst (zB xs lo hi)) (fun b ob q=>Heap.get?_push_of_some _ q) (Nat.le_refl _) ?_,rfl,q _ (I.hok.fresh (Nat.le_refl _))⟩
 exact⟨Nat.le_trans (mK xs lo hi) hz,_,0,(r.drop (HT.cn xs.length 0 lo)).take (HT.cn xs.length xs.length hi - HT.cn xs.length 0 lo),Heap.get?_push_size _ rfl⟩
theorem sW:cD X (.builtin "len") (fun xs H Q=>∃p ys,xs=[.ref p]/\(gT X.K H p ys\/iM X.K H p ys)/\Q (.int ys.length) H):=by
 intro pins s σ H xs us Q I r h
 obtain⟨p,ys,rfl,hq,q⟩:=h
 obtain⟨u,rfl,rx⟩:=vals1 r
 cases rx
 have hn:=oG
 rcases hq with hq|hq
 ·obtain⟨its,r',pl,hz⟩:=I.list hq
  have hlen:=r'.length
  exact Calls.call_len_list pl.isList (by simp only[List.size_toArray]<;>omega) ⟨.int ys.length,H,I.tok _,⟨s.toks+1,by rw[List.size_toArray,hlen]⟩,q⟩
 ·obtain⟨its,r',pl,hz⟩:=I.tuple hq
  have hlen:=r'.length
  exact len_tuple pl (by simp only[List.size_toArray]<;>omega) ⟨.int ys.length,H,I.tok _,⟨s.toks+1,by rw[List.size_toArray,hlen]⟩,q⟩
theorem cD.or {f:Value}{r r':List V->Hp->VK->Prop}(h:cD X f r) (h':cD X f r'):cD X f (fun xs H Q=>r xs H Q\/r' xs H Q):=by
 intro pins s σ H xs us Q I rs q
 rcases q with q|q
 ·exact h pins s σ H xs us Q I rs q
 ·exact h' pins s σ H xs us Q I rs q
theorem si:cD X (.type "list") (fun xs H Q=>∃p ys,xs=[.ref p]/\(gT X.K H p ys\/iM X.K H p ys)/\∀l,H l=none->Q (.ref l) (upd H l (.lst ys))):=by
 intro pins s σ H xs us Q I r h
 obtain⟨p,ys,rfl,hq,q⟩:=h
 obtain⟨u,rfl,rx⟩:=vals1 r
 cases rx
 have fin:∀ (its:List Value),az ys its->ys.length<=sizeLine->∀ (h':Heap) (c':Nat),(∀b o',s.heap.get? b=some o'->h'.get? b=some o') ->
   h'.get? s.heap.objs.size=some { cls:=.type "list",dict:=none,data:=.seq its.toArray c',slots:=#[] }->EP X pins σ Q (.ref s.heap.objs.size) { s with heap:=h' }:=fun its r' hz h' c' kp e =>
  ⟨.ref s.heap.objs.size,_,I.laid (t':=s.toks) kp (Nat.le_refl _) (show eF X.prog X.w _ h' _ (.lst ys) from ⟨hz,its,c',r',e⟩),rfl,q _ (I.hok.fresh (Nat.le_refl _))⟩
 rcases hq with hq|hq
 ·obtain⟨its,r',pl,hz⟩:=I.list hq
  have hlen:=r'.length
  obtain⟨o,ho,hc,n,hd⟩:=pl.isList
  exact call_list_seq p (.inl rfl) ho hc hd (fun h' c' kp e=>fin its r' hz h' c' kp e) (by simp only[List.size_toArray]<;>omega)
 ·obtain⟨its,r',pl,hz⟩:=I.tuple hq
  have hlen:=r'.length
  obtain⟨o,ho,hc,n,hd⟩:=pl
  exact call_list_seq p (.inr rfl) ho hc hd (fun h' c' kp e=>fin its r' hz h' c' kp e) (by simp only[List.size_toArray]<;>omega)
theorem pE:cD X (.type "tuple") (fun xs H Q=>∃p ys,xs=[.ref p]/\((gT X.K H p ys/\∀l,H l=none->Q (.ref l) (upd H l (.tup ys)))\/(iM X.K H p ys/\Q (.ref p) H))):=by
 intro pins s σ H xs us Q I r h
 obtain⟨p,ys,rfl,h⟩:=h
 obtain⟨u,rfl,rx⟩:=vals1 r
 cases rx
 rcases h with ⟨hq,q⟩|⟨hq,q⟩
 ·obtain⟨its,r',pl,hz⟩:=I.list hq
  have hlen:=r'.length
  refine call_tuple_list pl.isList (fun h' kp=>?_) (by simp only[List.size_toArray]<;>omega)
  have I1:Inv X pins σ H { s with heap:=h' }:=I.kept (t':=s.toks) kp
  have I2:Inv X pins σ (upd H h'.objs.size (.tup ys)) { s with heap:=h'.push { cls:=.type "tuple",data:=.seq its.toArray } } :=
   I1.laid (t':=s.toks) (fun b o e=>Heap.get?_push_of_some _ e) (Nat.le_refl _) (show eF X.prog X.w _ _ _ (.tup ys) from ⟨hz,its,r',lQ.new _ _⟩)
  exact⟨.ref h'.objs.size,_,I2,rfl,q _ (I1.hok.fresh (Nat.le_refl _))⟩
 ·obtain⟨its,r',pl,hz⟩:=I.tuple hq
  exact call_tuple_same pl ⟨.ref p,H,I,rfl,q⟩
noncomputable def LI (K:PySem.W.Frag) (T:String) (x:V) (H:Hp):Prop:=match x with
 | .str _=>T="str"
 | .int _=>T="int"
 | .ref p=>(T="list"/\∃xs,gT K H p xs)\/(T="tuple"/\∃xs,iM K H p xs) \/
   (T="dict"/\((∃kvs,H p=some (.dK kvs))\/∃kvs,H p=some (.dT kvs)))\/(T="set"/\∃S n,H p=some (.set S n))
 | _=>False
theorem Hg {pins:List (Addr×Obj)}{σ:St}{H:Hp}{s:Shared}{T:String}{x:V}{v:Value}(I:Inv X pins σ H s) (r:RelV x v) (ty:LI X.K T x H) :
  s.TypeIs v T/\∀a,v=.ref a->∃ob,s.heap.get? a=some ob/\ob.dict=none:=by
 cases x with
 | str z =>
  obtain⟨t,rfl⟩:=r
  cases (show T="str" from ty)
  exact⟨typeIs_str s z t,fun _ e=>nomatch e⟩
 | int i =>
  obtain⟨t,rfl⟩:=r
  cases (show T="int" from ty)
  exact⟨typeIs_int s i t,fun _ e=>nomatch e⟩
 | ref p =>
  cases r
  rcases ty with ⟨rfl,xs,hq⟩|⟨rfl,xs,hq⟩|⟨rfl,hk⟩|⟨rfl,S,n,hk⟩
  ·obtain⟨its,_,pl,_⟩:=I.list hq
   refine⟨pl.isList.typeIs,fun a e=>?_⟩
   cases e
   obtain⟨o,n,e,c,hd,_⟩:=pl
   exact⟨o,e,hd⟩
  ·rcases hq with hq|⟨o,its,n,hk,hc,hd,_⟩
   ·obtain⟨_,_,_,⟨o,e1,e2,_⟩,o2,e3,e4⟩:=hq.ok I.hok
    exact⟨⟨o,e1,e2⟩,fun a e=>by cases e;exact⟨o2,e3,e4⟩⟩
   ·exact⟨⟨o,I.kIn p o hk,hc⟩,fun a e=>by cases e;exact⟨o,I.kIn _ o hk,hd⟩⟩
  ·have z:∃o,s.heap.get? p=some o/\o.ExactDict:=by
    rcases hk with ⟨kvs,hk⟩|⟨kvs,hk⟩
    ·obtain⟨_,_,_,_,o,_,_,e,ex,_⟩:=I.hok p _ hk
     exact⟨o,e,ex⟩
    ·obtain⟨_,_,_,_,o,_,_,e,ex,_⟩:=I.hok p _ hk
     exact⟨o,e,ex⟩
   obtain⟨o,e,ex⟩:=z
   refine⟨⟨o,e,ex.1⟩,fun a e2=>?_⟩
   cases e2
   exact⟨o,e,ex.2.1⟩
  ·obtain⟨o,_,_,_,e,ex,_⟩:=I.hok p _ hk
   refine⟨⟨o,e,ex.1⟩,fun a e2=>?_⟩
   cases e2
   exact⟨o,e,ex.2.1⟩
 | _=>exact False.elim ty
noncomputable def LP (K:PySem.W.Frag) (T:String) (r:V->List V->Hp->VK->Prop) (to:TE) (t:TA):TE:=fun σ H Q=>to σ H fun x H1=>LI K T x H1/\t σ H1 fun xs H2=>r x xs H2 Q
variable {o e:Expr}{es:List Expr}{to:TE}{t:TA}{name:Str}{apos cpos:Pos}{T id:String}{r:V->List V->Hp->VK->Prop}
theorem qY (pa:PlainAttrs T) (slot:Slot T name id) (hty:typeOf (.builtin id)=pure (.type "method_descriptor")) (hm:IZ X id r) (ho:PE X o to) (ha:PA X (e::es) t)
  (hbase:attributeBase o name X.env (eval o X.env)=eval o X.env:=by rfl)
  (hfew:((backTo cpos (starEach (e::es) X.env)).all (fun x=>!x.1)&&(backToKw cpos (keywordEach [] X.env)).all (fun x=>x.1.isSome)
   &&decide ((e::es).length+([]:List Keyword).length+(if ([]:List Keyword).isEmpty then 0 else 1) < 30))=true:=by rfl)
  (hline:(apos.endLine == cpos.line)=true:=by rfl) (hs:starEach (e::es) X.env=(false,eval e X.env)::starEach es X.env:=by rfl) (hplain:(backTo cpos (starEach es X.env)).any (·.1)=false:=by rfl) :
  PE X (.Call (.Attribute o name apos) (e::es) [] cpos) (LP X.K T r to t):=by
 intro pins s σ H Q I h
 refine wpAny_Call_method_late hbase hfew hline rfl (bP (ho pins s σ H _ I h) fun v s1 ⟨x,H1,I1,r1,ty,q1⟩=>?_)
 obtain⟨h1,h2⟩:=Hg I1 r1 ty
 refine⟨T,id,pa,slot,hty,h1,h2,?_⟩
 have hA:=ha cpos pins s1 σ H1 _ I1 q1
 rw[hs] at hA ⊢
 refine Calls.callWith_builtin (by show (false||(backTo cpos (starEach es X.env)).any (·.1))=false;rw[hplain]<;>rfl) (Calls.evalArgs_plain ?_)
 exact bP hA fun us s2 ⟨vs,H2,I2,r2,q2⟩=>hm pins s2 σ H2 x vs v us Q I2 r1 r2 q2
/- xs.append(e),list.index on a module's tuple .. are IZ facts of 06m -/
end
end L2
namespace L2
open PySem PySem.Spec PyProof.Rows
noncomputable def Jb (X:Cx) (id:String) (r:V->List V->Hp->VK->Prop):Prop :=
 ∀ (pins:List (Addr×Obj)) (s:Shared) (σ:St) (H:Hp) (x:V) (xs:List V) (v:Value) (us:List Value) (Q:VK),Inv X pins σ H s->RelV x v->az xs us->r x xs H Q ->
  wpAny (model X.prog X.w) X.A (call (.builtin id) (v::us)) (EP X pins σ Q) X.xe s
theorem az.one:∀ {x:V}{us:List Value},az [x] us->∃u,us=[u]/\RelV x u
 | _,_,.cons r .nil=>⟨_,rfl,r⟩
theorem az.two:∀ {x y:V}{us:List Value},az [x,y] us->∃u v,us=[u,v]/\RelV x u/\RelV y v
 | _,_,_,.cons r (.cons q .nil)=>⟨_,_,rfl,r,q⟩
theorem az.reverse {xs:List V}{us:List Value}(h:az xs us):az xs.reverse us.reverse:=by
 induction h with
 | nil=>exact .nil
 | cons r t ih=>rw[List.reverse_cons,List.reverse_cons];exact az.append ih (.cons r .nil)
theorem az.rep {xs:List V}{us:List Value}(h:az xs us):∀k:Nat,az (List.replicate k xs).flatten (List.replicate k us).flatten
 | 0=>.nil
 | k+1=>by
  rw[List.replicate_succ,List.replicate_succ,List.flatten_cons,List.flatten_cons]
  exact az.append h (az.rep h k)
theorem foldl_rep (its:List Value):∀ (k:Nat) (acc:List Value),
  List.foldl (fun x1 x2=>x1++x2) acc.toArray (List.replicate k its.toArray)=(acc++(List.replicate k its).flatten).toArray
 | 0,acc=>by simp
 | k+1,acc=>by
  have e:acc.toArray++its.toArray=(acc++its).toArray:=by simp
  have e2:(acc++its)++(List.replicate k its).flatten=acc++(List.replicate (k+1) its).flatten:=by
   rw[List.replicate_succ,List.flatten_cons,List.append_assoc]
  rw[<- e2,<- foldl_rep its k (acc++its),<- e,List.replicate_succ,List.foldl_cons]
section
variable {X:Cx}{pins:List (Addr×Obj)}{σ:St}{H:Hp}{s:Shared}{l b:Addr}{xs ys zs:List V}
theorem Inv.lset {its its':List Value}{n:Nat}{f:Array Value->Array Value}{t':Nat}(I:Inv X pins σ H s) (hH:H l=some (.lst xs))
  (e:s.heap.get? l=some { cls:=.type "list",data:=.seq its.toArray n }) (hf:f its.toArray=its'.toArray) (hv:az ys its') (hz:ys.length<=sizeLine) :
  Inv X pins σ (upd H l (.lst ys)) { s with heap:=s.heap.update l (Obj.mapSeq f),toks:=t' }:=by
 have q:=PySem.IsL.update e f
 rw[hf] at q
 refine I.write (x:=l) (e:=l) (by rw[hH];exact trivial) (.inl rfl) (fun b' u hb hu=>(Heap.get?_update_other s.heap (Obj.mapSeq f) (Ne.symm hb)).trans hu) ⟨_,q⟩ ?_
 exact⟨hz,its',_,hv,q⟩
theorem Inv.lnew {its:List Value}{t':Nat}(I:Inv X pins σ H s) (hv:az ys its) (hz:ys.length<=sizeLine) :
  Inv X pins σ (upd H s.heap.objs.size (.lst ys)) { s with heap:=s.heap.push { cls:=.type "list",data:=.seq its.toArray },toks:=t' } :=
 I.laid (fun _ _ q=>Heap.get?_push_of_some _ q) (Nat.le_refl _) ⟨hz,its,0,hv,Heap.get?_push_size _ rfl⟩
theorem Inv.fresh (I:Inv X pins σ H s):H s.heap.objs.size=none:=I.hok.fresh (Nat.le_refl _)
theorem Inv.lstM (I:Inv X pins σ H s) (hH:H l=some (.lst xs)):xs.length<=sizeLine/\∃ (its:List Value) (n:Nat),az xs its/\xs.length=its.length/\s.heap.get? l=some { cls:=.type "list",data:=.seq its.toArray n }:=by
 obtain⟨z,its,n,r,e⟩:=I.hok l _ hH
 exact⟨z,its,n,r,r.length,e⟩
theorem ui {n:Nat}(h:n<=sizeLine):Builtin.List.listTooLong n=false:=by
 unfold Builtin.List.listTooLong
 exact decide_eq_false (by omega)
end
section
variable {X:Cx}
noncomputable def ET:V->List V->Hp->VK->Prop:=fun x vs H Q=>∃l xs y,x=.ref l/\vs=[y]/\H l=some (.lst xs)/\xs.length < sizeLine/\Q .non (upd H l (.lst (xs++[y])))
theorem qV:Jb X "list.append" ET:=by
 intro pins s σ H x vs v us Q I rx rv h
 obtain⟨l,xs,y,rfl,rfl,hH,hz,q⟩:=h
 cases rx
 obtain⟨u,rfl,ru⟩:=rv.one
 obtain⟨z,its,n,r,hl,e⟩:=I.lstM hH
 refine call_meets F.slot_list_append ⟨_,e,rfl⟩ F.entry_list_append (F.args_list_append_2 _ _) (PySem.list_append l its.toArray n u (by rw[List.size_toArray];omega)) ⟨e,?_⟩
 refine⟨.non,_,I.lset (its':=its++[u]) hH e (by simp) (r.append (.cons ru .nil)) ?_,rfl,q⟩
 rw[List.length_append,List.length_singleton]
 omega
noncomputable def DY:V->List V->Hp->VK->Prop:=fun x vs H Q=>∃l b xs zs,x=.ref l/\vs=[.ref b]/\H l=some (.lst xs)/\H b=some (.lst zs)/\xs.length+zs.length<=sizeLine/\Q .non (upd H l (.lst (xs++zs)))
theorem zV:Jb X "list.extend" DY:=by
 intro pins s σ H x vs v us Q I rx rv h
 obtain⟨l,b,xs,zs,rfl,rfl,hH,hB,hz,q⟩:=h
 cases rx
 obtain⟨u,rfl,ru⟩:=rv.one
 cases ru
 obtain⟨z,its,n,r,hl,e⟩:=I.lstM hH
 obtain⟨z2,its2,n2,r2,hl2,e2⟩:=I.lstM hB
 have hsz:its.toArray.size+its2.toArray.size<=sizeLine:=by rw[List.size_toArray,List.size_toArray];omega
 have hlong:¬ (!its.toArray.isEmpty&&Builtin.List.listTooLong (its.toArray.size+its2.toArray.size))=true:=by
  rw[ui hsz,Bool.and_false]
  exact Bool.false_ne_true
 refine call_meets F.slot_list_extend ⟨_,e,rfl⟩ F.entry_list_extend (F.args_list_extend_2 _ _)
  (AutoSeq1.list_extend_list_list_0 l its.toArray n b its2.toArray n2 hlong (by rw[List.size_toArray];omega) (by omega)) ⟨e,e2,?_⟩
 refine⟨.non,_,I.lset (its':=its++its2) hH e (by simp) (r.append r2) ?_,rfl,q⟩
 rw[List.length_append]
 omega
noncomputable def KP:R2:=fun x y H Q=>∃l k xs,x=.ref l/\y=.int k/\H l=some (.lst xs)/\-(2 ^ 63)<=k/\k < 2 ^ 63/\xs.length * k.toNat<=sizeLine /\
 ∀p,H p=none->Q (.ref p) (upd H p (.lst (List.replicate k.toNat xs).flatten))
theorem len_rep {α:Type}(xs:List α) (k:Nat):(List.replicate k xs).flatten.length=k * xs.length:=by
 induction k with
 | zero=>simp
 | succ k ih=>rw[List.replicate_succ,List.flatten_cons,List.length_append,ih,Nat.succ_mul,Nat.add_comm]
theorem IF:gA X (binaryOp .Mult) KP:=by
 intro pins s σ H x y v u Q I rx ry h
 obtain⟨l,k,xs,rfl,rfl,hH,h1,h2,hz,q⟩:=h
 cases rx
 obtain⟨t,rfl⟩:=ry
 obtain⟨z,its,n,r,hl,e⟩:=I.lstM hH
 have hlen:its.toArray.size * k.toNat<=sizeLine:=by rw[List.size_toArray,<- hl];exact hz
 have hcap:¬ its.toArray.size * k.toNat > (2 ^ 63 - 1) / 8:=by
  have:(sizeLine:Nat)<=(2 ^ 63 - 1) / 8:=by decide
  omega
 have hfit:¬ (!Builtin.List.listFitsIndex k)=true:=by
  rw[fitsIndex_both h1 h2]
  exact Bool.false_ne_true
 have hlong:¬ Builtin.List.listTooLong (its.toArray.size * k.toNat)=true:=by
  rw[ui hlen]
  exact Bool.false_ne_true
 have hnew:List.foldl (fun x1 x2=>x1++x2) #[] (List.replicate (if its.toArray.isEmpty=true then 0 else k.toNat) its.toArray)=(List.replicate k.toNat its).flatten.toArray:=by
  have f0:∀m:Nat,List.foldl (fun x1 x2=>x1++x2) #[] (List.replicate m its.toArray)=(List.replicate m its).flatten.toArray:=fun m=>by
   have:=foldl_rep its m []
   rw[List.nil_append] at this
   exact this
  rw[f0]
  cases its with
  | nil=>simp
  | cons a r'=>rw[if_neg (by simp)]
 refine wpAny_binaryOp_repeat_ref (T:="list") (U:="int") (by decide) ⟨_,e,rfl⟩ (fun s'=>typeIs_int s' k t) noFill_list_mul F.fills_int_mul F.slot_int_rmul repeat_list F.slot_int_index.lookup
  (call_meets F.slot_int_rmul (typeIs_int s k t) F.entry_int_rmul (F.args_int_rmul_2 _ _) (int___rmul___int_list k t l its.toArray n)
   ⟨e,rfl,⟨_,e,rfl⟩,call_meets F.slot_list_mul ⟨_,e,rfl⟩ F.entry_list_mul (F.args_list_mul_2 _ _) (AutoListH.list___mul___list_int_3 l its.toArray n k t hfit hcap hlong) ⟨e,?_⟩⟩)
 rw[hnew]
 exact⟨.ref _,_,I.lnew (t':=s.toks) (r.rep k.toNat) (by rw[len_rep,Nat.mul_comm];exact hz),rfl,q _ I.fresh⟩
end
section
variable {prog:Program}{w:World}{A:Around}{E:Value->Shared->Prop}{s:Shared}
end
section
variable {X:Cx}
end
end L2
namespace Att
open PySem PySem.W PySem.Calls PyProof.Rows
theorem ints_of_wellAll {P:Params}{h:Heap}:∀ (ns:List Int) (vs:List Value),WellAll P h vs (ns.map WData.int)->IntsAre vs ns:=by
 intro ns
 induction ns with
 | nil =>
  intro vs w
  rw[List.map_nil] at w
  cases w
  exact .nil
 | cons n ns ih =>
  intro vs w
  rw[List.map_cons] at w
  cases w with
  | cons a b =>
   cases a
   exact .cons _ _ (ih _ b)
theorem script_of {l:OpenLaw}{n:Nat}(hn:l.most=some n) {P:Params}{h:Heap}{args:List WData}{vals:List Value}
  (hpre:l.row.toRowW.claim.pre args=true) (hwl:WellAll P h vals args) :
  ∃a vs ns,vals=[Value.ref a]/\args=[WData.list (ns.map WData.int)]/\h.get? a=some { cls:=.type "list",data:=.seq vs.toArray }/\IntsAre vs ns/\ns.length<=n:=by
 have hsh:WShape.hasAll [] args [.list .int]=true:=(pre_splitW hpre).1
 have hc:l.pre.holds [] { args:=args }=true:=(pre_splitW hpre).2
 obtain⟨d,r,rfl,h1,h2⟩:=hasAllW_cons hsh
 obtain rfl:=hasAllW_nil h2
 obtain⟨xs,rfl,h3⟩:=hasW_list h1
 obtain⟨ns,rfl⟩:=items_int h3
 have hlen:ns.length<=n:=by
  unfold OpenLaw.pre at hc
  have h4:(WTm.not (.lt (.lit (.int (n:Int))) (.len (.arg 0)))).holds [] { args:=[.list (ns.map .int)] }=true:=by
   have h4:=(holds_andW hc).1
   rw[hn] at h4
   exact h4
  have h5:=condW_of h4 (w_not (w_lt w_lit (w_len_list (w_arg rfl))))
  rw[List.length_map] at h5
  refine Nat.le_of_not_lt fun q=>?_
  have q':(n:Int) < ((ns.length:Nat):Int):=by omega
  first
   | (rw[decide_eq_true q'] at h5;exact absurd h5 (by decide))
   | (simp at h5;omega)
 cases hwl with
 | cons w1 w2 =>
  cases w2
  cases w1 with
  | list ho hall=>exact⟨_,_,ns,rfl,rfl,ho,ints_of_wellAll ns _ hall,hlen⟩
theorem post_true (l:OpenLaw) (args:List WData):l.row.toRowW.claim.post args (.bool true) args=true :=
 postW_of (r:=l.row.toRowW) (X:=(true == true))
  (show WShape.has [] (.bool true) .bool=true by first|rfl|decide|simp[WShape.has,WShape.arms,WShape.armsAll])
  (show (WTm.eq .res (.lit (.bool true))).value [] { args:=args,res:=some (.bool true),after:=args }=some (.bool (true == true)) from w_eq_bool (w_res rfl) w_lit) rfl
theorem attach_call {l:OpenLaw}{n:Nat}{q:Program}{loose:List Str}{XP:(Str->Option Value)->Heap->Prop}{YP:World->Heap->Prop}{d:DefRec}
  (hn:l.most=some n) (hdf:d.params.defaults=[])
  (call:∀ (w:World) (s₀ s₁:Shared) (mg mb:Str->Option Value) (fa:Addr) (o:Obj) (pm cd doc:Value) (a:Addr) (vs:List Value) (ns:List Int),
   Ground q loose [] XP w s₀ mg mb s₁.heap->YP w s₁.heap ->
   s₁.heap.get? fa=some o->o.data=.func (docDef d.name d.params d.body d.scope pm cd doc)->s₁.heap.CodeRec cd d.name->mg d.name=some (.ref fa) ->
   s₁.heap.get? a=some { cls:=.type "list",data:=.seq vs.toArray }->IntsAre vs ns->ns.length<=n->s₁.gens=#[] ->
   codeAny (model l.prog w) callerA (.call (.ref fa) ⟨[.ref a],[]⟩) (fun r s'=>r=.ok (.ret (.bool true))/\OldK s₁.heap s'.heap/\s'.os=s₁.os/\AllBare s'.gens) s₁) :
  WalkO q loose XP YP l.row.toRowW d [] (fun f vs=>PySem.call f vs):=by
 intro w s₀ s₁ mg mb G Y fa o pm cd doc dV kV ho hd hcd hD hmg hg args vals as hpre hlay hrd hwl hlo
 obtain rfl:dV=.none:=Dflts.none hD hdf
 obtain rfl:kV=.none:=Dflts.noKw hD
 obtain⟨a,vs,ns,rfl,rfl,hobj,hints,hlen⟩:=script_of hn hpre hwl
 refine enter_call (codeAny_mono (call w s₀ s₁ mg mb fa o pm cd doc a vs ns G Y ho (fd_plain hd) hcd hmg hobj hints hlen hg) fun r s' hq=>?_)
 obtain⟨rfl,h2,h3,h4⟩:=hq
 exact⟨.inl ⟨.bool true,.bool true,[],rfl,fun _=>rfl,.bool true,post_true l _,fun _=>⟨List.Pairwise.nil,fun _ hm=>(nomatch hm)⟩⟩,h2,h3,h4⟩
section
variable {prog:Program}{w:World}{A:Around}{E:Value->Shared->Prop}{s:Shared}{K:Frag}
end
end Att
namespace L2
open PySem PySem.Spec PyProof.Rows
theorem qu:∀ {vs:List Value}{ns:List Int},IntsAre vs ns->az (ns.map V.int) vs
 | _,_,.nil=>.nil
 | _,_,.cons n t h=>.cons ⟨t,rfl⟩ (qu h)
end L2
namespace L2
open PySem PySem.Spec PyProof.Rows
noncomputable def fL (s:Stmt):Arguments:=match s with
 | .FunctionDef _ a _ _ _ _ _ _ _ _=>a
 | _=>{ posonlyargs:=[],args:=[],vararg:=none,kwonlyargs:=[],kw_defaults:=[],kwarg:=none,defaults:=[] }
noncomputable def bT (s:Stmt):List Stmt:=match s with
 | .FunctionDef _ _ b _ _ _ _ _ _ _=>b
 | _=>[]
noncomputable def aC (s:Stmt):Scope:=match s with
 | .FunctionDef _ _ _ _ _ _ sc _ _ _=>sc
 | _=>{ kind:=.function,names:=[],isGenerator:=false,isCoroutine:=false }
noncomputable abbrev FS:z9:=fun _ _ _ _ _ _=>False
noncomputable abbrev E0:XK:=fun _ _ _=>False
theorem Ka {X:Cx}:xv FS X E0:=fun _ _ _ _ _ _ _ h=>h.elim
structure CV (K:PySem.W.Frag) (x qual:Str) (st:Stmt) (f:Addr) (fd:FuncData):Prop where
 ex:∃ (oc:Value) (od:Option Addr) (kV doc pm:Value) (an:Option Addr) (cdv ct:Value) (osl:Array (Option Value)),
  fd=PySem.W.fnOf x qual (fL st) (bT st) (aC st) .none kV doc pm an cdv ct/\K.lookup f=some ⟨oc,od,.func fd,osl⟩/\PySem.W.codeIn K cdv qual=true
 kp:PySem.W.keepIn K (.ref f)=true
section
variable {P:Program}{w:World}{K:PySem.W.Frag}{mg:Str->Option Value}{base:Heap}
theorem CV.ok {x qual:Str}{st:Stmt}{f:Addr}{fd:FuncData}{N ps:List Str}{k:Nat}{sp:Sp}(F:CV K x qual st f fd) (S:dZ N ps (aC st)) (len:∀vs H Q E,sp vs H Q E->vs.length=ps.length)
  (hbody:∀ (cdv:Value) (A:Around) (outer:List Env) (s:Shared) (H:Hp) (vs:List V) (Q:VK) (E:XK),dH k (A.deeper (envOfC qual (aC st) s.heap.objs.size f cdv))->sp vs H Q E ->
   ∃t,vO (wY FS P w K mg base N qual (aC st) f cdv A outer s H E).nox (bT st) t/\t { nx:=fun _ H'=>Q .non H',rt:=Q } (start N vs) H):j1 P w K mg base FS (k+1) f fd ps sp:=by
 obtain⟨oc,od,kV,doc,pm,an,cdv,ct,osl,rfl,lk,hcd⟩:=F.ex
 refine FN lk hcd S len fun A outer s H vs Q E hr hsp=>?_
 obtain⟨t,h,q⟩:=hbody cdv A outer s H vs Q E hr hsp
 exact⟨t,h.nox,q⟩
theorem CV.binds {x qual:Str}{st:Stmt}{f:Addr}{fd:FuncData}{ps:List Str}(F:CV K x qual st f fd)
  (h:∀ (kV doc pm:Value) (an:Option Addr) (cdv ct:Value) (us:List Value),us.length=ps.length->bindArgs (PySem.W.fnOf x qual (fL st) (bT st) (aC st) .none kV doc pm an cdv ct) ⟨us,[]⟩=pure (ps.zip us)):Binds K fd ps []:=by
 obtain⟨oc,od,kV,doc,pm,an,cdv,ct,osl,rfl,lk,hcd⟩:=F.ex
 exact .all (h kV doc pm an cdv ct)
theorem sJ {x qual:Str}{st:Stmt}{f:Addr}{oc:Value}{od an:Option Addr}{osl:Array (Option Value)}{kV doc pm cdv ct:Value}(l:K.lookup f=some ⟨oc,od,.func (PySem.W.fnOf x qual (fL st) (bT st) (aC st) .none kV doc pm an cdv ct),osl⟩)
  (c:PySem.W.codeIn K cdv qual=true) (k:PySem.W.keepIn K (.ref f)=true):CV K x qual st f (PySem.W.fnOf x qual (fL st) (bT st) (aC st) .none kV doc pm an cdv ct):=⟨⟨oc,od,kV,doc,pm,an,cdv,ct,osl,rfl,l,c⟩,k⟩
end
section
variable {X:Cx}
end
theorem vA {A B:Prop}(h:B):if false=true then A else B:=by
 rw[if_neg Bool.false_ne_true]
 exact h
theorem uW {A B:Prop}(h:A):if true=true then A else B:=by
 rw[if_pos rfl]
 exact h
noncomputable def aV (H H':Hp):Prop:=∀b o,H b=some o->H' b=some o
theorem aV.refl (H:Hp):aV H H:=fun _ _ h=>h
theorem aV.trans {H H1 H2:Hp}(a:aV H H1) (b:aV H1 H2):aV H H2:=fun c o h=>b c o (a c o h)
theorem aV.free {H H':Hp}(e:aV H H') {l:Addr}(h:H' l=Option.none):H l=Option.none:=by
 cases q:H l with
 | none=>rfl
 | some o =>
  rw[e l o q] at h
  cases h
theorem aV.seq {K:PySem.W.Frag}{H H':Hp}{a:Addr}{xs:List V}(e:aV H H') (h:gT K H a xs):gT K H' a xs:=by
 rcases h with (h|⟨o,h⟩)|h
 ·exact .inl (.inl (e _ _ h))
 ·exact .inl (.inr ⟨o,e _ _ h⟩)
 ·exact .inr h
end L2
namespace Hd
open PySem L2 PySem.Spec PyProof.Rows
noncomputable def en (P:Params) (x:String) (t:Nat) (v:Value):DictEntry:=⟨PyData.keyHash P (Str.ofString x),.str (Str.ofString x) t,v⟩
noncomputable def fo (x:Str) (st:Stmt) (pm:Value) (c:Addr):Obj:=⟨.type "function",none,.func (PySem.W.fnOf x x (fL st) (bT st) (aC st) .none .none .none pm none (.ref c) .none),#[]⟩
noncomputable def co (vs:List Value):Obj:=⟨.type "code",none,.fields vs.toArray,#[]⟩
noncomputable def rfV (n:Nat):Value:=if n=0 then .none else .ref n
noncomputable def cdo (x:Str) (t l n a b c d e f u:Nat):Obj:=co [.str x t,.str x (t+1),.str "/claim/cut.py" (t+2),.int l 0,.int n 0,.int 0 0,.int 0 0,.int 3 0,rfV a,.bool true,.int 181 0,rfV b,rfV c,rfV d,rfV e,rfV f,.int u 0,.int l 0,.str "/claim/cut.py" (u+1)]
end Hd
namespace Hd
theorem lf_all {S A B C D E F J O:Type}{x:Option S}{f:S->A×B×C×D×E×F×J}{o:S->O}{g:A×B×C×D×E×F×J}{v:O}(h0:x.map (fun s=>(f s).1)=some g.1) (h1:x.map (fun s=>((f s).2.1,(f s).2.2.1))=some (g.2.1,g.2.2.1)) (h2:x.map (fun s=>((f s).2.2.2.1,(f s).2.2.2.2.1,(f s).2.2.2.2.2.1))=some (g.2.2.2.1,g.2.2.2.2.1,g.2.2.2.2.2.1)) (h3:x.map (fun s=>((f s).2.2.2.2.2.2,o s))=some (g.2.2.2.2.2.2,v)):x.map (fun s=>(f s,o s))=some (g,v):=by
 obtain⟨a,b,c,d,e,i,j⟩:=g
 cases x with
 | none=>cases h0
 | some s =>
  simp only[Option.map_some,Option.some.injEq,Prod.mk.injEq] at h0 h1 h2 h3 ⊢
  refine⟨?_,h3.2⟩
  generalize f s=t at *
  obtain⟨a',b',c',d',e',i',j'⟩:=t
  dsimp only at *
  obtain⟨h3,_⟩:=h3
  obtain⟨h1,h1'⟩:=h1
  obtain⟨h2,h2',h2''⟩:=h2
  subst h0 h1 h1' h2 h2' h2'' h3
  rfl
end Hd
namespace K03
open PySem L2 PySem.Spec PyProof.Rows Hd PySem.W
noncomputable abbrev top (i:Nat):Stmt:=PySem.Challenge.pw_stillflow_k03_whole_turned.main.body.getD i (.Pass ⟨0,0,0,0⟩)
noncomputable def vw:Program:=PySem.W.view PySem.Challenge.pw_stillflow_k03_whole_turned [1,2,3,4,6,7,8,9,10,11,12,13,14,15,16,17,18,19,20,21,22,23,24,25,26,27,29,30,31,32,33,34,35,36,37,38,40,41,42,43,44,45,46,47,49,50,51,52,53,54,55,56,57]
noncomputable def g8:Value:=(.str "stillflow.worlds" 255)
noncomputable def qJ:Value:=(.str "stillflow.flows" 407)
noncomputable def vL:Value:=(.str "stillflow.finding" 485)
noncomputable def tM:Value:=(.str "law_stillflow_k03_whole_turned" 556)
noncomputable def Kf (P:Params):PySem.W.Frag:=[(3,⟨.type "dict",none,.dict #[en P "__name__" 165 (.str "law_stillflow_k03_whole_turned" 556),en P "__doc__" 166 .none,en P "__package__" 167 .none,en P "__loader__" 168 (.builtin "__main__.__loader__#opaque"),en P "__spec__" 169 .none,en P "__annotations__" 170 (.ref 6),en P "__builtins__" 171 (.ref 4),en P "__file__" 173 (.str "/claim/cut.py" 172),en P "__cached__" 174 .none,en P "FlowError" 206 (.ref 24),en P "NoWorld" 222 (.ref 37),en P "NoPlan" 238 (.ref 49),en P "NoPlace" 254 (.ref 61),en P "MOST_PLACES" 258 (.int 4 257),en P "MOST" 260 (.int 9 259),en P "is_whole" 269 (.ref 70),en P "is_number" 277 (.ref 77),en P "is_long" 286 (.ref 84),en P "are_likes" 292 (.ref 89),en P "is_end" 300 (.ref 96),en P "is_way" 309 (.ref 103),en P "are_parts" 315 (.ref 108),en P "liked_pairs" 321 (.ref 113),en P "is_world" 327 (.ref 118),en P "through" 333 (.ref 123),en P "keeps_amounts" 339 (.ref 128),en P "is_plan" 345 (.ref 133),en P "check_world" 352 (.ref 140),en P "check_plan" 360 (.ref 147),en P "check_whole" 369 (.ref 154),en P "check_number" 377 (.ref 161),en P "replaced" 386 (.ref 168),en P "turned_order" 394 (.ref 175),en P "turned" 400 (.ref 180),en P "turned_plan" 406 (.ref 185),en P "sent" 417 (.ref 192),en P "taken" 426 (.ref 199),en P "ways_of" 432 (.ref 204),en P "chosen_by" 438 (.ref 209),en P "wants_more" 444 (.ref 214),en P "why_kept" 453 (.ref 221),en P "first_leaving" 462 (.ref 228),en P "is_still" 470 (.ref 235),en P "leaving" 476 (.ref 240),en P "rests" 484 (.ref 247),en P "chosen_by_all" 492 (.ref 252),en P "limits" 498 (.ref 257),en P "lowered" 507 (.ref 264),en P "refused" 519 (.ref 271),en P "steps" 529 (.ref 278),en P "capped" 540 (.ref 285),en P "givers_best" 547 (.ref 292),en P "takers_best" 555 (.ref 299),en P "_law_cell" 565 (.ref 306),en P "_law_drawn" 575 (.ref 313),en P "_law_orders" 590 (.ref 320),en P "_law_world" 596 (.ref 325),en P "_law_used" 602 (.ref 330),en P "_law_fits" 613 (.ref 337),en P "_law_plans" 619 (.ref 342),en P "_law_plan" 633 (.ref 349),en P "law" 639 (.ref 354)] 62,#[]⟩),
 (69,cdo "is_whole" 261 13 3 64 65 0 66 67 68 267),
 (70,fo "is_whole" (top 8) g8 69),
 (76,cdo "is_number" 270 17 2 71 72 0 73 74 75 275),
 (77,fo "is_number" (top 9) g8 76),
 (83,cdo "is_long" 278 19 3 78 79 0 80 81 82 284),
 (84,fo "is_long" (top 10) g8 83),
 (88,cdo "are_likes" 287 21 2 85 86 0 0 0 87 290),
 (89,fo "are_likes" (top 11) g8 88),
 (95,cdo "is_end" 293 27 2 90 91 0 92 93 94 298),
 (96,fo "is_end" (top 12) g8 95),
 (102,cdo "is_way" 301 29 3 97 98 0 99 100 101 307),
 (103,fo "is_way" (top 13) g8 102),
 (107,cdo "are_parts" 310 33 3 104 105 0 0 0 106 313),
 (108,fo "are_parts" (top 14) g8 107),
 (112,cdo "liked_pairs" 316 41 1 109 110 0 0 0 111 319),
 (113,fo "liked_pairs" (top 15) g8 112),
 (117,cdo "is_world" 322 46 1 114 115 0 0 0 116 325),
 (118,fo "is_world" (top 16) g8 117),
 (122,cdo "through" 328 53 4 119 120 0 0 0 121 331),
 (123,fo "through" (top 17) g8 122),
 (127,cdo "keeps_amounts" 334 55 3 124 125 0 0 0 126 337),
 (128,fo "keeps_amounts" (top 18) g8 127),
 (132,cdo "is_plan" 340 57 2 129 130 0 0 0 131 343),
 (133,fo "is_plan" (top 19) g8 132),
 (139,cdo "check_world" 346 64 1 134 135 0 136 137 138 350),
 (140,fo "check_world" (top 20) g8 139),
 (146,cdo "check_plan" 353 67 2 141 142 0 143 144 145 358),
 (147,fo "check_plan" (top 21) g8 146),
 (153,cdo "check_whole" 361 71 3 148 149 0 150 151 152 367),
 (154,fo "check_whole" (top 22) g8 153),
 (160,cdo "check_number" 370 74 2 155 156 0 157 158 159 375),
 (161,fo "check_number" (top 23) g8 160),
 (167,cdo "replaced" 378 76 3 162 163 0 164 165 166 384),
 (168,fo "replaced" (top 24) g8 167),
 (174,cdo "turned_order" 387 78 1 169 170 0 171 172 173 392),
 (175,fo "turned_order" (top 25) g8 174),
 (179,cdo "turned" 395 81 1 176 177 0 0 0 178 398),
 (180,fo "turned" (top 26) g8 179),
 (184,cdo "turned_plan" 401 85 2 181 182 0 0 0 183 404),
 (185,fo "turned_plan" (top 27) g8 184),
 (191,cdo "sent" 409 89 3 186 187 0 188 189 190 415),
 (192,fo "sent" (top 29) qJ 191),
 (198,cdo "taken" 418 93 3 193 194 0 195 196 197 424),
 (199,fo "taken" (top 30) qJ 198),
 (203,cdo "ways_of" 427 97 3 200 201 0 0 0 202 430),
 (204,fo "ways_of" (top 31) qJ 203),
 (208,cdo "chosen_by" 433 102 4 205 206 0 0 0 207 436),
 (209,fo "chosen_by" (top 32) qJ 208),
 (213,cdo "wants_more" 439 109 4 210 211 0 0 0 212 442),
 (214,fo "wants_more" (top 33) qJ 213),
 (220,cdo "why_kept" 445 116 3 215 216 0 217 218 219 451),
 (221,fo "why_kept" (top 34) qJ 220),
 (227,cdo "first_leaving" 454 124 2 222 223 0 224 225 226 460),
 (228,fo "first_leaving" (top 35) qJ 227),
 (234,cdo "is_still" 463 129 2 229 230 0 231 232 233 468),
 (235,fo "is_still" (top 36) qJ 234),
 (239,cdo "leaving" 471 131 2 236 237 0 0 0 238 474),
 (240,fo "leaving" (top 37) qJ 239),
 (246,cdo "rests" 477 134 2 241 242 0 243 244 245 482),
 (247,fo "rests" (top 38) qJ 246),
 (251,cdo "chosen_by_all" 487 138 3 248 249 0 0 0 250 490),
 (252,fo "chosen_by_all" (top 40) vL 251),
 (256,cdo "limits" 493 144 1 253 254 0 0 0 255 496),
 (257,fo "limits" (top 41) vL 256),
 (263,cdo "lowered" 499 146 3 258 259 0 260 261 262 505),
 (264,fo "lowered" (top 42) vL 263),
 (270,cdo "refused" 508 148 2 265 266 0 267 268 269 517),
 (271,fo "refused" (top 43) vL 270),
 (277,cdo "steps" 520 155 1 272 273 0 274 275 276 527),
 (278,fo "steps" (top 44) vL 277),
 (284,cdo "capped" 530 164 2 279 280 0 281 282 283 538),
 (285,fo "capped" (top 45) vL 284),
 (291,cdo "givers_best" 541 169 1 286 287 0 288 289 290 545),
 (292,fo "givers_best" (top 46) vL 291),
 (298,cdo "takers_best" 548 172 1 293 294 0 295 296 297 553),
 (299,fo "takers_best" (top 47) vL 298),
 (305,cdo "_law_cell" 558 176 2 300 301 0 302 303 304 563),
 (306,fo "_law_cell" (top 49) tM 305),
 (312,cdo "_law_drawn" 566 180 3 307 308 0 309 310 311 573),
 (313,fo "_law_drawn" (top 50) tM 312),
 (319,cdo "_law_orders" 576 184 3 314 315 0 316 317 318 588),
 (320,fo "_law_orders" (top 51) tM 319),
 (324,cdo "_law_world" 591 192 3 321 322 0 0 0 323 594),
 (325,fo "_law_world" (top 52) tM 324),
 (329,cdo "_law_used" 597 208 4 326 327 0 0 0 328 600),
 (330,fo "_law_used" (top 53) tM 329),
 (336,cdo "_law_fits" 603 210 2 331 332 0 333 334 335 611),
 (337,fo "_law_fits" (top 54) tM 336),
 (341,cdo "_law_plans" 614 216 1 338 339 0 0 0 340 617),
 (342,fo "_law_plans" (top 55) tM 341),
 (348,cdo "_law_plan" 620 224 3 343 344 0 345 346 347 631),
 (349,fo "_law_plan" (top 56) tM 348),
 (353,cdo "law" 634 231 1 350 351 0 0 0 352 637),
 (354,fo "law" (top 57) tM 353)]
noncomputable def hk:PySem.W.Hook:=PySem.W.kmHook Kf [3,69,70,76,77,83,84,88,89,95,96,102,103,107,108,112,113,117,118,122,123,127,128,132,133,139,140,146,147,153,154,160,161,167,168,174,175,179,180,184,185,191,192,198,199,203,204,208,209,213,214,220,221,227,228,234,235,239,240,246,247,251,252,256,257,263,264,270,271,277,278,284,285,291,292,298,299,305,306,312,313,319,320,324,325,329,330,336,337,341,342,348,349,353,354] (fun _=>rfl) [170,201]
noncomputable abbrev rn (w:World):=openEnds treeTable PySem.Challenge.pw_stillflow_k03_whole_turned w 6000
noncomputable abbrev sn (s:Shared):=openSeen vw [] (importedModules PySem.Challenge.pw_stillflow_k03_whole_turned.main.body) (fun s=>xlAt vw [] s&&recOk [] s) true s
noncomputable abbrev gd:=openGood vw []
theorem LS (w:World):(rn w).map (fun s=>(sn s).1)=some (gd.1):=by kernel_rfl
theorem L0 (w:World):(rn w).map (fun s=>((sn s).2.1,(sn s).2.2.1))=some ((gd.2.1,gd.2.2.1)):=by kernel_rfl
theorem L5 (w:World):(rn w).map (fun s=>((sn s).2.2.2.1,(sn s).2.2.2.2.1,(sn s).2.2.2.2.2.1))=some ((gd.2.2.2.1,gd.2.2.2.2.1,gd.2.2.2.2.2.1)):=by kernel_rfl
theorem L6 (w:World):(rn w).map (fun s=>((sn s).2.2.2.2.2.2,hk.obs s))=some ((gd.2.2.2.2.2.2,hk.val w)):=by kernel_rfl
theorem left:LeftO PySem.Challenge.pw_stillflow_k03_whole_turned vw [] (fun s=>xlAt vw [] s&&recOk [] s) hk.obs hk.val 6000:=fun w=>lf_all (LS w) (L0 w) (L5 w) (L6 w)
theorem KJ:PySem.Challenge.rw_stillflow_k03_whole_turned.wellSaid=true:=by kernel_rfl
end K03
namespace L2
open PySem PySem.Spec PyProof.Rows
theorem bO:∀ (names:List (Str×NameKind)) (n:Nat) (acc:List (Str×Addr)),cellsFrom n names acc=cellsFrom n names []++acc
 | [],_,_=>rfl
 | (name,kind)::r,n,acc=>by
  unfold cellsFrom
  split
  ·rw[bO r (n+1) ((name,n)::acc),bO r (n+1) [(name,n)]]
   simp
  ·exact bO r n acc
theorem iJ {α:Type}{x:Str}{c:α}:∀ {l m:List (Str×α)},(l++m).lookup x=some c->l.lookup x=some c\/(l.lookup x=none/\m.lookup x=some c)
 | [],_,h=>.inr ⟨rfl,h⟩
 | (k,v)::r,m,h=>by
  have ih:=@iJ α x c r m
  rw[List.cons_append,List.lookup_cons] at h
  rw[List.lookup_cons]
  cases e:x == k with
  | true=>rw[e] at h;exact .inl h
  | false=>rw[e] at h;exact ih h
theorem iI {α:Type}{x:Str}{c:α}:∀ {l m:List (Str×α)},l.lookup x=some c->(l++m).lookup x=some c
 | [],_,h=>by cases h
 | (k,v)::r,m,h=>by
  have ih:=@iI α x c r m
  rw[List.lookup_cons] at h
  rw[List.cons_append,List.lookup_cons]
  cases e:x == k with
  | true=>rw[e] at h;exact h
  | false=>rw[e] at h;exact ih h
theorem gJ {α:Type}{x:Str}:∀ {l m:List (Str×α)},l.lookup x=none->(l++m).lookup x=m.lookup x
 | [],_,_=>rfl
 | (k,v)::r,m,h=>by
  have ih:=@gJ α x r m
  rw[List.lookup_cons] at h
  rw[List.cons_append,List.lookup_cons]
  cases e:x == k with
  | true=>rw[e] at h;cases h
  | false=>rw[e] at h;exact ih h
theorem fE:∀ (names:List (Str×NameKind)) (n:Nat) (x:Str) (c:Addr),(x,c)∈cellsFrom n names []->(x,NameKind.cell)∈names
 | [],_,_,_,h=>by cases h
 | (name,kind)::r,n,x,c,h=>by
  unfold cellsFrom at h
  split at h
  ·rename_i hk
   rw[bO] at h
   rcases List.mem_append.mp h with h|h
   ·exact List.mem_cons_of_mem _ (fE r _ x c h)
   ·have:(x,c)=(name,n):=by simpa using h
    cases this
    have:kind=.cell:=by simpa using hk
    subst this
    exact List.mem_cons_self
  ·exact List.mem_cons_of_mem _ (fE r n x c h)
noncomputable def dR (env:Env):List (Str×NameKind)->List (Str×Addr)->List (Str×Addr)
 | [],acc=>acc
 | (n,k)::r,acc=>if k == .free then dR env r ((n,(env.cells.lookup n).getD 0)::acc) else dR env r acc
theorem kh (env:Env):∀ (names:List (Str×NameKind)) (acc:List (Str×Addr)),(∀x∈names,x.2=.free->∃c,env.cells.lookup x.1=some c) ->
  (forIn names acc (fun (p:Str×NameKind) (cs:List (Str×Addr))=>(if p.2 == .free then (do let a <- cellOf env p.1;pure (.yield ((p.1,a)::cs))) else pure (.yield cs):Sem (ForInStep (List (Str×Addr))))))=pure (dR env names acc)
 | [],acc,_=>rfl
 | (n,k)::r,acc,h=>by
  rw[List.forIn_cons]
  have hr:=fun x hx=>h x (List.mem_cons_of_mem _ hx)
  unfold dR
  by_cases hk:k=.free
  ·obtain⟨c,hc⟩:=h (n,k) List.mem_cons_self hk
   subst hk
   have e1:cellOf env n=pure c:=by
    have hc':env.cells.lookup n=some c:=hc
    unfold cellOf;rw[hc']
   have hc':env.cells.lookup n=some c:=hc
   simp only[beq_self_eq_true,if_true,e1,pure_bind,hc',Option.getD_some]
   exact kh env r _ hr
  ·have hb:(k == NameKind.free)=false:=by simpa using hk
   simp only[hb,Bool.false_eq_true,if_false,pure_bind]
   exact kh env r _ hr
theorem kc {env:Env}{scope:Scope}(h:∀x∈scope.names,x.2=.free->∃c,env.cells.lookup x.1=some c):closureFor scope env=pure (dR env scope.names []):=by
 have:=kh env scope.names [] h
 unfold closureFor
 exact (bind_pure _).trans this
theorem jq {env:Env}:∀ {names:List (Str×NameKind)}{acc:List (Str×Addr)},(∀x∈names,x.2=.free->∃c,env.cells.lookup x.1=some c)->(∀x c,(x,c)∈acc->env.cells.lookup x=some c) ->
  ∀x c,(x,c)∈dR env names acc->env.cells.lookup x=some c
 | [],acc,_,ha,x,c,hm=>ha x c hm
 | (n,k)::r,acc,h,ha,x,c,hm=>by
  unfold dR at hm
  have hr:=fun x hx=>h x (List.mem_cons_of_mem _ hx)
  split at hm
  ·rename_i hk
   have hk':k=.free:=by simpa using hk
   obtain⟨c',hc⟩:=h (n,k) List.mem_cons_self hk'
   have hc:env.cells.lookup n=some c':=hc
   refine jq hr (fun y d hy=>?_) x c hm
   rcases List.mem_cons.mp hy with e|hy
   ·cases e;rw[hc];rfl
   ·exact ha y d hy
  ·exact jq hr ha x c hm
theorem fj {env:Env}:∀ {names:List (Str×NameKind)}{acc:List (Str×Addr)}{x:Str},(names.lookup x=some .free\/∃c,acc.lookup x=some c)->∃c,(dR env names acc).lookup x=some c
 | [],acc,x,h=>by
  rcases h with h|h
  ·cases h
  ·exact h
 | (n,k)::r,acc,x,h=>by
  unfold dR
  split
  ·rename_i hk
   refine fj ?_
   rcases h with h|⟨c,h⟩
   ·rw[List.lookup_cons] at h
    cases e:x == n with
    | true=>exact .inr ⟨_,by rw[List.lookup_cons,e]⟩
    | false=>rw[e] at h;exact .inl h
   ·refine .inr ?_
    rw[List.lookup_cons]
    cases e:x == n with
    | true=>exact⟨_,rfl⟩
    | false=>exact⟨c,h⟩
  ·rename_i hk
   refine fj ?_
   rcases h with h|h
   ·rw[List.lookup_cons] at h
    cases e:x == n with
    | true =>
     rw[e] at h
     cases h
     exact absurd rfl hk
    | false=>rw[e] at h;exact .inl h
   ·exact .inr h
theorem k6 {env:Env}:∀ {names:List (Str×NameKind)}{x:Str}{k:NameKind},names.lookup x=some k ->
  (names.map fun (n,k)=>if (k == NameKind.free&&env.scope.kind == .function&&env.kindOf n == some .cell) then (n,NameKind.cell) else (n,k)).lookup x=some (if (k == NameKind.free&&env.scope.kind == .function&&env.kindOf x == some .cell) then NameKind.cell else k)
 | [],_,_,h=>by cases h
 | (n,k)::r,x,k',h=>by
  have ih:=@k6 env r x k'
  rw[List.map_cons]
  dsimp only
  cases hx:x == n with
  | true =>
   have e:x=n:=by simpa using hx
   subst e
   rw[List.lookup_cons,hx] at h
   cases h
   split<;>simp[List.lookup_cons, *]
  | false =>
   rw[List.lookup_cons,hx] at h
   have ih:=ih h
   split
   ·rw[List.lookup_cons,hx];exact ih
   ·rw[List.lookup_cons,hx];exact ih
theorem mE {env:Env}:∀ {names:List (Str×NameKind)}{x:Str},names.lookup x=none ->
  (names.map fun (n,k)=>if (k == NameKind.free&&env.scope.kind == .function&&env.kindOf n == some .cell) then (n,NameKind.cell) else (n,k)).lookup x=none
 | [],_,h=>rfl
 | (n,k)::r,x,h=>by
  have ih:=@mE env r x
  rw[List.map_cons]
  dsimp only
  cases hx:x == n with
  | true=>rw[List.lookup_cons,hx] at h;cases h
  | false =>
   rw[List.lookup_cons,hx] at h
   split
   ·rw[List.lookup_cons,hx];exact ih h
   ·rw[List.lookup_cons,hx];exact ih h
end L2
namespace L2
open PySem PySem.Spec PyProof.Rows
noncomputable def eA (X:Cx) (scope:Scope) (C:Addr):Env :=
 { scope:=relabel scope X.env,locals:=C,globals:=X.env.globals,cells:=cellsFrom (C+1) scope.names (dR X.env scope.names []),qual:=X.env.qual,func:=none,code:=X.env.code,frame:=X.env.frame,builtins:=X.env.builtins }
noncomputable def aO (X:Cx) (scope:Scope) (N:List Str) (fp:List Addr) (s:Shared) (H:Hp):Cx :=
 { X with N:=N,s₀:=s,H₀:=H,env:=eA X scope s.heap.objs.size,outer:=X.stack,ex:=fp,fn:=fun x=>decide (scope.names.lookup x=some .cell),pn:=[],xe:=fun _ _=>False }
theorem wG {M:Model}{A:Around}{E:Value->Shared->Prop}{s:Shared}{scope:Scope}{globals:Addr}{cl:List (Str×Addr)}{qual:Str}{env:Env}{Q:Env->Shared->Prop}
  (hQ:∀h',h'.Ns s.heap.objs.size (fun _=>none)->(∀b o,s.heap.get? b=some o->h'.get? b=some o)->CellsOk h' (s.heap.objs.size+1) (cellsFrom (s.heap.objs.size+1) scope.names []) ->
   Q { scope:=scope,locals:=s.heap.objs.size,globals:=globals,cells:=cellsFrom (s.heap.objs.size+1) scope.names cl,qual:=qual,func:=none,code:=env.code,frame:=env.frame,builtins:=env.builtins } { s with heap:=h' }) :
  wpAny M A (newFunctionEnv scope globals cl [] qual none .none (some env)) Q E s:=by
 simp only[newFunctionEnv,Option.isSome_some,if_true]
 refine wpAny_bind (wpAny_alloc ?_)
 refine wpAny_bind (wpAny_layCells _ (fun name kind cells=>by cases hkc:kind == NameKind.cell<;>simp[hkc]) _ _ _ _ ?_)
 have ok:=cellsFrom_ok scope.names (s.heap.push { cls:=.type "dict",data:=.dict #[] }) (s.heap.objs.size+1) [] ⟨fun _ _ hm=>(nomatch hm),List.Pairwise.nil⟩ (by rw[Heap.size_push];exact Nat.le_refl _)
 rw[Heap.size_push] at ok
 rw[show ({ s with heap:=s.heap.push { cls:=.type "dict",data:=.dict #[] } }:Shared).heap.objs.size=s.heap.objs.size+1 from Heap.size_push ..]
 rw[List.forIn_nil]
 refine wpAny_bind (wpAny_pure (wpAny_pure ?_))
 exact hQ _ ((Heap.Ns.new s.heap (.type "dict")).keeps (pushCells_keeps _ _)) (fun b o e=>pushCells_keeps _ _ b o (Heap.get?_push_of_some _ e)) ok
section
variable {X:Cx}{pins:List (Addr×Obj)}{σ σ':St}{H:Hp}{s:Shared}{fp:List Addr}{scope:Scope}{N:List Str}{h4:Heap}
theorem iV (ok:X.Ok) (hfree:∀x∈scope.names,x.2=.free->X.env.kindOf x.1=some .cell\/X.env.kindOf x.1=some .free):∀x∈scope.names,x.2=.free->∃c,X.env.cells.lookup x.1=some c :=
 fun x hx hk=>ok.has x.1 (hfree x hx hk)
theorem mn {C:Addr}{x:Str}{k:NameKind}(h:scope.names.lookup x=some k):(eA X scope C).kindOf x=some k\/(k=.free/\(eA X scope C).kindOf x=some .cell):=by
 have q:=k6 (env:=X.env) h
 have q':(eA X scope C).kindOf x=some (if (k == NameKind.free&&X.env.scope.kind == .function&&X.env.kindOf x == some .cell) then NameKind.cell else k):=q
 rw[q']
 split
 ·rename_i hc
  have:k=.free:=by
   simp only[Bool.and_eq_true,beq_iff_eq] at hc
   exact hc.1.1
  exact .inr ⟨this,rfl⟩
 ·exact .inl rfl
theorem jU {C:Addr}{x:Str}{k:NameKind}(h:(eA X scope C).kindOf x=some k):scope.names.lookup x=some k\/(k=.cell/\scope.names.lookup x=some .free):=by
 cases e:scope.names.lookup x with
 | none =>
  have q:(eA X scope C).kindOf x=none:=mE (env:=X.env) e
  rw[q] at h;cases h
 | some k' =>
  rcases mn (X:=X) (C:=C) e with q|⟨q,q'⟩
  ·rw[q] at h;cases h;exact .inl rfl
  ·rw[q'] at h;cases h;subst q;exact .inr ⟨rfl,rfl⟩
theorem Dc (I:Inv X pins σ H s) (hf:∀b∈fp,cf X pins H b) (hfl:∀b∈fp,b < s.heap.objs.size) (hk:scope.kind=.function)
  (hfree:∀x∈scope.names,x.2=.free->X.env.kindOf x.1=some .cell\/X.env.kindOf x.1=some .free)
  (hns:h4.Ns s.heap.objs.size (fun _=>none)) (hkeep:∀b o,s.heap.get? b=some o->h4.get? b=some o) (hco:CellsOk h4 (s.heap.objs.size+1) (cellsFrom (s.heap.objs.size+1) scope.names []))
  (hdup:∀ {x:Str},(x,NameKind.cell)∈scope.names->(x,NameKind.free)∈scope.names->False) (hcap:∀ (i:Nat) (x:Str) (v:V),N[i]?=some x->σ'[i]?=some (some v)->scope.names.lookup x=some .free/\∃j:Nat,X.N[j]?=some x/\σ[j]?=some (some v)) (hlen:σ'.length=N.length) (t':Nat) :
  Inv (aO X scope N fp s H) [] σ' H { s with heap:=h4,toks:=t' }:=by
 have hcl:=iV I.ok hfree
 have clx:∀x c,(dR X.env scope.names []).lookup x=some c->X.env.cells.lookup x=some c:=fun x c e=>jq hcl (fun _ _ z=>by cases z) x c (mem_of_lookup e)
 have look:∀x c,(eA X scope s.heap.objs.size).cells.lookup x=some c->(x,c)∈cellsFrom (s.heap.objs.size+1) scope.names []\/X.env.cells.lookup x=some c:=fun x c e=>by
  have e:(cellsFrom (s.heap.objs.size+1) scope.names (dR X.env scope.names [])).lookup x=some c:=e
  rw[bO] at e
  rcases iJ e with q|⟨_,q⟩
  ·exact .inl (mem_of_lookup q)
  ·exact .inr (clx x c q)
 have old:∀x c,X.env.cells.lookup x=some c->c < s.heap.objs.size:=fun x c e=>let ⟨_,q⟩:=I.cell x c e;q.lt
 have new:∀x c,(x,c)∈cellsFrom (s.heap.objs.size+1) scope.names []->s.heap.objs.size < c:=fun x c e=>(hco.empty x c e).2
 refine⟨⟨I.ok.mod,?_,I.ok.glob,I.ok.blt,Nat.le_refl _,?_,?_,?_,I.ok.hd,I.ok.frames,.inl rfl,?_,I.bs,Nat.le_trans I.ok.bsz I.sz,?_,?_,I.stack,I.stkFree⟩,rfl,I.bare,Un.kept hkeep,⟨_,hns,?_⟩,?_,I.hok.fresh (Nat.le_refl _),?_,
  fun p hp=>absurd (show p∈([]:List (Addr×Obj)) from hp) (by simp),I.hok.kept hkeep,hlen⟩
 ·show (relabel scope X.env).kind=_
  exact hk
 ·intro x y c e1 e2
  rcases look x c e1 with a|a<;>rcases look y c e2 with b|b
  ·exact name_of_addr hco.apart a b
  ·exact absurd (Nat.lt_trans (new x c a) (old y c b)) (Nat.lt_irrefl _)
  ·exact absurd (Nat.lt_trans (new y c b) (old x c a)) (Nat.lt_irrefl _)
  ·exact I.ok.inj x y c a b
 ·intro x hx
  show ∃c,(cellsFrom (s.heap.objs.size+1) scope.names (dR X.env scope.names [])).lookup x=some c
  refine Option.isSome_iff_exists.mp (PySem.W.cellsFrom_some _ _ _ ?_)
  rcases hx with hx|hx
  ·rcases jU hx with q|⟨_,q⟩
   ·exact .inl q
   ·exact .inr (Option.isSome_iff_exists.mpr (fj (.inl q)))
  ·rcases jU hx with q|⟨q,_⟩
   ·exact .inr (Option.isSome_iff_exists.mpr (fj (.inl q)))
   ·cases q
 ·intro x c hfn e
  have hfn:scope.names.lookup x=some .cell:=of_decide_eq_true hfn
  have e:(cellsFrom (s.heap.objs.size+1) scope.names (dR X.env scope.names [])).lookup x=some c:=e
  obtain⟨c',hc'⟩:=oR (n:=s.heap.objs.size+1) hfn
  rw[bO,iI hc'] at e
  cases e
  exact Nat.le_of_lt (new x c (mem_of_lookup hc'))
 ·intro b hb
  refine⟨Nat.ne_of_lt (hfl b hb),fun x c e z=>?_⟩
  rcases look x c e with a|a
  ·exact absurd (Nat.lt_trans (new x c a) (by rw[z];exact hfl b hb)) (Nat.lt_irrefl _)
  ·exact (hf b hb).2.2.2.2.1 x c a z
 ·intro b o e hb
  obtain⟨f0,f1,f2,f3,f4,f5⟩:=hf b hb
  rcases f3 with z|z
  ·exact I.ok.noex b o e z
  ·exact absurd (Nat.lt_of_lt_of_le (Heap.lt_size (I.ok.bs b o e).1) z) (Nat.lt_irrefl _)
 ·intro b hb hz
  obtain⟨f0,f1,f2,f3,f4,f5⟩:=hf b hb
  rcases List.mem_cons.mp (I.stkSub b hz) with z|z
  ·exact f1 z
  ·exact f2 z
 ·intro i x v e1 e2 e3
  obtain⟨hfr,j,hj,hv⟩:=hcap i x v e1 e2
  have hm:(x,NameKind.free)∈scope.names:=mem_of_lookup hfr
  obtain⟨m,hn,hl⟩:=I.loc
  have kx:=hfree _ hm rfl
  obtain⟨u,ru,lk⟩:=hl j x v hj hv (kx.elim (fun k=>.inr (.inl k)) fun k=>.inr (.inr k))
  refine⟨u,ru,.inr ⟨?_,?_⟩⟩
  ·rcases mn (X:=X) (C:=s.heap.objs.size) hfr with q|⟨_,q⟩
   ·exact .inr q
   ·exact .inl q
  ·rcases lk with ⟨k,_⟩|⟨_,c,ec,ic⟩
   ·have k:X.env.kindOf x=some .local:=k
    rcases kx with k'|k'<;>· rw[k] at k';cases k'
   ·obtain⟨c',hc'⟩:=fj (env:=X.env) (acc:=[]) (.inl hfr)
    have e':=clx x c' hc'
    rw[ec] at e'
    cases e'
    refine⟨c,?_,ic.keeps hkeep⟩
    show (cellsFrom (s.heap.objs.size+1) scope.names (dR X.env scope.names [])).lookup x=some c
    rw[bO]
    cases eo:(cellsFrom (s.heap.objs.size+1) scope.names []).lookup x with
    | none=>rw[gJ eo];exact hc'
    | some d =>
     have hcm:=fE _ _ _ _ (mem_of_lookup eo)
     exact (hdup hcm hm).elim
 ·intro x c e
  rcases look x c e with a|a
  ·exact⟨_,(hco.empty x c a).1⟩
  ·obtain⟨v,q⟩:=I.cell x c a
   exact⟨v,q.keeps hkeep⟩
 ·intro x c e
  rcases look x c e with a|a
  ·exact I.hok.fresh (Nat.le_of_lt (new x c a))
  ·exact I.freeC x c a
end
end L2
namespace L2
open PySem PySem.Spec PyProof.Rows
noncomputable abbrev vy (ifs:List Expr) (env:Env):Sem Bool:=forIn ifs true fun c r=>if r=true then do let ok <- isTrue c env (eval c env);pure (ForInStep.yield ok) else pure (ForInStep.yield r)
noncomputable def Jd (X:Cx) (ifs:List Expr) (t:TT):Prop :=
 ∀ (pins:List (Addr×Obj)) (s:Shared) (σ:St) (H:Hp) (Q:Bool->Hp->Prop),Inv X pins σ H s->t σ H Q->wpAny (model X.prog X.w) X.A (vy ifs X.env) (TP X pins σ Q) X.xe s
theorem EN {X:Cx}:Jd X [] (fun _ H Q=>Q true H):=fun _ _ _ H _ I h=>wpAny_tests_nil ⟨H,I,h⟩
theorem Ew {X:Cx}{c:Expr}{t:TT}(h:PT X c t):Jd X [c] t:=fun pins s σ H Q I q=>wpAny_tests_one (h pins s σ H Q I q)
theorem sv {prog:Program}{w:World}{A:Around}{R:Result->Shared->Prop}{s:Shared}{elt target iter:Expr}{ifs:List Expr}{scope:Scope}{pos:Pos}{it acc:Value}{env:Env}(I:Nat->Shared->Prop)
  (turn:∀n s,I n s->wpAny (model prog w) A (pyNext it) (fun r s₁=>match r with
   | none=>R (.ok .next) s₁
   | some v=>wpAny (model prog w) A (letOwnedTupleGo target it v) (fun _ s₁'=>wpAny (model prog w) A (assign target env v) (fun _ s₂ =>
     wpAny (model prog w) A (vy ifs env) (fun ok s₃ =>
      if ok=true then wpAny (model prog w) A (eval elt env) (fun x s₄ =>
       wpAny (model prog w) A (call (.builtin "list.append") [acc,x]) (fun _ s₅=>∃m,m < n/\I m s₅) (fun _ _=>False) s₄) (fun _ _=>False) s₃
      else ∃m,m < n/\I m s₃) (fun _ _=>False) s₂) (fun _ _=>False) s₁') (fun _ _=>False) s₁) (fun _ _=>False) s)
  (n:Nat) (h:I n s) :
  codeAny (model prog w) A (.compLoop (.ListComp elt [⟨target,iter,ifs,0⟩] scope pos) 0 it acc env) R s:=by
 refine codeAny_loop rfl I (fun n s hI=>?_) n h
 show wpAny _ A ((compTurn (.ListComp elt [⟨target,iter,ifs,0⟩] scope pos) 0 it acc env).onRaise (fun x=>do noteFrame x env;theTreesLotGoes x)) _ _ s
 refine wpAny_noted ?_
 rw[compTurn_list]
 refine wpAny_bind (wpAny_standAt (wpAny_bind (wpAny_mono (turn n s hI) (fun r s₁ h₁=>?_) fun _ _ h'=>h'.elim)))
 cases r with
 | none=>exact wpAny_pure h₁
 | some v =>
  refine wpAny_bind (wpAny_mono h₁ (fun _ s₁' h₁'=>?_) fun _ _ h'=>h'.elim)
  refine wpAny_bind (wpAny_mono h₁' (fun _ s₂ h₂=>wpAny_bind (wpAny_mono h₂ (fun ok s₃ h₃=>?_) fun _ _ h'=>h'.elim)) fun _ _ h'=>h'.elim)
  cases ok with
  | false=>exact wpAny_pure ⟨rfl,h₃⟩
  | true =>
   exact wpAny_bind (wpAny_bind (wpAny_mono h₃ (fun x s₄ h₄=>wpAny_bind (wpAny_mono h₄ (fun _ s₅ h₅=>wpAny_pure (wpAny_pure ⟨rfl,h₅⟩)) fun _ _ h'=>h'.elim)) fun _ _ h'=>h'.elim))
noncomputable def yh (X:Cx) (pins:List (Addr×Obj)) (σ:St) (Q:VK) (acc:Value) (C:Addr) (r:Result) (s5:Shared):Prop :=
 ∃ (D:Addr) (H5:Hp) (m:Str->Option Value),acc=.ref D/\r=.ok .next/\Inv X pins σ H5 s5/\s5.heap.Ns C m/\cf X pins H5 C/\Q (.ref D) H5
noncomputable def BN (J:It) (g:TG) (tt:TT) (te:TE) (D:Addr) (σ0:St) (H0:Hp) (Q:VK):Prop :=
 ∃W:Nat->Nat->St->Hp->Prop,(∃m,W 0 m σ0 H0)/\∀i m σ H,W i m σ H ->
  (J.stop i H/\Q (.ref D) H)\/(J.go i H/\∀x H',J.yld i H x H'->g x σ H' fun σ2 H2=>tt σ2 H2 fun b H3 =>
   if b=true then te σ2 H3 fun v H4=>∃ys,H4 D=some (.lst ys)/\ys.length < sizeLine/\∃m',m' < m/\W (i+1) m' σ2 (upd H4 D (.lst (ys++[v])))
   else ∃m',m' < m/\W (i+1) m' σ2 H3)
section
variable {X:Cx}{pins:List (Addr×Obj)}{σ σ':St}{H:Hp}{s:Shared}{scope:Scope}{N:List Str}
 {tg iter elt:Expr}{ifs:List Expr}{pos:Pos}{g:TG}{tt:TT}{te:TE}
theorem rz {J:It}{fp:List Addr}{it:Addr}{tn:Nat->Heap->Prop}{Q:VK}(hc:X.calm=true) (I:Inv X pins σ H s) (T:Turn X.prog X.w X.K tg J fp it tn) (st:tn 0 s.heap) (hf:∀b∈fp,cf X pins H b) (hk:scope.kind=.function)
  (hfree:∀x∈scope.names,x.2=.free->X.env.kindOf x.1=some .cell\/X.env.kindOf x.1=some .free) (hdup:∀ {x:Str},(x,NameKind.cell)∈scope.names->(x,NameKind.free)∈scope.names->False)
  (hcap:∀ (i:Nat) (x:Str) (v:V),N[i]?=some x->σ'[i]?=some (some v)->scope.names.lookup x=some .free/\∃j:Nat,X.N[j]?=some x/\σ[j]?=some (some v)) (hlen:σ'.length=N.length)
  (hY:∀fp s H,PG (aO X scope N fp s H) tg g/\Jd (aO X scope N fp s H) ifs tt/\PE (aO X scope N fp s H) elt te)
  (hrd:∀D,H D=none->BN J g tt te D σ' (upd H D (.lst [])) Q) {E:Value->Shared->Prop} :
  wpAny (model X.prog X.w) X.A (newList []) (fun acc s₃=>wpAny (model X.prog X.w) X.A (newFunctionEnv scope X.env.globals (dR X.env scope.names []) [] X.env.qual none .none (some X.env)) (fun cenv s₄ =>
   codeAny (model X.prog X.w) X.A (.compStart (.ListComp elt [⟨tg,iter,ifs,0⟩] scope pos) 0 (.ref it) acc { cenv with scope:=relabel scope X.env }) (yh X pins σ Q acc cenv.locals) s₄) E s₃) E s:=by
 refine wpAny_newObj_type ?_
 have hfl:∀b∈fp,b < s.heap.objs.size:=fun b hb=>let ⟨o,e,_⟩:=T.obj _ _ st b hb;Heap.lt_size e
 have I3:=I.lnew (ys:=[]) (its:=[]) (t':=s.toks) .nil (Nat.zero_le _)
 have hD:H s.heap.objs.size=none:=I.fresh
 obtain⟨W,⟨m0,w0⟩,turn⟩:=hrd _ hD
 generalize e3:({ s with heap:=s.heap.push { cls:=.type "list",data:=.seq ([]:List Value).toArray },toks:=s.toks }:Shared)=s3 at I3
 have e3h:s3.heap=s.heap.push { cls:=.type "list",data:=.seq ([]:List Value).toArray }:=by rw[<- e3]
 generalize hH3:upd H s.heap.objs.size (.lst [])=H3 at I3 w0 turn
 have hlt:s.heap.objs.size < s3.heap.objs.size:=by rw[e3h,Heap.size_push];exact Nat.lt_succ_self _
 have hk3:∀b o,s.heap.get? b=some o->s3.heap.get? b=some o:=fun b o e=>by rw[e3h];exact Heap.get?_push_of_some _ e
 generalize s.heap.objs.size=D at *
 have f3:∀b∈fp,cf X pins H3 b:=fun b hb=>by
  obtain⟨f0,f⟩:=hf b hb
  refine⟨?_,f⟩
  rw[<- hH3,ay (Nat.ne_of_lt (hfl b hb))]
  exact f0
 have st3:tn 0 s3.heap:=T.keep _ _ _ st fun b _ o e=>hk3 b o e
 refine wG fun h4 hns hkp hco=>?_
 dsimp only
 have I4:=Dc (N:=N) (σ':=σ') (fp:=fp) I3 f3 (fun b hb=>Nat.lt_trans (hfl b hb) hlt) hk hfree hns hkp hco hdup hcap hlen s3.toks
 have fC:∀H',H' s3.heap.objs.size=none->cf X pins H' s3.heap.objs.size:=fun H' hn=>I3.fpOk (Nat.le_refl _) hn
 obtain⟨hg,htt,hte⟩:=hY fp s3 H3
 have efp:∀b∈fp,∀H':Hp,H' b=none->cf (aO X scope N fp s3 H3) [] H' b:=fun b hb H' hn=>by
  refine⟨hn,(I4.ok.exf b hb).1,I4.ok.exfs b hb,.inl hb,(I4.ok.exf b hb).2,fun p hp=>?_⟩
  cases hp
 have loop:codeAny (model X.prog X.w) X.A (.compLoop (.ListComp elt [⟨tg,iter,ifs,0⟩] scope pos) 0 (.ref it) (.ref D) (eA X scope s3.heap.objs.size)) (yh X pins σ Q (.ref D) s3.heap.objs.size) { s3 with heap:=h4 }:=by
  refine sv (fun n s'=>∃i σ' H',Inv (aO X scope N fp s3 H3) [] σ' H' s'/\tn i s'.heap/\(∀b∈fp,H' b=none)/\W i n σ' H') ?_ m0
   ⟨0,σ',H3,I4,T.keep _ _ _ st3 fun b _ o e=>hkp b o e,fun b hb=>(f3 b hb).1,w0⟩
  rintro n s5 ⟨i,σ5,H5,I5,st5,fr5,w5⟩
  rcases turn i n σ5 H5 w5 with ⟨stop,q⟩|⟨go,step⟩
  ·refine bP (T.done (aO X scope N fp s3 H3) rfl rfl rfl hc i [] s5 σ5 H5 _ I5 (fun b hb=>efp b hb H5 (fr5 b hb)) st5 stop) fun r s6 ⟨hr,I6⟩=>?_
   subst hr
   obtain⟨m,hn6,_⟩:=I6.loc
   refine⟨D,H5,m,rfl,rfl,I3.call' I6.os I6.base I6.hok I6.bare (fun b hb=>?_),hn6,fC H5 I6.free,q⟩
   obtain⟨f0,f1,f2,f4,f5,f6⟩:=f3 b hb
   exact⟨f4,f1,f5,f6⟩
  ·refine bP (T.item (aO X scope N fp s3 H3) rfl rfl rfl hc i [] s5 σ5 H5 _ I5 (fun b hb=>efp b hb H5 (fr5 b hb)) st5 go) fun r s6 ⟨u,hr,h6⟩=>?_
   subst hr
   refine bP h6 fun _ s7 ⟨x,H7,I7,r7,y7,st7,fr7⟩=>?_
   have I7':=I7.pinned (fun b hb=>efp b hb H7 (fr7 b hb)) (T.obj _ _ st7)
   have again:∀ {pl:List (Addr×Obj)}{σ9:St}{H9:Hp}{s9:Shared}{n':Nat},Inv (aO X scope N fp s3 H3) ([]++l7 fp s7.heap) σ9 H9 s9->W (i+1) n' σ9 H9->∃i σ' H',Inv (aO X scope N fp s3 H3) [] σ' H' s9/\tn i s9.heap/\(∀b∈fp,H' b=none)/\W i n' σ' H':=fun {pl σ9 H9 s9 n'} I9 w9=>by
    refine⟨i+1,σ9,H9,I9.unpinned,T.keep _ _ _ st7 fun b hb o e=>(I9.pin (b,o) (List.mem_append_right _ (List.mem_append_right _ (cZ hb e)))).1,fun b hb=>?_,w9⟩
    obtain⟨o,e,d⟩:=T.obj _ _ st7 b hb
    exact (I9.pin (b,o) (List.mem_append_right _ (List.mem_append_right _ (cZ hb e)))).2.1
   refine bP (hg _ s7 σ5 H7 x u _ I7' r7 (step x H7 y7)) fun _ s8 ⟨σ8,H8,I8,q8⟩=>?_
   refine bP (htt _ s8 σ8 H8 _ I8 q8) fun ok s9 ⟨H9,I9,q9⟩=>?_
   cases ok with
   | false =>
    rw[if_neg (by decide)] at q9
    rw[if_neg (by decide)]
    obtain⟨m',hm,w9⟩:=q9
    exact⟨m',hm,again (pl:=[]) I9 w9⟩
   | true =>
    rw[if_pos rfl] at q9
    rw[if_pos rfl]
    refine bP (hte _ s9 σ8 H9 _ I9 q9) fun y s10 ⟨v,H10,I10,r10,ys,hD10,hz,m',hm,w10⟩=>?_
    refine bP (qV (X:=aO X scope N fp s3 H3) _ s10 σ8 H10 (.ref D) [v] (.ref D) [y] (fun _ H'=>W (i+1) m' σ8 H') I10 rfl (.cons r10 .nil) ⟨D,ys,v,rfl,rfl,hD10,hz,w10⟩) fun _ s11 ⟨_,H11,I11,_,w11⟩=>?_
    exact⟨m',hm,again (pl:=[]) I11 w11⟩
 exact codeAny_compStart_list loop (T.self _ 0 _ _ _ (T.keep _ _ _ st3 fun b _ o e=>hkp b o e) loop)
end
end L2
namespace L2
open PySem PySem.Spec PyProof.Rows
noncomputable def Ct (wi:TI) (g:TG) (tt:TT) (te:TE) (caps:St->St):TE:=fun σ H Q=>wi σ H fun J H1=>∀D,H1 D=none->BN J g tt te D (caps σ) (upd H1 D (.lst [])) Q
structure g9 (X:Cx) (scope:Scope) (N:List Str) (caps:St->St):Prop where
 kind:scope.kind=.function
 free:∀x∈scope.names,x.2=.free->X.env.kindOf x.1=some .cell\/X.env.kindOf x.1=some .free
 dup:∀ {x:Str},(x,NameKind.cell)∈scope.names->(x,NameKind.free)∈scope.names->False
 loc:∀x∈scope.names,x.2=.local -> scope.names.lookup x.1=some .local
 cap:∀ (σ:St) (i:Nat) (x:Str) (v:V),N[i]?=some x->(caps σ)[i]?=some (some v)->scope.names.lookup x=some .free/\∃j:Nat,X.N[j]?=some x/\σ[j]?=some (some v)
 len:∀σ:St,(caps σ).length=N.length
section
variable {X:Cx}{scope:Scope}{N:List Str}{caps:St->St}{tg iter elt:Expr}{ifs:List Expr}{pos:Pos}{wi:TI}{g:TG}{tt:TT}{te:TE}
theorem Dz (hc:X.calm=true) (S:g9 X scope N caps) (hi:PI X tg iter wi)
  (hY:∀fp s H,PG (aO X scope N fp s H) tg g/\Jd (aO X scope N fp s H) ifs tt/\PE (aO X scope N fp s H) elt te)
  (hs:∀x,foldedSetIterable iter X.env x=pure x:=by intro _;rfl):PE X (.ListComp elt [⟨tg,iter,ifs,0⟩] scope pos) (Ct wi g tt te caps):=by
 intro pins s σ H Q I h
 rw[eval_ListComp]
 refine wpAny_comprehension_free (use:=none) rfl hs (kc (iV I.ok S.free)) S.kind S.loc (bP (hi pins s σ H _ I h) fun v s1 h1=>bP h1 fun itv s2 h2=>?_)
 obtain⟨it,fp,tn,J,H2,e,I2,T,st2,f2,rd⟩:=h2
 subst e
 refine bP (rz (iter:=iter) (pos:=pos) (E:=X.xe) hc I2 T st2 f2 S.kind S.free S.dup (S.cap σ) (S.len σ) hY rd) fun acc s3 h3=>bP h3 fun cenv s4 h4=>?_
 refine codeAny_mono h4 fun r s5 h5=>?_
 obtain⟨D,H5,m,rfl,rfl,I5,hn,fC,q⟩:=h5
 refine⟨m,hn,fun h' sb=>?_⟩
 obtain⟨f0,f1,f2',f3,f4,f5⟩:=fC
 exact⟨.ref D,H5,I5.turned (t':=s5.toks) (fun b o hb e=>(sb.2 b hb).trans e) f0 f1 f3 f4 f5,rfl,q⟩
theorem Fe {i:Nat}{y:Str}{py spos:Pos}(hc:X.calm=true) (S:g9 X scope N caps) (hi:PI X tg iter wi)
  (hY:∀fp s H,PG (aO X scope N fp s H) tg g/\Jd (aO X scope N fp s H) ifs tt/\PE (aO X scope N fp s H) elt te)
  (hN:X.N.Nodup) (hiy:X.N[i]?=some y) (hy:X.env.scope.names.lookup y=some .local)
  (hsw:swapsWith (.ListComp elt [⟨tg,iter,ifs,0⟩] scope pos) (some (.Name y py)) spos.line X.env=pure true)
  (hs:∀x,foldedSetIterable iter X.env x=pure x:=by intro _;rfl):PS X (.Assign [.Name y py] (.ListComp elt [⟨tg,iter,ifs,0⟩] scope pos) spos) (CF (Ct wi g tt te caps) (uc i)):=by
 intro pins s σ H D I h
 rw[exec_Assign_Name_used _ _ _ _ hsw]
 refine wpAny_bind (wpAny_standAt (wpAny_bind ?_))
 show wpAny _ X.A (do let _ <- comprehension (.ListComp elt [⟨tg,iter,ifs,0⟩] scope pos) scope X.env _ (newList []) false (eval iter X.env) (some (assign (.Name y py) X.env))) _ _ s
 refine wpAny_bind (wpAny_mono (wpAny_comprehension_free (use:=some (assign (.Name y py) X.env)) (Q:=fun _ s'=>SP X pins D .next s') rfl hs (kc (iV I.ok S.free)) S.kind S.loc
  (bP (hi pins s σ H _ I h) fun v s1 h1=>bP h1 fun itv s2 h2=>?_)) (fun _ s' hq=>wpAny_pure (wpAny_pure hq)) fun _ _ e=>e)
 obtain⟨it,fp,tn,J,H2,e,I2,T,st2,f2,rd⟩:=h2
 subst e
 refine bP (rz (iter:=iter) (pos:=pos) (E:=X.xe) hc I2 T st2 f2 S.kind S.free S.dup (S.cap σ) (S.len σ) hY rd) fun acc s3 h3=>bP h3 fun cenv s4 h4=>?_
 refine codeAny_mono h4 fun r s5 h5=>?_
 obtain⟨D',H5,m,rfl,rfl,I5,hn,fC,q⟩:=h5
 show wpAny _ X.A (assign (.Name y py) X.env (.ref D')) _ _ _
 refine wpAny_assign_Name (rg (v:=.ref D') I5 hN hiy (.inl hy) rfl (fun s6 I6 ⟨a,sa,ha⟩=>?_) (.inr hy))
 obtain⟨f0,f1,f2',f3,f4,f5⟩:=fC
 have hne:cenv.locals≠a:=by
  rcases ha with z|z
  ·rw[z];exact f1
  ·exact fun w=>f4 y a z w.symm
 refine⟨m,hn.sameBut sa hne,fun h' sb=>?_⟩
 exact⟨_,H5,I6.turned (t':=s6.toks) (fun b o hb e=>(sb.2 b hb).trans e) f0 f1 f3 f4 f5,q⟩
end
end L2
namespace L2
open PySem PySem.Spec PyProof.Rows
noncomputable abbrev LB (X:Cx) (qual:Str) (scope:Scope) (f c L:Addr):Env:=PySem.W.envX qual scope L f (.ref c) (dR X.env scope.names [])
noncomputable def fU (X:Cx) (A:Around) (qual:Str) (scope:Scope) (N:List Str) (f c:Addr) (s:Shared) (H:Hp):Cx where
 prog:=X.prog
 w:=X.w
 K:=X.K
 mg:=X.mg
 base:=X.base
 A:=A.deeper (LB X qual scope f c s.heap.objs.size)
 N:=N
 s₀:=s
 H₀:=H
 env:=LB X qual scope f c s.heap.objs.size
 outer:=X.stack
 stack:=LB X qual scope f c s.heap.objs.size::X.stack
 ex:=[]
 fn:=fun _=>false
 calm:=true
 pn:=[]
 xe:=fun _ _=>False
section
variable {X:Cx}{pins:List (Addr×Obj)}{σ:St}{H:Hp}{s:Shared}{scope:Scope}{N:List Str}{h1:Heap}{A:Around}{caps:St->St}{p qual:Str}{f c:Addr}{u:Value}{v:V}
theorem ER (I:Inv X pins σ H s) (hd:A.handled=none) (hA:A.frames=some X.stack) (S:g9 X scope N caps) (hnc:∀x∈scope.names,x.2≠.cell) (hN0:N[0]?=some p) (hp:scope.names.lookup p=some .local) (hNd:N.Nodup) (r:RelV v u)
  (hns:h1.Ns s.heap.objs.size (fun x=>[(p,u)].reverse.lookup x)) (hkeep:∀b o,s.heap.get? b=some o->h1.get? b=some o) (t':Nat) :
  Inv (fU X A qual scope N f c s H) [] ((caps σ).set 0 (some v)) H { s with heap:=h1,toks:=t' }:=by
 have hcl:=iV I.ok S.free
 have clx:∀x c,(dR X.env scope.names []).lookup x=some c->X.env.cells.lookup x=some c:=fun x c e=>jq hcl (fun _ _ z=>by cases z) x c (mem_of_lookup e)
 have noA:∀b:Addr,b∉(fU X A qual scope N f c s H).ex:=fun b z=>absurd (show b∈([]:List Addr) from z) (by simp)
 refine⟨⟨I.ok.mod,S.kind,rfl,rfl,Nat.le_refl _,fun x y d e1 e2=>I.ok.inj x y d (clx x d e1) (clx y d e2),fun x hx=>?_,fun x d z=>?_,fun _=>hd,Around.frames_deeper hA,.inr ⟨rfl,rfl⟩,fun b z=>absurd z (noA b),I.bs,Nat.le_trans I.ok.bsz I.sz,fun b _ _=>noA b,fun b z=>absurd z (noA b),I.stack,I.stkFree⟩,
  rfl,I.bare,Un.kept hkeep,⟨_,hns,fun i x w e1 e2 e3=>?_⟩,fun x d e=>?_,I.hok.fresh (Nat.le_refl _),fun x d e=>I.freeC x d (clx x d e),fun q hq=>absurd (show q∈([]:List (Addr×Obj)) from hq) (by simp),I.hok.kept hkeep,?_⟩
 ·rcases hx with hx|hx
  ·exact absurd rfl (hnc _ (mem_of_lookup (show scope.names.lookup x=some .cell from hx)))
  ·exact fj (.inl hx)
 ·cases z
 ·cases i with
  | zero =>
   have e1:N[0]?=some x:=e1
   rw[hN0] at e1
   cases e1
   have hl:0 < (caps σ).length:=by rw[S.len];exact (List.getElem?_eq_some_iff.mp hN0).1
   rw[List.getElem?_set_self hl] at e2
   cases e2
   exact⟨u,r,.inl ⟨hp,by simp⟩⟩
  | succ i =>
   have e2':(caps σ)[i+1]?=some (some w):=by
    rw[List.getElem?_set_ne (by omega)] at e2;exact e2
   obtain⟨hfr,j,hj,hv⟩:=S.cap σ (i+1) x w e1 e2'
   have hm:(x,NameKind.free)∈scope.names:=mem_of_lookup hfr
   obtain⟨m,hn,hl⟩:=I.loc
   have kx:=S.free _ hm rfl
   obtain⟨u',ru,lk⟩:=hl j x w hj hv (kx.elim (fun k=>.inr (.inl k)) fun k=>.inr (.inr k))
   refine⟨u',ru,.inr ⟨.inr hfr,?_⟩⟩
   rcases lk with ⟨k,_⟩|⟨_,c',ec,ic⟩
   ·have k:X.env.kindOf x=some .local:=k
    rcases kx with k'|k'<;>· rw[k] at k';cases k'
   ·obtain⟨c'',hc'⟩:=fj (env:=X.env) (acc:=[]) (.inl hfr)
    have e':=clx x c'' hc'
    rw[ec] at e'
    cases e'
    exact⟨c',hc',ic.keeps hkeep⟩
 ·obtain⟨w,q⟩:=I.cell x d (clx x d e)
  exact⟨w,q.keeps hkeep⟩
 ·rw[List.length_set];exact S.len σ
theorem u5 {k:Nat}{params:Arguments}{body:Expr}{pm ctv:Value}{name:Str}{te:TE}{Q:VK}(I:Inv X pins σ H s) (hr:dH (k+1) A) (hA:A.frames=some X.stack) (S:g9 X scope N caps) (hnc:∀x∈scope.names,x.2≠.cell)
  (hN0:N[0]?=some p) (hp:scope.names.lookup p=some .local) (hNd:N.Nodup) (hco:scope.isCoroutine=false) (hgen:scope.isGenerator=false)
  (hf:s.heap.get? f=some (PySem.W.kla_obj name qual params body scope (dR X.env scope.names []) pm c ctv)) (hcod:H c=some (.cod qual)) (hb:bindArgs (PySem.W.kla_fn name qual params body scope (dR X.env scope.names []) pm (.ref c) ctv) ⟨[u],[]⟩=pure [(p,u)])
  (r:RelV v u) (hY:PE (fU X A qual scope N f c s H) body te) (q:te ((caps σ).set 0 (some v)) H Q) :
  wpAny (model X.prog X.w) A (call (.ref f) [u]) (EP X pins σ Q) (fun _ _=>False) s:=by
 have hcd:s.heap.CodeRec (.ref c) qual:=I.hok c _ hcod
 refine wpAny_call (PySem.W.kla_callFunE hr.depth hf rfl hco hgen rfl hcd ?_)
 rw[hb]
 refine wpAny_pure (wpAny_newFunctionEnv hnc (fun y hy=>?_) (fun h1 hns hsb=>⟨?_,?_⟩) S.kind)
 ·rw[List.mem_singleton.mp hy];exact hp
 ·exact I.nolimit.fresh _ hsb
 ·have hk1:∀b o,s.heap.get? b=some o->h1.get? b=some o:=fun b o e=>hsb.extBut b o (Nat.ne_of_lt (Heap.lt_size e)) (Heap.get?_push_of_some _ e)
  have I1:=ER (qual:=qual) (f:=f) (c:=c) I hr.hd hA S hnc hN0 hp hNd r hns hk1 (s.toks+[(p,u)].length)
  refine PySem.W.kla_codeExpr (wpAny_mono (hY [] _ _ H Q I1 q) (fun w s' ⟨v',H',I',r',q'⟩=>?_) fun e s' h=>False.elim h)
  exact⟨v',H',I.call' I'.os I'.base I'.hok I'.bare (fun b z=>absurd (show b∈([]:List Addr) from z) (by simp)),r',q'⟩
end
theorem xE {pos pos':Pos}{c v:Value}(l:List Value) (h:TriplesOk l) (e:codeAmong pos' (l++[rawInt pos.line,rawInt pos.col,c])=some v):codeAmong pos' l=some v\/v=c:=by
 fun_induction TriplesOk l with
 | case1 =>
  simp only[List.nil_append,codeAmong,rawInt] at e
  split at e
  ·cases e;exact .inr rfl
  ·cases e
 | case2 a t b u x rest ih =>
  simp only[List.cons_append,codeAmong] at e ⊢
  split at e
  ·rename_i hc;rw[if_pos hc];exact .inl e
  ·rename_i hc;rw[if_neg hc];exact ih h e
 | case3 l h1 h2=>exact h.elim
section
variable {X:Cx}{pins:List (Addr×Obj)}{σ:St}{H:Hp}{s:Shared}{scope:Scope}{N:List Str}{caps:St->St}{qual:Str}{c P:Addr}
theorem ue {params:Arguments}{body:Expr}{lpos:Pos}{Q:Value->Shared->Prop}(I:Inv X pins σ H s) (S:g9 X scope N caps) (hq:X.env.qual++"<lambda>"=qual) (hcode:X.env.code=.ref c) (C:PySem.W.CodeHd X.base c P) (hT:H P=some (.tab qual)) (hB:Kv X.mg X.base)
  (hdef:defaultsOf params X.env=([],[]))
  (h:∀ (f c':Addr) (pm ctv:Value) (s':Shared) (H':Hp),Inv X pins σ H' s'->s'.heap.get? f=some (PySem.W.kla_obj "<lambda>" qual params body scope (dR X.env scope.names []) pm c' ctv)->H' f=none->H' c'=some (.cod qual)->aV H H'->cf X pins H' f->(∀b,H' b≠none->H b≠none\/H' b=some (.cod qual))->Q (.ref f) s') :
  wpAny (model X.prog X.w) X.A (eval (.Lambda params body scope lpos) X.env) Q X.xe s:=by
 have hcl:=kc (iV I.ok S.free)
 have hCs:=C.keeps I.bk
 have hg:s.heap.Ns mainGlobals X.mg:=by
  obtain⟨o,es,ep,e,r⟩:=I.ok.mod.glob
  exact⟨o,es,ep,I.bk _ _ e,r⟩
 have hPn:X.base.get? P=none:=by
  cases e:X.base.get? P with
  | none=>rfl
  | some o=>rw[(I.bs P o e).2] at hT;cases hT
 obtain⟨ps,hP,ht,hco⟩:=I.hok P _ hT
 have hb:s.heap.BuiltinsAt X.mg P:=by
  obtain⟨bm,o,b1,b2,b3,b4,b5⟩:=hB
  exact⟨bm,o,b1,b2,b3,(fun z=>by rw[z,hPn] at b4;cases b4),I.bk _ _ b4,b5⟩
 refine PySem.W.kla_eval hdef ?_
 rw[hq]
 cases hf:codeAmong lpos ps.toList with
 | some cv =>
  obtain⟨c',rfl,hc'⟩:=hco lpos cv hf
  refine PySem.W.kla_makeFunctionHit hcl I.ok.glob hg hcode hCs hP ht hf hb fun ctv h' tk kp hz=>?_
  have kp2:∀b o,s.heap.get? b=some o->(h'.push (PySem.W.kla_obj "<lambda>" qual params body scope (dR X.env scope.names []) ((X.mg "__name__").getD .none) c' ctv)).get? b=some o:=fun b o e=>Heap.get?_push_of_some _ (kp b o e)
  have hn:H h'.objs.size=none:=I.hok.fresh hz
  exact h _ c' _ ctv _ H (I.kept (t':=tk) kp2) (Heap.get?_push_size _ rfl) hn hc' (.refl _) (I.fpOk hz hn) fun b z=>.inl z
 | none =>
  have hgP:mainGlobals≠P:=fun z=>by
   obtain⟨o,es,ep,e,r⟩:=I.ok.mod.glob
   rw[z,hPn] at e;cases e
  refine PySem.W.kla_makeFunction hcl I.ok.glob hg hcode hCs hP ht hf hgP hb fun c' ctv h' tk hx hc1 hc2 hcr hP'=>?_
  have hn:H c'=none:=I.hok.fresh hc1
  have hz:s.heap.objs.size<=h'.objs.size:=Nat.le_of_lt (Nat.lt_of_le_of_lt hc1 hc2)
  have nP:∀ {b:Addr}{u:HO},H b=some u->(∀q,u≠.tab q)->b≠P:=fun {b u} e hne z=>by subst z;rw[hT] at e;cases e;exact hne _ rfl
  have kp:∀b o,b≠P->s.heap.get? b=some o->(h'.push (PySem.W.kla_obj "<lambda>" qual params body scope (dR X.env scope.names []) ((X.mg "__name__").getD .none) c' ctv)).get? b=some o:=fun b o hb e=>Heap.get?_push_of_some _ (hx b o hb e)
  have hPc:P≠c':=fun z=>by rw[<- z,hT] at hn;cases hn
  have up:∀b u,H b=some u->upd H c' (.cod qual) b=some u:=fun b u e=>by rw[ay (aJ e hn)];exact e
  have un:Un X.fs [] H (upd H c' (.cod qual)) s.heap (h'.push (PySem.W.kla_obj "<lambda>" qual params body scope (dR X.env scope.names []) ((X.mg "__name__").getD .none) c' ctv)):=by
   refine⟨fun b o e n _ _=>kp b o (fun z=>by rw[z,hT] at n;cases n) e,fun b o e n _ _=>⟨o.slots,kp b o (fun z=>by rw[z,hT] at n;cases n) e⟩,fun b o e n _=>?_,fun b o e _=>?_,fun b xs e=>up b _ e,fun b o u e=>up b _ e,⟨fun b u e _=>up b u e,fun b q ps' e z=>?_⟩⟩
   ·rw[ay (Nat.ne_of_lt (Nat.lt_of_lt_of_le (Heap.lt_size e) hc1))];exact n
   ·by_cases hb:b=P
    ·subst hb;exact⟨_,Heap.get?_push_of_some _ hP'⟩
    ·exact⟨o,kp b o hb e⟩
   ·by_cases hb:b=P
    ·subst hb
     rw[hP] at z
     cases z
     exact⟨_,Heap.get?_push_of_some _ hP'⟩
    ·exact⟨#[],by rw[Array.append_empty];exact kp b _ hb z⟩
  have hok:nB X.prog X.w (upd H c' (.cod qual)) (h'.push (PySem.W.kla_obj "<lambda>" qual params body scope (dR X.env scope.names []) ((X.mg "__name__").getD .none) c' ctv)):=by
   intro b u e
   by_cases hbc:b=c'
   ·subst hbc
    rw[aD] at e
    cases e
    obtain⟨c0,oc,vs,t,e0,e1,r⟩:=hcr
    exact⟨c0,oc,vs,t,e0,Heap.get?_push_of_some _ e1,r⟩
   ·rw[ay hbc] at e
    by_cases hb:b=P
    ·subst hb
     rw[hT] at e
     cases e
     refine⟨_,Heap.get?_push_of_some _ hP',?_,fun pos v hv=>?_⟩
     ·have:=TriplesOk_snoc lpos.line lpos.col (.ref c') ps.toList ht
      simpa using this
     ·have hv':codeAmong pos (ps.toList++[rawInt lpos.line,rawInt lpos.col,.ref c'])=some v:=by simpa using hv
      rcases xE ps.toList ht hv' with z|z
      ·obtain⟨c0,z1,z2⟩:=hco pos v z
       exact⟨c0,z1,up _ _ z2⟩
      ·exact⟨c',z,aD⟩
    ·exact (I.hok b u e).stay (fun d o hd eo=>kp d o (by
      rcases hd with rfl|hd
      ·exact hb
      ·exact nP hd fun q z=>by cases z) eo) (fun d hd=>up d _ hd) fun d o hd _=>up d _ hd
  have I':=I.un (t':=tk) un hok
  have hnf:upd H c' (.cod qual) h'.objs.size=none:=by
   rw[ay (Nat.ne_of_gt hc2)];exact I.hok.fresh hz
  refine h _ c' _ ctv _ _ I' (Heap.get?_push_size _ rfl) hnf aD up (I.fpOk hz hnf) fun b z=>?_
  by_cases hbc:b=c'
  ·subst hbc;exact .inr aD
  ·rw[ay hbc] at z;exact .inl z
end
end L2
namespace Dl
open PySem L2 PySem.Spec PyProof.Rows
noncomputable abbrev D:=PyData
mutual
noncomputable def Rep (K:PySem.W.Frag) (H:Hp):D->V->Prop
 | .none,v=>v=.non
 | .bool b,v=>v=.bl b
 | .int i,v=>v=.int i
 | .str x,v=>v=.str x
 | .tuple ds,v=>∃a vs,v=.ref a/\iM K H a vs/\aq K H ds vs
 | .list ds,v=>∃a vs,v=.ref a/\gT K H a vs/\aq K H ds vs
 | .dict _,_=>False
noncomputable def aq (K:PySem.W.Frag) (H:Hp):List D->List V->Prop
 | [],vs=>vs=[]
 | d::ds,vs=>∃v r,vs=v::r/\Rep K H d v/\aq K H ds r
end
theorem aw {K:PySem.W.Frag}{H H':Hp}{a:Addr}{xs:List V}(e:aV H H') (h:iM K H a xs):iM K H' a xs:=by
 rcases h with (h|⟨o,h⟩)|h
 ·exact .inl (.inl (e _ _ h))
 ·exact .inl (.inr ⟨o,e _ _ h⟩)
 ·exact .inr h
mutual
theorem Rep.mono {K:PySem.W.Frag}{H H':Hp}(e:aV H H'):∀ {d:D}{v:V},Rep K H d v->Rep K H' d v
 | .none,_,h=>h
 | .bool _,_,h=>h
 | .int _,_,h=>h
 | .str _,_,h=>h
 | .tuple ds,_,h=>by
  simp only[Rep] at h ⊢
  obtain⟨a,vs,rfl,q,r⟩:=h
  exact⟨a,vs,rfl,aw e q,aq.mono e r⟩
 | .list ds,_,h=>by
  simp only[Rep] at h ⊢
  obtain⟨a,vs,rfl,q,r⟩:=h
  exact⟨a,vs,rfl,e.seq q,aq.mono e r⟩
 | .dict _,_,h=>h
theorem aq.mono {K:PySem.W.Frag}{H H':Hp}(e:aV H H'):∀ {ds:List D}{vs:List V},aq K H ds vs->aq K H' ds vs
 | [],_,h=>h
 | d::ds,_,h=>by
  simp only[aq] at h ⊢
  obtain⟨v,r,rfl,a,b⟩:=h
  exact⟨v,r,rfl,Rep.mono e a,aq.mono e b⟩
end
section
variable {K:PySem.W.Frag}{H:Hp}
theorem aq.nil:aq K H [] []:=by simp[aq]
theorem aq.cons {d:D}{v:V}{ds:List D}{vs:List V}(a:Rep K H d v) (b:aq K H ds vs):aq K H (d::ds) (v::vs):=by
 simp only[aq];exact⟨v,vs,rfl,a,b⟩
theorem aq.cons_inv {d:D}{ds:List D}{vs:List V}(h:aq K H (d::ds) vs):∃v r,vs=v::r/\Rep K H d v/\aq K H ds r:=by simpa only[aq] using h
theorem aq.nil_inv {vs:List V}(h:aq K H [] vs):vs=[]:=by simpa only[aq] using h
theorem aq.length:∀ {ds:List D}{vs:List V},aq K H ds vs->vs.length=ds.length
 | [],_,h=>by rw[h.nil_inv];rfl
 | d::ds,_,h=>by obtain⟨v,r,rfl,_,b⟩:=h.cons_inv;simp[aq.length b]
theorem aq.get:∀ {ds:List D}{vs:List V}{i:Nat}{v:V},aq K H ds vs->vs[i]?=some v->∃d,ds[i]?=some d/\Rep K H d v
 | [],_,i,v,h,e=>by rw[h.nil_inv] at e;simp at e
 | d::ds,_,i,v,h,e=>by
  obtain⟨v',r,rfl,a,b⟩:=h.cons_inv
  cases i with
  | zero=>simp at e;subst e;exact⟨d,rfl,a⟩
  | succ i=>simp at e;obtain⟨d',h1,h2⟩:=aq.get b e;exact⟨d',by simpa using h1,h2⟩
theorem aq.getD:∀ {ds:List D}{vs:List V}{i:Nat}{d:D},aq K H ds vs->ds[i]?=some d->∃v,vs[i]?=some v/\Rep K H d v
 | [],_,i,d,h,e=>by simp at e
 | d::ds,_,i,d',h,e=>by
  obtain⟨v',r,rfl,a,b⟩:=h.cons_inv
  cases i with
  | zero=>simp at e;subst e;exact⟨v',rfl,a⟩
  | succ i=>simp at e;obtain⟨v,h1,h2⟩:=aq.getD b e;exact⟨v,by simpa using h1,h2⟩
theorem aq.append:∀ {ds es:List D}{vs us:List V},aq K H ds vs->aq K H es us->aq K H (ds++es) (vs++us)
 | [],_,_,_,h,g=>by rw[h.nil_inv];exact g
 | d::ds,_,_,_,h,g=>by obtain⟨v,r,rfl,a,b⟩:=h.cons_inv;exact aq.cons a (aq.append b g)
theorem aq.take:∀ {ds:List D}{vs:List V}(n:Nat),aq K H ds vs->aq K H (ds.take n) (vs.take n)
 | [],_,n,h=>by rw[h.nil_inv];simp[aq]
 | d::ds,_,0,h=>by simp[aq]
 | d::ds,_,n+1,h=>by obtain⟨v,r,rfl,a,b⟩:=h.cons_inv;exact aq.cons a (aq.take n b)
theorem aq.drop:∀ {ds:List D}{vs:List V}(n:Nat),aq K H ds vs->aq K H (ds.drop n) (vs.drop n)
 | [],_,n,h=>by rw[h.nil_inv];simp[aq]
 | d::ds,_,0,h=>h
 | d::ds,_,n+1,h=>by obtain⟨v,r,rfl,a,b⟩:=h.cons_inv;exact aq.drop n b
theorem aq.reverse:∀ {ds:List D}{vs:List V},aq K H ds vs->aq K H ds.reverse vs.reverse
 | [],_,h=>by rw[h.nil_inv];simp[aq]
 | d::ds,_,h=>by
  obtain⟨v,r,rfl,a,b⟩:=h.cons_inv
  rw[List.reverse_cons,List.reverse_cons]
  exact aq.append (aq.reverse b) (aq.cons a aq.nil)
end
structure cb (HF H HF' H':Hp):Prop where
 hh:aV H H'
 ff:aV HF HF'
 fh:aV HF' H'
 nw:∀a o,HF' a=some o->HF a=some o\/H a=none
theorem cb.refl {HF H:Hp}(s:aV HF H):cb HF H HF H:=⟨.refl _,.refl _,s,fun _ _ e=>.inl e⟩
theorem cb.trans {HF H HF1 H1 HF2 H2:Hp}(a:cb HF H HF1 H1) (b:cb HF1 H1 HF2 H2):cb HF H HF2 H2 :=
 ⟨a.hh.trans b.hh,a.ff.trans b.ff,b.fh,fun x o e=>(b.nw x o e).elim (fun z=>a.nw x o z) fun z=>.inr (a.hh.free z)⟩
theorem dw {H:Hp}{p:Addr}{o:HO}(h:H p=none):aV H (upd H p o):=fun b u e=>by rw[ay (aJ e h)];exact e
theorem cb.new {HF H:Hp}{p:Addr}{o:HO}(s:aV HF H) (h:H p=none):cb HF H (upd HF p o) (upd H p o):=by
 have hf:HF p=none:=s.free h
 refine⟨dw h,dw hf,fun b u e=>?_,fun b u e=>?_⟩
 ·by_cases hb:b=p
  ·subst hb;rw[aD] at e ⊢;exact e
  ·rw[ay hb] at e ⊢;exact s b u e
 ·by_cases hb:b=p
  ·subst hb;exact .inr h
  ·rw[ay hb] at e;exact .inl e
theorem cb.own {HF H:Hp}{p:Addr}{o:HO}(s:aV HF H) (h:H p=none):cb HF H HF (upd H p o) :=
 ⟨dw h,.refl _,fun b u e=>by rw[ay (aJ (s b u e) h)];exact s b u e,fun _ _ e=>.inl e⟩
theorem cb.freeze {HF H HF1 H1:Hp}{p:Addr}{o:HO}(g:cb HF H HF1 H1) (h:H p=none) (h1:H1 p=some o) (hf:HF1 p=none):cb HF H (upd HF1 p o) H1 :=
 ⟨g.hh,g.ff.trans (dw hf),fun b u e=>by
  by_cases hb:b=p
  ·subst hb;rw[aD] at e;rw[h1,<- e]
  ·rw[ay hb] at e;exact g.fh b u e,fun b u e=>by
  by_cases hb:b=p
  ·subst hb;exact .inr h
  ·rw[ay hb] at e;exact g.nw b u e⟩
noncomputable def i8:List Str:=["ways_of","turned_order","fairest"]
noncomputable def eY (K:PySem.W.Frag) (HF:Hp):Prop:=∀ (f:Addr) (oc:Value) (od:Option Addr) (fd:FuncData) (sl:Array (Option Value)) (c P:Addr),K.lookup f=some ⟨oc,od,.func fd,sl⟩->fd.qualname∈i8->fd.code=.ref c->PySem.W.codeHdIn K c P=true->HF P=some (.tab (fd.qualname++".<locals>."++"<lambda>"))
theorem eY.mono {K:PySem.W.Frag}{HF HF':Hp}(h:eY K HF) (e:aV HF HF'):eY K HF':=fun f oc od fd sl c P a b d q=>e _ _ (h f oc od fd sl c P a b d q)
noncomputable abbrev Env:=List (Option D)
structure cG (K:PySem.W.Frag) (HF:Hp) (ρ:Env) (σ:L2.St):Prop where
 get:∀ (i:Nat) (d:D),ρ[i]?=some (some d)->∃v,σ[i]?=some (some v)/\Rep K HF d v
 len:ρ.length<=σ.length
 tb:eY K HF
theorem cG.mono {K:PySem.W.Frag}{HF HF':Hp}{ρ:Env}{σ:L2.St}(h:cG K HF ρ σ) (e:aV HF HF'):cG K HF' ρ σ:=⟨fun i d q=>let ⟨v,a,b⟩:=h.get i d q;⟨v,a,b.mono e⟩,h.len,h.tb.mono e⟩
noncomputable def tD (K:PySem.W.Frag) (f:Env->Option D):TE:=fun σ H Q=>∃HF ρ d,aV HF H/\cG K HF ρ σ/\f ρ=some d/\∀v H' HF',cb HF H HF' H'->Rep K HF' d v->Q v H'
noncomputable def DE (X:Cx) (e:Expr) (f:Env->Option D):Prop:=PE X e (tD X.K f)
noncomputable def tF (K:PySem.W.Frag) (f:Env->Option (List D)):TE:=fun σ H Q=>∃HF ρ ds,aV HF H/\cG K HF ρ σ/\f ρ=some ds /\
 ∀a vs H' HF',cb HF H HF' H'->H a=none->HF' a=none->H' a=some (.lst vs)->aq K HF' ds vs->Q (.ref a) H'
noncomputable def DF (X:Cx) (e:Expr) (f:Env->Option (List D)):Prop:=PE X e (tF X.K f)
noncomputable def Il (K:PySem.W.Frag) (f:Env->Option Bool):TT:=fun σ H Q=>∃HF ρ b,aV HF H/\cG K HF ρ σ/\f ρ=some b/\∀H' HF',cb HF H HF' H'->Q b H'
noncomputable def DT (X:Cx) (e:Expr) (f:Env->Option Bool):Prop:=PT X e (Il X.K f)
noncomputable def KH (K:PySem.W.Frag) (f:Env->Option (List D)):TA:=fun σ H Q=>∃HF ρ ds,aV HF H/\cG K HF ρ σ/\f ρ=some ds/\∀vs H' HF',cb HF H HF' H'->aq K HF' ds vs->Q vs H'
noncomputable def DA (X:Cx) (es:List Expr) (f:Env->Option (List D)):Prop:=PA X es (KH X.K f)
section
variable {X:Cx}
theorem aN {e:Expr}{t t':TE}(h:PE X e t) (i:∀σ H Q,t' σ H Q->t σ H Q):PE X e t':=fun pins s σ H Q I q=>h pins s σ H Q I (i σ H Q q)
theorem sf {e:Expr}{t t':TT}(h:PT X e t) (i:∀σ H Q,t' σ H Q->t σ H Q):PT X e t':=fun pins s σ H Q I q=>h pins s σ H Q I (i σ H Q q)
theorem CJ {e:List Expr}{t t':TA}(h:PA X e t) (i:∀σ H Q,t' σ H Q->t σ H Q):PA X e t':=fun pos pins s σ H Q I q=>h pos pins s σ H Q I (i σ H Q q)
theorem bs {α β:Type}{x:Option α}{f:α->Option β}{b:β}(h:x.bind f=some b):∃a,x=some a/\f a=some b:=by
 cases x with
 | none=>cases h
 | some a=>exact⟨a,rfl,h⟩
theorem DF.de {e:Expr}{f:Env->Option (List D)}(h:DF X e f):DE X e (fun ρ=>(f ρ).map PyData.list):=aN h fun σ H Q ⟨HF,ρ,d,sm,eo,hf,q⟩=>by
 have hf:(f ρ).map PyData.list=some d:=hf
 cases e1:f ρ with
 | none=>rw[e1] at hf;cases hf
 | some ds =>
  rw[e1] at hf
  obtain rfl:PyData.list ds=d:=Option.some.inj hf
  refine⟨HF,ρ,ds,sm,eo,e1,fun a vs H' HF' g ha hf' h' r=>q _ _ (upd HF' a (.lst vs)) (g.freeze ha h' hf') ?_⟩
  simp only[Rep]
  exact⟨a,vs,rfl,.inl (.inl aD),r.mono (dw hf')⟩
noncomputable def ab (i:Nat):Env->Option D:=fun ρ=>(ρ[i]?).getD none
theorem Ge (i:Nat) {x:Str}{pos:Pos}(hN:X.N[i]?=some x) (hv:FD X.env.scope x) (hd:(x == ("__debug__":Str))=false:=by decide) (hcd:(x == ("__classdict__":Str))=false:=by decide):DE X (.Name x pos) (ab i) :=
 aN (oF hN hv hd hcd) fun σ H Q ⟨HF,ρ,d,sm,eo,hf,q⟩=>by
  have hf:(ρ[i]?).getD none=some d:=hf
  cases e:ρ[i]? with
  | none=>rw[e] at hf;cases hf
  | some o =>
   rw[e] at hf
   have hf:o=some d:=hf
   subst hf
   obtain⟨v,a,b⟩:=eo.get i d e
   exact⟨v,a,q v H HF (.refl sm) b⟩
noncomputable def fC (d:D):Env->Option D:=fun _=>some d
theorem Hq {i j pos}:DE X (.Constant (.int i) j pos) (fC (.int i)):=aN rJ fun σ H Q ⟨HF,ρ,d,sm,eo,hf,q⟩=>by cases hf;exact q _ H HF (.refl sm) (by simp[Rep])
theorem JT {b j pos}:DE X (.Constant (.bool b) j pos) (fC (.bool b)):=aN Jf fun σ H Q ⟨HF,ρ,d,sm,eo,hf,q⟩=>by cases hf;exact q _ H HF (.refl sm) (by simp[Rep])
theorem Gr {j pos}:DE X (.Constant .none j pos) (fC .none):=aN IU fun σ H Q ⟨HF,ρ,d,sm,eo,hf,q⟩=>by cases hf;exact q _ H HF (.refl sm) (by simp[Rep])
theorem Hf {x j pos}:DE X (.Constant (.str x) j pos) (fC (.str x)):=aN Iu fun σ H Q ⟨HF,ρ,d,sm,eo,hf,q⟩=>by cases hf;exact q _ H HF (.refl sm) (by simp[Rep])
theorem DL {x:Str}{i:Int}{t:Tok}{pos:Pos}(hg:Gl X x) (hm:X.mg x=some (.int i t)) (hd:(x == ("__debug__":Str))=false:=by decide):DE X (.Name x pos) (fC (.int i)) :=
 aN (D5 (v:=.int i) hg hm ⟨t,rfl⟩ hd) fun σ H Q ⟨HF,ρ,d,sm,eo,hf,q⟩=>by cases hf;exact q _ H HF (.refl sm) (by simp[Rep])
noncomputable def eS (K:PySem.W.Frag) (r:R2) (g:D->D->Option D):Prop:=∀HF H x y v1 v2 d Q,aV HF H->Rep K HF x v1->Rep K HF y v2->g x y=some d->(∀v H' HF',cb HF H HF' H'->Rep K HF' d v->Q v H')->r v1 v2 H Q
noncomputable def f2 (g:D->D->Option D) (f1 f2:Env->Option D):Env->Option D:=fun ρ=>(f1 ρ).bind fun x=>(f2 ρ).bind fun y=>g x y
variable {a b c:Expr}{fa fb fc:Env->Option D}{pos:Pos}
theorem EU {r:R2}{g:D->D->Option D}(hr:eS X.K r g):∀σ H Q,tD X.K (f2 g fa fb) σ H Q->JR r (tD X.K fa) (tD X.K fb) σ H Q:=fun σ H Q ⟨HF,ρ,d,sm,eo,hf,q⟩=>by
 obtain⟨x,hx,hf⟩:=bs hf
 obtain⟨y,hy,hg⟩:=bs hf
 exact⟨HF,ρ,x,sm,eo,hx,fun v1 H1 HF1 g1 r1=>⟨HF1,ρ,y,g1.fh,eo.mono g1.ff,hy,fun v2 H2 HF2 g2 r2=>hr HF2 H2 x y v1 v2 d Q g2.fh (r1.mono g2.ff) r2 hg fun v H' HF' g3 r3=>q v H' HF' ((g1.trans g2).trans g3) r3⟩⟩
theorem ug {op:Operator}{r:R2}{g:D->D->Option D}(ho:gA X (binaryOp op) r) (hr:eS X.K r g) (ha:DE X a fa) (hb:DE X b fb):DE X (.BinOp a op b pos) (f2 g fa fb):=aN (C9 ho ha hb) (EU hr)
theorem il {op:CmpOp}{r:R2}{g:D->D->Option D}(ho:gA X (compareOp op) r) (hr:eS X.K r g) (ha:DE X a fa) (hb:DE X b fb) (hm:behindInMarks op b=false):DE X (.Compare a [op] [b] pos) (f2 g fa fb):=aN (ED ho ha hb hm) (EU hr)
noncomputable def rM (C:Int->Int->Prop) [∀i j,Decidable (C i j)] (g:Int->Int->D):D->D->Option D
 | .int i,.int j=>if C i j then some (g i j) else none
 | _,_=>none
theorem Ce {K:PySem.W.Frag}{C:Int->Int->Prop}[∀i j,Decidable (C i j)] {gi:Int->Int->Int}:eS K (rI C fun i j=>.int (gi i j)) (rM C fun i j=>.int (gi i j)):=by
 intro HF H x y v1 v2 d Q sm r1 r2 hg q
 cases x<;>cases y<;>simp only[rM] at hg<;>try cases hg
 rename_i i j
 simp only[Rep] at r1 r2
 by_cases hc:C i j
 ·rw[if_pos hc] at hg
  cases hg
  exact⟨i,j,r1,r2,hc,q _ H HF (.refl sm) (by simp[Rep])⟩
 ·rw[if_neg hc] at hg;cases hg
theorem AF {K:PySem.W.Frag}{gi:Int->Int->Int}:eS K (Dj fun i j=>.int (gi i j)) (rM (fun _ _=>True) fun i j=>.int (gi i j)):=by
 intro HF H x y v1 v2 d Q sm r1 r2 hg q
 cases x<;>cases y<;>simp only[rM] at hg<;>try cases hg
 rename_i i j
 simp only[Rep] at r1 r2
 exact⟨i,j,r1,r2,q _ H HF (.refl sm) (by simp[Rep])⟩
theorem gq {K:PySem.W.Frag}{gi:Int->Int->Bool}:eS K (Dj fun i j=>.bl (gi i j)) (rM (fun _ _=>True) fun i j=>.bool (gi i j)):=by
 intro HF H x y v1 v2 d Q sm r1 r2 hg q
 cases x<;>cases y<;>simp only[rM] at hg<;>try cases hg
 rename_i i j
 simp only[Rep] at r1 r2
 exact⟨i,j,r1,r2,q _ H HF (.refl sm) (by simp[Rep])⟩
noncomputable instance (i j:Int):Decidable (pY i j):=by unfold pY;infer_instance
noncomputable instance (i j:Int):Decidable (Ez i j):=by unfold Ez;infer_instance
end
end Dl
namespace Dl
open PySem L2 PySem.Spec PyProof.Rows
section
variable {X:Cx}{a b c:Expr}{fa fb fc:Env->Option D}{pos:Pos}{rest:List Expr}
noncomputable def jK (fa fb:Env->Option D):Env->Option D:=fun ρ=>(fa ρ).bind fun|.bool true=>fb ρ|.bool false=>some (.bool false)|_=>none
noncomputable def Lj (fa fb:Env->Option D):Env->Option D:=fun ρ=>(fa ρ).bind fun|.bool true=>some (.bool true)|.bool false=>fb ρ|_=>none
noncomputable def Jn:D->Option D|.bool b=>some (.bool (!b))|_=>none
noncomputable def Gf (fa:Env->Option D):Env->Option D:=fun ρ=>(fa ρ).bind Jn
theorem IK {op}(h:DE X a fa):DE X (.BoolOp op [a] pos) fa:=Gu h
theorem HJ (ha:DE X a fa) (hb:DE X (.BoolOp .And (b::rest) pos) fb):DE X (.BoolOp .And (a::b::rest) pos) (jK fa fb):=aN (IB ha hb) fun σ H Q ⟨HF,ρ,d,sm,eo,hf,q⟩=>by
 obtain⟨x,hx,hf⟩:=bs hf
 refine⟨HF,ρ,x,sm,eo,hx,fun v1 H1 HF1 g1 r1=>?_⟩
 cases x<;>try cases hf
 rename_i k
 simp only[Rep] at r1
 refine⟨k,r1,?_⟩
 cases k with
 | true=>exact uW ⟨HF1,ρ,d,g1.fh,eo.mono g1.ff,hf,fun v H' HF' g r=>q v H' HF' (g1.trans g) r⟩
 | false=>cases hf;exact vA (q _ H1 HF1 g1 (by simp[Rep]))
theorem Kk (ha:DE X a fa) (hb:DE X (.BoolOp .Or (b::rest) pos) fb):DE X (.BoolOp .Or (a::b::rest) pos) (Lj fa fb):=aN (Be ha hb) fun σ H Q ⟨HF,ρ,d,sm,eo,hf,q⟩=>by
 obtain⟨x,hx,hf⟩:=bs hf
 refine⟨HF,ρ,x,sm,eo,hx,fun v1 H1 HF1 g1 r1=>?_⟩
 cases x<;>try cases hf
 rename_i k
 simp only[Rep] at r1
 refine⟨k,r1,?_⟩
 cases k with
 | false=>exact vA ⟨HF1,ρ,d,g1.fh,eo.mono g1.ff,hf,fun v H' HF' g r=>q v H' HF' (g1.trans g) r⟩
 | true=>cases hf;exact uW (q _ H1 HF1 g1 (by simp[Rep]))
theorem HI (ha:DE X a fa):DE X (.UnaryOp .Not a pos) (Gf fa):=aN (Gs ha) fun σ H Q ⟨HF,ρ,d,sm,eo,hf,q⟩=>by
 obtain⟨x,hx,hf⟩:=bs hf
 refine⟨HF,ρ,x,sm,eo,hx,fun v1 H1 HF1 g1 r1=>?_⟩
 cases x<;>try cases hf
 rename_i k
 simp only[Rep] at r1
 exact⟨k,r1,q _ H1 HF1 g1 (by simp[Rep])⟩
noncomputable def gB:D->Option Bool|.bool b=>some b|_=>none
noncomputable def fB (f:Env->Option D):Env->Option Bool:=fun ρ=>(f ρ).bind gB
theorem wo {f:Env->Option D}:∀σ H (Q:Bool->Hp->Prop),Il X.K (fB f) σ H Q->tD X.K f σ H fun x H1=>∃c,x=.bl c/\Q c H1:=fun σ H Q ⟨HF,ρ,k,sm,eo,hf,q⟩=>by
 obtain⟨x,hx,hf⟩:=bs hf
 refine⟨HF,ρ,x,sm,eo,hx,fun v1 H1 HF1 g1 r1=>?_⟩
 cases x<;>try cases hf
 simp only[Rep] at r1
 exact⟨_,r1,q H1 HF1 g1⟩
theorem IW {f:Env->Option D}(h:DE X a f) (he:∀whole,isTrue a X.env whole=(do let v <- whole;standAt a.pos;holding [v] (truthy v)):=by intro _;rfl):DT X a (fB f):=sf (Iv h he) wo
theorem iw {op:CmpOp}{r:R2}{g:D->D->Option D}(ho:gA X (compareOp op) r) (hr:eS X.K r g) (ha:DE X a fa) (hb:DE X b fb) (hm:behindInMarks op b=false):DT X (.Compare a [op] [b] pos) (fB (f2 g fa fb)) :=
 sf (Fx ho ha hb hm) fun σ H Q h=>EU hr σ H _ (wo σ H Q h)
noncomputable def mM (fa fb:Env->Option Bool):Env->Option Bool:=fun ρ=>(fa ρ).bind fun|true=>fb ρ|false=>some false
noncomputable def kl (fa fb:Env->Option Bool):Env->Option Bool:=fun ρ=>(fa ρ).bind fun|true=>some true|false=>fb ρ
noncomputable def bA (fa:Env->Option Bool):Env->Option Bool:=fun ρ=>(fa ρ).map (!·)
variable {ta tb:Env->Option Bool}
noncomputable def DW (X:Cx) (e:Expr) (f:Env->Option Bool):Prop:=PW X e (Il X.K f)
theorem Cp {e:Expr}{t t':TT}(h:PW X e t) (i:∀σ H Q,t' σ H Q->t σ H Q):PW X e t':=fun wh pins s σ H Q I q=>h wh pins s σ H Q I (i σ H Q q)
theorem DW.dt (h:DW X a ta):DT X a ta:=PW.pt h
theorem D0 (ha:DT X a ta):DW X (.BoolOp .And [a] pos) ta:=El ha
theorem GL (ha:DT X a ta):DW X (.BoolOp .Or [a] pos) ta:=HW ha
theorem GI (ha:DT X a ta) (hb:DW X (.BoolOp .And (b::rest) pos) tb):DW X (.BoolOp .And (a::b::rest) pos) (mM ta tb):=Cp (IG ha hb) fun σ H Q ⟨HF,ρ,d,sm,eo,hf,q⟩=>by
 obtain⟨x,hx,hf⟩:=bs hf
 refine⟨HF,ρ,x,sm,eo,hx,fun H1 HF1 g1=>?_⟩
 cases x with
 | true=>exact uW ⟨HF1,ρ,d,g1.fh,eo.mono g1.ff,hf,fun H' HF' g=>q H' HF' (g1.trans g)⟩
 | false=>cases hf;exact vA (q H1 HF1 g1)
theorem Jz (ha:DT X a ta) (hb:DW X (.BoolOp .Or (b::rest) pos) tb):DW X (.BoolOp .Or (a::b::rest) pos) (kl ta tb):=Cp (JS ha hb) fun σ H Q ⟨HF,ρ,d,sm,eo,hf,q⟩=>by
 obtain⟨x,hx,hf⟩:=bs hf
 refine⟨HF,ρ,x,sm,eo,hx,fun H1 HF1 g1=>?_⟩
 cases x with
 | false=>exact vA ⟨HF1,ρ,d,g1.fh,eo.mono g1.ff,hf,fun H' HF' g=>q H' HF' (g1.trans g)⟩
 | true=>cases hf;exact uW (q H1 HF1 g1)
theorem IE (ha:DT X a ta):DT X (.UnaryOp .Not a pos) (bA ta):=sf (HU ha) fun σ H Q ⟨HF,ρ,d,sm,eo,hf,q⟩=>by
 have hf:(ta ρ).map (!·)=some d:=hf
 cases e:ta ρ with
 | none=>rw[e] at hf;cases hf
 | some k=>rw[e] at hf;cases hf;exact⟨HF,ρ,k,sm,eo,e,fun H1 HF1 g1=>q H1 HF1 g1⟩
noncomputable def FV (tc:Env->Option Bool) (fa fb:Env->Option D):Env->Option D:=fun ρ=>(tc ρ).bind fun|true=>fa ρ|false=>fb ρ
theorem JF {c:Expr}(hc:DT X c ta) (ha:DE X a fa) (hb:DE X b fb):DE X (.IfExp c a b pos) (FV ta fa fb):=aN (Bc hc ha hb) fun σ H Q ⟨HF,ρ,d,sm,eo,hf,q⟩=>by
 obtain⟨x,hx,hf⟩:=bs hf
 refine⟨HF,ρ,x,sm,eo,hx,fun H1 HF1 g1=>?_⟩
 cases x with
 | true=>exact uW ⟨HF1,ρ,d,g1.fh,eo.mono g1.ff,hf,fun v H' HF' g r=>q v H' HF' (g1.trans g) r⟩
 | false=>exact vA ⟨HF1,ρ,d,g1.fh,eo.mono g1.ff,hf,fun v H' HF' g r=>q v H' HF' (g1.trans g) r⟩
noncomputable def i6 (g g':D->D->Option D) (fa fb fc:Env->Option D):Env->Option D:=fun ρ=>(fa ρ).bind fun x=>(fb ρ).bind fun y=>(g x y).bind fun|.bool true=>(fc ρ).bind fun z=>g' y z|.bool false=>some (.bool false)|_=>none
theorem yI {r r':R2}{g g':D->D->Option D}(hr:eS X.K r g) (hr':eS X.K r' g'):∀σ H Q,tD X.K (i6 g g' fa fb fc) σ H Q->v7 r r' (tD X.K fa) (tD X.K fb) (tD X.K fc) σ H Q:=fun σ H Q ⟨HF,ρ,d,sm,eo,hf,q⟩=>by
 obtain⟨x,hx,hf⟩:=bs hf
 obtain⟨y,hy,hf⟩:=bs hf
 obtain⟨z,hz,hf⟩:=bs hf
 refine⟨HF,ρ,x,sm,eo,hx,fun v1 H1 HF1 g1 r1=>⟨HF1,ρ,y,g1.fh,eo.mono g1.ff,hy,fun v2 H2 HF2 g2 r2=>hr HF2 H2 x y v1 v2 z _ g2.fh (r1.mono g2.ff) r2 hz fun v3 H3 HF3 g3 r3=>?_⟩⟩
 cases z<;>try cases hf
 rename_i k
 simp only[Rep] at r3
 refine⟨k,r3,?_⟩
 have G:=(g1.trans g2).trans g3
 cases k with
 | false=>cases hf;exact vA (q _ H3 HF3 G (by simp[Rep]))
 | true =>
  obtain⟨w,hw,hg⟩:=bs hf
  exact uW ⟨HF3,ρ,w,G.fh,eo.mono G.ff,hw,fun v4 H4 HF4 g4 r4=>hr' HF4 H4 y w v2 v4 d Q g4.fh (r2.mono (g3.ff.trans g4.ff)) r4 hg fun v H' HF' g5 r5=>q v H' HF' ((G.trans g4).trans g5) r5⟩
theorem By {op op':CmpOp}{r r':R2}{g g':D->D->Option D}(ho:gA X (compareOp op) r) (hr:eS X.K r g) (ho':gA X (compareOp op') r') (hr':eS X.K r' g') (ha:DE X a fa) (hb:DE X b fb) (hc:DE X c fc)
  (hm:lastMarks [op,op'] [b,c]=false:=by with_unfolding_all rfl):DE X (.Compare a [op,op'] [b,c] pos) (i6 g g' fa fb fc):=aN (A3 ho ho' ha hb hc hm) (yI hr hr')
theorem CY {op op':CmpOp}{r r':R2}{g g':D->D->Option D}(ho:gA X (compareOp op) r) (hr:eS X.K r g) (ho':gA X (compareOp op') r') (hr':eS X.K r' g') (ha:DE X a fa) (hb:DE X b fb) (hc:DE X c fc)
  (hm:lastMarks [op,op'] [b,c]=false:=by with_unfolding_all rfl):DT X (.Compare a [op,op'] [b,c] pos) (fB (i6 g g' fa fb fc)) :=
 sf (C7 ho ho' ha hb hc hm) fun σ H Q h=>yI hr hr' σ H _ (wo σ H Q h)
noncomputable def ae:Env->Option (List D):=fun _=>some []
noncomputable def aa (f:Env->Option D) (g:Env->Option (List D)):Env->Option (List D):=fun ρ=>(f ρ).bind fun x=>(g ρ).map (x::·)
theorem AS:DA X [] ae:=CJ gf fun σ H Q ⟨HF,ρ,d,sm,eo,hf,q⟩=>by cases hf;exact q [] H HF (.refl sm) aq.nil
theorem yc {e:Expr}{es:List Expr}{f:Env->Option D}{g:Env->Option (List D)}(he:DE X e f) (hs:DA X es g) (hst:starEach (e::es) X.env=(false,eval e X.env)::starEach es X.env:=by rfl):DA X (e::es) (aa f g) :=
 CJ (cW he hs hst) fun σ H Q ⟨HF,ρ,d,sm,eo,hf,q⟩=>by
  obtain⟨x,hx,hf⟩:=bs hf
  have hf:(g ρ).map (x::·)=some d:=hf
  cases e1:g ρ with
  | none=>rw[e1] at hf;cases hf
  | some xs =>
   rw[e1] at hf;cases hf
   exact⟨HF,ρ,x,sm,eo,hx,fun v1 H1 HF1 g1 r1=>⟨HF1,ρ,xs,g1.fh,eo.mono g1.ff,e1,fun vs H2 HF2 g2 r2=>q (v1::vs) H2 HF2 (g1.trans g2) (aq.cons (r1.mono g2.ff) r2)⟩⟩
variable {es:List Expr}{fs:Env->Option (List D)}
noncomputable def small (ds:List D):Option (List D):=if ds.length<=sizeLine then some ds else none
theorem dS {ds es:List D}(h:small ds=some es):es=ds/\ds.length<=sizeLine:=by
 unfold small at h
 split at h
 ·cases h;exact⟨rfl,‹_›⟩
 ·cases h
noncomputable def aH (g:Env->Option (List D)):Env->Option D:=fun ρ=>(g ρ).bind fun ds=>(small ds).map PyData.tuple
noncomputable def iz (g:Env->Option (List D)):Env->Option (List D):=fun ρ=>(g ρ).bind small
theorem GF {x1}(h:DA X es fs):DE X (.Tuple es x1 pos) (aH fs):=aN (Gi h) fun σ H Q ⟨HF,ρ,d,sm,eo,hf,q⟩=>by
 obtain⟨ds,hx,hf⟩:=bs hf
 have hf:(small ds).map PyData.tuple=some d:=hf
 cases e:small ds with
 | none=>rw[e] at hf;cases hf
 | some es' =>
  rw[e] at hf;cases hf
  obtain⟨rfl,hz⟩:=dS e
  refine⟨HF,ρ,_,sm,eo,hx,fun vs H1 HF1 g1 r1=>⟨by rw[r1.length];exact hz,fun p hp=>q _ _ (upd HF1 p (.tup vs)) (g1.trans (.new g1.fh hp)) ?_⟩⟩
  simp only[Rep]
  exact⟨p,vs,rfl,.inl (.inl aD),r1.mono (dw (g1.fh.free hp))⟩
theorem Hr (h:DA X es fs):DF X (.List es pos) (iz fs):=aN (Hz h) fun σ H Q ⟨HF,ρ,d,sm,eo,hf,q⟩=>by
 obtain⟨ds,hx,hf⟩:=bs hf
 obtain⟨rfl,hz⟩:=dS hf
 exact⟨HF,ρ,_,sm,eo,hx,fun vs H1 HF1 g1 r1=>⟨by rw[r1.length];exact hz,fun p hp=>q p vs _ HF1 (g1.trans (.own g1.fh hp)) (g1.hh.free hp) (g1.fh.free hp) aD r1⟩⟩
noncomputable def au:D->D->Option D
 | .tuple ds,.int i=>sH ds i
 | .list ds,.int i=>sH ds i
 | _,_=>none
theorem tT {K:PySem.W.Frag}{HF:Hp}{ds:List D}{vs:List V}{i:Int}{d:D}(r:aq K HF ds vs) (h:sH ds i=some d):∃v,sH vs i=some v/\Rep K HF d v:=by
 unfold sH at h ⊢
 rw[r.length]
 obtain⟨j,hj,h⟩:=bs h
 obtain⟨v,a,b⟩:=r.getD h
 exact⟨v,by rw[hj];exact a,b⟩
theorem HV {K:PySem.W.Frag}:eS K (LM K) au:=by
 intro HF H x y v1 v2 d Q sm r1 r2 hg q
 cases x<;>cases y<;>simp only[au] at hg<;>try cases hg
 ·simp only[Rep] at r1 r2
  obtain⟨a,vs,rfl,hs,r⟩:=r1
  obtain⟨v,hv,rv⟩:=tT r hg
  exact .inl ⟨a,vs,_,v,rfl,r2,sm.seq hs,hv,q v H HF (.refl sm) rv⟩
 ·simp only[Rep] at r1 r2
  obtain⟨a,vs,rfl,hs,r⟩:=r1
  obtain⟨v,hv,rv⟩:=tT r hg
  exact .inr (.inl ⟨a,vs,_,v,rfl,r2,aw sm hs,hv,q v H HF (.refl sm) rv⟩)
theorem J8 (ha:DE X a fa) (hb:DE X b fb) (hs:sj b:=by intro _ _;rfl):DE X (.Subscript a b pos) (f2 au fa fb):=aN (Ke HL ha hb hs) (EU HV)
mutual
theorem dG {pins:List (Addr×Obj)}{σ:L2.St}{H HF:Hp}{s:Shared}(I:Inv X pins σ H s) (sm:aV HF H):∀ {d:D}{v:V}{u:Value},Rep X.K HF d v->RelV v u->∃as,Reads s.heap u d as
 | .none,_,_,h,r=>by simp only[Rep] at h;subst h;cases r;exact⟨_,.none⟩
 | .bool b,_,_,h,r=>by simp only[Rep] at h;subst h;cases r;exact⟨_,.bool b⟩
 | .int i,_,_,h,r=>by simp only[Rep] at h;subst h;obtain⟨t,rfl⟩:=r;exact⟨_,.int i t⟩
 | .str i,_,_,h,r=>by simp only[Rep] at h;subst h;obtain⟨t,rfl⟩:=r;exact⟨_,.str i t⟩
 | .tuple ds,_,_,h,r=>by
  simp only[Rep] at h
  obtain⟨a,vs,rfl,hs,rr⟩:=h
  cases r
  obtain⟨its,rv,⟨o,ho,hc,n,hd⟩,_⟩:=I.tuple (aw sm hs)
  obtain⟨as,q⟩:=mq I sm rr rv
  exact⟨as,.tuple ho hc hd (by simpa using q)⟩
 | .list ds,_,_,h,r=>by
  simp only[Rep] at h
  obtain⟨a,vs,rfl,hs,rr⟩:=h
  cases r
  obtain⟨its,rv,pl,_⟩:=I.list (sm.seq hs)
  obtain⟨o,ho,hc,n,hd⟩:=pl.isList
  obtain⟨as,q⟩:=mq I sm rr rv
  exact⟨_,.list ho hc hd (by simpa using q)⟩
 | .dict _,_,_,h,r=>by simp only[Rep] at h
theorem mq {pins:List (Addr×Obj)}{σ:L2.St}{H HF:Hp}{s:Shared}(I:Inv X pins σ H s) (sm:aV HF H):∀ {ds:List D}{vs:List V}{us:List Value},aq X.K HF ds vs->az vs us->∃as,ReadsAll s.heap us ds as
 | [],_,_,h,r=>by rw[h.nil_inv] at r;cases r;exact⟨_,.nil⟩
 | d::ds,_,_,h,r=>by
  obtain⟨v,vr,rfl,a,b⟩:=h.cons_inv
  cases r with
  | cons r rr =>
   obtain⟨as,q⟩:=dG I sm a r
   obtain⟨bs,p⟩:=mq I sm b rr
   exact⟨_,.cons q p⟩
end
noncomputable def J3 (K:PySem.W.Frag) (g:D->D->Option Bool):R2:=fun v1 v2 H Q=>∃HF x y k,aV HF H/\Rep K HF x v1/\Rep K HF y v2/\g x y=some k/\Q (.bl k) H
theorem jc {K:PySem.W.Frag}{g:D->D->Option Bool}:eS K (J3 K g) (fun x y=>(g x y).map PyData.bool):=by
 intro HF H x y v1 v2 d Q sm r1 r2 hg q
 have hg:(g x y).map PyData.bool=some d:=hg
 cases e:g x y with
 | none=>rw[e] at hg;cases hg
 | some k=>rw[e] at hg;cases hg;exact⟨HF,x,y,k,sm,r1,r2,e,q _ H HF (.refl sm) (by simp[Rep])⟩
noncomputable def Im (x y:D):Option Bool:=if SeqAt.shaped x=true/\SeqAt.shaped y=true then some (PyData.eqv x y) else none
noncomputable def FK (x y:D):Option Bool:=if SeqAt.shaped x=true/\SeqAt.shaped y=true then some (!PyData.eqv x y) else none
theorem BO (hu:X.A.units+64 < cLine):gA X (compareOp .Eq) (J3 X.K Im):=by
 intro pins s σ H v1 v2 u1 u2 Q I rx ry h
 obtain⟨HF,x,y,k,sm,r1,r2,hg,q⟩:=h
 unfold Im at hg
 split at hg<;>cases hg
 rename_i hh
 obtain⟨as,ra⟩:=dG I sm r1 rx
 obtain⟨bs,rb⟩:=dG I sm r2 ry
 exact eq_dataH ra rb hh.1 hh.2 hu ⟨.bl _,H,I,rfl,q⟩
theorem BQ (hu:X.A.units+64 < cLine):gA X (compareOp .NotEq) (J3 X.K FK):=by
 intro pins s σ H v1 v2 u1 u2 Q I rx ry h
 obtain⟨HF,x,y,k,sm,r1,r2,hg,q⟩:=h
 unfold FK at hg
 split at hg<;>cases hg
 rename_i hh
 obtain⟨as,ra⟩:=dG I sm r1 rx
 obtain⟨bs,rb⟩:=dG I sm r2 ry
 exact ne_dataH ra rb hh.1 hh.2 hu ⟨.bl _,H,I,rfl,q⟩
noncomputable def items:D->Option (List D)|.tuple ds=>some ds|.list ds=>some ds|_=>none
noncomputable def La (x y:D):Option Bool:=match y with
 | .tuple ds=>if SeqAt.shaped x=true/\SeqAt.shaped y=true then some (ds.any fun z=>PyData.eqv z x) else none
 | .list ds=>if SeqAt.shaped x=true/\SeqAt.shaped y=true then some (ds.any fun z=>PyData.eqv z x) else none
 | _=>none
theorem BU (hu:X.A.units+66 < cLine):gA X (compareOp .In) (J3 X.K La):=by
 intro pins s σ H v1 v2 u1 u2 Q I rx ry h
 obtain⟨HF,x,y,k,sm,r1,r2,hg,q⟩:=h
 obtain⟨as,ra⟩:=dG I sm r1 rx
 obtain⟨bs,rb⟩:=dG I sm r2 ry
 cases y<;>simp only[La] at hg<;>try cases hg
 all_goals
  split at hg<;>cases hg
  rename_i ds hh
  have c1:=SeqAt.canLay_of_shaped hh.1
  have c2:=SeqAt.canLay_of_shaped hh.2
  have d1:=SeqAt.depth_of_shaped hh.1
  simp only[PyData.canLay0] at c2
  have m:=Nat.min_le_right (PyData.depthAll ds) x.depth
  first
   | exact SeqAt.in_list_reads rb ra c2 c1 (by omega) ⟨.bl _,H,I,rfl,q⟩
   | exact SeqAt.in_tuple_reads rb ra c2 c1 (by omega) ⟨.bl _,H,I,rfl,q⟩
end
end Dl
namespace Dl
open PySem L2 PySem.Spec PyProof.Rows
noncomputable def JL (K:PySem.W.Frag) (n:Nat) (m:List D->Option D):Sp:=fun vs H Q _=>∃HF ds d,aV HF H/\eY K HF/\aq K HF ds vs/\ds.length=n/\m ds=some d/\∀v H' HF',cb HF H HF' H'->Rep K HF' d v->Q v H'
structure du (P:Program) (w:World) (K:PySem.W.Frag) (mg:Str->Option Value) (base:Heap) (k:Nat) (x:Str) (n:Nat) (m:List D->Option D):Prop where
 ex:∃ (f:Addr) (fd:FuncData) (ps:List Str),j1 P w K mg base FS k f fd ps (JL K n m)/\mg x=some (.ref f)/\PySem.W.keepIn K (.ref f)=true/\Binds K fd ps []
theorem du.mono {P:Program}{w:World}{K:PySem.W.Frag}{mg:Str->Option Value}{base:Heap}{k j:Nat}{x:Str}{n:Nat}{m:List D->Option D}(F:du P w K mg base k x n m) (h:k<=j):du P w K mg base j x n m:=by
 obtain⟨f,fd,ps,a,b,c,d⟩:=F.ex
 exact⟨f,fd,ps,a.mono h,b,c,d⟩
theorem du.imp {P:Program}{w:World}{K:PySem.W.Frag}{mg:Str->Option Value}{base:Heap}{k:Nat}{x:Str}{n:Nat}{m m':List D->Option D}(F:du P w K mg base k x n m) (h:∀ds d,ds.length=n->m' ds=some d->m ds=some d):du P w K mg base k x n m':=by
 obtain⟨f,fd,ps,a,b,c,d⟩:=F.ex
 refine⟨f,fd,ps,a.imp fun vs H Q E ⟨HF,ds,d,q1,q0,q2,q3,q4,q5⟩=>⟨HF,ds,d,q1,q0,q2,q3,h ds d q3 q4,q5⟩,b,c,d⟩
section
variable {X:Cx}{a b c e:Expr}{es:List Expr}{fa fb fc:Env->Option D}{fs:Env->Option (List D)}{pos p:Pos}{x:Str}
noncomputable def ag (n:Nat) (m:List D->Option D) (fs:Env->Option (List D)):Env->Option D:=fun ρ=>(fs ρ).bind fun ds=>if ds.length=n then m ds else none
theorem Dp {k n:Nat}{m:List D->Option D}(F:du X.prog X.w X.K X.mg X.base k x n m) (hr:dH k X.A) (hg:Gl X x) (ha:DA X (e::es) fs) (hdb:(x == ("__debug__":Str))=false:=by decide)
  (he:starEach (e::es) X.env=(false,eval e X.env)::starEach es X.env:=by rfl) (hpl:(backTo pos (starEach es X.env)).any (·.1)=false:=by rfl):DE X (.Call (.Name x p) (e::es) [] pos) (ag n m fs):=by
 obtain⟨f,fd,ps,ok,hm,hk,hb⟩:=F.ex
 refine aN (FA (E:=E0) ok hr hg hm hk hb .nil Ka ha hdb he hpl) fun σ H Q ⟨HF,ρ,d,sm,eo,hf,q⟩=>?_
 obtain⟨ds,hx,hf⟩:=bs hf
 split at hf
 ·rename_i hl
  exact⟨HF,ρ,ds,sm,eo,hx,fun vs H1 HF1 g1 r1=>⟨HF1,ds,d,g1.fh,eo.tb.mono g1.ff,by rw[List.append_nil];exact r1,hl,hf,fun v H' HF' g r=>q v H' HF' (g1.trans g) r⟩⟩
 ·cases hf
noncomputable def y6 (K:PySem.W.Frag) (r:List V->Hp->VK->Prop) (g:List D->Option D):Prop:=∀HF H ds vs d Q,aV HF H->aq K HF ds vs->g ds=some d->(∀v H' HF',cb HF H HF' H'->Rep K HF' d v->Q v H')->r vs H Q
noncomputable def aY (g:List D->Option D) (fs:Env->Option (List D)):Env->Option D:=fun ρ=>(fs ρ).bind g
theorem Js {r:List V->Hp->VK->Prop}{g:List D->Option D}(hs:y6 X.K r g):∀σ H Q,tD X.K (aY g fs) σ H Q->Kq r (KH X.K fs) σ H Q:=fun σ H Q ⟨HF,ρ,d,sm,eo,hf,q⟩=>by
 obtain⟨ds,hx,hf⟩:=bs hf
 exact⟨HF,ρ,ds,sm,eo,hx,fun vs H1 HF1 g1 r1=>hs HF1 H1 ds vs d Q g1.fh r1 hf fun v H' HF' g2 r2=>q v H' HF' (g1.trans g2) r2⟩
noncomputable def yN (K:PySem.W.Frag) (r:List V->Hp->VK->Prop) (g:List D->Option (List D)):Prop:=∀HF H ds vs es Q,aV HF H->aq K HF ds vs->g ds=some es ->
 (∀a us H' HF',cb HF H HF' H'->H a=none->HF' a=none->H' a=some (.lst us)->aq K HF' es us->Q (.ref a) H')->r vs H Q
noncomputable def hV (g:List D->Option (List D)) (fs:Env->Option (List D)):Env->Option (List D):=fun ρ=>(fs ρ).bind g
theorem FF {r:List V->Hp->VK->Prop}{g:List D->Option (List D)}(hs:yN X.K r g):∀σ H Q,tF X.K (hV g fs) σ H Q->Kq r (KH X.K fs) σ H Q:=fun σ H Q ⟨HF,ρ,d,sm,eo,hf,q⟩=>by
 obtain⟨ds,hx,hf⟩:=bs hf
 exact⟨HF,ρ,ds,sm,eo,hx,fun vs H1 HF1 g1 r1=>hs HF1 H1 ds vs d Q g1.fh r1 hf fun a us H' HF' g2 ha hf' h' r2=>q a us H' HF' (g1.trans g2) (g1.hh.free ha) hf' h' r2⟩
structure mv (X:Cx) (x:Str) (v:Value):Prop where
 gl:Gl X x
 mg:X.mg x=none
 bt:bootBuiltins x=some v
theorem gM {id:String}{r:List V->Hp->VK->Prop}{g:List D->Option D}(hc:cD X (.builtin id) r) (hs:y6 X.K r g) (B:mv X x (.builtin id)) (ha:DA X (e::es) fs) (hn:x≠"__name__":=by decide) (hdb:(x == ("__debug__":Str))=false:=by decide)
  (he:starEach (e::es) X.env=(false,eval e X.env)::starEach es X.env:=by rfl) (hpl:(backTo pos (starEach es X.env)).any (·.1)=false:=by rfl):DE X (.Call (.Name x p) (e::es) [] pos) (aY g fs) :=
 aN (lr hc B.gl B.mg B.bt ha hn hdb he hpl) (Js hs)
theorem CP {id:String}{r:List V->Hp->VK->Prop}{g:List D->Option (List D)}(hc:cD X (.builtin id) r) (hs:yN X.K r g) (B:mv X x (.builtin id)) (ha:DA X (e::es) fs) (hn:x≠"__name__":=by decide) (hdb:(x == ("__debug__":Str))=false:=by decide)
  (he:starEach (e::es) X.env=(false,eval e X.env)::starEach es X.env:=by rfl) (hpl:(backTo pos (starEach es X.env)).any (·.1)=false:=by rfl):DF X (.Call (.Name x p) (e::es) [] pos) (hV g fs) :=
 aN (lr hc B.gl B.mg B.bt ha hn hdb he hpl) (FF hs)
theorem rm {T:String}{r:List V->Hp->VK->Prop}{g:List D->Option D}(hc:cD X (.type T) r) (hs:y6 X.K r g) (B:mv X x (.type T)) (ha:DA X (e::es) fs) (hn:x≠"__name__":=by decide) (hdb:(x == ("__debug__":Str))=false:=by decide)
  (he:starEach (e::es) X.env=(false,eval e X.env)::starEach es X.env:=by rfl) (hpl:(backTo pos (starEach es X.env)).any (·.1)=false:=by rfl):DE X (.Call (.Name x p) (e::es) [] pos) (aY g fs) :=
 aN (lW hc B.gl B.mg B.bt ha hn hdb he hpl) (Js hs)
theorem zk {T:String}{r:List V->Hp->VK->Prop}{g:List D->Option (List D)}(hc:cD X (.type T) r) (hs:yN X.K r g) (B:mv X x (.type T)) (ha:DA X (e::es) fs) (hn:x≠"__name__":=by decide) (hdb:(x == ("__debug__":Str))=false:=by decide)
  (he:starEach (e::es) X.env=(false,eval e X.env)::starEach es X.env:=by rfl) (hpl:(backTo pos (starEach es X.env)).any (·.1)=false:=by rfl):DF X (.Call (.Name x p) (e::es) [] pos) (hV g fs) :=
 aN (lW hc B.gl B.mg B.bt ha hn hdb he hpl) (FF hs)
noncomputable def fQ:D->Option (List D)|.tuple ds=>some ds|.list ds=>some ds|_=>none
noncomputable def oneOf:List D->Option D|[d]=>some d|_=>none
theorem fF {ds:List D}{d:D}(h:oneOf ds=some d):ds=[d]:=by
 cases ds with
 | nil=>cases h
 | cons x r=>cases r with
  | nil=>cases h;rfl
  | cons _ _=>cases h
theorem j3 {d:D}{ds:List D}(h:fQ d=some ds):d=.tuple ds\/d=.list ds:=by
 cases d<;>cases h
 ·exact .inr rfl
 ·exact .inl rfl
noncomputable def cM:List D->Option (List D):=fun ds=>(oneOf ds).bind fQ
theorem fP {ds es:List D}(h:cM ds=some es):ds=[.tuple es]\/ds=[.list es]:=by
 obtain⟨d,h1,h2⟩:=bs h
 rw[fF h1]
 rcases j3 h2 with rfl|rfl
 ·exact .inl rfl
 ·exact .inr rfl
noncomputable def bu:List D->Option D:=fun ds=>(cM ds).map fun es=>.int es.length
theorem map_some {α β:Type}{x:Option α}{f:α->β}{b:β}(h:x.map f=some b):∃a,x=some a/\f a=b:=by
 cases x with
 | none=>cases h
 | some a=>exact⟨a,rfl,Option.some.inj h⟩
theorem Ek {K:PySem.W.Frag}:y6 K (fun xs H Q=>∃p ys,xs=[.ref p]/\(gT K H p ys\/iM K H p ys)/\Q (.int ys.length) H) bu:=by
 intro HF H ds vs d Q sm r hg q
 obtain⟨es,h1,rfl⟩:=map_some hg
 rcases fP h1 with rfl|rfl
 all_goals
  obtain⟨v,r',rfl,a,b⟩:=r.cons_inv
  rw[b.nil_inv]
  simp only[Rep] at a
  obtain⟨p,us,rfl,h,rr⟩:=a
 ·exact⟨p,us,rfl,.inr (aw sm h),q _ H HF (.refl sm) (by simp[Rep,rr.length])⟩
 ·exact⟨p,us,rfl,.inl (sm.seq h),q _ H HF (.refl sm) (by simp[Rep,rr.length])⟩
theorem HK (B:mv X "len" (.builtin "len")) (ha:DA X [e] fs) (he:starEach [e] X.env=(false,eval e X.env)::starEach [] X.env:=by rfl):DE X (.Call (.Name "len" p) [e] [] pos) (aY bu fs) :=
 gM sW Ek B ha (by decide) (by decide) he rfl
theorem Br {K:PySem.W.Frag}:yN K (fun xs H Q=>∃p ys,xs=[.ref p]/\(gT K H p ys\/iM K H p ys)/\∀l,H l=none->Q (.ref l) (upd H l (.lst ys))) cM:=by
 intro HF H ds vs d Q sm r hg q
 rcases fP hg with rfl|rfl
 all_goals
  obtain⟨v,r',rfl,a,b⟩:=r.cons_inv
  rw[b.nil_inv]
  simp only[Rep] at a
  obtain⟨p,us,rfl,h,rr⟩:=a
 ·exact⟨p,us,rfl,.inr (aw sm h),fun l hl=>q l us _ HF (.own sm hl) hl (sm.free hl) aD rr⟩
 ·exact⟨p,us,rfl,.inl (sm.seq h),fun l hl=>q l us _ HF (.own sm hl) hl (sm.free hl) aD rr⟩
theorem EA (B:mv X "list" (.type "list")) (ha:DA X [e] fs) (he:starEach [e] X.env=(false,eval e X.env)::starEach [] X.env:=by rfl):DF X (.Call (.Name "list" p) [e] [] pos) (hV cM fs) :=
 zk si Br B ha (by decide) (by decide) he rfl
theorem cE {K:PySem.W.Frag}{HF:Hp}{l:Addr}{ds:List D}{vs:List V}(h:HF l=none) (r:aq K HF ds vs):Rep K (upd HF l (.tup vs)) (.tuple ds) (.ref l):=by
 simp only[Rep];exact⟨l,vs,rfl,.inl (.inl aD),r.mono (dw h)⟩
theorem yX {K:PySem.W.Frag}:y6 K (fun xs H Q=>∃p ys,xs=[.ref p]/\((gT K H p ys/\∀l,H l=none->Q (.ref l) (upd H l (.tup ys)))\/(iM K H p ys/\Q (.ref p) H))) (fun ds=>(cM ds).map PyData.tuple):=by
 intro HF H ds vs d Q sm r hg q
 obtain⟨es,h1,rfl⟩:=map_some hg
 rcases fP h1 with rfl|rfl
 all_goals
  obtain⟨v,r',rfl,a,b⟩:=r.cons_inv
  rw[b.nil_inv]
  have a':=a
  simp only[Rep] at a
  obtain⟨p,us,rfl,h,rr⟩:=a
 ·exact⟨p,us,rfl,.inr ⟨aw sm h,q _ H HF (.refl sm) a'⟩⟩
 ·exact⟨p,us,rfl,.inl ⟨sm.seq h,fun l hl=>q _ _ _ (.new sm hl) (cE (sm.free hl) rr)⟩⟩
theorem C8 (B:mv X "tuple" (.type "tuple")) (ha:DA X [e] fs) (he:starEach [e] X.env=(false,eval e X.env)::starEach [] X.env:=by rfl):DE X (.Call (.Name "tuple" p) [e] [] pos) (aY (fun ds=>(cM ds).map PyData.tuple) fs) :=
 rm pE yX B ha (by decide) (by decide) he rfl
noncomputable def f7:D->String|.none=>"NoneType" | .bool _=>"bool" | .int _=>"int" | .str _=>"str" | .tuple _=>"tuple" | .list _=>"list" | .dict _=>"dict"
noncomputable def sA (a b:String):Option Bool:=if ((Value.type a) == (Value.type b))=true then some true else if PySem.W.kitMeta b=true then (fastBuiltinMro a).map (·.contains (Value.type b)) else none
theorem Fu:∀a∈["NoneType","bool","int","str","tuple","list"],sA a "int"=some (a == "int"||a == "bool"):=by decide +kernel
theorem C4:∀a∈["NoneType","bool","int","str","tuple","list"],sA a "bool"=some (a == "bool"):=by decide +kernel
theorem kit_tuple:∀a∈["NoneType","bool","int","str","tuple","list"],sA a "tuple"=some (a == "tuple"):=by decide +kernel
theorem BS {pins:List (Addr×Obj)}{σ:L2.St}{H HF:Hp}{s:Shared}{A:Around}{E:Value->Shared->Prop}{Q:Value->Shared->Prop}{d:D}{v:V}{u:Value}{T:String}{k:Bool}(I:Inv X pins σ H s) (sm:aV HF H) (r:Rep X.K HF d v) (rv:RelV v u)
  (e:sA (f7 d) T=some k) (h:∀tk,Q (.bool k) { s with toks:=tk }):wpAny (model X.prog X.w) A (call (.builtin "isinstance") [u,.type T]) Q E s:=by
 have e':PySem.W.kitOne X.K (.type (f7 d)) (.type T)=some k:=e
 cases d<;>simp only[Rep] at r
 ·subst r;cases rv;exact PySem.W.kia_one PySem.W.kitx_none I.kIn True.intro e' (fun z=>nomatch z) h
 ·subst r;cases rv;exact PySem.W.kia_one PySem.W.kitx_bool I.kIn True.intro e' (fun z=>nomatch z) h
 ·subst r;obtain⟨t,rfl⟩:=rv;exact PySem.W.kia_one PySem.W.kitx_int I.kIn True.intro e' (fun z=>nomatch z) h
 ·subst r;obtain⟨t,rfl⟩:=rv;exact PySem.W.kia_one PySem.W.kitx_str I.kIn True.intro e' (fun z=>nomatch z) h
 ·obtain⟨a,vs,rfl,hs,rr⟩:=r
  cases rv
  obtain⟨its,rv,pl,_⟩:=I.list (sm.seq hs)
  obtain⟨o,ho,hc,n,hd⟩:=pl.isList
  exact PySem.W.kia_one PySem.W.kitx_list I.kIn ⟨o,ho,hc⟩ e' (fun z=>nomatch z) h
 ·obtain⟨a,vs,rfl,hs,rr⟩:=r
  cases rv
  obtain⟨its,rv,⟨o,ho,hc,n,hd⟩,_⟩:=I.tuple (aw sm hs)
  exact PySem.W.kia_one PySem.W.kitx_tuple I.kIn ⟨o,ho,hc⟩ e' (fun z=>nomatch z) h
noncomputable def Ga (T:String) (f:Env->Option D):Env->Option D:=fun ρ=>(f ρ).bind fun d=>(sA (f7 d) T).map PyData.bool
theorem JO {T:String}{xT:Str}{pT:Pos}{f:Env->Option D}(B:mv X "isinstance" (.builtin "isinstance")) (C:mv X xT (.type T)) (h:DE X e f) (hn:xT≠"__name__":=by decide) (hd:(xT == ("__debug__":Str))=false:=by decide)
  (he:starEach [e,.Name xT pT] X.env=(false,eval e X.env)::starEach [.Name xT pT] X.env:=by rfl):DE X (.Call (.Name "isinstance" p) [e,.Name xT pT] [] pos) (Ga T f):=by
 have hc:cD X (.builtin "isinstance") (fun xs H Q=>∃HF d v k,xs=[v,.ty T]/\aV HF H/\Rep X.K HF d v/\sA (f7 d) T=some k/\Q (.bl k) H):=by
  intro pins s σ H xs us Q I r h
  obtain⟨HF,d,v,k,rfl,sm,rp,hk,q⟩:=h
  cases r with
  | cons ra rr =>
   cases rr with
   | cons rb rn =>
    cases rn
    cases rb
    exact BS I sm rp ra hk fun tk=>⟨.bl k,H,I.tok _,rfl,q⟩
 refine aN (lr hc B.gl B.mg B.bt (cW h (cW (D3 (v:=.ty T) C.gl C.mg C.bt rfl hn hd) gf) he) (by decide) (by decide) he rfl) fun σ H Q ⟨HF,ρ,d,sm,eo,hf,q⟩=>?_
 obtain⟨x,hx,hf⟩:=bs hf
 obtain⟨k,hk,rfl⟩:=map_some hf
 exact⟨HF,ρ,x,sm,eo,hx,fun v1 H1 HF1 g1 r1=>⟨HF1,x,v1,k,rfl,g1.fh,r1,hk,q _ H1 HF1 g1 (by simp[Rep])⟩⟩
noncomputable def Fq:D->D->Option D
 | .tuple xs,.tuple ys=>(small (xs++ys)).map PyData.tuple
 | _,_=>none
noncomputable def xZ (K:PySem.W.Frag):R2:=fun x y H Q=>∃a b xs ys,x=.ref a/\y=.ref b/\iM K H a xs/\iM K H b ys/\xs.length+ys.length<=sizeLine /\
 (xs=[]->Q (.ref b) H)/\(ys=[]->Q (.ref a) H)/\(∀p,H p=none->Q (.ref p) (upd H p (.tup (xs++ys))))
theorem zw:gA X (binaryOp .Add) (xZ X.K):=by
 intro pins s σ H x y v u Q I rx ry h
 obtain⟨a,b,xs,ys,rfl,rfl,ha,hb,hz,q0,q1,q2⟩:=h
 by_cases hx:xs=[]
 ·cases rx
  cases ry
  obtain⟨its,r1,p1,_⟩:=I.tuple ha
  obtain⟨its2,r2,p2,_⟩:=I.tuple hb
  obtain⟨⟨cls,dd,data,sl⟩,ho,hc,n,hd⟩:=id p1
  obtain⟨⟨cls2,dd2,data2,sl2⟩,ho2,hc2,n2,hd2⟩:=id p2
  simp only at hc hd hc2 hd2
  subst hc hd hc2 hd2
  have e:its=[]:=(L2.az.nil_iff r1).mpr hx
  exact concat_meets ⟨_,ho,rfl⟩ ⟨_,ho2,rfl⟩ noFill_tuple_add seq_tuple_add PySem.F.slot_tuple_add PySem.F.entry_tuple_add (PySem.F.args_tuple_add_2 _ _)
   (tuple_addW0 a b its.toArray its2.toArray n n2 dd dd2 sl sl2 (by simp[e])) ⟨ho,ho2,⟨.ref b,H,I,rfl,q0 hx⟩⟩
 ·exact E7 pins s σ H _ _ v u Q I rx ry ⟨a,b,xs,ys,rfl,rfl,ha,hb,hx,hz,q1,fun _ p hp=>q2 p hp⟩
theorem Ey {K:PySem.W.Frag}:eS K (xZ K) Fq:=by
 intro HF H x y v1 v2 d Q sm r1 r2 hg q
 cases x<;>cases y<;>simp only[Fq] at hg<;>try cases hg
 rename_i xs ys
 obtain⟨es,h1,rfl⟩:=map_some hg
 obtain⟨rfl,hz⟩:=dS h1
 have r1':=r1
 have r2':=r2
 simp only[Rep] at r1 r2
 obtain⟨a,vs,rfl,ha,ra⟩:=r1
 obtain⟨b,us,rfl,hb,rb⟩:=r2
 refine⟨a,b,vs,us,rfl,rfl,aw sm ha,aw sm hb,by rw[ra.length,rb.length,<- List.length_append];exact hz,fun e=>?_,fun e=>?_,fun p hp=>q _ _ _ (.new sm hp) (cE (sm.free hp) (ra.append rb))⟩
 ·have:xs=[]:=by have:=ra.length;rw[e] at this;exact List.length_eq_zero_iff.mp this.symm
  subst this
  exact q _ H HF (.refl sm) r2'
 ·have:ys=[]:=by have:=rb.length;rw[e] at this;exact List.length_eq_zero_iff.mp this.symm
  subst this
  rw[List.append_nil] at q
  exact q _ H HF (.refl sm) r1'
end
end Dl
namespace Dl
open PySem L2 PySem.Spec PyProof.Rows
structure qZ (K:PySem.W.Frag) (J:It) (HF:Hp) (ds:List D):Prop where
 go:∀i d H₁ HF₁,ds[i]?=some d->aV HF HF₁->aV HF₁ H₁->J.go i H₁/\∀x H₂,J.yld i H₁ x H₂->∃HF₂,cb HF₁ H₁ HF₂ H₂/\Rep K HF₂ d x
 stop:∀H₁ HF₁,aV HF HF₁->aV HF₁ H₁->J.stop ds.length H₁
noncomputable def LF (K:PySem.W.Frag) (f:Env->Option (List D)):TI:=fun σ H R=>∃HF ρ ds,aV HF H/\cG K HF ρ σ/\f ρ=some ds/\∀J H' HF',cb HF H HF' H'->qZ K J HF' ds->R J H'
noncomputable def DI (X:Cx) (tg iter:Expr) (f:Env->Option (List D)):Prop:=PI X tg iter (LF X.K f)
theorem Aa {K:PySem.W.Frag}{HF:Hp}{a:Addr}{ds:List D}{vs:List V}(h:gT K HF a vs) (r:aq K HF ds vs):qZ K (KW K a) HF ds where
 go:=fun i d H₁ HF₁ e s1 s2=>by
  obtain⟨v,hv,rv⟩:=r.getD e
  have q:=s2.seq (s1.seq h)
  refine⟨⟨vs,v,q,hv⟩,fun x H₂ ⟨e2,hy⟩=>⟨HF₁,by rw[e2];exact .refl s2,?_⟩⟩
  have:=hy vs q
  rw[hv] at this
  cases this
  exact rv.mono s1
 stop:=fun H₁ HF₁ s1 s2=>⟨vs,s2.seq (s1.seq h),by rw[r.length];exact Nat.le_refl _⟩
theorem Cm {K:PySem.W.Frag}{HF:Hp}{a:Addr}{ds:List D}{vs:List V}(h:iM K HF a vs) (r:aq K HF ds vs):qZ K (Lz K a) HF ds where
 go:=fun i d H₁ HF₁ e s1 s2=>by
  obtain⟨v,hv,rv⟩:=r.getD e
  have q:=aw s2 (aw s1 h)
  refine⟨⟨vs,v,q,hv⟩,fun x H₂ ⟨e2,hy⟩=>⟨HF₁,by rw[e2];exact .refl s2,?_⟩⟩
  have:=hy vs q
  rw[hv] at this
  cases this
  exact rv.mono s1
 stop:=fun H₁ HF₁ s1 s2=>⟨vs,aw s2 (aw s1 h),by rw[r.length];exact Nat.le_refl _⟩
theorem xl {K:PySem.W.Frag}{HF:Hp}{lo:Int}{n:Nat}:qZ K (Kt lo n) HF ((List.range n).map fun i=>PyData.int (lo+(i:Nat))) where
 go:=fun i d H₁ HF₁ e s1 s2=>by
  rw[List.getElem?_map] at e
  obtain⟨j,hj,rfl⟩:=map_some e
  obtain⟨hi,hj'⟩:=List.getElem?_eq_some_iff.mp hj
  have hi':i < n:=by simpa using hi
  have:j=i:=by rw[<- hj'];simp
  subst this
  exact⟨hi',fun x H₂ ⟨e2,hx⟩=>⟨HF₁,by rw[e2];exact .refl s2,by simp[Rep,hx]⟩⟩
 stop:=fun H₁ HF₁ s1 s2=>by
  show n<=_
  simp
section
variable {X:Cx}{tg l e:Expr}{f:Env->Option D}{fs:Env->Option (List D)}{pos p:Pos}
theorem so {t t':TI}(h:PI X tg l t) (i:∀σ H R,t' σ H R->t σ H R):PI X tg l t':=fun pins s σ H R I q=>h pins s σ H R I (i σ H R q)
theorem Gn {tl:TE}(hl:PE X l tl):PI X tg l (fun σ H R=>tl σ H fun x H1=>∃a,x=.ref a/\((∃xs,gT X.K H1 a xs/\R (KW X.K a) H1)\/∃xs,iM X.K H1 a xs/\R (Lz X.K a) H1)):=by
 intro pins s σ H R I h
 refine bP (hl pins s σ H _ I h) fun v s1 ⟨x,H1,I1,r1,q1⟩=>?_
 obtain⟨a,e,q⟩:=q1
 subst e
 cases r1
 rcases q with ⟨xs,hq,q⟩|⟨xs,hq,q⟩
 ·obtain⟨its,rv,pl,hz⟩:=I1.list hq
  refine wpAny_pyIter_list pl.isList ⟨s1.heap.objs.size,[s1.heap.objs.size],_,_,H1,rfl,I1.kept (t':=s1.toks) fun b o e=>Heap.get?_push_of_some _ e,zS a _,⟨_,Heap.get?_push_size _ rfl,rfl,rfl⟩,fun b hb=>?_,q⟩
  cases List.mem_singleton.mp hb
  exact I1.fpOk (Nat.le_refl _) I1.fresh
 ·obtain⟨its,rv,pl,hz⟩:=I1.tuple hq
  refine wpAny_pyIter_tuple (show s1.heap.IsTuple a its.toArray from pl) ⟨s1.heap.objs.size,[s1.heap.objs.size],_,_,H1,rfl,I1.kept (t':=s1.toks) fun b o e=>Heap.get?_push_of_some _ e,xy a _,⟨_,Heap.get?_push_size _ rfl,rfl,rfl⟩,fun b hb=>?_,q⟩
  cases List.mem_singleton.mp hb
  exact I1.fpOk (Nat.le_refl _) I1.fresh
noncomputable def aS (f:Env->Option D):Env->Option (List D):=fun ρ=>(f ρ).bind fQ
theorem AU (h:DE X l f):DI X tg l (aS f):=so (Gn h) fun σ H R ⟨HF,ρ,ds,sm,eo,hf,q⟩=>by
 obtain⟨x,hx,hf⟩:=bs hf
 refine⟨HF,ρ,x,sm,eo,hx,fun v1 H1 HF1 g1 r1=>?_⟩
 rcases j3 hf with rfl|rfl
 ·simp only[Rep] at r1
  obtain⟨a,vs,rfl,hs,rr⟩:=r1
  exact⟨a,rfl,.inr ⟨vs,aw g1.fh hs,q _ H1 HF1 g1 (Cm hs rr)⟩⟩
 ·simp only[Rep] at r1
  obtain⟨a,vs,rfl,hs,rr⟩:=r1
  exact⟨a,rfl,.inl ⟨vs,g1.fh.seq hs,q _ H1 HF1 g1 (Aa hs rr)⟩⟩
noncomputable def vM (i:Int):Bool:=decide (-(2 ^ 62)<=i)&&decide (i < 2 ^ 62)
noncomputable def j6:List D->Option (List D)
 | [.int j]=>if vM j then some ((List.range j.toNat).map fun i=>PyData.int ((i:Nat):Int)) else none
 | _=>none
theorem uD {ds es:List D}(h:j6 ds=some es):∃j,ds=[.int j]/\vM j=true/\es=(List.range j.toNat).map fun i=>PyData.int ((i:Nat):Int):=by
 unfold j6 at h
 split at h
 ·split at h
  ·cases h;exact⟨_,rfl,‹_›,rfl⟩
  ·cases h
 ·cases h
noncomputable def bG (fs:Env->Option (List D)):Env->Option (List D):=fun ρ=>(fs ρ).bind j6
theorem Dd (B:mv X "range" (.type "range")) (h:DA X [e] fs) (hs:starEach [e] X.env=[(false,eval e X.env)]:=by rfl):DI X tg (.Call (.Name "range" p) [e] [] pos) (bG fs) :=
 so (zZ B.gl B.mg h hs) fun σ H R ⟨HF,ρ,ds,sm,eo,hf,q⟩=>by
  obtain⟨x,hx,hf⟩:=bs hf
  obtain⟨j,rfl,hj,rfl⟩:=uD hf
  refine⟨HF,ρ,_,sm,eo,hx,fun vs H1 HF1 g1 r1=>?_⟩
  obtain⟨v,r,rfl,a,b⟩:=r1.cons_inv
  rw[b.nil_inv]
  simp only[Rep] at a
  subst a
  unfold vM at hj
  rw[Bool.and_eq_true] at hj
  refine⟨j,rfl,of_decide_eq_true hj.1,of_decide_eq_true hj.2,q _ H1 HF1 g1 ?_⟩
  have:=xl (K:=X.K) (HF:=HF1) (lo:=0) (n:=j.toNat)
  simpa using this
noncomputable def Ko (K:PySem.W.Frag) (f:Env->D->Option Env):TG:=fun v σ H Q=>∃HF ρ d ρ',aV HF H/\cG K HF ρ σ/\Rep K HF d v/\f ρ d=some ρ'/\∀σ',cG K HF ρ' σ'->cG K HF ρ σ'->Q σ' H
noncomputable def DG (X:Cx) (tg:Expr) (f:Env->D->Option Env):Prop:=PG X tg (Ko X.K f)
theorem l8 {t t':TG}(h:PG X tg t) (i:∀v σ H Q,t' v σ H Q->t v σ H Q):PG X tg t':=fun pins s σ H v u Q I r q=>h pins s σ H v u Q I r (i v σ H Q q)
noncomputable def isFree (ρ:Env) (i:Nat):Bool:=((ρ[i]?).getD none).isNone
theorem ij {K:PySem.W.Frag}{HF:Hp}{ρ:Env}{σ:L2.St}{i:Nat}{d:D}{v:V}(eo:cG K HF ρ σ) (r:Rep K HF d v):cG K HF (ρ.set i (some d)) (σ.set i (some v)):=by
 refine⟨fun j e h=>?_,by rw[List.length_set,List.length_set];exact eo.len,eo.tb⟩
 rw[List.getElem?_set] at h ⊢
 by_cases hij:i=j
 ·rw[if_pos hij] at h ⊢
  by_cases hl:i < ρ.length
  ·rw[if_pos hl] at h
   cases h
   rw[if_pos (Nat.lt_of_lt_of_le hl eo.len)]
   exact⟨v,rfl,r⟩
  ·rw[if_neg hl] at h;cases h
 ·rw[if_neg hij] at h ⊢
  exact eo.get j e h
theorem jC {K:PySem.W.Frag}{HF:Hp}{ρ:Env}{σ:L2.St}{i:Nat}{v:V}(eo:cG K HF ρ σ) (hf:isFree ρ i=true):cG K HF ρ (σ.set i (some v)):=by
 refine⟨fun j e h=>?_,by rw[List.length_set];exact eo.len,eo.tb⟩
 have hij:i≠j:=by
  intro z;subst z
  unfold isFree at hf;rw[h] at hf;cases hf
 rw[List.getElem?_set,if_neg hij]
 exact eo.get j e h
noncomputable def fG (i:Nat):Env->D->Option Env:=fun ρ d=>if isFree ρ i=true then some (ρ.set i (some d)) else none
theorem EE (i:Nat) {x:Str}(hN:X.N.Nodup) (hi:X.N[i]?=some x) (hx:Loc X.env.scope x) (hf:X.fn x=true\/X.env.scope.names.lookup x=some .local:=by first|exact .inl rfl|exact .inr rfl|assumption):DG X (.Name x pos) (fG i) :=
 l8 (cK hN hi hx hf) fun v σ H Q ⟨HF,ρ,d,ρ',sm,eo,r,hf,q⟩=>by
  unfold fG at hf
  split at hf
  ·cases hf;exact q _ (ij eo r) (jC eo ‹_›)
  ·cases hf
noncomputable def fI (i j:Nat):Env->D->Option Env:=fun ρ d=>match d with
 | .tuple [x,y]=>if isFree ρ i=true/\isFree ρ j=true then some ((ρ.set i (some x)).set j (some y)) else none
 | _=>none
theorem G1 (i j:Nat) {x y:Str}{px py:Pos}{k:Nat}(hc:X.calm=true) (hN:X.N.Nodup) (hi:X.N[i]?=some x) (hx:Loc X.env.scope x) (hj:X.N[j]?=some y) (hy:Loc X.env.scope y)
  (hf:X.fn x=true\/X.env.scope.names.lookup x=some .local:=by first|exact .inl rfl|exact .inr rfl|assumption) (hf':X.fn y=true\/X.env.scope.names.lookup y=some .local:=by first|exact .inl rfl|exact .inr rfl|assumption) :
  DG X (.Tuple [.Name x px,.Name y py] k pos) (fI i j) :=
 l8 (nS hc (ck (cK hN hi hx hf) (ck (cK hN hj hy hf') kL))) fun v σ H Q ⟨HF,ρ,d,ρ',sm,eo,r,hf,q⟩=>by
  unfold fI at hf
  split at hf
  ·rename_i x' y'
   split at hf
   ·rename_i hh
    cases hf
    simp only[Rep] at r
    obtain⟨a,vs,rfl,hs,rr⟩:=r
    obtain⟨v1,r1,rfl,a1,b1⟩:=rr.cons_inv
    obtain⟨v2,r2,rfl,a2,b2⟩:=b1.cons_inv
    rw[b2.nil_inv] at hs
    exact⟨a,_,rfl,aw sm hs,rfl,v1,_,rfl,v2,_,rfl,rfl,q _ (ij (ij eo a1) a2) (jC (jC eo hh.1) hh.2)⟩
   ·cases hf
  ·cases hf
noncomputable def cq (tgt:Env->D->Option Env) (tt:Env->Option Bool) (te:Env->Option D) (ρ:Env):List D->Option (List D)
 | []=>some []
 | d::ds=>(tgt ρ d).bind fun ρ'=>(tt ρ').bind fun b=>if b=true then (te ρ').bind fun x=>(cq tgt tt te ρ ds).map (x::·) else cq tgt tt te ρ ds
noncomputable def Jm (X:Cx) (ifs:List Expr) (f:Env->Option Bool):Prop:=Jd X ifs (Il X.K f)
theorem Em:Jm X [] (fun _=>some true):=fun pins s σ H Q I ⟨HF,ρ,b,sm,eo,hf,q⟩=>EN pins s σ H Q I (by cases hf;exact q H HF (.refl sm))
theorem Dr {c:Expr}{t:Env->Option Bool}(h:DT X c t):Jm X [c] t:=Ew h
noncomputable def jo (t:Nat) (cs:List Nat) (σ:L2.St):L2.St:=List.replicate t none++cs.map fun j=>(σ[j]?).getD none
noncomputable def eh (t:Nat) (cs:List Nat) (ρ:Env):Env:=List.replicate t none++cs.map fun j=>(ρ[j]?).getD none
theorem xV {K:PySem.W.Frag}{HF:Hp}{ρ:Env}{σ:L2.St}{t:Nat}{cs:List Nat}(eo:cG K HF ρ σ):cG K HF (eh t cs ρ) (jo t cs σ):=by
 refine⟨fun i d h=>?_,by simp[eh,jo],eo.tb⟩
 unfold eh at h
 unfold jo
 by_cases hi:i < t
 ·rw[List.getElem?_append_left (by simpa using hi),List.getElem?_replicate,if_pos hi] at h
  cases h
 ·rw[List.getElem?_append_right (by simpa using hi),List.getElem?_map,List.length_replicate] at h
  rw[List.getElem?_append_right (by simpa using hi),List.getElem?_map,List.length_replicate]
  obtain⟨j,hj,h⟩:=map_some h
  rw[hj]
  cases e:ρ[j]? with
  | none=>rw[e] at h;cases h
  | some o =>
   rw[e] at h
   have h:o=some d:=h
   subst h
   obtain⟨v,a,b⟩:=eo.get j d e
   exact⟨v,by show some ((σ[j]?).getD none)=_;rw[a];rfl,b⟩
noncomputable def ak (t:Nat) (cs:List Nat) (fi:Env->Option (List D)) (tgt:Env->D->Option Env) (tt:Env->Option Bool) (te:Env->Option D):Env->Option (List D):=fun ρ=>(fi ρ).bind fun ds=>(cq tgt tt te (eh t cs ρ) ds).bind small
variable {elt iter:Expr}{ifs:List Expr}{scope:Scope}{N:List Str}{t:Nat}{cs:List Nat}{fi:Env->Option (List D)}{tgt:Env->D->Option Env}{tt:Env->Option Bool}{te:Env->Option D}
theorem Cb:∀σ H Q,tF X.K (ak t cs fi tgt tt te) σ H Q->Ct (LF X.K fi) (Ko X.K tgt) (Il X.K tt) (tD X.K te) (jo t cs) σ H Q:=fun σ H Q ⟨HF,ρ,out,sm,eo,hf,q⟩=>by
 obtain⟨ds,hx,hf⟩:=bs hf
 obtain⟨out',ho,hf⟩:=bs hf
 obtain⟨rfl,hz⟩:=dS hf
 refine⟨HF,ρ,ds,sm,eo,hx,fun J H1 HF1 g1 it Dn hD=>?_⟩
 have eo1:=xV (t:=t) (cs:=cs) (eo.mono g1.ff)
 have hFD:HF1 Dn=none:=g1.fh.free hD
 refine⟨fun i m σ' H'=>m+i=ds.length/\∃HF' xs ys rest,cb HF1 H1 HF' H'/\HF' Dn=none/\H' Dn=some (.lst ys)/\aq X.K HF' xs ys/\cG X.K HF' (eh t cs ρ) σ'/\cq tgt tt te (eh t cs ρ) (ds.drop i)=some rest/\xs++rest=out,
  ⟨ds.length,rfl,HF1,[],[],out,.own g1.fh hD,hFD,aD,aq.nil,eo1,ho,rfl⟩,?_⟩
 rintro i m σ' H' ⟨hm,HF',xs,ys,rest,G,hFD',hHD,rr,eo',hc,hout⟩
 by_cases hi:i < ds.length
 ·refine .inr ?_
  have hd:ds.drop i=ds[i]::ds.drop (i+1):=List.drop_eq_getElem_cons hi
  have he:ds[i]?=some ds[i]:=List.getElem?_eq_some_iff.mpr ⟨hi,rfl⟩
  generalize ds[i]=d at hd he
  rw[hd] at hc
  unfold cq at hc
  obtain⟨ρ',h1,hc⟩:=bs hc
  obtain⟨b,h2,hc⟩:=bs hc
  obtain⟨go,yld⟩:=it.go i d H' HF' he G.ff G.fh
  refine⟨go,fun x H2 y=>?_⟩
  obtain⟨HF2,G2,rx⟩:=yld x H2 y
  refine⟨HF2,_,d,ρ',G2.fh,eo'.mono G2.ff,rx,h1,fun σ2 eo2 eo2'=>?_⟩
  refine⟨HF2,ρ',b,G2.fh,eo2,h2,fun H3 HF3 G3=>?_⟩
  have nof:∀HF4 H4,cb HF' H' HF4 H4->HF4 Dn=none:=fun HF4 H4 G4=>by
   cases e4:HF4 Dn with
   | none=>rfl
   | some o =>
    rcases G4.nw Dn o e4 with z|z
    ·rw[hFD'] at z;cases z
    ·rw[hHD] at z;cases z
  cases b with
  | false =>
   refine vA ⟨m - 1,by omega,by omega,HF3,xs,ys,rest,(G.trans G2).trans G3,nof _ _ (G2.trans G3),(G2.trans G3).hh _ _ hHD,rr.mono (G2.trans G3).ff,eo2'.mono G3.ff,by simpa using hc,hout⟩
  | true =>
   rw[if_pos rfl] at hc
   obtain⟨z,h3,hc⟩:=bs hc
   obtain⟨rest',h4,rfl⟩:=map_some hc
   refine uW ⟨HF3,ρ',z,G3.fh,eo2.mono G3.ff,h3,fun v H4 HF4 G4 rv=>?_⟩
   have GG:=(G2.trans G3).trans G4
   have n4:=nof _ _ GG
   have h4D:=GG.hh _ _ hHD
   have hlen:ys.length < sizeLine:=by
    have e1:=rr.length
    have e2:out.length=xs.length+(rest'.length+1):=by rw[<- hout];simp
    omega
   refine⟨ys,h4D,hlen,m - 1,by omega,by omega,HF4,xs++[z],ys++[v],rest',?_,n4,aD,(rr.mono GG.ff).append (aq.cons rv aq.nil),eo2'.mono (G3.ff.trans G4.ff),h4,by simp[<- hout]⟩
   have G5:=G.trans GG
   refine⟨fun b o e=>?_,G5.ff,fun b o e=>?_,G5.nw⟩
   ·rw[ay (aJ e hD)];exact G5.hh b o e
   ·rw[ay (aJ e n4)];exact G5.fh b o e
 ·have hi':i=ds.length:=by omega
  subst hi'
  rw[List.drop_length] at hc
  cases hc
  rw[List.append_nil] at hout
  subst hout
  exact .inl ⟨it.stop H' HF' G.ff G.fh,q Dn ys H' HF' (g1.trans G) (g1.hh.free hD) hFD' hHD rr⟩
theorem DX (hc:X.calm=true) (S:g9 X scope N (jo t cs)) (hi:DI X tg iter fi)
  (hY:∀fp s H,DG (aO X scope N fp s H) tg tgt/\Jm (aO X scope N fp s H) ifs tt/\DE (aO X scope N fp s H) elt te)
  (hs:∀x,foldedSetIterable iter X.env x=pure x:=by intro _;rfl):DF X (.ListComp elt [⟨tg,iter,ifs,0⟩] scope pos) (ak t cs fi tgt tt te):=aN (Dz (g:=Ko X.K tgt) (tt:=Il X.K tt) (te:=tD X.K te) hc S hi hY hs) Cb
end
end Dl
namespace Dl
open PySem L2 PySem.Spec PyProof.Rows
inductive Slot where
 | non|val (d:D)|own (ds:List D)
noncomputable abbrev ai:=List Slot
noncomputable def Slot.all:Slot->Option D|.non=>none|.val d=>some d|.own ds=>some (.list ds)
noncomputable def Slot.frz:Slot->Option D|.val d=>some d|_=>none
noncomputable def Slot.thaw:Slot->Slot|.own ds=>.val (.list ds)|s=>s
noncomputable def bb (ρ:ai):Env:=ρ.map Slot.all
noncomputable def bR (ρ:ai):Env:=ρ.map Slot.frz
noncomputable def hand (fz:List Nat):Nat->ai->ai
 | _,[]=>[]
 | k,s::r=>(if fz.contains k=true then s.thaw else s)::hand fz (k+1) r
theorem gX (fz:List Nat):∀ (ρ:ai) (k i:Nat),(hand fz k ρ)[i]?=(ρ[i]?).map fun s=>if fz.contains (k+i)=true then s.thaw else s
 | [],k,i=>by simp[hand]
 | s::r,k,0=>by simp[hand]
 | s::r,k,i+1=>by
  simp only[hand,List.getElem?_cons_succ]
  rw[gX fz r (k+1) i,Nat.add_assoc,Nat.add_comm 1 i]
theorem uX (fz:List Nat):∀ (ρ:ai) (k:Nat),(hand fz k ρ).length=ρ.length
 | [],k=>rfl
 | s::r,k=>by simp[hand,uX fz r (k+1)]
structure jO (K:PySem.W.Frag) (HF₀ H₀ HF H:Hp) (ρ:ai) (σ:L2.St):Prop where
 gr:cb HF₀ H₀ HF H
 val:∀ (i:Nat) (d:D),ρ[i]?=some (.val d)->∃v,σ[i]?=some (some v)/\Rep K HF d v
 own:∀ (i:Nat) (ds:List D),ρ[i]?=some (.own ds)->∃a vs,σ[i]?=some (some (.ref a))/\H a=some (.lst vs)/\HF a=none/\H₀ a=none/\aq K HF ds vs
 inj:∀ (i j:Nat) (ds es:List D) (a:Addr),ρ[i]?=some (.own ds)->ρ[j]?=some (.own es)->σ[i]?=some (some (.ref a))->σ[j]?=some (some (.ref a))->i=j
 len:ρ.length<=σ.length
 tb:eY K HF
section
variable {K:PySem.W.Frag}{HF₀ H₀ HF H HF' H':Hp}{ρ:ai}{σ:L2.St}
theorem jO.all (S:jO K HF₀ H₀ HF H ρ σ):cG K H (bb ρ) σ:=by
 refine⟨fun i d h=>?_,by simpa [bb] using S.len,S.tb.mono S.gr.fh⟩
 unfold bb at h
 rw[List.getElem?_map] at h
 obtain⟨s,hs,h⟩:=map_some h
 cases s with
 | non=>cases h
 | val e=>cases h;obtain⟨v,a,b⟩:=S.val i _ hs;exact⟨v,a,b.mono S.gr.fh⟩
 | own ds =>
  cases h
  obtain⟨a,vs,e1,e2,e3,_,e4⟩:=S.own i ds hs
  exact⟨.ref a,e1,by simp only[Rep];exact⟨a,vs,rfl,gT.of e2,e4.mono S.gr.fh⟩⟩
theorem jO.frz (S:jO K HF₀ H₀ HF H ρ σ):cG K HF (bR ρ) σ:=by
 refine⟨fun i d h=>?_,by simpa [bR] using S.len,S.tb⟩
 unfold bR at h
 rw[List.getElem?_map] at h
 obtain⟨s,hs,h⟩:=map_some h
 cases s with
 | non=>cases h
 | val e=>cases h;exact S.val i _ hs
 | own ds=>cases h
theorem jO.grow (S:jO K HF₀ H₀ HF H ρ σ) (g:cb HF H HF' H'):jO K HF₀ H₀ HF' H' ρ σ where
 gr:=S.gr.trans g
 val:=fun i d h=>let ⟨v,a,b⟩:=S.val i d h;⟨v,a,b.mono g.ff⟩
 own:=fun i ds h=>by
  obtain⟨a,vs,e1,e2,e3,e5,e4⟩:=S.own i ds h
  refine⟨a,vs,e1,g.hh _ _ e2,?_,e5,e4.mono g.ff⟩
  cases e:HF' a with
  | none=>rfl
  | some o =>
   rcases g.nw a o e with z|z
   ·rw[e3] at z;cases z
   ·rw[e2] at z;cases z
 inj:=S.inj
 len:=S.len
 tb:=S.tb.mono g.ff
theorem jO.step (S:jO K HF₀ H₀ HF H ρ σ) (g:aV H H'):jO K HF₀ H₀ HF H' ρ σ:=S.grow ⟨g,.refl _,S.gr.fh.trans g,fun _ _ e=>.inl e⟩
theorem jO.hand (S:jO K HF₀ H₀ HF H ρ σ) (fz:List Nat):∃HF1,aV HF HF1/\jO K HF₀ H₀ HF1 H (hand fz 0 ρ) σ:=by
 let P:Addr->Prop:=fun a=>∃i ds,fz.contains i=true/\ρ[i]?=some (.own ds)/\σ[i]?=some (some (.ref a))
 have cl:=Classical.propDecidable
 let HF1:Hp:=fun a=>if P a then H a else HF a
 have hP:∀a,P a->HF a=none/\H₀ a=none:=fun a ⟨i,ds,_,h1,h2⟩=>by
  obtain⟨a',vs,e1,e2,e3,e5,e4⟩:=S.own i ds h1
  rw[h2] at e1
  cases e1
  exact⟨e3,e5⟩
 have s1:aV HF HF1:=fun b o e=>by
  show (if P b then H b else HF b)=some o
  by_cases h:P b
  ·rw[(hP b h).1] at e;cases e
  ·rw[if_neg h];exact e
 have s2:aV HF1 H:=fun b o e=>by
  have e:(if P b then H b else HF b)=some o:=e
  by_cases h:P b
  ·rw[if_pos h] at e;exact e
  ·rw[if_neg h] at e;exact S.gr.fh b o e
 refine⟨HF1,s1,⟨S.gr.hh,S.gr.ff.trans s1,s2,fun b o e=>?_⟩,fun i d h=>?_,fun i ds h=>?_,fun i j ds es a h1 h2=>?_,by rw[uX];exact S.len,S.tb.mono s1⟩
 ·have e:(if P b then H b else HF b)=some o:=e
  by_cases h:P b
  ·exact .inr (hP b h).2
  ·rw[if_neg h] at e;exact S.gr.nw b o e
 ·rw[gX] at h
  obtain⟨s,hs,h⟩:=map_some h
  rw[Nat.zero_add] at h
  cases s with
  | non=>split at h<;>cases h
  | val e =>
   have:Slot.val e=Slot.val d:=by split at h<;>exact h
   cases this
   obtain⟨v,a,b⟩:=S.val i _ hs
   exact⟨v,a,b.mono s1⟩
  | own ds =>
   split at h
   ·rename_i hc
    cases h
    obtain⟨a,vs,e1,e2,e3,e5,e4⟩:=S.own i ds hs
    refine⟨.ref a,e1,?_⟩
    simp only[Rep]
    refine⟨a,vs,rfl,.inl (.inl ?_),e4.mono s1⟩
    show (if P a then H a else HF a)=_
    rw[if_pos ⟨i,ds,hc,hs,e1⟩]
    exact e2
   ·cases h
 ·rw[gX] at h
  obtain⟨s,hs,h⟩:=map_some h
  rw[Nat.zero_add] at h
  cases s with
  | non=>split at h<;>cases h
  | val e=>split at h<;>cases h
  | own es =>
   split at h
   ·cases h
   ·rename_i hc
    cases h
    obtain⟨a,vs,e1,e2,e3,e5,e4⟩:=S.own i ds hs
    refine⟨a,vs,e1,e2,?_,e5,e4.mono s1⟩
    show (if P a then H a else HF a)=none
    rw[if_neg ?_]
    ·exact e3
    ·rintro⟨j,es,hj,h1,h2⟩
     have:=S.inj i j ds es a hs h1 e1 h2
     subst this
     exact hc hj
 ·rw[gX] at h1 h2
  obtain⟨s,hs,h1⟩:=map_some h1
  obtain⟨s',hs',h2⟩:=map_some h2
  rw[Nat.zero_add] at h1 h2
  cases s with
  | non=>split at h1<;>cases h1
  | val e=>split at h1<;>cases h1
  | own xs =>
   cases s' with
   | non=>split at h2<;>cases h2
   | val e=>split at h2<;>cases h2
   | own ys=>exact S.inj i j _ _ a hs hs'
theorem jO.setV (S:jO K HF₀ H₀ HF H ρ σ) {i:Nat}{d:D}{v:V}(r:Rep K HF d v):jO K HF₀ H₀ HF H (ρ.set i (.val d)) (σ.set i (some v)):=by
 have ne:∀ {j:Nat}{s:Slot},(ρ.set i (.val d))[j]?=some s->(∀e,s≠.val e)->i≠j/\ρ[j]?=some s:=fun {j s} h hn=>by
  rw[List.getElem?_set] at h
  by_cases hij:i=j
  ·rw[if_pos hij] at h
   split at h
   ·cases h;exact absurd rfl (hn _)
   ·cases h
  ·rw[if_neg hij] at h;exact⟨hij,h⟩
 refine⟨S.gr,fun j e h=>?_,fun j ds h=>?_,fun j k ds es a h1 h2 h3 h4=>?_,by rw[List.length_set,List.length_set];exact S.len,S.tb⟩
 ·rw[List.getElem?_set] at h ⊢
  by_cases hij:i=j
  ·rw[if_pos hij] at h ⊢
   split at h
   ·rename_i hl
    cases h
    rw[if_pos (Nat.lt_of_lt_of_le hl S.len)]
    exact⟨v,rfl,r⟩
   ·cases h
  ·rw[if_neg hij] at h ⊢
   exact S.val j e h
 ·obtain⟨hij,h⟩:=ne h fun e z=>by cases z
  rw[List.getElem?_set,if_neg hij]
  exact S.own j ds h
 ·obtain⟨n1,h1⟩:=ne h1 fun e z=>by cases z
  obtain⟨n2,h2⟩:=ne h2 fun e z=>by cases z
  rw[List.getElem?_set,if_neg n1] at h3
  rw[List.getElem?_set,if_neg n2] at h4
  exact S.inj j k ds es a h1 h2 h3 h4
theorem jO.setO (S:jO K HF₀ H₀ HF H ρ σ) {i:Nat}{ds:List D}{a:Addr}{vs:List V}(hs:aV H H') (h1:H' a=some (.lst vs)) (h2:HF a=none) (h3:H₀ a=none) (r:aq K HF ds vs)
  (fr:∀j es,i≠j->ρ[j]?=some (.own es)->σ[j]?≠some (some (.ref a))):jO K HF₀ H₀ HF H' (ρ.set i (.own ds)) (σ.set i (some (.ref a))):=by
 have S:=S.step hs
 refine⟨S.gr,fun j e h=>?_,fun j es h=>?_,fun j k xs ys b e1 e2 e3 e4=>?_,by rw[List.length_set,List.length_set];exact S.len,S.tb⟩
 ·rw[List.getElem?_set] at h ⊢
  by_cases hij:i=j
  ·rw[if_pos hij] at h
   split at h<;>cases h
  ·rw[if_neg hij] at h ⊢
   exact S.val j e h
 ·rw[List.getElem?_set] at h ⊢
  by_cases hij:i=j
  ·rw[if_pos hij] at h ⊢
   split at h
   ·rename_i hl
    cases h
    rw[if_pos (Nat.lt_of_lt_of_le hl S.len)]
    exact⟨a,vs,rfl,h1,h2,h3,r⟩
   ·cases h
  ·rw[if_neg hij] at h ⊢
   exact S.own j es h
 ·rw[List.getElem?_set] at e1 e2 e3 e4
  by_cases hij:i=j
  ·by_cases hik:i=k
   ·exact hij.symm.trans hik
   ·rw[if_pos hij] at e1 e3
    rw[if_neg hik] at e2 e4
    split at e3
    ·cases e3;exact absurd e4 (fr k ys hik e2)
    ·cases e3
  ·by_cases hik:i=k
   ·rw[if_neg hij] at e1 e3
    rw[if_pos hik] at e2 e4
    split at e4
    ·cases e4;exact absurd e3 (fr j xs hij e1)
    ·cases e4
   ·rw[if_neg hij] at e1 e3
    rw[if_neg hik] at e2 e4
    exact S.inj j k xs ys b e1 e2 e3 e4
end
inductive Out where
 | nx (ρ:ai)|rt (d:D)
noncomputable def xR (K:PySem.W.Frag) (HF₀ H₀ HF:Hp) (E:Ends):Out->Prop
 | .nx ρ'=>∀σ' H' HF',jO K HF₀ H₀ HF' H' ρ' σ'->aV HF HF'->E.nx σ' H'
 | .rt d=>∀v H' HF',cb HF₀ H₀ HF' H'->Rep K HF' d v->E.rt v H'
noncomputable def tS (K:PySem.W.Frag) (HF₀ H₀:Hp) (g:ai->Option Out):TS:=fun E σ H=>∃HF ρ o,jO K HF₀ H₀ HF H ρ σ/\g ρ=some o/\xR K HF₀ H₀ HF E o
noncomputable def DS (X:Cx) (HF₀ H₀:Hp) (st:Stmt) (g:ai->Option Out):Prop:=PS X st (tS X.K HF₀ H₀ g)
noncomputable def As (X:Cx) (HF₀ H₀:Hp) (st:List Stmt) (g:ai->Option Out):Prop:=vO X st (tS X.K HF₀ H₀ g)
section
variable {X:Cx}{HF₀ H₀:Hp}{st:Stmt}{rest:List Stmt}{g g1 g2:ai->Option Out}{e:Expr}{pos:Pos}
theorem dE {t t':TS}(h:PS X st t) (i:∀E σ H,t' E σ H->t E σ H):PS X st t':=fun pins s σ H E I q=>h pins s σ H E I (i E σ H q)
theorem yM {t t':TS}(h:vO X rest t) (i:∀E σ H,t' E σ H->t E σ H):vO X rest t':=fun pins s σ H E I q=>h pins s σ H E I (i E σ H q)
noncomputable def eU:ai->Option Out:=fun ρ=>some (.nx ρ)
noncomputable def av (g1 g2:ai->Option Out):ai->Option Out:=fun ρ=>(g1 ρ).bind fun|.nx ρ'=>g2 ρ'|.rt d=>some (.rt d)
theorem xR.mono {K:PySem.W.Frag}{HF HF':Hp}{E:Ends}{o:Out}(s:aV HF HF') (h:xR K HF₀ H₀ HF E o):xR K HF₀ H₀ HF' E o:=by
 cases o with
 | nx ρ'=>exact fun σ' H' HF2 S s2=>h σ' H' HF2 S (s.trans s2)
 | rt d=>exact h
theorem EX:As X HF₀ H₀ [] eU:=yM E2 fun E σ H ⟨HF,ρ,o,S,hg,q⟩=>by cases hg;exact q σ H HF S (.refl _)
theorem BI (h1:DS X HF₀ H₀ st g1) (h2:As X HF₀ H₀ rest g2):As X HF₀ H₀ (st::rest) (av g1 g2):=yM (Cy h1 h2) fun E σ H ⟨HF,ρ,o,S,hg,q⟩=>by
 obtain⟨o1,h,hg⟩:=bs hg
 refine⟨HF,ρ,o1,S,h,?_⟩
 cases o1 with
 | nx ρ'=>exact fun σ' H' HF' S' s=>⟨HF',ρ',o,S',hg,q.mono s⟩
 | rt d=>cases hg;exact q
theorem Du (h1:DS X HF₀ H₀ st g1):As X HF₀ H₀ [st] g1:=Fm h1
theorem Fn:DS X HF₀ H₀ (.Pass pos) eU:=dE E8 fun E σ H ⟨HF,ρ,o,S,hg,q⟩=>by cases hg;exact q σ H HF S (.refl _)
theorem GD {x j pos pos'}:DS X HF₀ H₀ (.Expr (.Constant (.str x) j pos) pos') eU:=dE Gc fun E σ H ⟨HF,ρ,o,S,hg,q⟩=>by cases hg;exact q σ H HF S (.refl _)
noncomputable def eX (t:Env->Option Bool) (g1 g2:ai->Option Out):ai->Option Out:=fun ρ=>(t (bb ρ)).bind fun b=>if b=true then g1 ρ else g2 ρ
theorem J4 {c:Expr}{a b:List Stmt}{t:Env->Option Bool}(hc:DT X c t) (ha:As X HF₀ H₀ a g1) (hb:As X HF₀ H₀ b g2):DS X HF₀ H₀ (.If c a b pos) (eX t g1 g2):=dE (JX hc ha hb) fun E σ H ⟨HF,ρ,o,S,hg,q⟩=>by
 obtain⟨b,h,hg⟩:=bs hg
 refine⟨H,bb ρ,b,.refl _,S.all,h,fun H' HF' G=>?_⟩
 cases b with
 | true=>exact uW ⟨HF,ρ,o,S.step G.hh,hg,q⟩
 | false=>exact vA ⟨HF,ρ,o,S.step G.hh,hg,q⟩
theorem vi:∀ (ρ:ai) (k n:Nat),k+ρ.length<=n->bR (hand (List.range n) k ρ)=bb ρ
 | [],k,n,h=>rfl
 | s::r,k,n,h=>by
  have hk:(List.range n).contains k=true:=by simp at h ⊢;omega
  have ih:=vi r (k+1) n (by simp at h;omega)
  unfold bR bb at ih ⊢
  rw[hand,if_pos hk,List.map_cons,List.map_cons,ih]
  cases s<;>rfl
noncomputable def aF (f:Env->Option D):ai->Option Out:=fun ρ=>(f (bb ρ)).map Out.rt
theorem GK {f:Env->Option D}(h:DE X e f):DS X HF₀ H₀ (.Return (some e) pos) (aF f):=dE (ID h) fun E σ H ⟨HF,ρ,o,S,hg,q⟩=>by
 obtain⟨d,h,rfl⟩:=map_some hg
 obtain⟨HF1,s1,S1⟩:=S.hand (List.range ρ.length)
 refine⟨HF1,bb ρ,d,S1.gr.fh,?_,h,fun v H' HF' G r=>q v H' HF' (S1.gr.trans G) r⟩
 have:=S1.frz
 rw[vi ρ 0 ρ.length (by omega)] at this
 exact this
noncomputable def m7:D->Bool|.none=>true|.bool _=>true|.int _=>true|.str _=>true|_=>false
theorem uz {K:PySem.W.Frag}{HF HF':Hp}{d:D}{v:V}(h:m7 d=true) (r:Rep K HF d v):Rep K HF' d v:=by
 cases d<;>cases h<;>(simp only[Rep] at r ⊢;exact r)
noncomputable def aB (i:Nat) (fz:List Nat) (f:Env->Option D):ai->Option Out:=fun ρ=>(f (bb ρ)).bind fun d=>if m7 d=true then some (.nx (ρ.set i (.val d))) else (f (bR (hand fz 0 ρ))).map fun d'=>.nx ((hand fz 0 ρ).set i (.val d'))
theorem Ji {i:Nat}{fz:List Nat}{f:Env->Option D}:∀E σ H,tS X.K HF₀ H₀ (aB i fz f) E σ H->CF (tD X.K f) (uc i) E σ H:=fun E σ H ⟨HF,ρ,o,S,hg,q⟩=>by
 obtain⟨d,h,hg⟩:=bs hg
 split at hg
 ·rename_i hs
  cases hg
  exact⟨H,bb ρ,d,.refl _,S.all,h,fun v H' HF' G r=>q _ H' HF ((S.step G.hh).setV (uz hs r)) (.refl _)⟩
 ·obtain⟨d',h',rfl⟩:=map_some hg
  obtain⟨HF1,s1,S1⟩:=S.hand fz
  exact⟨HF1,_,d',S1.gr.fh,S1.frz,h',fun v H' HF' G r=>q _ H' HF' ((S1.grow G).setV r) (s1.trans G.ff)⟩
theorem Hn (i:Nat) (fz:List Nat) {x:Str}{f:Env->Option D}{pos':Pos}(hN:X.N.Nodup) (hi:X.N[i]?=some x) (hx:Loc X.env.scope x) (he:DE X e f) (hs:swapsWith e (some (.Name x pos')) pos.line X.env=pure false:=by rfl)
  (hf:X.fn x=true\/X.env.scope.names.lookup x=some .local:=by first|exact .inl rfl|exact .inr rfl|assumption):DS X HF₀ H₀ (.Assign [.Name x pos'] e pos) (aB i fz f):=dE (BX hN hi hx he hs hf) Ji
noncomputable def aK (i:Nat) (fz:List Nat) (f:Env->Option (List D)):ai->Option Out:=fun ρ=>(f (bR (hand fz 0 ρ))).map fun ds=>.nx ((hand fz 0 ρ).set i (.own ds))
theorem BM {i:Nat}{fz:List Nat}{f:Env->Option (List D)}:∀E σ H,tS X.K HF₀ H₀ (aK i fz f) E σ H->CF (tF X.K f) (uc i) E σ H:=fun E σ H ⟨HF,ρ,o,S,hg,q⟩=>by
 obtain⟨ds,h,rfl⟩:=map_some hg
 obtain⟨HF1,s1,S1⟩:=S.hand fz
 refine⟨HF1,_,ds,S1.gr.fh,S1.frz,h,fun a vs H' HF' G ha hf h' r=>q _ H' HF' ?_ (s1.trans G.ff)⟩
 have S2:=S1.grow G
 refine S2.setO (.refl _) h' hf (S1.gr.hh.free ha) r fun j es _ hj z=>?_
 obtain⟨b,us,e1,e2,_⟩:=S1.own j es hj
 rw[e1] at z
 cases z
 rw[ha] at e2;cases e2
theorem r0 (i:Nat) (fz:List Nat) {x:Str}{f:Env->Option (List D)}{pos':Pos}(hN:X.N.Nodup) (hi:X.N[i]?=some x) (hx:Loc X.env.scope x) (he:DF X e f) (hs:swapsWith e (some (.Name x pos')) pos.line X.env=pure false:=by rfl)
  (hf:X.fn x=true\/X.env.scope.names.lookup x=some .local:=by first|exact .inl rfl|exact .inr rfl|assumption):DS X HF₀ H₀ (.Assign [.Name x pos'] e pos) (aK i fz f):=dE (BX hN hi hx he hs hf) BM
theorem EI (i:Nat) (fz:List Nat) {y:Str}{py spos:Pos}{tg iter elt:Expr}{ifs:List Expr}{scope:Scope}{N:List Str}{t:Nat}{cs:List Nat}{fi:Env->Option (List D)}{tgt:Env->D->Option Env}{tt:Env->Option Bool}{te:Env->Option D}
  (hc:X.calm=true) (S:g9 X scope N (jo t cs)) (hi:DI X tg iter fi)
  (hY:∀fp s H,DG (aO X scope N fp s H) tg tgt/\Jm (aO X scope N fp s H) ifs tt/\DE (aO X scope N fp s H) elt te)
  (hN:X.N.Nodup) (hiy:X.N[i]?=some y) (hy:X.env.scope.names.lookup y=some .local)
  (hsw:swapsWith (.ListComp elt [⟨tg,iter,ifs,0⟩] scope pos) (some (.Name y py)) spos.line X.env=pure true)
  (hs:∀x,foldedSetIterable iter X.env x=pure x:=by intro _;rfl):DS X HF₀ H₀ (.Assign [.Name y py] (.ListComp elt [⟨tg,iter,ifs,0⟩] scope pos) spos) (aK i fz (ak t cs fi tgt tt te)) :=
 dE (Fe (g:=Ko X.K tgt) (tt:=Il X.K tt) (te:=tD X.K te) hc S hi hY hN hiy hy hsw hs) fun E σ H q=>by
  have:=BM E σ H q
  exact Cb σ H _ this
noncomputable def L3 (K:PySem.W.Frag) (HF₀ H₀:Hp) (f:ai->D->Option ai):TG:=fun v σ H Q=>∃HF ρ d ρ',jO K HF₀ H₀ HF H ρ σ/\Rep K HF d v/\f ρ d=some ρ'/\∀σ',jO K HF₀ H₀ HF H ρ' σ'->Q σ' H
noncomputable def JW (X:Cx) (HF₀ H₀:Hp) (tg:Expr) (f:ai->D->Option ai):Prop:=PG X tg (L3 X.K HF₀ H₀ f)
noncomputable def tN (i:Nat):ai->D->Option ai:=fun ρ d=>some (ρ.set i (.val d))
theorem Cr (i:Nat) {x:Str}(hN:X.N.Nodup) (hi:X.N[i]?=some x) (hx:Loc X.env.scope x) (hf:X.fn x=true\/X.env.scope.names.lookup x=some .local:=by first|exact .inl rfl|exact .inr rfl|assumption):JW X HF₀ H₀ (.Name x pos) (tN i) :=
 l8 (cK hN hi hx hf) fun v σ H Q ⟨HF,ρ,d,ρ',S,r,hf,q⟩=>by cases hf;exact q _ (S.setV r)
noncomputable def eR (i j:Nat):ai->D->Option ai:=fun ρ d=>match d with
 | .tuple [x,y]=>some ((ρ.set i (.val x)).set j (.val y))
 | _=>none
theorem ES (i j:Nat) {x y:Str}{px py:Pos}{k:Nat}(hc:X.calm=true) (hN:X.N.Nodup) (hi:X.N[i]?=some x) (hx:Loc X.env.scope x) (hj:X.N[j]?=some y) (hy:Loc X.env.scope y)
  (hf:X.fn x=true\/X.env.scope.names.lookup x=some .local:=by first|exact .inl rfl|exact .inr rfl|assumption) (hf':X.fn y=true\/X.env.scope.names.lookup y=some .local:=by first|exact .inl rfl|exact .inr rfl|assumption) :
  JW X HF₀ H₀ (.Tuple [.Name x px,.Name y py] k pos) (eR i j) :=
 l8 (nS hc (ck (cK hN hi hx hf) (ck (cK hN hj hy hf') kL))) fun v σ H Q ⟨HF,ρ,d,ρ',S,r,hf,q⟩=>by
  unfold eR at hf
  split at hf
  ·cases hf
   simp only[Rep] at r
   obtain⟨a,vs,rfl,hs,rr⟩:=r
   obtain⟨v1,r1,rfl,a1,b1⟩:=rr.cons_inv
   obtain⟨v2,r2,rfl,a2,b2⟩:=b1.cons_inv
   rw[b2.nil_inv] at hs
   exact⟨a,_,rfl,aw S.gr.fh hs,rfl,v1,_,rfl,v2,_,rfl,rfl,q _ ((S.setV a1).setV a2)⟩
  ·cases hf
noncomputable def eE (tgt:ai->D->Option ai) (gb:ai->Option Out):List D->ai->Option Out
 | [],ρ=>some (.nx ρ)
 | d::ds,ρ=>(tgt ρ d).bind fun ρ1=>(gb ρ1).bind fun|.nx ρ2=>eE tgt gb ds ρ2|.rt v=>some (.rt v)
noncomputable def dW (fz:List Nat) (fi:Env->Option (List D)) (tgt:ai->D->Option ai) (gb:ai->Option Out):ai->Option Out:=fun ρ=>(fi (bR (hand fz 0 ρ))).bind fun ds=>eE tgt gb ds (hand fz 0 ρ)
theorem HE (fz:List Nat) {tg iter:Expr}{body:List Stmt}{fi:Env->Option (List D)}{tgt:ai->D->Option ai}{gb:ai->Option Out}(hp:PassesOwn (model X.prog X.w) X.A X.env X.xe) (hc:X.calm=true) (hi:DI X tg iter fi) (hg:JW X HF₀ H₀ tg tgt) (hb:As X HF₀ H₀ body gb)
  (hs:∀x,foldedSetIterable iter X.env x=pure x:=by intro _;rfl):DS X HF₀ H₀ (.For tg iter body [] pos) (dW fz fi tgt gb):=dE (Ib hp hc hi hg hb hs) fun E σ H ⟨HF,ρ,o,S,hg,q⟩=>by
 obtain⟨ds,h,hg⟩:=bs hg
 obtain⟨HF1,s1,S1⟩:=S.hand fz
 refine⟨HF1,_,ds,S1.gr.fh,S1.frz,h,fun J H2 HF2 G it=>?_⟩
 refine⟨fun i m σ' H'=>m+i=ds.length/\∃HF' ρ',jO X.K HF₀ H₀ HF' H' ρ' σ'/\aV HF2 HF'/\eE tgt gb (ds.drop i) ρ'=some o,⟨ds.length,rfl,HF2,_,S1.grow G,.refl _,hg⟩,?_⟩
 rintro i m σ' H' ⟨hm,HF',ρ',S',s',hf⟩
 by_cases hi:i < ds.length
 ·refine .inr ?_
  have hd:ds.drop i=ds[i]::ds.drop (i+1):=List.drop_eq_getElem_cons hi
  have he:ds[i]?=some ds[i]:=List.getElem?_eq_some_iff.mpr ⟨hi,rfl⟩
  generalize ds[i]=d at hd he
  rw[hd] at hf
  unfold eE at hf
  obtain⟨ρ1,h1,hf⟩:=bs hf
  obtain⟨o1,h2,hf⟩:=bs hf
  obtain⟨go,yld⟩:=it.go i d H' HF' he s' S'.gr.fh
  refine⟨go,fun σ2 H3=>∃HF3 ρ3,jO X.K HF₀ H₀ HF3 H3 ρ3 σ2/\aV HF2 HF3/\eE tgt gb (ds.drop (i+1)) ρ3=some o,fun σ2 H3 ⟨HF3,ρ3,a1,a2,a3⟩=>⟨m - 1,by omega,by omega,HF3,ρ3,a1,a2,a3⟩,fun x H3 y=>?_⟩
  obtain⟨HF3,G3,rx⟩:=yld x H3 y
  refine⟨HF3,ρ',d,ρ1,S'.grow G3,rx,h1,fun σ2 S2=>⟨HF3,ρ1,o1,S2,h2,?_⟩⟩
  cases o1 with
  | nx ρ2=>exact fun σ4 H4 HF4 S4 s4=>⟨HF4,ρ2,S4,(s'.trans G3.ff).trans s4,hf⟩
  | rt d=>cases hf;exact q
 ·have hi':i=ds.length:=by omega
  subst hi'
  rw[List.drop_length] at hf
  cases hf
  exact .inl ⟨it.stop H' HF' s' S'.gr.fh,q σ' H' HF' S' ((s1.trans G.ff).trans s')⟩
end
end Dl
namespace Dl
open PySem L2 PySem.Spec PyProof.Rows
noncomputable def KR (X:Cx) (sc:Scope):Prop:=∀x k,sc.names.lookup x=some k->X.env.kindOf x=some k\/(k=.free/\X.env.kindOf x=some .cell)
structure Bk (X:Cx) (N:List Str) (sc:Scope) (k:Nat):Prop where
 n:X.N=N
 nd:N.Nodup
 tb:KR X sc
 calm:X.calm=true
 fn:∀x,sc.names.lookup x=some .cell->X.fn x=true
 room:dH k X.A
 xe:X.xe=fun _ _=>False
 kd:X.env.scope.kind=.function
noncomputable def cH:List Str:=["len","isinstance","int","bool","tuple","list","range","all","any","set","sorted","enumerate","zip","sum","min","max","reversed"]
noncomputable def Bn (X:Cx):Prop:=∀x∈cH,X.mg x=none
noncomputable def yr (sc:Scope) (x:Str):Bool:=decide (sc.names.lookup x=some .globalImplicit)
noncomputable def zQ (N:List Str) (sc:Scope) (i:Nat) (x:Str):Bool:=decide (N[i]?=some x)&&(decide (sc.names.lookup x=some .local)||decide (sc.names.lookup x=some .cell)||decide (sc.names.lookup x=some .free))&&!(x == ("__debug__":Str))&&!(x == ("__classdict__":Str))
noncomputable def og (N:List Str) (sc:Scope) (i:Nat) (x:Str):Bool:=decide (N[i]?=some x)&&(decide (sc.names.lookup x=some .local)||decide (sc.names.lookup x=some .cell))
section
variable {X:Cx}{N:List Str}{sc:Scope}{k:Nat}
theorem Bk.gl (C:Bk X N sc k) {x:Str}(h:yr sc x=true):Gl X x:=by
 rcases C.tb x _ (of_decide_eq_true h) with q|⟨q,_⟩
 ·exact q
 ·cases q
theorem Bk.vis (C:Bk X N sc k) {i:Nat}{x:Str}(h:zQ N sc i x=true):X.N[i]?=some x/\FD X.env.scope x/\(x == ("__debug__":Str))=false/\(x == ("__classdict__":Str))=false:=by
 unfold zQ at h
 simp only[Bool.and_eq_true,Bool.or_eq_true,decide_eq_true_eq,Bool.not_eq_true'] at h
 obtain⟨⟨⟨h1,h2⟩,h3⟩,h4⟩:=h
 refine⟨by rw[C.n];exact h1,?_,h3,h4⟩
 rcases h2 with (h2|h2)|h2
 ·rcases C.tb x _ h2 with q|⟨q,_⟩
  ·exact .inl q
  ·cases q
 ·rcases C.tb x _ h2 with q|⟨q,_⟩
  ·exact .inr (.inl q)
  ·cases q
 ·rcases C.tb x _ h2 with q|⟨_,q⟩
  ·exact .inr (.inr q)
  ·exact .inr (.inl q)
theorem Bk.loc (C:Bk X N sc k) {i:Nat}{x:Str}(h:og N sc i x=true):X.N.Nodup/\X.N[i]?=some x/\Loc X.env.scope x/\(X.fn x=true\/X.env.scope.names.lookup x=some .local):=by
 unfold og at h
 simp only[Bool.and_eq_true,Bool.or_eq_true,decide_eq_true_eq] at h
 obtain⟨h1,h2⟩:=h
 refine⟨by rw[C.n];exact C.nd,by rw[C.n];exact h1,?_⟩
 rcases h2 with h2|h2
 ·rcases C.tb x _ h2 with q|⟨q,_⟩
  ·exact⟨.inl q,.inr q⟩
  ·cases q
 ·rcases C.tb x _ h2 with q|⟨q,_⟩
  ·exact⟨.inr q,.inl (C.fn x h2)⟩
  ·cases q
theorem Bk.blt (C:Bk X N sc k) (B:Bn X) {x:Str}{v:Value}(h:yr sc x=true) (hm:x∈cH) (hv:bootBuiltins x=some v):mv X x v:=⟨C.gl h,B x hm,hv⟩
theorem Bk.v (C:Bk X N sc k) (i:Nat) {x:Str}{pos:Pos}(h:zQ N sc i x=true):DE X (.Name x pos) (ab i):=let ⟨a,b,c,d⟩:=C.vis h;Ge i a b c d
theorem Bk.pass (C:Bk X N sc k):PassesOwn (model X.prog X.w) X.A X.env X.xe:=by rw[C.xe];exact PassesOwn.never
noncomputable def hU (sc scope:Scope) (N N':List Str) (t:Nat) (cs:List Nat):Bool :=
 decide (scope.kind=.function)&&scope.names.all (fun p=>(!decide (p.2=NameKind.free)||decide (sc.names.lookup p.1=some .cell)||decide (sc.names.lookup p.1=some .free))&&(!decide (p.2=NameKind.local)||decide (scope.names.lookup p.1=some .local)))
  &&scope.names.all (fun p=>!decide (p.2=NameKind.cell)||!scope.names.any fun q=>decide (q.1=p.1)&&decide (q.2=NameKind.free))
  &&decide (N'.length=t+cs.length)&&decide (N'.drop t=cs.filterMap fun j=>N[j]?)&&cs.all (fun j=>decide (j < N.length))&&(N'.drop t).all (fun x=>decide (scope.names.lookup x=some .free))&&decide N'.Nodup
theorem filterMap_get {α:Type}(N:List α):∀ (cs:List Nat),(∀j∈cs,j < N.length)->∀ (i:Nat),(cs.filterMap fun j=>N[j]?)[i]?=(cs[i]?).bind fun j=>N[j]?
 | [],_,i=>by simp
 | c::cs,h,i=>by
  have hc:=h c List.mem_cons_self
  rw[List.filterMap_cons,List.getElem?_eq_getElem hc]
  cases i with
  | zero=>simp[hc]
  | succ i =>
   simp only[List.getElem?_cons_succ]
   exact filterMap_get N cs (fun j hj=>h j (List.mem_cons_of_mem _ hj)) i
theorem Bk.comp (C:Bk X N sc k) {scope:Scope}{N':List Str}{t:Nat}{cs:List Nat}(h:hU sc scope N N' t cs=true):g9 X scope N' (jo t cs)/\∀fp s H,Bk (aO X scope N' fp s H) N' scope k:=by
 unfold hU at h
 simp only[Bool.and_eq_true,decide_eq_true_eq,List.all_eq_true,Bool.or_eq_true,Bool.not_eq_true',decide_eq_false_iff_not] at h
 obtain⟨⟨⟨⟨⟨⟨⟨h1,h2⟩,h3⟩,h4⟩,h5⟩,h6⟩,h7⟩,h8⟩:=h
 refine⟨⟨h1,fun x hx hk=>?_,fun {x} a b=>?_,fun x hx hk=>?_,fun σ i x v e1 e2=>?_,fun σ=>?_⟩,fun fp s H=>⟨rfl,h8,fun x k hx=>mn hx,C.calm,fun x hx=>decide_eq_true hx,C.room,rfl,h1⟩⟩
 ·rcases (h2 x hx).1 with (q|q)|q
  ·exact absurd hk q
  ·rcases C.tb _ _ q with z|⟨z,_⟩
   ·exact .inl z
   ·cases z
  ·rcases C.tb _ _ q with z|⟨_,z⟩
   ·exact .inr z
   ·exact .inl z
 ·rcases h3 _ a with q|q
  ·exact q rfl
  ·have:(scope.names.any fun q=>decide (q.1=x)&&decide (q.2=NameKind.free))=true:=List.any_eq_true.mpr ⟨_,b,by simp⟩
   rw[this] at q
   cases q
 ·rcases (h2 x hx).2 with q|q
  ·exact absurd hk q
  ·exact q
 ·unfold jo at e2
  by_cases hi:i < t
  ·rw[List.getElem?_append_left (by simpa using hi),List.getElem?_replicate,if_pos hi] at e2
   cases e2
  ·rw[List.getElem?_append_right (by simpa using hi),List.getElem?_map,List.length_replicate] at e2
   obtain⟨j,hj,e2⟩:=map_some e2
   have e3:(N'.drop t)[i - t]?=some x:=by rw[List.getElem?_drop];rw[show t+(i - t)=i by omega];exact e1
   refine⟨h7 x (List.mem_of_getElem? e3),j,?_,?_⟩
   ·rw[h5,filterMap_get N cs h6,hj] at e3
    rw[C.n];exact e3
   ·cases e:σ[j]? with
    | none=>rw[e] at e2;cases e2
    | some o=>rw[e] at e2;have e2:o=some v:=e2;rw[e2]
 ·unfold jo
  rw[List.length_append,List.length_replicate,List.length_map,h4]
noncomputable def bc (g:ai->Option Out) (n:Nat) (args:List D):Option D:=(g (args.map Slot.val++List.replicate (n - args.length) .non)).map fun|.rt d=>d|.nx _=>.none
theorem FY {P:Program}{w:World}{K:PySem.W.Frag}{mg:Str->Option Value}{base:Heap}{x qual:Str}{st:Stmt}{f:Addr}{fd:FuncData}{ps:List Str}{g:ai->Option Out}(F:CV K x qual st f fd) (S:dZ N ps (aC st))
  (body:∀X:Cx,X.prog=P->X.w=w->X.K=K->X.mg=mg->X.base=base->Bk X N (aC st) k->X.env.code=fd.code->X.env.qual=qual++".<locals>."->∀HF₀ H₀,As X HF₀ H₀ (bT st) g):j1 P w K mg base FS (k+1) f fd ps (JL K ps.length (bc g N.length)):=by
 obtain⟨oc,od,kV,doc,pm,an,cdv,ct,osl,rfl,lk,hcd⟩:=F.ex
 refine FN lk hcd S (fun vs H Q E ⟨HF,ds,d,h1,_,h2,h3,_⟩=>by rw[h2.length,h3]) fun A outer s H vs Q E hr ⟨HF,ds,d,sm,tb,rr,hl,hd,q⟩=>?_
 refine⟨_,(body (wY FS P w K mg base N qual (aC st) f cdv A outer s H E).nox rfl rfl rfl rfl rfl ⟨rfl,S.nd,fun y kd hy=>.inl hy,rfl,fun _ _=>rfl,hr,rfl,S.kind⟩ rfl rfl HF H).nox,?_⟩
 unfold bc at hd
 obtain⟨o,ho,hd⟩:=map_some hd
 have hpl:ps.length<=N.length:=by have:=congrArg List.length S.pre;rw[List.length_take] at this;omega
 refine⟨HF,_,o,⟨.refl sm,fun i e h=>?_,fun i es h=>?_,fun i j es fs a h=>?_,?_,tb⟩,ho,?_⟩
 ·have hi:i < ds.length:=by
   by_cases hi:i < ds.length
   ·exact hi
   ·rw[List.getElem?_append_right (by simpa using hi),List.getElem?_replicate] at h
    split at h<;>cases h
  rw[List.getElem?_append_left (by simpa using hi),List.getElem?_map] at h
  obtain⟨d',hd',h⟩:=map_some h
  cases h
  obtain⟨v,hv,rv⟩:=rr.getD hd'
  refine⟨v,?_,rv⟩
  unfold L2.start
  rw[List.getElem?_append_left (by simpa [rr.length] using hi),List.getElem?_map,hv]
  rfl
 ·exfalso
  by_cases hi:i < ds.length
  ·rw[List.getElem?_append_left (by simpa using hi),List.getElem?_map] at h
   obtain⟨d',hd',h⟩:=map_some h
   cases h
  ·rw[List.getElem?_append_right (by simpa using hi),List.getElem?_replicate] at h
   split at h<;>cases h
 ·exfalso
  by_cases hi:i < ds.length
  ·rw[List.getElem?_append_left (by simpa using hi),List.getElem?_map] at h
   obtain⟨d',hd',h⟩:=map_some h
   cases h
  ·rw[List.getElem?_append_right (by simpa using hi),List.getElem?_replicate] at h
   split at h<;>cases h
 ·unfold L2.start
  rw[List.length_append,List.length_append,List.length_map,List.length_map,List.length_replicate,List.length_replicate,rr.length]
  exact Nat.le_refl _
 ·cases o with
  | rt d'=>cases hd;exact fun v H' HF' G r=>q v H' HF' G r
  | nx ρ'=>cases hd;exact fun σ' H' HF' S' _=>q .non H' HF' S'.gr (by simp[Rep])
theorem LN {P:Program}{w:World}{K:PySem.W.Frag}{mg:Str->Option Value}{base:Heap}{x qual:Str}{st:Stmt}{f:Addr}{fd:FuncData}{ps:List Str}{g:ai->Option Out}(F:CV K x qual st f fd) (S:dZ N ps (aC st)) (hb:Binds K fd ps []) (hm:mg x=some (.ref f))
  (body:∀X:Cx,X.prog=P->X.w=w->X.K=K->X.mg=mg->X.base=base->Bk X N (aC st) k->X.env.code=fd.code->X.env.qual=qual++".<locals>."->∀HF₀ H₀,As X HF₀ H₀ (bT st) g):du P w K mg base (k+1) x ps.length (bc g N.length):=⟨f,fd,ps,FY F S body,hm,F.kp,hb⟩
end
section
variable {X:Cx}{HF₀ H₀:Hp}{e e2:Expr}{pos apos cpos px:Pos}{x:Str}
noncomputable def jP (fz:List Nat) (f:Env->Option D) (ρ:ai):Option (D×ai):=(f (bb ρ)).bind fun d=>if m7 d=true then some (d,ρ) else (f (bR (hand fz 0 ρ))).map fun d'=>(d',hand fz 0 ρ)
theorem lU {K:PySem.W.Frag}{HF H:Hp}{ρ ρ':ai}{σ:L2.St}{fz:List Nat}{f:Env->Option D}{d:D}(S:jO K HF₀ H₀ HF H ρ σ) (h:jP fz f ρ=some (d,ρ')) {Q:VK}
  (q:∀v H' HF',aV HF HF'->jO K HF₀ H₀ HF' H' ρ' σ->aV H H'->Rep K HF' d v->Q v H'):tD K f σ H Q:=by
 obtain⟨d1,h1,h⟩:=bs h
 split at h
 ·rename_i hs
  cases h
  exact⟨H,bb ρ,d,.refl _,S.all,h1,fun v H' HF' G r=>q v H' HF (.refl _) (S.step G.hh) G.hh (uz hs r)⟩
 ·obtain⟨d2,h2,h⟩:=map_some h
  cases h
  obtain⟨HF1,s1,S1⟩:=S.hand fz
  exact⟨HF1,_,d,S1.gr.fh,S1.frz,h2,fun v H' HF' G r=>q v H' HF' (s1.trans G.ff) (S1.grow G) G.hh r⟩
noncomputable def nc (i:Nat) (m:List D->Option (List D)) (ρ:ai):Option Out:=match ρ[i]? with
 | some (.own ds)=>(m ds).map fun es=>.nx (ρ.set i (.own es))
 | _=>none
theorem jH {i:Nat}{m:List D->Option (List D)}{ρ:ai}{o:Out}(h:nc i m ρ=some o):∃ds es,ρ[i]?=some (.own ds)/\m ds=some es/\o=.nx (ρ.set i (.own es)):=by
 unfold nc at h
 split at h
 ·rename_i ds hd
  obtain⟨es,h1,h2⟩:=map_some h
  exact⟨ds,es,hd,h1,h2.symm⟩
 ·cases h
theorem jO.mut {K:PySem.W.Frag}{HF H:Hp}{ρ:ai}{σ:L2.St}(S:jO K HF₀ H₀ HF H ρ σ) {i:Nat}{ds es:List D}{a:Addr}{vs us:List V}(h:ρ[i]?=some (.own ds)) (ha:σ[i]?=some (some (.ref a))) (hH:H a=some (.lst vs)) (r:aq K HF es us) :
  jO K HF₀ H₀ HF (upd H a (.lst us)) (ρ.set i (.own es)) σ:=by
 obtain⟨a',vs',e1,e2,e3,e5,e4⟩:=S.own i ds h
 rw[ha] at e1;cases e1
 have hl:i < ρ.length:=(List.getElem?_eq_some_iff.mp h).1
 have gr:cb HF₀ H₀ HF (upd H a (.lst us)):=⟨fun b o e=>by rw[ay (aJ e e5)];exact S.gr.hh b o e,S.gr.ff,fun b o e=>by rw[ay (aJ e e3)];exact S.gr.fh b o e,S.gr.nw⟩
 refine⟨gr,fun j d hj=>?_,fun j xs hj=>?_,fun j k xs ys b f1 f2 f3 f4=>?_,by rw[List.length_set];exact S.len,S.tb⟩
 ·rw[List.getElem?_set] at hj
  by_cases hij:i=j
  ·rw[if_pos hij] at hj
   split at hj<;>cases hj
  ·rw[if_neg hij] at hj;exact S.val j d hj
 ·rw[List.getElem?_set] at hj
  by_cases hij:i=j
  ·subst hij
   rw[if_pos rfl,if_pos hl] at hj
   cases hj
   exact⟨a,us,ha,aD,e3,e5,r⟩
  ·rw[if_neg hij] at hj
   obtain⟨b,ws,f1,f2,f3,f5,f4⟩:=S.own j xs hj
   refine⟨b,ws,f1,?_,f3,f5,f4⟩
   rw[ay]
   ·exact f2
   ·rintro rfl
    exact hij (S.inj i j ds xs b h hj ha f1)
 ·have old:∀ {j:Nat}{xs:List D},(ρ.set i (.own es))[j]?=some (.own xs)->∃ys,ρ[j]?=some (.own ys):=fun {j xs} hj=>by
   rw[List.getElem?_set] at hj
   by_cases hij:i=j
   ·subst hij;exact⟨ds,h⟩
   ·rw[if_neg hij] at hj;exact⟨xs,hj⟩
  obtain⟨xs',g1⟩:=old f1
  obtain⟨ys',g2⟩:=old f2
  exact S.inj j k xs' ys' b g1 g2 f3 f4
noncomputable def kg (i:Nat) (fz:List Nat) (f:Env->Option D):ai->Option Out:=fun ρ=>(jP fz f ρ).bind fun p=>nc i (fun ds=>if ds.length < sizeLine then some (ds++[p.1]) else none) p.2
theorem zO (i:Nat) (fz:List Nat) {f:Env->Option D}(hN:X.N[i]?=some x) (hv:FD X.env.scope x) (h:DE X e f) (hd:(x == ("__debug__":Str))=false:=by decide) (hcd:(x == ("__classdict__":Str))=false:=by decide)
  (hfew:((backTo cpos (starEach [e] X.env)).all (fun x=>!x.1)&&(backToKw cpos (keywordEach [] X.env)).all (fun x=>x.1.isSome)&&decide ([e].length+([]:List Keyword).length+(if ([]:List Keyword).isEmpty then 0 else 1) < 30))=true:=by rfl)
  (hline:(apos.endLine == cpos.line)=true:=by rfl) (hs:starEach [e] X.env=(false,eval e X.env)::starEach [] X.env:=by rfl) :
  DS X HF₀ H₀ (.Expr (.Call (.Attribute (.Name x px) "append" apos) [e] [] cpos) pos) (kg i fz f) :=
 dE (nz (qY PySem.F.plainAttrs_list PySem.F.slot_list_append PySem.F.type_list_append qV (oF hN hv hd hcd) (cW h gf hs) rfl hfew hline hs rfl)) fun E σ H ⟨HF,ρ,o,S,hg,q⟩=>by
  obtain⟨⟨d,ρ'⟩,h1,hg⟩:=bs hg
  obtain⟨ds,es,h2,h3,rfl⟩:=jH hg
  have hown:∃ds',ρ[i]?=some (.own ds'):=by
   obtain⟨d1,_,h1⟩:=bs h1
   split at h1
   ·cases h1;exact⟨ds,h2⟩
   ·obtain⟨d2,_,h1⟩:=map_some h1
    cases h1
    rw[gX] at h2
    obtain⟨s,hs,h2⟩:=map_some h2
    cases s with
    | non=>split at h2<;>cases h2
    | val _=>split at h2<;>cases h2
    | own xs=>exact⟨xs,hs⟩
  obtain⟨ds',hown⟩:=hown
  obtain⟨a,vs,e1,e2,e3,e5,e4⟩:=S.own i ds' hown
  refine⟨.ref a,e1,.inl ⟨rfl,vs,gT.of e2⟩,lU S h1 fun v H' HF' s1 S' sh r=>?_⟩
  obtain⟨a',vs',f1,f2,f3,f5,f4⟩:=S'.own i ds h2
  rw[e1] at f1;cases f1
  split at h3
  ·rename_i hz
   cases h3
   exact⟨a,vs',v,rfl,rfl,f2,by rw[f4.length];exact hz,q σ _ HF' (S'.mut h2 e1 f2 (f4.append (aq.cons r aq.nil))) s1⟩
  ·cases h3
end
end Dl
namespace Dl
open PySem L2 PySem.Spec PyProof.Rows
noncomputable def sy (K:PySem.W.Frag) (o:Obj):Option (Addr×Str):=match o.data with
 | .func fd=>if i8.contains fd.qualname=true then (match fd.code with
   | .ref c=>(match K.lookup c with
    | some ⟨_,_,.fields vs,_⟩=>(match (vs[11]?:Option Value) with
     | some (.ref P)=>if PySem.W.codeHdIn K c P=true then some (P,fd.qualname++".<locals>."++"<lambda>") else none
     | _=>none)
    | _=>none)
   | _=>none) else none
 | _=>none
noncomputable def gh (K:PySem.W.Frag):List (Addr×Str):=K.filterMap fun p=>sy K p.2
noncomputable def lx (K:PySem.W.Frag) (ts:List Addr):Bool:=(gh K).all fun p=>ts.contains p.1&&(K.lookup p.1).isNone&&decide ((gh K).lookup p.1=some p.2)
theorem uA {K:PySem.W.Frag}{o:Obj}{P:Addr}{q:Str}(h:sy K o=some (P,q)):∃c,PySem.W.codeHdIn K c P=true:=by
 unfold sy at h
 split at h
 ·split at h
  ·split at h
   ·split at h
    ·split at h
     ·split at h
      ·cases h;exact⟨_,‹_›⟩
      ·cases h
     ·cases h
    ·cases h
   ·cases h
  ·cases h
 ·cases h
theorem uo {K:PySem.W.Frag}{P:Addr}{q:Str}(h:(P,q)∈gh K):∃c,PySem.W.codeHdIn K c P=true:=by
 obtain⟨p,_,e⟩:=List.mem_filterMap.mp h
 exact uA e
theorem wZ {K:PySem.W.Frag}{f c P:Addr}{oc:Value}{od:Option Addr}{fd:FuncData}{sl:Array (Option Value)}(a:K.lookup f=some ⟨oc,od,.func fd,sl⟩) (b:fd.qualname∈i8) (d:fd.code=.ref c) (e:PySem.W.codeHdIn K c P=true) :
  (P,fd.qualname++".<locals>."++"<lambda>")∈gh K:=by
 refine List.mem_filterMap.mpr ⟨(f,_),PySem.W.mem_of_lookupK a,?_⟩
 have e':=e
 unfold PySem.W.codeHdIn at e'
 unfold sy
 simp only[d,List.contains_iff_mem,b,if_true]
 split at e'
 ·rename_i vs sl' hl
  simp only[hl]
  simp only[Bool.and_eq_true] at e'
  have e1:=e'.1.1.1.1.1
  split at e1
  ·rename_i P' hv
   have:P'=P:=by simpa using e1
   subst this
   simp only[hv,e,if_true]
  ·cases e1
 ·cases e'
theorem C3 {α:Type}{b:Addr}{q:α}:∀ {l:List (Addr×α)},l.lookup b=some q->(b,q)∈l
 | [],e=>by cases e
 | (c,x)::r,e=>by
  rw[List.lookup_cons] at e
  cases h:b == c with
  | true=>rw[h] at e;cases e;rw[eq_of_beq h];exact List.mem_cons_self
  | false=>rw[h] at e;exact List.mem_cons_of_mem _ (C3 e)
noncomputable def eG (K:PySem.W.Frag) (h0:Hp):Hp:=fun b=>match (gh K).lookup b with|some q=>some (.tab q)|none=>h0 b
theorem ze {K:PySem.W.Frag}{ts:List Addr}{h0:Hp}(h:lx K ts=true):eY K (eG K h0):=fun f oc od fd sl c P a b d e=>by
 have hm:=wZ a b d e
 have:=List.all_eq_true.mp h _ hm
 simp only[Bool.and_eq_true,decide_eq_true_eq] at this
 unfold eG
 rw[this.2]
theorem zz {P:Program}{w:World}{K:PySem.W.Frag}{mg mb:Str->Option Value}{CX:z9}{k:Nat}{fa a:Addr}{fd:FuncData}{x:Str}{sp:Sp}{s₁:Shared}{vs:List Value}{ns:List Int}{ts:List Addr}
  (KX:K.In s₁.heap) (hns:s₁.heap.Ns mainGlobals mg) (hb:s₁.heap.Ns builtinsNs mb) (hbb:∀x:Str,x≠"__name__"->mb x=bootBuiltins x) (hlim:s₁.heap.NoLimit) (hbm:Kv mg s₁.heap) (hg:s₁.gens=#[])
  (ht:lx K ts=true) (hts:∀P∈ts,s₁.heap.get? P=some (PySem.W.tabObj #[]))
  (ha:s₁.heap.get? a=some { cls:=.type "list",data:=.seq vs.toArray }) (hi:IntsAre vs ns) (hl:ns.length<=sizeLine) (hr:dH k callerA)
  (F:∀base:Heap,K.In base->base.Ns mainGlobals mg->j1 P w K mg base CX k fa fd [x] sp) (hbind:∀ (s:Shared) (u:Value),BindsTo s fd ⟨[u],[]⟩ [(x,u)])
  (hsp:∀H:Hp,eY K H->gT K H a (ns.map V.int)->sp [.ref a] H (fun v _=>v=.bl true) fun _ _ _=>False)
  (hCX:∀H e s',CX [] H s₁ (fun _ _ _=>False) e s'->False) :
  codeAny (model P w) callerA (.call (.ref fa) ⟨[.ref a],[]⟩) (fun r s'=>r=.ok (.ret (.bool true))/\OldK s₁.heap s'.heap/\s'.os=s₁.os/\AllBare s'.gens) s₁:=by
 have rv:=qu hi
 have lenV:=hi.length
 have tabAt:∀b q,(gh K).lookup b=some q->s₁.heap.get? b=some (PySem.W.tabObj #[])/\K.lookup b=none/\∃c,PySem.W.CodeHd s₁.heap c b:=fun b q e=>by
  have hm:=C3 e
  have:=List.all_eq_true.mp ht _ hm
  simp only[Bool.and_eq_true,decide_eq_true_eq,List.contains_iff_mem,Option.isNone_iff_eq_none] at this
  obtain⟨c,hc⟩:=uo hm
  exact⟨hts b this.1.1,this.1.2,c,PySem.W.codeHd_of_K KX hc⟩
 have aT:(gh K).lookup a=none:=by
  cases e:(gh K).lookup a with
  | none=>rfl
  | some q=>have:=(tabAt a q e).1;rw[ha] at this;cases this
 have core:∀h0:Hp,gT K (eG K h0) a (ns.map V.int)->nB P w (eG K h0) s₁.heap->(∀b,h0 b≠none->b=a)->(h0 a≠none->K.lookup a=none)->(∀b,h0 b=none\/∃o xs,h0 b=some (.frz o (.lst xs))) ->
   codeAny (model P w) callerA (.call (.ref fa) ⟨[.ref a],[]⟩) (fun r s'=>r=.ok (.ret (.bool true))/\OldK s₁.heap s'.heap/\s'.os=s₁.os/\AllBare s'.gens) s₁:=by
  intro h0 hS hok hA hK hO
  have look:∀b u,eG K h0 b=some u->(∃q,(gh K).lookup b=some q/\u=.tab q)\/(b=a/\h0 b=some u):=fun b u e=>by
   unfold eG at e
   split at e
   ·rename_i q hq;cases e;exact .inl ⟨q,hq,rfl⟩
   ·exact .inr ⟨hA b (by rw[e];simp),e⟩
  have jz:∀ {b:Addr}{o:Obj},s₁.heap.get? b=some o->eG K h0 b=none->(sO s₁.heap (eG K h0)).get? b=some o:=fun e n=>Bb e n
  have noA:∀ {b:Addr}{o:Obj},s₁.heap.get? b=some o->(∀vs n,o.data≠.seq vs n)->(∀vs,o.data≠.fields vs)->eG K h0 b=none:=fun {b o} e d d2=>by
   cases q:eG K h0 b with
   | none=>rfl
   | some u =>
    rcases look b u q with ⟨q',z,_⟩|⟨z,_⟩
    ·rw[(tabAt b q' z).1] at e;cases e;exact absurd rfl (d2 _)
    ·subst z;rw[ha] at e;cases e;exact absurd rfl (d _ _)
  have nsK:∀ {b:Addr}{m:Str->Option Value},s₁.heap.Ns b m->(sO s₁.heap (eG K h0)).Ns b m:=fun {b m} ⟨o,es,ep,e,d,r⟩=>⟨o,es,ep,jz e (noA e (fun _ _ z=>by rw[d] at z;cases z) fun _ z=>by rw[d] at z;cases z),d,r⟩
  have hKb:K.In (sO s₁.heap (eG K h0)):=fun b o e=>jz (KX b o e) (by
   cases q:eG K h0 b with
   | none=>rfl
   | some u =>
    rcases look b u q with ⟨q',z,_⟩|⟨z,z2⟩
    ·rw[(tabAt b q' z).2.1] at e;cases e
    ·subst z;rw[hK (by rw[z2];simp)] at e;cases e)
  have hM:Mod K mg (sO s₁.heap (eG K h0)):=⟨hKb,nsK hns,⟨mb,nsK hb,hbb⟩,let ⟨mc,h1,h2⟩:=hlim;⟨mc,nsK h1,h2⟩,
   let ⟨bm,o,b1,b2,b3,b4,b5,b6,b7⟩:=hbm;⟨bm,o,b1,b2,b3,jz b4 (noA b4 (fun _ _ z=>by rw[b7] at z;cases z) fun _ z=>by rw[b7] at z;cases z),b5,b6,b7⟩⟩
  have e0:xm P w K mg (sO s₁.heap (eG K h0)) callerA [] s₁ (eG K h0):=⟨rfl,hM,fun b o e=>EO e,Nat.le_of_eq (zy _ _),trivial,fun b hb=>absurd (show b∈([]:List Addr) from hb) (by simp),hok,.of_eq hg⟩
  refine codeAny_mono ((F _ hKb (nsK hns)).run callerA [] s₁ (eG K h0) ⟨[.ref a],[]⟩ [.ref a] [.ref a] _ _ hr e0 (hbind s₁ (.ref a)) (.cons rfl .nil) (hsp _ (ze ht) hS)) fun r s' h=>?_
  cases r with
  | error e=>exact (hCX _ e s' h).elim
  | ok fl =>
   cases fl with
   | next=>exact False.elim h
   | brk=>exact False.elim h
   | cont=>exact False.elim h
   | ret u =>
    obtain⟨v,H',os,bare,un,hok',r',q⟩:=h
    have q':v=.bl true:=q
    subst q'
    obtain rfl:u=Value.bool true:=r'
    have key:∀b o,s₁.heap.get? b=some o->s'.heap.get? b=some o\/(isCodeTable s₁.heap b/\o=PySem.W.tabObj #[]/\∃ps,s'.heap.get? b=some (PySem.W.tabObj ps)):=fun b o e=>by
     cases q:eG K h0 b with
     | none=>exact .inl (un.keep b o e q (by intro z;exact absurd (show b∈([]:List Addr) from z) (by simp)) (by simp))
     | some u =>
      rcases look b u q with ⟨q',z,rfl⟩|⟨z,z2⟩
      ·obtain⟨t1,_,c,t3⟩:=tabAt b q' z
       obtain⟨more,m1⟩:=un.tbls.gr b q' #[] q t1
       rw[e] at t1
       cases t1
       exact .inr ⟨(t3.tab e).isCodeTable,rfl,_,m1⟩
      ·rcases hO b with z3|⟨ob,xs,z3⟩
       ·rw[z2] at z3;cases z3
       ·rw[z2] at z3
        cases z3
        have z4:=un.frzs b ob _ q
        obtain⟨e1,_⟩:=hok b _ q
        obtain⟨e2,_⟩:=hok' b _ z4
        rw[e] at e1;cases e1
        exact .inl e2
    refine⟨rfl,⟨fun b o e=>?_,fun b o e=>?_⟩,os,bare⟩
    ·rcases key b o e with z|⟨t,rfl,ps,z⟩
     ·exact .inl z
     ·exact .inr (.inl ⟨t,rfl,#[],ps,rfl,by rw[Array.empty_append];exact z⟩)
    ·rcases key b o e with z|⟨_,_,ps,z⟩
     ·exact⟨o,z⟩
     ·exact⟨_,z⟩
 have hoT:∀ (h0:Hp) b q,(gh K).lookup b=some q->eF P w (eG K h0) s₁.heap b (.tab q):=fun h0 b q e=>⟨#[],(tabAt b q e).1,trivial,fun pos v z=>by cases z⟩
 cases hk:K.lookup a with
 | some o =>
  have e:=KX a o hk
  rw[ha] at e
  cases e
  refine core (fun _=>none) (.inr ⟨_,vs.toArray,_,hk,rfl,rfl,rfl,by rw[List.size_toArray,lenV];exact hl,by simpa using rv⟩) (fun b u z=>?_) (fun b z=>absurd rfl z) (fun z=>absurd rfl z) fun _=>.inl rfl
  unfold eG at z
  split at z
  ·rename_i q hq;cases z;exact hoT _ b q hq
  ·cases z
 | none =>
  refine core (fun b=>if b=a then some (.frz { cls:=.type "list",data:=.seq vs.toArray } (.lst (ns.map V.int))) else none) (.inl (.inr ⟨{ cls:=.type "list",data:=.seq vs.toArray },?_⟩)) (fun b u z=>?_) (fun b z=>?_) (fun _=>hk) fun b=>?_
  ·unfold eG;rw[aT];exact if_pos rfl
  ·unfold eG at z
   split at z
   ·rename_i q hq;cases z;exact hoT _ b q hq
   ·by_cases hb:b=a
    ·replace z:=(if_pos hb).symm.trans z
     cases z
     subst hb
     exact⟨ha,by rw[List.length_map];exact hl,vs,_,rv,ha⟩
    ·replace z:=(if_neg hb).symm.trans z;cases z
  ·by_cases hb:b=a
   ·exact hb
   ·exact absurd (if_neg hb) z
  ·by_cases hb:b=a
   ·exact .inr ⟨_,_,if_pos hb⟩
   ·exact .inl (if_neg hb)
theorem AL {l:PySem.W.OpenLaw}{n k:Nat}{q:Program}{loose:List Str}{XP:(Str->Option Value)->Heap->Prop}{YP:World->Heap->Prop}{d:DefRec}{K:Params->PySem.W.Frag}{CX:World->z9}{sp:World->Sp}{x:Str}{ts:List Addr}
  (hn:l.most=some n) (hn2:n<=sizeLine) (hdf:d.params.defaults=[]) (hr:dH k callerA)
  (hY:∀ (w:World) (h:Heap),YP w h->(K w.params).In h/\∀P∈ts,h.get? P=some (PySem.W.tabObj #[])) (ht:∀w:World,lx (K w.params) ts=true)
  (F:∀ (w:World) (mg:Str->Option Value) (fa:Addr) (h:Heap),(K w.params).In h->h.Ns mainGlobals mg->mg d.name=some (.ref fa) ->
   ∃fd:FuncData,(∀ (s:Shared) (u:Value),BindsTo s fd ⟨[u],[]⟩ [(x,u)]) /\
    ∀base:Heap,(K w.params).In base->base.Ns mainGlobals mg->j1 l.prog w (K w.params) mg base (CX w) k fa fd [x] (sp w))
  (hsp:∀ (w:World) (H:Hp) (a:Addr) (ns:List Int),ns.length<=n->eY (K w.params) H->gT (K w.params) H a (ns.map V.int)->sp w [.ref a] H (fun v _=>v=.bl true) fun _ _ _=>False)
  (hCX:∀ (w:World) (H:Hp) (s:Shared) (e:Value) (s':Shared),CX w [] H s (fun _ _ _=>False) e s'->False) :
  PySem.W.WalkO q loose XP YP l.row.toRowW d [] (fun f vs=>PySem.call f vs):=by
 refine Att.attach_call hn hdf fun w s₀ s₁ mg mb fa o pm cd doc a vs ns G Y ho hd hcd hmg hobj hints hlen hg=>?_
 obtain⟨KX,hts⟩:=hY w _ Y
 obtain⟨fd,hb,hF⟩:=F w mg fa _ KX G.T.g hmg
 have hbm:Kv mg s₁.heap:=by
  obtain⟨bm,ob,b1,b2,b3,b4,b5,b6⟩:=G.T.bmain
  refine⟨bm,ob,b1,b2,fun z=>?_,b3,b4,b5,b6⟩
  obtain⟨o',es,ep,e1,e2,_⟩:=G.T.g
  rw[<- z,b3] at e1
  cases e1
  rw[b6] at e2;cases e2
 exact zz KX G.T.g G.T.b G.T.builtins G.T.nolimit hbm hg (ht w) hts hobj hints (Nat.le_trans hlen hn2) hr hF hb (fun H hT hS=>hsp w H a ns hlen hT hS) fun H e s'=>hCX w H s₁ e s'
end Dl
namespace SP
open PySem PySem.W PyProof.Rows
noncomputable def run {α:Type}(lt:Nat->Nat->Bool):KasT α->α
 | .ret a=>a
 | .ask i j k=>run lt (k (lt i j))
theorem gR {α β:Type}(lt:Nat->Nat->Bool) (f:α->KasT β):∀t:KasT α,run lt (t.bind f)=run lt (f (run lt t))
 | .ret a=>rfl
 | .ask i j k=>by
  show run lt ((k (lt i j)).bind f)=run lt (f (run lt (k (lt i j))))
  exact gR lt f (k (lt i j))
noncomputable def Ja (n:Nat) {α:Type}:KasT α->Prop
 | .ret _=>True
 | .ask i j k=>i < n/\j < n/\∀b,Ja n (k b)
theorem wp_run {α:Type}{n:Nat}{cmp:Nat->Nat->(Bool->Shared->Prop)->Shared->Prop}{lt:Nat->Nat->Bool}{s:Shared}(hc:∀i j C,i < n->j < n->C (lt i j) s->cmp i j C s):∀ (t:KasT α) {Q:α->Shared->Prop},Ja n t->Q (run lt t) s->t.kasWp cmp Q s
 | .ret a,Q,_,h=>h
 | .ask i j k,Q,b,h=>hc i j _ b.1 b.2.1 (wp_run hc (k (lt i j)) (b.2.2 _) h)
noncomputable def pj (n:Nat) {α:Type}(R:α->Prop):KasT α->Prop
 | .ret a=>R a
 | .ask i j k=>i < n/\j < n/\∀b,pj n R (k b)
theorem lN {α β:Type}{n:Nat}{R:α->Prop}{f:α->KasT β}:∀ {t:KasT α},pj n R t->(∀a,R a->Ja n (f a))->Ja n (t.bind f)
 | .ret a,b,h=>h a b
 | .ask i j k,b,h=>⟨b.1,b.2.1,fun c=>lN (b.2.2 c) h⟩
theorem iq {α β:Type}{n:Nat}{R:α->Prop}{S:β->Prop}{f:α->KasT β}:∀ {t:KasT α},pj n R t->(∀a,R a->pj n S (f a))->pj n S (t.bind f)
 | .ret a,b,h=>h a b
 | .ask i j k,b,h=>⟨b.1,b.2.1,fun c=>iq (b.2.2 c) h⟩
noncomputable def Bd (n:Nat) (p:Array Nat):Prop:=∀a,p.getD a 0 < n
theorem Bd.perm {n:Nat}{p q:Array Nat}(h:Bd n p) (e:q.Perm p):Bd n q:=by
 intro a
 rw[Array.getD_eq_getD_getElem?]
 cases ha:q[a]? with
 | none=>have:=h p.size;rw[Array.getD_eq_getD_getElem?] at this;simpa using this
 | some x =>
  have hx:x∈q:=Array.mem_of_getElem? ha
  have hx':x∈p:=e.mem_iff.mp hx
  obtain⟨i,hi,rfl⟩:=Array.mem_iff_getElem.mp hx'
  have:=h i
  rw[Array.getD_eq_getD_getElem?] at this
  simpa [hi] using this
theorem CI {n:Nat}{p:Array Nat}(h:Bd n p):∀f m,pj n (fun _=>True) (kas_asc p f m)
 | 0,m=>trivial
 | f+1,m=>⟨h _,h _,fun c=>by
  dsimp only
  split
  ·trivial
  ·exact CI h f (m+1)⟩
theorem vn {n:Nat}{p:Array Nat}(h:Bd n p) (i j:Nat):Bd n (kas_rev p i j):=h.perm (mirror_perm _ _ _ _)
theorem sV {n:Nat}:∀ (f:Nat) {p:Array Nat}(h:Bd n p) (m q:Nat),pj n (fun r=>Bd n r.1) (kas_desc f p m q)
 | 0,p,h,m,q=>h
 | f+1,p,h,m,q=>⟨h _,h _,fun c=>by
  dsimp only
  split
  ·split
   ·exact sV f (vn h _ _) (m+1) 0
   ·exact sV f h (m+1) 0
  ·exact⟨h _,h _,fun d=>by
    dsimp only
    split
    ·exact h
    ·exact sV f h (m+1) (q+1)⟩⟩
theorem yy {n:Nat}{p:Array Nat}(h:Bd n p) (m nrem:Nat):pj n (fun r=>Bd n r.2) (kas_tail3 m nrem p):=iq (CI (vn h 0 m) _ _) fun _ _=>vn h 0 m
theorem nK {n:Nat}{p:Array Nat}(h:Bd n p) (m nrem:Nat):pj n (fun r=>Bd n r.2) (kas_descPart m nrem p):=iq (sV _ h _ _) fun r hr=>by
 split
 ·exact yy (vn hr _ _) _ _
 ·exact yy hr _ _
theorem D4 {n:Nat}{p:Array Nat}(h:Bd n p) (nrem:Nat):pj n (fun r=>Bd n r.2) (kas_count nrem p):=iq (CI h _ _) fun m _=>by
 split
 ·exact h
 ·split
  ·exact⟨h _,h _,fun c=>by
    dsimp only
    split
    ·exact h
    ·exact nK (vn h _ _) _ _⟩
  ·exact nK h _ _
theorem sS {n:Nat}{p:Array Nat}(h:Bd n p) (k:Nat):∀f l r,pj n (fun _=>True) (kas_place p k f l r)
 | 0,l,r=>trivial
 | f+1,l,r=>by
  unfold kas_place
  split
  ·trivial
  ·exact⟨h _,h _,fun c=>by
    dsimp only
    split
    ·exact sS h k f _ _
    ·exact sS h k f _ _⟩
theorem FG {n:Nat}:∀ (f:Nat) {p:Array Nat}(h:Bd n p) (k:Nat),Ja n (kas_bin f p k)
 | 0,p,h,k=>trivial
 | f+1,p,h,k=>lN (sS h k _ _ _) fun l _=>FG f (h.perm (bubble_perm _ _ _)) (k+1)
theorem BL {n:Nat}(h1:1<=n):Ja n (kas_sort n):=by
 have h:Bd n (List.toArray (List.range n)):=fun a=>by
  rw[Array.getD_eq_getD_getElem?]
  by_cases ha:a < n
  ·simp[ha]
  ·simp[ha];omega
 refine lN (D4 h n) fun r hr=>?_
 split
 ·exact FG _ hr _
 ·trivial
section
variable (z:Nat->Int)
noncomputable def Z (p:Array Nat) (a:Nat):Int:=z (p.getD a 0)
noncomputable def dN:Nat->Nat->Bool:=fun i j=>decide (z i < z j)
theorem kR {p q:Array Nat}{a b:Nat}(h:p[a]?=q[b]?):Z z p a=Z z q b:=by
 unfold Z
 rw[Array.getD_eq_getD_getElem?,Array.getD_eq_getD_getElem?,h]
theorem AQ {p:Array Nat}{i j:Nat}(hj:j<=p.size) (k:Nat):Z z (kas_rev p i j) k=if i<=k/\k < j then Z z p (i+j - 1 - k) else Z z p k:=by
 have e:=getElem?_mirror_all (xs:=p) (i:=i) hj k
 unfold kas_rev
 by_cases h1:i<=k/\k < j
 ·rw[if_pos h1] at e ⊢;exact kR z e
 ·rw[if_neg h1] at e ⊢;exact kR z e
theorem AY {p:Array Nat}{src d:Nat}(hs:src < p.size) (hd:d<=src) (k:Nat):Z z (bubble p src d) k=if k=src - d then Z z p src else if src - d < k/\k<=src then Z z p (k - 1) else Z z p k:=by
 have e:=getElem?_bubble hs d hd k
 by_cases h1:k=src - d
 ·rw[if_pos h1] at e ⊢;exact kR z e
 ·rw[if_neg h1] at e ⊢
  by_cases h2:src - d < k/\k<=src
  ·rw[if_pos h2] at e ⊢;exact kR z e
  ·rw[if_neg h2] at e ⊢;exact kR z e
noncomputable def Up (p:Array Nat) (n:Nat):Prop:=∀a b,a<=b->b < n->Z z p a<=Z z p b
noncomputable def Dn (p:Array Nat) (n:Nat):Prop:=∀a b,a<=b->b < n->Z z p b<=Z z p a
variable {z}
theorem E5 {p:Array Nat}{n:Nat}(h:Up z p n) (hn:1<=n) (h1:Z z p (n - 1)<=Z z p n):Up z p (n+1):=by
 intro a b hab hb
 by_cases hbn:b < n
 ·exact h a b hab hbn
 ·have e:b=n:=by omega
  subst e
  by_cases ha:a=b
  ·subst ha;exact Int.le_refl _
  ·exact Int.le_trans (h a (b - 1) (by omega) (by omega)) h1
theorem KD {p:Array Nat}:∀ (f n:Nat),1<=n->Up z p n->n<=run (dN z) (kas_asc p f n)/\run (dN z) (kas_asc p f n)<=n+f/\Up z p (run (dN z) (kas_asc p f n))/\(run (dN z) (kas_asc p f n) < n+f->Z z p (run (dN z) (kas_asc p f n)) < Z z p (run (dN z) (kas_asc p f n) - 1))
 | 0,n,hn,h=>⟨Nat.le_refl _,Nat.le_refl _,h,fun q=>absurd q (Nat.lt_irrefl _)⟩
 | f+1,n,hn,h=>by
  unfold kas_asc
  show n<=run (dN z) (if dN z (p.getD n 0) (p.getD (n - 1) 0)=true then .ret n else kas_asc p f (n+1))/\run (dN z) (if dN z (p.getD n 0) (p.getD (n - 1) 0)=true then .ret n else kas_asc p f (n+1))<=n+(f+1)/\Up z p (run (dN z) (if dN z (p.getD n 0) (p.getD (n - 1) 0)=true then .ret n else kas_asc p f (n+1)))/\(run (dN z) (if dN z (p.getD n 0) (p.getD (n - 1) 0)=true then .ret n else kas_asc p f (n+1)) < n+(f+1)->Z z p (run (dN z) (if dN z (p.getD n 0) (p.getD (n - 1) 0)=true then .ret n else kas_asc p f (n+1))) < Z z p (run (dN z) (if dN z (p.getD n 0) (p.getD (n - 1) 0)=true then .ret n else kas_asc p f (n+1)) - 1))
  by_cases hc:dN z (p.getD n 0) (p.getD (n - 1) 0)=true
  ·rw[if_pos hc]
   exact⟨Nat.le_refl _,Nat.le_add_right _ _,h,fun _=>of_decide_eq_true hc⟩
  ·rw[if_neg hc]
   have h1:Z z p (n - 1)<=Z z p n:=by
    have:¬ (Z z p n < Z z p (n - 1)):=fun q=>hc (decide_eq_true q)
    omega
   obtain⟨a,b,c,d⟩:=KD f (n+1) (by omega) (E5 h hn h1)
   exact⟨by omega,by omega,c,fun q=>d (by omega)⟩
theorem wB {p:Array Nat}{i j:Nat}(hj:j<=p.size) (h:∀a b,i<=a->a < j->i<=b->b < j->Z z p a=Z z p b) (k:Nat):Z z (kas_rev p i j) k=Z z p k:=by
 rw[AQ z hj]
 split
 ·rename_i hk
  exact h _ _ (by omega) (by omega) hk.1 hk.2
 ·rfl
theorem AB {p q:Array Nat}{n:Nat}(e:∀k,Z z q k=Z z p k) (h:Dn z p n):Dn z q n:=fun a b hab hb=>by rw[e,e];exact h a b hab hb
theorem GT {p:Array Nat}{n:Nat}(hn:n<=p.size) (h:Dn z p n):Up z (kas_rev p 0 n) n:=by
 intro a b hab hb
 rw[AQ z hn,AQ z hn,if_pos ⟨Nat.zero_le _,by omega⟩,if_pos ⟨Nat.zero_le _,hb⟩]
 exact h _ _ (by omega) (by omega)
theorem kO (p:Array Nat) (i j:Nat):(kas_rev p i j).size=p.size:=mirror_size _ _ _ _
theorem kG (p:Array Nat) (i j:Nat):(kas_rev p i j).Perm p:=mirror_perm _ _ _ _
structure Ih (z:Nat->Int) (p₀ p:Array Nat) (n q nrem:Nat):Prop where
 perm:p.Perm p₀
 size:p.size=p₀.size
 le:n<=nrem
 qn:q+1<=n
 dn:Dn z p n
 eq:∀a b,n - (q+1)<=a->a < n->n - (q+1)<=b->b < n->Z z p a=Z z p b
theorem Ds {p₀:Array Nat}{nrem:Nat}(hz:nrem<=p₀.size):∀ (f:Nat) (p:Array Nat) (n q:Nat),n+f<=nrem->Ih z p₀ p n q nrem ->
  let r:=run (dN z) (kas_desc f p n q);Ih z p₀ r.1 r.2.1 r.2.2 nrem
 | 0,p,n,q,hn,h=>h
 | f+1,p,n,q,hn,h=>by
  intro r
  have hr:r=run (dN z) (if dN z (p.getD n 0) (p.getD (n - 1) 0)=true then (if q > 0 then kas_desc f (kas_rev p (n - (q+1)) n) (n+1) 0 else kas_desc f p (n+1) 0)
   else .ask (p.getD (n - 1) 0) (p.getD n 0) fun d=>if d=true then .ret (p,n,q) else kas_desc f p (n+1) (q+1)):=rfl
  have hq:=h.qn
  by_cases hc:dN z (p.getD n 0) (p.getD (n - 1) 0)=true
  ·rw[if_pos hc] at hr
   have hlt:Z z p n < Z z p (n - 1):=of_decide_eq_true hc
   have step:∀p':Array Nat,p'.Perm p₀->p'.size=p₀.size->(∀k,Z z p' k=Z z p k)->Ih z p₀ p' (n+1) 0 nrem:=fun p' a1 a2 a3=>by
    refine⟨a1,a2,by omega,by omega,fun a b hab hb=>?_,fun a b h1 h2 h3 h4=>by rw[show a=b by omega]⟩
    rw[a3,a3]
    by_cases hbn:b < n
    ·exact h.dn a b hab hbn
    ·have e:b=n:=by omega
     subst e
     by_cases ha:a=b
     ·subst ha;exact Int.le_refl _
     ·exact Int.le_trans (Int.le_of_lt hlt) (h.dn a (b - 1) (by omega) (by omega))
   by_cases hq0:q > 0
   ·rw[if_pos hq0] at hr
    rw[hr]
    exact Ds hz f _ (n+1) 0 (by omega) (step _ ((kG _ _ _).trans h.perm) (by rw[kO,h.size]) (wB (by rw[h.size];omega) h.eq))
   ·rw[if_neg hq0] at hr
    rw[hr]
    exact Ds hz f p (n+1) 0 (by omega) (step p h.perm h.size fun _=>rfl)
  ·rw[if_neg hc] at hr
   have hge:Z z p (n - 1)<=Z z p n:=by
    have:¬ (Z z p n < Z z p (n - 1)):=fun q=>hc (decide_eq_true q)
    omega
   have hr':r=run (dN z) (if dN z (p.getD (n - 1) 0) (p.getD n 0)=true then .ret (p,n,q) else kas_desc f p (n+1) (q+1)):=hr
   by_cases hd:dN z (p.getD (n - 1) 0) (p.getD n 0)=true
   ·rw[if_pos hd] at hr'
    rw[hr']
    exact h
   ·rw[if_neg hd] at hr'
    rw[hr']
    have heq:Z z p n=Z z p (n - 1):=by
     have:¬ (Z z p (n - 1) < Z z p n):=fun q=>hd (decide_eq_true q)
     omega
    refine Ds hz f p (n+1) (q+1) (by omega) ⟨h.perm,h.size,by omega,by omega,fun a b hab hb=>?_,fun a b h1 h2 h3 h4=>?_⟩
    ·by_cases hbn:b < n
     ·exact h.dn a b hab hbn
     ·have e:b=n:=by omega
      subst e
      by_cases ha:a=b
      ·subst ha;exact Int.le_refl _
      ·rw[heq];exact h.dn a (b - 1) (by omega) (by omega)
    ·have key:∀c,n+1 - (q+1+1)<=c->c < n+1->Z z p c=Z z p (n - 1):=fun c c1 c2=>by
      by_cases hcn:c < n
      ·exact h.eq c (n - 1) (by omega) hcn (by omega) (by omega)
      ·have e:c=n:=by omega
       subst e;exact heq
     rw[key a h1 h2,key b h3 h4]
structure Kx (z:Nat->Int) (p₀:Array Nat) (nrem:Nat) (r:Nat×Array Nat):Prop where
 perm:r.2.Perm p₀
 size:r.2.size=p₀.size
 ge:1<=r.1
 le:r.1<=nrem
 up:Up z r.2 r.1
theorem tail3 {p₀ p:Array Nat}{n nrem:Nat}(hz:nrem<=p₀.size) (h1:1<=n) (hn:n<=nrem) (hp:p.Perm p₀) (hs:p.size=p₀.size) (hd:Dn z p n):Kx z p₀ nrem (run (dN z) (kas_tail3 n nrem p)):=by
 unfold kas_tail3
 rw[gR]
 obtain⟨a,b,c,_⟩:=KD (nrem - n) n h1 (GT (by omega) hd)
 exact⟨(kG _ _ _).trans hp,by show (kas_rev p 0 n).size=_;rw[kO,hs],by show 1<=run _ (kas_asc _ _ _);omega,by show run _ (kas_asc _ _ _)<=nrem;omega,c⟩
theorem descPart {p₀ p:Array Nat}{n nrem:Nat}(hz:nrem<=p₀.size) (h1:1<=n) (hn:n < nrem) (hp:p.Perm p₀) (hs:p.size=p₀.size) (hd:Dn z p n) (hlt:Z z p n<=Z z p (n - 1)):Kx z p₀ nrem (run (dN z) (kas_descPart n nrem p)):=by
 unfold kas_descPart
 rw[gR]
 have D:=Ds (z:=z) hz (nrem - (n+1)) p (n+1) 0 (by omega) ⟨hp,hs,by omega,by omega,fun a b hab hb=>by
  by_cases hbn:b < n
  ·exact hd a b hab hbn
  ·have e:b=n:=by omega
   subst e
   by_cases ha:a=b
   ·subst ha;exact Int.le_refl _
   ·exact Int.le_trans hlt (hd a (b - 1) (by omega) (by omega)),fun a b h1 h2 h3 h4=>by rw[show a=b by omega]⟩
 dsimp only at D
 generalize run (dN z) (kas_desc (nrem - (n+1)) p (n+1) 0)=r at D
 have hq:=D.qn
 split
 ·exact tail3 hz (by omega) D.le ((kG _ _ _).trans D.perm) (by rw[kO,D.size]) (AB (wB (by have:=D.size;have:=D.le;omega) D.eq) D.dn)
 ·exact tail3 hz (by omega) D.le D.perm D.size D.dn
theorem count {p:Array Nat}{nrem:Nat}(hz:nrem<=p.size) (h1:1<=nrem):Kx z p nrem (run (dN z) (kas_count nrem p)):=by
 unfold kas_count
 rw[gR]
 obtain⟨a,b,c,d⟩:=KD (z:=z) (p:=p) (nrem - 1) 1 (Nat.le_refl _) (fun x y hxy hy=>by rw[show x=y by omega];exact Int.le_refl _)
 generalize run (dN z) (kas_asc p (nrem - 1) 1)=n at a b c d
 split
 ·exact⟨Array.Perm.refl _,rfl,a,by show n<=nrem;omega,c⟩
 ·rename_i hne
  have hlt:n < nrem:=by
   have:n≠nrem:=fun e=>hne (by simp[e])
   omega
  have hd:=d (by omega)
  split
  ·rename_i hn1
   show Kx z p nrem (run (dN z) (if dN z (p.getD 0 0) (p.getD (n - 1) 0)=true then .ret (n,p) else kas_descPart n nrem (kas_rev p 0 n)))
   by_cases hc:dN z (p.getD 0 0) (p.getD (n - 1) 0)=true
   ·rw[if_pos hc]
    exact⟨Array.Perm.refl _,rfl,a,by show n<=nrem;omega,c⟩
   ·rw[if_neg hc]
    have hge:Z z p (n - 1)<=Z z p 0:=by
     have:¬ (Z z p 0 < Z z p (n - 1)):=fun q=>hc (decide_eq_true q)
     omega
    have all:∀x,x < n->Z z p x=Z z p 0:=fun x hx=>by
     have e1:=c 0 x (Nat.zero_le _) hx
     have e2:=c x (n - 1) (by omega) (by omega)
     omega
    have same:=wB (z:=z) (p:=p) (i:=0) (j:=n) (by omega) fun x y _ hx _ hy=>by rw[all x hx,all y hy]
    refine descPart hz (by omega) hlt (kG _ _ _) (by rw[kO]) (fun x y hxy hy=>?_) ?_
    ·rw[same,same,all x (by omega),all y hy];exact Int.le_refl _
    ·rw[same,same];omega
  ·exact descPart hz (by omega) hlt (Array.Perm.refl _) rfl (fun x y hxy hy=>by rw[show x=y by omega];exact Int.le_refl _) (by omega)
theorem place {p:Array Nat}{k:Nat}(hu:Up z p k):∀ (f l r:Nat),r - l<=f->l<=r->r<=k->(∀a,a < l->Z z p a<=Z z p k)->(∀a,r<=a->a < k->Z z p k<=Z z p a) ->
  let m:=run (dN z) (kas_place p k f l r);m<=k/\(∀a,a < m->Z z p a<=Z z p k)/\(∀a,m<=a->a < k->Z z p k<=Z z p a)
 | 0,l,r,hf,hl,hr,h1,h2=>by
  intro m
  have e:l=r:=by omega
  subst e
  exact⟨hr,h1,h2⟩
 | f+1,l,r,hf,hl,hr,h1,h2=>by
  intro m
  have hm:m=run (dN z) (if l >= r then .ret l else .ask (p.getD k 0) (p.getD ((l+r) / 2) 0) fun c=>if c=true then kas_place p k f l ((l+r) / 2) else kas_place p k f ((l+r) / 2+1) r):=rfl
  by_cases hlr:l >= r
  ·rw[if_pos hlr] at hm
   rw[hm]
   have e:l=r:=by omega
   subst e
   exact⟨hr,h1,h2⟩
  ·rw[if_neg hlr] at hm
   have hm':m=run (dN z) (if dN z (p.getD k 0) (p.getD ((l+r) / 2) 0)=true then kas_place p k f l ((l+r) / 2) else kas_place p k f ((l+r) / 2+1) r):=hm
   by_cases hc:dN z (p.getD k 0) (p.getD ((l+r) / 2) 0)=true
   ·rw[if_pos hc] at hm'
    rw[hm']
    have hlt:Z z p k < Z z p ((l+r) / 2):=of_decide_eq_true hc
    exact place hu f l ((l+r) / 2) (by omega) (by omega) (by omega) h1 fun a ha hak=>Int.le_trans (Int.le_of_lt hlt) (hu _ a ha hak)
   ·rw[if_neg hc] at hm'
    rw[hm']
    have hge:Z z p ((l+r) / 2)<=Z z p k:=by
     have:¬ (Z z p k < Z z p ((l+r) / 2)):=fun q=>hc (decide_eq_true q)
     omega
    exact place hu f ((l+r) / 2+1) r (by omega) (by omega) hr (fun a ha=>Int.le_trans (hu a ((l+r) / 2) (by omega) (by omega)) hge) h2
theorem bin {p₀:Array Nat}:∀ (f:Nat) (p:Array Nat) (k:Nat),p.Perm p₀->p.size=p₀.size->k+f<=p₀.size->Up z p k ->
  (run (dN z) (kas_bin f p k)).Perm p₀/\(run (dN z) (kas_bin f p k)).size=p₀.size/\Up z (run (dN z) (kas_bin f p k)) (k+f)
 | 0,p,k,hp,hs,hk,hu=>⟨hp,hs,hu⟩
 | f+1,p,k,hp,hs,hk,hu=>by
  unfold kas_bin
  rw[gR]
  have P:=place hu k 0 k (by omega) (by omega) (Nat.le_refl _) (fun a ha=>absurd ha (Nat.not_lt_zero _)) fun a ha hak=>absurd ha (by omega)
  dsimp only at P
  generalize run (dN z) (kas_place p k k 0 k)=l at P
  obtain⟨p1,p2,p3⟩:=P
  have zb:=AY z (p:=p) (src:=k) (d:=k - l) (by omega) (by omega)
  have e:k - (k - l)=l:=by omega
  rw[e] at zb
  obtain⟨q1,q2,q3⟩:=bin f (bubble p k (k - l)) (k+1) ((bubble_perm _ _ _).trans hp) (by rw[bubble_size,hs]) (by omega) fun a b hab hb=>by
   rw[zb,zb]
   by_cases ha1:a=l
   ·rw[if_pos ha1]
    by_cases hb1:b=l
    ·rw[if_pos hb1];exact Int.le_refl _
    ·rw[if_neg hb1]
     rw[if_pos (by omega)]
     exact p3 _ (by omega) (by omega)
   ·rw[if_neg ha1]
    by_cases hb1:b=l
    ·rw[if_pos hb1,if_neg (by omega)]
     exact p2 a (by omega)
    ·rw[if_neg hb1]
     by_cases ha2:l < a/\a<=k
     ·rw[if_pos ha2,if_pos (by omega)]
      exact hu _ _ (by omega) (by omega)
     ·rw[if_neg ha2]
      by_cases hb2:l < b/\b<=k
      ·rw[if_pos hb2]
       exact hu _ _ (by omega) (by omega)
      ·rw[if_neg hb2]
       exact hu _ _ hab (by omega)
  exact⟨q1,q2,by rw[show k+(f+1)=k+1+f by omega];exact q3⟩
theorem fT {n:Nat}(h1:1<=n):(run (dN z) (kas_sort n)).toList.Perm (List.range n)/\((run (dN z) (kas_sort n)).toList.map z).Pairwise (·<=·):=by
 have hsz:(List.toArray (List.range n)).size=n:=by simp
 have C:=count (z:=z) (p:=List.toArray (List.range n)) (nrem:=n) (by omega) h1
 have fin:∀p:Array Nat,p.Perm (List.toArray (List.range n))->p.size=n->Up z p n->p.toList.Perm (List.range n)/\(p.toList.map z).Pairwise (·<=·):=fun p a b c=>by
  refine⟨by have:=a.toList;simpa using this,?_⟩
  rw[List.pairwise_iff_getElem]
  intro i j hi hj hij
  have hi':i < n:=by simpa [b] using hi
  have hj':j < n:=by simpa [b] using hj
  have:=c i j (Nat.le_of_lt hij) hj'
  unfold Z at this
  have e1:p.getD i 0=p[i]:=by simp[Array.getD,b,hi']
  have e2:p.getD j 0=p[j]:=by simp[Array.getD,b,hj']
  rw[e1,e2] at this
  simpa using this
 unfold kas_sort
 rw[gR]
 generalize run (dN z) (kas_count n (List.toArray (List.range n)))=r at C
 obtain⟨k,p⟩:=r
 have hs:=C.size
 rw[hsz] at hs
 split
 ·rename_i hlt
  have hge:=C.ge
  have e:max k 1=k:=by have:1<=k:=hge;omega
  rw[e]
  obtain⟨q1,q2,q3⟩:=bin (z:=z) (n - k) p k C.perm C.size (by rw[hsz];have:k < n:=hlt;omega) C.up
  refine fin _ q1 (by rw[q2,hsz]) ?_
  rw[show k+(n - k)=n by have:k < n:=hlt;omega] at q3
  exact q3
 ·rename_i hnlt
  have hle:=C.le
  have e:k=n:=by have h3:k<=n:=hle;have h4:¬ k < n:=hnlt;omega
  subst e
  exact fin p C.perm hs C.up
end
end SP
namespace Srt
open PySem PySem.W PySem.Calls PyProof.Rows
noncomputable def outV (z:Nat->Int) (vs:List Value):List Value:=if vs.length < 2 then vs else (SP.run (SP.dN z) (kas_sort vs.length)).toList.map fun i=>vs.getD i Value.none
theorem outV_len (z:Nat->Int) (vs:List Value):(outV z vs).length=vs.length:=by
 unfold outV
 split
 ·rfl
 ·rename_i h
  have:=(SP.fT (z:=z) (n:=vs.length) (by omega)).1.length_eq
  simpa using this
section
variable {prog:Program}{w:World}{A:Around}{E:Value->Shared->Prop}{s:Shared}
theorem list_sortG {a:Addr}{vs:List Value}{n:Nat}{P:PySem.Fin->Shared->Prop}(ho:s.heap.get? a=some (seqObj "list" vs.toArray n)) (h64:vs.length < 64) (z:Nat->Int) (κ:SortKind)
  (hk:2<=vs.length->∀h':Heap,(∀b o,b≠a->s.heap.get? b=some o->h'.get? b=some o)->∀Q':SortKind->Shared->Prop,Q' κ { s with heap:=h' }->wpAny (model prog w) A (keyKind' vs.toArray) Q' (fun _ _=>False) { s with heap:=h' })
  (hlt:2<=vs.length->∀h':Heap,(∀b o,b≠a->s.heap.get? b=some o->h'.get? b=some o)->∀i j C,i < vs.length->j < vs.length->C (SP.dN z i j) { s with heap:=h' }->kas_ask prog w A κ vs i j C { s with heap:=h' })
  (h:∀ (h':Heap) (c:Nat),(∀b o,b≠a->s.heap.get? b=some o->h'.get? b=some o)->h'.get? a=some (seqObj "list" (outV z vs).toArray c)->P (.done (.ret .none)) { s with heap:=h' }) :
  wpAny (model prog w) A (Builtin.«list.sort» ⟨[.ref a],[]⟩) P E s:=by
 rw[list_sort_plain]
 have ha:a < s.heap.objs.size:=Heap.lt_size ho
 have hsl:vs.length<=sizeLine:=by rw[sizeLine_eq];omega
 refine wpAny_bind (listItems_at ho rfl (wpAny_bind (listUpdate_at ho rfl ?_ (by simpa using hsl) (Nat.zero_le _))))
 obtain⟨e1,ho1⟩:∃e,(s.heap.update a (Obj.mapSeq fun _=>(#[]:Array Value))).get? a=some (seqObj "list" #[] e):=⟨_,get?_update_seq ho fun _=>#[]⟩
 have kp1:∀b o,b≠a->s.heap.get? b=some o->(s.heap.update a (Obj.mapSeq fun _=>(#[]:Array Value))).get? b=some o:=fun b o hb e=>(Heap.get?_update_other _ _ (Ne.symm hb)).trans e
 refine wpAny_bind (seqEpoch_at ho1 rfl (wpAny_bind (wpAny_newTuple ?_ (by simpa using hsl))))
 refine wpAny_bind (wpAny_newList (wpAny_holding ?_) (Nat.zero_le _))
 have ho3:(((s.heap.update a (Obj.mapSeq fun _=>(#[]:Array Value))).push (seqObj "tuple" vs.toArray 0)).push (seqObj "list" #[] 0)).get? a=some (seqObj "list" #[] e1):=Heap.get?_push_of_some _ (Heap.get?_push_of_some _ ho1)
 have kp3:∀b o,b≠a->s.heap.get? b=some o->(((s.heap.update a (Obj.mapSeq fun _=>(#[]:Array Value))).push (seqObj "tuple" vs.toArray 0)).push (seqObj "list" #[] 0)).get? b=some o:=fun b o hb e=>Heap.get?_push_of_some _ (Heap.get?_push_of_some _ (kp1 b o hb e))
 show wpAny _ A _ P E { s with heap:=((s.heap.update a (Obj.mapSeq fun _=>(#[]:Array Value))).push (seqObj "tuple" vs.toArray 0)).push (seqObj "list" #[] 0) }
 generalize ((s.heap.update a (Obj.mapSeq fun _=>(#[]:Array Value))).push (seqObj "tuple" vs.toArray 0)).push (seqObj "list" #[] 0)=h3 at ho3 kp3
 clear ho1 kp1
 dsimp only
 have fin:∀st':SortSt,(arrOf st').map (·.2)=(outV z vs).toArray->failedOf st'=none ->
   wpAny (model prog w) A (do
    let sorted:=(arrOf st').map (·.2)
    let touched:=(<- seqEpoch a) != e1
    Builtin.List.listUpdate (.ref a) fun _=>sorted
    if let some e:=failedOf st' then rule "list.sort.comparison-raised";throw e
    if touched then rule "list.sort.modified";raiseError "ValueError" "list modified during sort"
    ret .none) P E { s with heap:=h3 }:=fun st' h1 h2=>by
  dsimp only
  rw[h1,h2]
  refine wpAny_bind (seqEpoch_at ho3 rfl ?_)
  refine wpAny_bind (listUpdate_at ho3 rfl ?_ (Nat.zero_le _) (by show (outV z vs).toArray.size<=_;rw[List.size_toArray,outV_len];omega))
  obtain⟨c,hc⟩:∃c,(h3.update a (Obj.mapSeq fun _=>(outV z vs).toArray)).get? a=some (seqObj "list" (outV z vs).toArray c):=⟨_,get?_update_seq ho3 fun _=>(outV z vs).toArray⟩
  have q:=h _ c (fun b o hb e=>(Heap.get?_update_other _ _ (Ne.symm hb)).trans (kp3 b o hb e)) hc
  simp only[bne_self_eq_false,Bool.false_eq_true,if_false]
  exact wpAny_pure q
 by_cases h2:vs.toArray.size < 2
 ·rw[if_pos h2,if_pos h2]
  refine wpAny_bind (wpAny_pure ?_)
  rw[StateT.run_pure]
  refine wpAny_bind (wpAny_pure (fin _ ?_ rfl))
  have h2':vs.length < 2:=by simpa using h2
  unfold outV
  rw[if_pos h2']
  show ((vs.toArray.zip vs.toArray).map (·.2))=vs.toArray
  apply Array.toList_inj.mp
  simp only[Array.toList_map,Array.toList_zip]
  exact List.map_snd_zip (Nat.le_refl _)
 ·rw[if_neg h2,if_neg h2]
  have h2':2<=vs.length:=by
   have:¬ vs.length < 2:=by simpa using h2
   omega
  refine wpAny_bind (wpAny_mono (hk h2' h3 kp3 (fun κ' s'=>κ'=κ/\s'={ s with heap:=h3 }) ⟨rfl,rfl⟩) (fun κ' s' hs=>?_) fun _ _ x=>x.elim)
  obtain⟨rfl,rfl⟩:=hs
  refine wpAny_bind (wpAny_mono (kat_run (Q:=fun st' s'=>s'={ s with heap:=h3 }/\(arrOf st').map (·.2)=(outV z vs).toArray/\failedOf st'=none) (G:=fun p s'=>s'={ s with heap:=h3 }/\p=SP.run (SP.dN z) (kas_sort vs.length))
   rfl h2' h64 (fun p st' s' a1 a2 a3 a4=>⟨a4.1,?_,a3⟩) (SP.wp_run (hlt h2' h3 kp3) (kas_sort vs.length) (SP.BL (by omega)) ⟨rfl,rfl⟩)) ?_ fun _ _ e=>e)
  ·rw[kat_snds rfl a2,a4.2]
   unfold outV
   rw[if_neg (by omega)]
  ·rintro⟨⟨⟩,st'⟩ s' ⟨hs,h4,h5⟩
   subst hs
   exact fin st' h4 h5
theorem sortedG {l:Addr}{vs:List Value}{Q:Value->Shared->Prop}(hl:s.heap.IsList l vs.toArray) (h64:vs.length < 64) (z:Nat->Int) (κ:SortKind)
  (hk:2<=vs.length->∀h':Heap,(∀b o,s.heap.get? b=some o->h'.get? b=some o)->∀Q':SortKind->Shared->Prop,Q' κ { s with heap:=h' }->wpAny (model prog w) A.in1.in1 (keyKind' vs.toArray) Q' (fun _ _=>False) { s with heap:=h' })
  (hlt:2<=vs.length->∀h':Heap,(∀b o,s.heap.get? b=some o->h'.get? b=some o)->∀i j C,i < vs.length->j < vs.length->C (SP.dN z i j) { s with heap:=h' }->kas_ask prog w A.in1.in1 κ vs i j C { s with heap:=h' })
  (h:∀ (h':Heap) (D:Addr) (c:Nat),(∀b o,s.heap.get? b=some o->h'.get? b=some o)->s.heap.objs.size<=D->h'.get? D=some (seqObj "list" (outV z vs).toArray c)->Q (.ref D) { s with heap:=h' }) :
  wpAny (model prog w) A (call (.builtin "sorted") [.ref l]) Q E s:=by
 have hsl:vs.length<=sizeLine:=by rw[sizeLine_eq];omega
 refine Calls.call_function_entry kind_sorted plain_sorted entry_sorted (args_sorted1 _) ?_
 unfold Builtin.«sorted»
 refine wpAny_bind (m:=checkCount "sorted" 1 1 _) (wpAny_pure (wpAny_bind (collect_list hl ?_ hsl)))
 refine wpAny_bind (wpAny_newList ?_ (by simpa using hsl))
 have hsz:((s.heap.push (seqObj "list" #[] 0)).update s.heap.objs.size (Obj.mapSeq (·++vs.toArray))).objs.size=s.heap.objs.size+1:=by rw[Heap.size_update,size_push']
 have kp:∀b o,s.heap.get? b=some o->(((s.heap.push (seqObj "list" #[] 0)).update s.heap.objs.size (Obj.mapSeq (·++vs.toArray))).push (seqObj "list" vs.toArray 0)).get? b=some o:=fun b o e =>
  Heap.get?_push_of_some _ ((Heap.get?_update_other _ _ (Nat.ne_of_gt (Heap.lt_size e))).trans (Heap.get?_push_of_some _ e))
 have hoD:(((s.heap.push (seqObj "list" #[] 0)).update s.heap.objs.size (Obj.mapSeq (·++vs.toArray))).push (seqObj "list" vs.toArray 0)).get? (s.heap.objs.size+1)=some (seqObj "list" vs.toArray 0):=by
  rw[<- hsz];exact Heap.get?_push_size _ rfl
 show wpAny _ _ _ _ _ { s with heap:=((s.heap.push (seqObj "list" #[] 0)).update s.heap.objs.size (Obj.mapSeq (·++vs.toArray))).push (seqObj "list" vs.toArray 0) }
 rw[hsz]
 generalize ((s.heap.push (seqObj "list" #[] 0)).update s.heap.objs.size (Obj.mapSeq (·++vs.toArray))).push (seqObj "list" vs.toArray 0)=h1 at kp hoD
 have kk:∀h':Heap,(∀b o,b≠s.heap.objs.size+1->h1.get? b=some o->h'.get? b=some o)->∀b o,s.heap.get? b=some o->h'.get? b=some o:=fun h' q b o e=>q b o (Nat.ne_of_lt (Nat.lt_succ_of_lt (Heap.lt_size e))) (kp b o e)
 refine wpAny_bind (wpAny_holding (wpAny_call_entry slot_list_sort ⟨_,hoD,rfl⟩ entry_list_sort (list_sortG hoD h64 z κ (fun a h' q=>hk a h' (kk h' q)) (fun a h' q=>hlt a h' (kk h' q)) fun h' c q e=>⟨_,rfl,?_⟩) (args_list_sort _)))
 exact wpAny_pure ⟨_,rfl,h h' _ c (kk h' q) (by omega) e⟩
end
end Srt
namespace Dl
open PySem L2 PySem.Spec PyProof.Rows
section
variable {X:Cx}{HF₀ H₀:Hp}{e e2:Expr}{es:List Expr}{pos apos cpos px p:Pos}{x:Str}{fs:Env->Option (List D)}
noncomputable def Ai (i:Nat) (fz:List Nat) (f:Env->Option (List D)):ai->Option Out:=fun ρ=>(f (bR (hand fz 0 ρ))).bind fun us=>nc i (fun ds=>if ds.length+us.length<=sizeLine then some (ds++us) else none) (hand fz 0 ρ)
theorem Ag (i:Nat) (fz:List Nat) {f:Env->Option (List D)}(hN:X.N[i]?=some x) (hv:FD X.env.scope x) (h:DF X e f) (hd:(x == ("__debug__":Str))=false:=by decide) (hcd:(x == ("__classdict__":Str))=false:=by decide)
  (hfew:((backTo cpos (starEach [e] X.env)).all (fun x=>!x.1)&&(backToKw cpos (keywordEach [] X.env)).all (fun x=>x.1.isSome)&&decide ([e].length+([]:List Keyword).length+(if ([]:List Keyword).isEmpty then 0 else 1) < 30))=true:=by rfl)
  (hline:(apos.endLine == cpos.line)=true:=by rfl) (hs:starEach [e] X.env=(false,eval e X.env)::starEach [] X.env:=by rfl) :
  DS X HF₀ H₀ (.Expr (.Call (.Attribute (.Name x px) "extend" apos) [e] [] cpos) pos) (Ai i fz f) :=
 dE (nz (qY PySem.F.plainAttrs_list PySem.F.slot_list_extend PySem.F.type_list_extend zV (oF hN hv hd hcd) (cW h gf hs) rfl hfew hline hs rfl)) fun E σ H ⟨HF,ρ,o,S,hg,q⟩=>by
  obtain⟨us,h1,hg⟩:=bs hg
  obtain⟨ds,es,h2,h3,rfl⟩:=jH hg
  obtain⟨HF1,s1,S1⟩:=S.hand fz
  obtain⟨a,vs,e1,e2,e3,e5,e4⟩:=S1.own i ds h2
  refine⟨.ref a,e1,.inl ⟨rfl,vs,gT.of e2⟩,HF1,_,us,S1.gr.fh,S1.frz,h1,fun b ws H' HF' G hb hf h' r=>?_⟩
  have S2:=S1.grow G
  obtain⟨a',vs',f1,f2,f3,f5,f4⟩:=S2.own i ds h2
  rw[e1] at f1;cases f1
  split at h3
  ·rename_i hz
   cases h3
   exact⟨a,b,vs',ws,rfl,rfl,f2,h',by rw[f4.length,r.length];exact hz,q σ _ HF' (S2.mut h2 e1 f2 (f4.append r)) (s1.trans G.ff)⟩
  ·cases h3
noncomputable def yE (ds:List D) (k:Int) (d:D):List D:=let j:=if k < 0 then (k+(ds.length:Int)).toNat else min k.toNat ds.length;ds.take j++d::ds.drop j
noncomputable def Ef:V->List V->Hp->VK->Prop:=fun x vs H Q=>∃l xs k y,x=.ref l/\vs=[.int k,y]/\H l=some (.lst xs)/\xs.length < sizeLine/\-(2 ^ 62)<=k/\k < 2 ^ 62 /\
 Q .non (upd H l (.lst (xs.take (if k < 0 then (k+(xs.length:Int)).toNat else min k.toNat xs.length)++y::xs.drop (if k < 0 then (k+(xs.length:Int)).toNat else min k.toNat xs.length))))
theorem zx:Jb X "list.insert" Ef:=by
 intro pins s σ H x vs v us Q I rx rv h
 obtain⟨l,xs,k,y,rfl,rfl,hH,hz,k1,k2,q⟩:=h
 cases rx
 obtain⟨u1,u2,rfl,⟨t,rfl⟩,ru⟩:=L2.az.two rv
 obtain⟨z,its,n,r,hl,e⟩:=I.lstM hH
 have hfit:¬(!Builtin.List.listFitsIndex k)=true:=by
  have:Builtin.List.listFitsIndex k=true:=by
   unfold Builtin.List.listFitsIndex
   simp only[Bool.and_eq_true,decide_eq_true_eq]
   omega
  rw[this];simp
 refine call_meets F.slot_list_insert ⟨_,e,rfl⟩ F.entry_list_insert (F.args_list_insert_3 _ _ _) (AutoListH.list_insert_list_int_val_1 l its.toArray n k t u2 hfit (by rw[List.size_toArray];omega)) ⟨e,?_⟩
 have hlen:its.length=xs.length:=hl.symm
 refine⟨.non,_,I.lset (its':=its.take (if k < 0 then (k+(xs.length:Int)).toNat else min k.toNat xs.length)++u2::its.drop (if k < 0 then (k+(xs.length:Int)).toNat else min k.toNat xs.length)) hH e ?_ ((r.take _).append (.cons ru (r.drop _))) ?_,rfl,q⟩
 ·dsimp only
  rw[List.size_toArray,hlen]
  apply Array.toList_inj.mp
  simp
  exact List.take_of_length_le (by rw[List.length_drop,hlen];exact Nat.le_refl _)
 ·rw[List.length_append,List.length_cons,List.length_take,List.length_drop]
  omega
noncomputable def B6 (i:Nat) (fz:List Nat) (fk f:Env->Option D):ai->Option Out:=fun ρ=>(fk (bb ρ)).bind fun kd=>match kd with
 | .int k=>(jP fz f ρ).bind fun p=>nc i (fun ds=>if vM k=true/\ds.length < sizeLine then some (yE ds k p.1) else none) p.2
 | _=>none
theorem Ae (i:Nat) (fz:List Nat) {fk f:Env->Option D}(hN:X.N[i]?=some x) (hv:FD X.env.scope x) (hk:DE X e fk) (h:DE X e2 f) (hd:(x == ("__debug__":Str))=false:=by decide) (hcd:(x == ("__classdict__":Str))=false:=by decide)
  (hfew:((backTo cpos (starEach [e,e2] X.env)).all (fun x=>!x.1)&&(backToKw cpos (keywordEach [] X.env)).all (fun x=>x.1.isSome)&&decide ([e,e2].length+([]:List Keyword).length+(if ([]:List Keyword).isEmpty then 0 else 1) < 30))=true:=by rfl)
  (hline:(apos.endLine == cpos.line)=true:=by rfl) (hs:starEach [e,e2] X.env=(false,eval e X.env)::starEach [e2] X.env:=by rfl) (hs2:starEach [e2] X.env=(false,eval e2 X.env)::starEach [] X.env:=by rfl) :
  DS X HF₀ H₀ (.Expr (.Call (.Attribute (.Name x px) "insert" apos) [e,e2] [] cpos) pos) (B6 i fz fk f) :=
 dE (nz (qY PySem.F.plainAttrs_list PySem.F.slot_list_insert PySem.F.type_list_insert zx (oF hN hv hd hcd) (cW hk (cW h gf hs2) hs) rfl hfew hline hs (by rw[hs2];rfl))) fun E σ H ⟨HF,ρ,o,S,hg,q⟩=>by
  obtain⟨kd,hkd,hg⟩:=bs hg
  cases kd<;>try cases hg
  rename_i k
  obtain⟨⟨d,ρ'⟩,h1,hg⟩:=bs hg
  obtain⟨ds,es,h2,h3,rfl⟩:=jH hg
  have hown:∃ds',ρ[i]?=some (.own ds'):=by
   obtain⟨d1,_,h1⟩:=bs h1
   split at h1
   ·cases h1;exact⟨ds,h2⟩
   ·obtain⟨d2,_,h1⟩:=map_some h1
    cases h1
    rw[gX] at h2
    obtain⟨s,hs,h2⟩:=map_some h2
    cases s with
    | non=>split at h2<;>cases h2
    | val _=>split at h2<;>cases h2
    | own xs=>exact⟨xs,hs⟩
  obtain⟨ds',hown⟩:=hown
  obtain⟨a,vs,e1,e2,e3,e5,e4⟩:=S.own i ds' hown
  refine⟨.ref a,e1,.inl ⟨rfl,vs,gT.of e2⟩,H,bb ρ,_,.refl _,S.all,hkd,fun vk Hk HFk Gk rk=>?_⟩
  simp only[Rep] at rk
  subst rk
  refine lU (S.step Gk.hh) h1 fun v H' HF' s1 S' sh r=>?_
  obtain⟨a',vs',f1,f2,f3,f5,f4⟩:=S'.own i ds h2
  rw[e1] at f1;cases f1
  split at h3
  ·rename_i hz
   cases h3
   have ok:=hz.1
   unfold vM at ok
   rw[Bool.and_eq_true] at ok
   refine⟨a,vs',k,v,rfl,rfl,f2,by rw[f4.length];exact hz.2,of_decide_eq_true ok.1,of_decide_eq_true ok.2,q σ _ HF' (S'.mut h2 e1 f2 ?_) s1⟩
   unfold yE
   rw[f4.length]
   exact (f4.take _).append (aq.cons r (f4.drop _))
  ·cases h3
noncomputable def rl:D->D->Option (List D)
 | .list xs,.list ys=>small (xs++ys)
 | _,_=>none
noncomputable def AH (K:PySem.W.Frag):R2:=fun x y H Q=>∃a b xs ys,x=.ref a/\y=.ref b/\gT K H a xs/\gT K H b ys/\xs.length+ys.length<=sizeLine/\∀p,H p=none->Q (.ref p) (upd H p (.lst (xs++ys)))
theorem vH:gA X (binaryOp .Add) (AH X.K):=by
 intro pins s σ H x y v u Q I rx ry h
 obtain⟨a,b,xs,ys,rfl,rfl,ha,hb,hz,q⟩:=h
 cases rx
 cases ry
 obtain⟨its,r1,p1,_⟩:=I.list ha
 obtain⟨its2,r2,p2,_⟩:=I.list hb
 obtain⟨⟨cls,dd,data,sl⟩,ho,hc,n,hd⟩:=id p1.isList
 obtain⟨⟨cls2,dd2,data2,sl2⟩,ho2,hc2,n2,hd2⟩:=id p2.isList
 simp only at hc hd hc2 hd2
 subst hc hd hc2 hd2
 refine concat_meets ⟨_,ho,rfl⟩ ⟨_,ho2,rfl⟩ noFill_list_add seq_list_add PySem.F.slot_list_add PySem.F.entry_list_add (PySem.F.args_list_add_2 _ _) (list_addW a b its.toArray its2.toArray n n2 dd dd2 sl sl2 (by rw[List.size_toArray,List.size_toArray,<- r1.length,<- r2.length];exact hz)) ⟨ho,ho2,?_⟩
 have e:its.toArray++its2.toArray=(its++its2).toArray:=by simp
 rw[e]
 exact⟨.ref s.heap.objs.size,_,I.lnew (t':=s.toks) (r1.append r2) (by rw[List.length_append];exact hz),rfl,q _ I.fresh⟩
noncomputable def LJ (g:D->D->Option (List D)) (f1 f2:Env->Option D):Env->Option (List D):=fun ρ=>(f1 ρ).bind fun x=>(f2 ρ).bind fun y=>g x y
theorem HA {a b:Expr}{fa fb:Env->Option D}(ha:DE X a fa) (hb:DE X b fb):DF X (.BinOp a .Add b pos) (LJ rl fa fb):=aN (C9 vH ha hb) fun σ H Q ⟨HF,ρ,d,sm,eo,hf,q⟩=>by
 obtain⟨x,hx,hf⟩:=bs hf
 obtain⟨y,hy,hg⟩:=bs hf
 refine⟨HF,ρ,x,sm,eo,hx,fun v1 H1 HF1 g1 r1=>⟨HF1,ρ,y,g1.fh,eo.mono g1.ff,hy,fun v2 H2 HF2 g2 r2=>?_⟩⟩
 have r1:=r1.mono g2.ff
 cases x<;>cases y<;>simp only[rl] at hg<;>try cases hg
 rename_i xs ys
 obtain⟨rfl,hz⟩:=dS hg
 simp only[Rep] at r1 r2
 obtain⟨a,vs,rfl,ha,ra⟩:=r1
 obtain⟨b,us,rfl,hb,rb⟩:=r2
 have G:=g1.trans g2
 exact⟨a,b,vs,us,rfl,rfl,g2.fh.seq ha,g2.fh.seq hb,by rw[ra.length,rb.length,<- List.length_append];exact hz,fun p hp=>q p _ _ HF2 (G.trans (.own G.fh hp)) (G.hh.free hp) (G.fh.free hp) aD (ra.append rb)⟩
noncomputable def boolsOf:List D->Option (List Bool)
 | []=>some []
 | .bool b::r=>(boolsOf r).map (b::·)
 | _::_=>none
theorem ir:∀ {ds:List D}{bs:List Bool},boolsOf ds=some bs->ds=bs.map PyData.bool
 | [],bs,h=>by cases h;rfl
 | d::r,bs,h=>by
  cases d<;>simp only[boolsOf] at h<;>try cases h
  obtain⟨bs',h1,rfl⟩:=map_some h
  rw[ir h1]
  rfl
theorem kj {K:PySem.W.Frag}{H:Hp}:∀ {bs:List Bool}{vs:List V},aq K H (bs.map PyData.bool) vs->vs=bs.map V.bl
 | [],vs,h=>h.nil_inv
 | b::bs,vs,h=>by
  obtain⟨v,r,rfl,a,c⟩:=h.cons_inv
  simp only[Rep] at a
  rw[a,kj c]
  rfl
theorem kn:∀ {bs:List Bool}{us:List Value},az (bs.map V.bl) us->us=bs.map Value.bool
 | [],us,h=>by cases h;rfl
 | b::bs,us,h=>by
  cases h with
  | cons r rr=>cases r;rw[kn rr];rfl
theorem range_all (bs:List Bool):(List.range bs.length).all (fun i=>bs.getD i false)=bs.all id:=by
 induction bs with
 | nil=>rfl
 | cons b bs ih=>rw[List.length_cons,List.range_succ_eq_map,List.all_cons,List.all_map,List.all_cons];simpa [Function.comp_def] using congrArg (b&&·) ih
theorem range_any (bs:List Bool):(List.range bs.length).any (fun i=>bs.getD i false)=bs.any id:=by
 induction bs with
 | nil=>rfl
 | cons b bs ih=>rw[List.length_cons,List.range_succ_eq_map,List.any_cons,List.any_map,List.any_cons];simpa [Function.comp_def] using congrArg (b||·) ih
theorem wR (hc:X.calm=true):cD X (.builtin "all") (fun xs H Q=>∃ (a:Addr) (bs:List Bool),xs=[.ref a]/\gT X.K H a (bs.map V.bl)/\Q (.bl (bs.all id)) H):=by
 intro pins s σ H xs us Q I r h
 obtain⟨a,bs,rfl,hq,q⟩:=h
 obtain⟨u,rfl,rx⟩:=vals1 r
 cases rx
 obtain⟨its,rv,pl,hz⟩:=I.list hq
 have hv:=kn rv
 subst hv
 have hh:X.A.in1.handled=none:=I.ok.hd hc
 refine call_all_walk (wpAny_pyIter_list pl.isList ?_)
 obtain⟨o,ho,hcl,n,hd⟩:=pl.isList
 have hne:a≠s.heap.objs.size:=Nat.ne_of_lt (Heap.lt_size ho)
 refine⟨_,_,_,_,_,_,fun i=>bs.getD i false,rfl,Walks.list hh s.heap.objs.size a hne (bs.map Value.bool).toArray,⟨⟨_,Heap.get?_push_size _ rfl,rfl,rfl⟩,pl.isList.push _⟩,fun i v s' Q' E' hP hQ=>?_,fun h' tk kp=>?_⟩
 ·have e:v=Value.bool (bs.getD i false):=by
   have hP:(bs.map Value.bool).toArray[i]?=some v:=hP
   rw[List.getElem?_toArray,List.getElem?_map] at hP
   obtain⟨b,hb,rfl⟩:=map_some hP
   rw[List.getD_eq_getElem?_getD,hb]
   rfl
  subst e
  exact wpAny_truthy_bool hQ
 ·refine⟨.bl (bs.all id),H,?_,?_,q⟩
  ·exact I.kept (t':=tk) fun b o' e=>kp b o' (by simp;exact Nat.ne_of_lt (Heap.lt_size e)) (Heap.get?_push_of_some _ e)
  ·show Value.bool _=Value.bool _
   have:=range_all bs
   simp only[List.size_toArray,List.length_map]
   rw[this]
noncomputable def lH:List D->Option D:=fun ds=>(oneOf ds).bind fun d=>match d with
 | .list es=>(boolsOf es).map fun bs=>.bool (bs.all id)
 | _=>none
theorem Hc (hc:X.calm=true) (B:mv X "all" (.builtin "all")) (ha:DA X [e] fs) (he:starEach [e] X.env=(false,eval e X.env)::starEach [] X.env:=by rfl):DE X (.Call (.Name "all" p) [e] [] pos) (aY lH fs) :=
 gM (wR hc) (by
  intro HF H ds vs d Q sm r hg q
  obtain⟨x,hx,hg⟩:=bs hg
  rw[fF hx] at r
  cases x<;>try cases hg
  obtain⟨bs,hb,rfl⟩:=map_some hg
  obtain⟨v,r',rfl,a,b⟩:=r.cons_inv
  rw[b.nil_inv]
  simp only[Rep] at a
  obtain⟨p,us,rfl,h,rr⟩:=a
  rw[ir hb] at rr
  have:=kj rr
  subst this
  exact⟨p,bs,rfl,sm.seq h,q _ H HF (.refl sm) (by simp[Rep])⟩) B ha (by decide) (by decide) he rfl
end
end Dl
namespace Dl
open PySem L2 PySem.Spec PyProof.Rows
noncomputable abbrev lexLt:=HT.lexLt
theorem fu:∀a:List Int,lexLt a a=false
 | []=>rfl
 | x::a=>by show HT.lexLt (x::a) (x::a)=false;rw[HT.da,if_pos rfl];exact fu a
theorem di:∀ {a b c:List Int},lexLt a b=true->lexLt b c=true->lexLt a c=true
 | [],[],_,h,_=>by cases h
 | [],_::_,[],_,h=>by cases h
 | [],_::_,_::_,_,_=>rfl
 | _::_,[],_,h,_=>by cases h
 | _::_,_::_,[],_,h=>by cases h
 | x::a,y::b,z::c,h1,h2=>by
  have h1:HT.lexLt (x::a) (y::b)=true:=h1
  have h2:HT.lexLt (y::b) (z::c)=true:=h2
  show HT.lexLt (x::a) (z::c)=true
  rw[HT.da] at h1 h2 ⊢
  by_cases e1:x=y
  ·rw[if_pos e1] at h1
   by_cases e2:y=z
   ·rw[if_pos e2] at h2
    rw[if_pos (e1.trans e2)]
    exact di h1 h2
   ·rw[if_neg e2] at h2
    rw[if_neg (by omega)]
    have:=of_decide_eq_true h2
    exact decide_eq_true (by omega)
  ·rw[if_neg e1] at h1
   have q1:=of_decide_eq_true h1
   by_cases e2:y=z
   ·rw[if_neg (by omega)]
    exact decide_eq_true (by omega)
   ·rw[if_neg e2] at h2
    have q2:=of_decide_eq_true h2
    rw[if_neg (by omega)]
    exact decide_eq_true (by omega)
theorem gU:∀ {a b:List Int},lexLt a b=false->lexLt b a=false->a=b
 | [],[],_,_=>rfl
 | [],_::_,h,_=>by cases h
 | _::_,[],_,h=>by cases h
 | x::a,y::b,h1,h2=>by
  have h1:HT.lexLt (x::a) (y::b)=false:=h1
  have h2:HT.lexLt (y::b) (x::a)=false:=h2
  rw[HT.da] at h1 h2
  by_cases e:x=y
  ·rw[if_pos e] at h1
   rw[if_pos e.symm] at h2
   rw[e,gU h1 h2]
  ·rw[if_neg e] at h1
   rw[if_neg (fun z=>e z.symm)] at h2
   have:=of_decide_eq_false h1
   have:=of_decide_eq_false h2
   omega
noncomputable def lexLe (a b:List Int):Bool:=!lexLt b a
theorem uC (a b c:List Int) (h1:lexLe a b=true) (h2:lexLe b c=true):lexLe a c=true:=by
 unfold lexLe at *
 rw[Bool.not_eq_true'] at *
 cases e:lexLt c a with
 | false=>rfl
 | true =>
  cases e1:lexLt a b with
  | true=>rw[di e e1] at h2;cases h2
  | false =>
   have:=gU e1 h1
   subst this
   rw[e] at h2;cases h2
theorem u0 (a b:List Int):(lexLe a b||lexLe b a)=true:=by
 unfold lexLe
 cases e1:lexLt b a with
 | false=>rfl
 | true =>
  cases e2:lexLt a b with
  | false=>rfl
  | true=>have:=di e1 e2;rw[fu] at this;cases this
theorem xo {a b:List Int}(h1:lexLe a b=true) (h2:lexLe b a=true):a=b:=by
 unfold lexLe at *
 rw[Bool.not_eq_true'] at *
 exact gU h2 h1
theorem qU {α:Type}{le:α->α->Bool}(anti:∀a b,le a b=true->le b a=true->a=b):∀ {l m:List α},l.Perm m->l.Pairwise (fun a b=>le a b=true)->m.Pairwise (fun a b=>le a b=true)->l=m
 | [],m,p,_,_=>p.nil_eq
 | a::l,[],p,_,_=>by have:=p.length_eq;simp at this
 | a::l,b::m,p,h1,h2=>by
  obtain⟨h1a,h1b⟩:=List.pairwise_cons.mp h1
  obtain⟨h2a,h2b⟩:=List.pairwise_cons.mp h2
  have e:a=b:=by
   have ha:a∈b::m:=p.mem_iff.mp List.mem_cons_self
   have hb:b∈a::l:=p.mem_iff.mpr List.mem_cons_self
   rcases List.mem_cons.mp ha with e|ha
   ·exact e
   ·rcases List.mem_cons.mp hb with e|hb
    ·exact e.symm
    ·exact anti a b (h1a b hb) (h2a a ha)
  subst e
  rw[qU anti (List.perm_cons a |>.mp p) h1b h2b]
noncomputable def gW (l:List (List Int)):List (List Int):=l.mergeSort lexLe
theorem lI (l:List (List Int)):(gW l).Perm l:=List.mergeSort_perm l lexLe
theorem xn (l:List (List Int)):(gW l).Pairwise (fun a b=>lexLe a b=true):=List.pairwise_mergeSort uC u0 l
theorem sU {l m:List (List Int)}(p:l.Perm m) (h:l.Pairwise (fun a b=>lexLe a b=true)):l=gW m:=qU (fun _ _=>xo) (p.trans (lI m).symm) h (xn m)
noncomputable def rk (l:List (List Int)) (a:List Int):Int:=((l.countP fun b=>lexLt b a:Nat):Int)
theorem yS {l:List (List Int)}{a b:List Int}(ha:a∈l):lexLt a b=decide (rk l a < rk l b):=by
 unfold rk
 have mono:∀ {a b:List Int},lexLt a b=true->(l.countP fun c=>lexLt c a)<=l.countP fun c=>lexLt c b:=fun {a b} h=>List.countP_mono_left fun c _ hc=>di hc h
 have strict:∀ {a b:List Int}(ha:a∈l),lexLt a b=true->(l.countP fun c=>lexLt c a) < l.countP fun c=>lexLt c b:=fun {a b} ha h=>by
  have key:∀m:List (List Int),a∈m->(m.countP fun c=>lexLt c a) < m.countP fun c=>lexLt c b:=fun m hm=>by
   induction m with
   | nil=>cases hm
   | cons x m ih =>
    rw[List.countP_cons,List.countP_cons]
    have mo:(m.countP fun c=>lexLt c a)<=m.countP fun c=>lexLt c b:=List.countP_mono_left fun c _ hc=>di hc h
    rcases List.mem_cons.mp hm with e|hm
    ·subst e
     rw[fu,h]
     simp only[Bool.false_eq_true,if_false,if_true]
     omega
    ·have:=ih hm
     by_cases hx:lexLt x a=true
     ·rw[hx,di hx h];simp only[if_true];omega
     ·have hx':lexLt x a=false:=by simpa using hx
      rw[hx']
      simp only[Bool.false_eq_true,if_false]
      split<;>omega
  exact key l ha
 cases e:lexLt a b with
 | true=>exact (decide_eq_true (by have:=strict ha e;omega)).symm
 | false =>
  refine (decide_eq_false ?_).symm
  cases e2:lexLt b a with
  | true=>have:=mono e2;omega
  | false=>rw[gU e e2];omega
end Dl
namespace Dl
open PySem L2 PySem.Spec PyProof.Rows
section
variable {prog:Program}{w:World}{A:Around}{E:Value->Shared->Prop}{s:Shared}
theorem nR {Q:Bool->Shared->Prop}:∀ {us ws:List Value}{ns ms:List Int}(i:Nat),IntsAre us ns->IntsAre ws ms->Q (lexLt ns ms) s->PySem.W.KatLex prog w A true (decide (ns.length < ms.length)) Q (us.zip ws) i s
 | [],[],_,_,i,.nil,.nil,h=>h
 | [],_::_,_,_,i,.nil,.cons _ _ _,h=>by
  show Q (decide (0 < _+1)) s
  rw[decide_eq_true (Nat.succ_pos _)]
  exact h
 | _::_,[],_,_,i,.cons _ _ _,.nil,h=>by
  show Q (decide (_+1 < 0)) s
  rw[decide_eq_false (Nat.not_lt_zero _)]
  exact h
 | _::us,_::ws,_,_,i,.cons n t r1,.cons m u r2,h=>by
  have h:Q (HT.lexLt (n::_) (m::_)) s:=h
  rw[HT.da] at h
  refine PySem.W.kat_cons (SeqAt.EqAt.int_int n t m u prog w _ _ ?_)
  cases e:(n == m) with
  | true =>
   have e':n=m:=eq_of_beq e
   rw[if_pos e'] at h
   refine PySem.W.kat_yes ?_
   have:=nR (i+1) r1 r2 h
   simp only[List.length_cons,Nat.add_lt_add_iff_right]
   exact this
  | false =>
   have e':¬ n=m:=fun q=>by rw[q] at e;simp at e
   rw[if_neg e'] at h
   refine PySem.W.kat_no ?_
   by_cases hi:(true&&i == 0)=true
   ·rw[hi]
    exact oneLt_int h
   ·have hi':(true&&i == 0)=false:=by simpa using hi
    rw[hi']
    refine PySem.W.kat_one _ _ (lt_int ?_)
    exact h
end
noncomputable def af (ns:List Int):D:=.tuple (ns.map PyData.int)
noncomputable def intsOf:List D->Option (List Int)
 | []=>some []
 | .int n::r=>(intsOf r).map (n::·)
 | _::_=>none
theorem dk:∀ {ds:List D}{ns:List Int},intsOf ds=some ns->ds=ns.map PyData.int
 | [],ns,h=>by cases h;rfl
 | d::r,ns,h=>by
  cases d<;>simp only[intsOf] at h<;>try cases h
  obtain⟨ns',h1,rfl⟩:=map_some h
  rw[dk h1]
  rfl
theorem cA:∀ns:List Int,intsOf (ns.map PyData.int)=some ns
 | []=>rfl
 | n::ns=>by simp[intsOf,cA ns]
noncomputable def yO:D->Option (List Int)|.tuple ds=>(intsOf ds).bind fun ns=>if ns=[] then none else some ns|_=>none
theorem vV {d:D}{ns:List Int}(h:yO d=some ns):d=af ns/\ns≠[]:=by
 cases d<;>try cases h
 obtain⟨ms,h1,h2⟩:=bs h
 split at h2
 ·cases h2
 ·rename_i hn
  cases h2
  rw[dk h1]
  exact⟨rfl,hn⟩
theorem zg {ns:List Int}(h:ns≠[]):yO (af ns)=some ns:=by
 unfold af yO
 simp only[cA,Option.bind_some]
 rw[if_neg h]
noncomputable def rowsOf:List D->Option (List (List Int))
 | []=>some []
 | d::r=>(yO d).bind fun ns=>(rowsOf r).map (ns::·)
theorem i3:∀ {ds:List D}{nss:List (List Int)},rowsOf ds=some nss->ds=nss.map af/\∀ns∈nss,ns≠[]
 | [],nss,h=>by cases h;exact⟨rfl,fun _ z=>by cases z⟩
 | d::r,nss,h=>by
  obtain⟨ns,h1,h⟩:=bs h
  obtain⟨rest,h2,rfl⟩:=map_some h
  obtain⟨e,hn⟩:=vV h1
  obtain⟨e2,hn2⟩:=i3 h2
  refine⟨by rw[e,e2];rfl,fun m hm=>?_⟩
  rcases List.mem_cons.mp hm with q|q
  ·subst q;exact hn
  ·exact hn2 m q
theorem ig:∀ {nss:List (List Int)},(∀ns∈nss,ns≠[])->rowsOf (nss.map af)=some nss
 | [],_=>rfl
 | ns::r,h=>by
  simp only[List.map_cons,rowsOf,zg (h ns List.mem_cons_self),Option.bind_some,ig fun m hm=>h m (List.mem_cons_of_mem _ hm),Option.map_some]
structure vx (h:Heap) (v:Value) (ns:List Int):Prop where
 ex:∃ (a:Addr) (o:Obj) (its:Array Value) (n:Nat),v=.ref a/\h.get? a=some o/\o.cls=.type "tuple"/\o.data=.seq its n/\IntsAre its.toList ns
theorem vx.keep {h h':Heap}{v:Value}{ns:List Int}(r:vx h v ns) (k:∀b o,h.get? b=some o->h'.get? b=some o):vx h' v ns:=let ⟨a,o,its,n,e,e1,e2,e3,e4⟩:=r.ex;⟨a,o,its,n,e,k _ _ e1,e2,e3,e4⟩
section
variable {prog:Program}{w:World}{A:Around}{E:Value->Shared->Prop}{s:Shared}
theorem nW {h:Heap}:∀ {vs:List Value}{nss:List (List Int)},Paired (vx h) vs nss->(∀ns∈nss,ns≠[])->∃fs:List Value,PySem.W.KatTups h vs fs/\fs.length=vs.length/\∀f∈fs,∃n t,f=Value.int n t
 | _,_,.nil,_=>⟨[],trivial,rfl,fun _ z=>by cases z⟩
 | _,_,.cons (a:=v) (b:=ns) r p,hn=>by
  obtain⟨fs,h1,h2,h3⟩:=nW p fun m hm=>hn m (List.mem_cons_of_mem _ hm)
  obtain⟨a,o,its,n,rfl,e1,e2,e3,e4⟩:=r.ex
  cases hits:its.toList with
  | nil =>
   rw[hits] at e4
   cases e4
   exact absurd rfl (hn [] List.mem_cons_self)
  | cons f rest =>
   rw[hits] at e4
   cases e4 with
   | cons m t e5 =>
    have h0:its[0]?=some (.int m t):=by
     have:its.toList[0]?=some (Value.int m t):=by rw[hits];rfl
     simpa using this
    exact⟨.int m t::fs,PySem.W.KatTups.cons e1 e2 e3 h0 h1,by simp[h2],fun g hg=>by
     rcases List.mem_cons.mp hg with q|q
     ·exact⟨m,t,q⟩
     ·exact h3 g q⟩
theorem eZ {α β:Type}{R:α->β->Prop}{d:α}{d':β}:∀ {l:List α}{m:List β}{i:Nat},Paired R l m->i < l.length->R (l.getD i d) (m.getD i d')
 | _,_,i,.nil,h=>by simp at h
 | _,_,0,.cons r _,_=>r
 | _,_,i+1,.cons _ p,h=>by simpa using eZ (i:=i) (d:=d) (d':=d') p (by simpa using h)
theorem um {l:Addr}{vs:List Value}{nss:List (List Int)}{Q:Value->Shared->Prop}(hl:s.heap.IsList l vs.toArray) (hp:Paired (vx s.heap) vs nss) (hn:∀ns∈nss,ns≠[]) (h64:vs.length < 64)
  (h:∀ (h':Heap) (D:Addr) (c:Nat),(∀b o,s.heap.get? b=some o->h'.get? b=some o)->s.heap.objs.size<=D->h'.get? D=some (seqObj "list" (Srt.outV (fun i=>rk nss (nss.getD i [])) vs).toArray c)->Q (.ref D) { s with heap:=h' }) :
  wpAny (model prog w) A (call (.builtin "sorted") [.ref l]) Q E s:=by
 refine Srt.sortedG hl h64 (fun i=>rk nss (nss.getD i [])) (tuples' true) (fun h2 h' kp Q' q=>?_) (fun h2 h' kp i j C hi hj q=>?_) h
 ·have hp':Paired (vx h') vs nss:=Paired.mapP hp fun _ _ r=>r.keep kp
  obtain⟨fs,t,hlen,hf⟩:=nW hp' hn
  refine PySem.W.kat_kind (s:={ s with heap:=h' }) (T:=.type "int") t (by omega) (fun v hv=>?_) (by decide) q
  obtain⟨n,t,rfl⟩:=hf v hv
  exact PySem.W.Looks.of_pure rfl
 ·have ri:=(eZ (d:=Value.none) (d':=[]) hp hi).keep kp
  have rj:=(eZ (d:=Value.none) (d':=[]) hp hj).keep kp
  have hlen:=hp.length
  obtain⟨a,o,its,n,ea,e1,e2,e3,e4⟩:=ri.ex
  obtain⟨b,o',its',n',eb,f1,f2,f3,f4⟩:=rj.ex
  unfold PySem.W.kas_ask
  rw[ea,eb]
  have hmem:nss.getD i []∈nss:=by
   rw[List.getD_eq_getElem?_getD,List.getElem?_eq_getElem (by omega)]
   exact List.getElem_mem _
  have q':C (lexLt (nss.getD i []) (nss.getD j [])) { s with heap:=h' }:=by
   rw[yS hmem]
   exact q
  refine PySem.W.kat_lt (s:={ s with heap:=h' }) e1 e3 f1 f3 ?_
  have:=nR (prog:=prog) (w:=w) (A:=A.in1.in1) (s:={ s with heap:=h' }) 0 e4 f4 q'
  have l1:its.size=(nss.getD i []).length:=by have:=IntsAre.length e4;simpa using this
  have l2:its'.size=(nss.getD j []).length:=by have:=IntsAre.length f4;simpa using this
  rw[l1,l2]
  exact this
end
end Dl
namespace Dl
open PySem L2 PySem.Spec PyProof.Rows
noncomputable def nr {α:Type}(z:Nat->Int) (l:List α) (d:α):List α:=if l.length < 2 then l else (SP.run (SP.dN z) (PySem.W.kas_sort l.length)).toList.map fun i=>l.getD i d
theorem iY {α:Type}(l:List α) (d:α):(List.range l.length).map (fun i=>l.getD i d)=l:=by
 apply List.ext_getElem
 ·simp
 ·intro i h1 h2
  simp[h2]
theorem fA {α:Type}(z:Nat->Int) (l:List α) (d:α):(nr z l d).Perm l:=by
 unfold nr
 split
 ·exact List.Perm.refl _
 ·rename_i h
  have:=((SP.fT (z:=z) (n:=l.length) (by omega)).1).map fun i=>l.getD i d
  rw[iY] at this
  exact this
theorem Ee (nss:List (List Int)):nr (fun i=>rk nss (nss.getD i [])) nss []=gW nss:=by
 refine sU (fA _ _ _) ?_
 unfold nr
 split
 ·rename_i h
  match nss,h with
  | [],_=>exact List.Pairwise.nil
  | [a],_=>exact List.pairwise_singleton _ _
 ·rename_i h
  obtain⟨hp,hs⟩:=SP.fT (z:=fun i=>rk nss (nss.getD i [])) (n:=nss.length) (by omega)
  rw[List.pairwise_map] at hs ⊢
  refine hs.imp_of_mem fun {i j} hi hj hij=>?_
  have hj':j < nss.length:=by have:=hp.mem_iff.mp hj;simpa using this
  unfold lexLe
  rw[yS (l:=nss) (a:=nss.getD j []) (by rw[List.getD_eq_getElem?_getD,List.getElem?_eq_getElem hj'];exact List.getElem_mem _)]
  simp only[Bool.not_eq_true',decide_eq_false_iff_not]
  omega
section
variable {X:Cx}
theorem oh {K:PySem.W.Frag}{HF:Hp}{ds:List D}{vs:List V}(z:Nat->Int) (r:aq K HF ds vs):aq K HF (nr z ds .none) (nr z vs .non):=by
 unfold nr
 rw[r.length]
 split
 ·exact r
 ·rename_i h
  obtain⟨hp,_⟩:=SP.fT (z:=z) (n:=ds.length) (by omega)
  have key:∀l:List Nat,(∀i∈l,i < ds.length)->aq K HF (l.map fun i=>ds.getD i .none) (l.map fun i=>vs.getD i .non):=fun l=>by
   induction l with
   | nil=>exact fun _=>aq.nil
   | cons i l ih =>
    intro hl
    have hi:=hl i List.mem_cons_self
    obtain⟨v,e1,e2⟩:=r.getD (List.getElem?_eq_getElem hi)
    refine aq.cons ?_ (ih fun j hj=>hl j (List.mem_cons_of_mem _ hj))
    dsimp only
    rw[List.getD_eq_getElem?_getD,List.getD_eq_getElem?_getD,e1,List.getElem?_eq_getElem hi]
    exact e2
  exact key _ fun i hi=>by have:=hp.mem_iff.mp hi;simpa using this
theorem o8 {vs:List V}{us:List Value}(z:Nat->Int) (r:az vs us):az (nr z vs .non) (Srt.outV z us):=by
 unfold nr Srt.outV
 rw[r.length]
 split
 ·exact r
 ·rename_i h
  obtain⟨hp,_⟩:=SP.fT (z:=z) (n:=us.length) (by omega)
  have key:∀l:List Nat,(∀i∈l,i < vs.length)->az (l.map fun i=>vs.getD i .non) (l.map fun i=>us.getD i Value.none):=fun l=>by
   induction l with
   | nil=>exact fun _=>.nil
   | cons i l ih =>
    intro hl
    have hi:=hl i List.mem_cons_self
    obtain⟨v,e1,e2⟩:=r.get (List.getElem?_eq_getElem hi)
    refine .cons ?_ (ih fun j hj=>hl j (List.mem_cons_of_mem _ hj))
    dsimp only
    rw[List.getD_eq_getElem?_getD,List.getD_eq_getElem?_getD,e1,List.getElem?_eq_getElem hi]
    exact e2
  exact key _ fun i hi=>by have:=hp.mem_iff.mp hi;rw[r.length];simpa using this
theorem D8 (z:Nat->Int) (nss:List (List Int)):nr z (nss.map af) .none=(nr z nss []).map af:=by
 unfold nr
 rw[List.length_map]
 split
 ·rfl
 ·rename_i h
  rw[List.map_map]
  obtain⟨hp,_⟩:=SP.fT (z:=z) (n:=nss.length) (by omega)
  refine List.map_congr_left fun i hi=>?_
  have hi':i < nss.length:=by have:=hp.mem_iff.mp hi;simpa using this
  simp[hi']
theorem ll {pins:List (Addr×Obj)}{σ:L2.St}{H HF:Hp}{s:Shared}(I:Inv X pins σ H s) (sm:aV HF H):∀ {nss:List (List Int)}{vs:List V}{us:List Value},aq X.K HF (nss.map af) vs->az vs us->Paired (vx s.heap) us nss
 | [],_,_,h,r=>by rw[h.nil_inv] at r;cases r;exact .nil
 | ns::nss,_,_,h,r=>by
  obtain⟨v,vr,rfl,a,b⟩:=h.cons_inv
  cases r with
  | cons r rr =>
   refine .cons ?_ (ll I sm b rr)
   unfold af at a
   simp only[Rep] at a
   obtain⟨p,ws,rfl,hs,rw'⟩:=a
   cases r
   obtain⟨its,rv,⟨o,ho,hc,n,hd⟩,_⟩:=I.tuple (aw sm hs)
   have:ws=ns.map V.int:=by
    have key:∀ {ns:List Int}{ws:List V},aq X.K HF (ns.map PyData.int) ws->ws=ns.map V.int:=fun {ns}=>by
     induction ns with
     | nil=>exact fun h=>h.nil_inv
     | cons n ns ih =>
      intro ws h
      obtain⟨v,r,rfl,a,b⟩:=h.cons_inv
      simp only[Rep] at a
      rw[a,ih b]
      rfl
    exact key rw'
   subst this
   exact⟨p,o,its.toArray,n,rfl,ho,hc,hd,intsAre_of rv⟩
theorem lY:cD X (.builtin "sorted") (fun xs H Q=>∃ (HF:Hp) (a:Addr) (vs:List V) (nss:List (List Int)),xs=[.ref a]/\aV HF H/\gT X.K HF a vs/\aq X.K HF (nss.map af) vs/\(∀ns∈nss,ns≠[])/\nss.length < 64 /\
  ∀ (Dn:Addr) (us:List V),H Dn=none->aq X.K HF ((gW nss).map af) us->Q (.ref Dn) (upd H Dn (.lst us))):=by
 intro pins s σ H xs us Q I r h
 obtain⟨HF,a,vs,nss,rfl,sm,hq,rr,hn,h64,q⟩:=h
 obtain⟨u,rfl,rx⟩:=vals1 r
 cases rx
 obtain⟨its,rv,pl,hz⟩:=I.list (sm.seq hq)
 have hl1:=rr.length
 rw[List.length_map] at hl1
 refine um pl.isList (ll I sm rr rv) hn (by have:=rv.length;omega) fun h' Dn c kp hD e=>?_
 have hv:=o8 (fun i=>rk nss (nss.getD i [])) rv
 have hr:=oh (fun i=>rk nss (nss.getD i [])) rr
 rw[D8,Ee] at hr
 refine⟨.ref Dn,_,I.laid (t':=s.toks) (o:=.lst (nr (fun i=>rk nss (nss.getD i [])) vs .non)) kp hD ⟨?_,_,c,hv,e⟩,rfl,q Dn _ (I.hok.fresh hD) hr⟩
 rw[(fA _ _ _).length_eq]
 exact hz
noncomputable def cx:List D->Option (List D):=fun ds=>(oneOf ds).bind fun d=>match d with
 | .list es=>(rowsOf es).bind fun nss=>if nss.length < 64 then some ((gW nss).map af) else none
 | _=>none
variable {e:Expr}{fs:Env->Option (List D)}{p pos:Pos}
theorem zM (B:mv X "sorted" (.builtin "sorted")) (ha:DA X [e] fs) (he:starEach [e] X.env=(false,eval e X.env)::starEach [] X.env:=by rfl):DF X (.Call (.Name "sorted" p) [e] [] pos) (hV cx fs) :=
 CP lY (by
  intro HF H ds vs d Q sm r hg q
  obtain⟨x,hx,hg⟩:=bs hg
  rw[fF hx] at r
  cases x<;>try cases hg
  obtain⟨nss,hb,hg⟩:=bs hg
  split at hg
  ·rename_i h64
   cases hg
   obtain⟨v,r',rfl,a,b⟩:=r.cons_inv
   rw[b.nil_inv]
   simp only[Rep] at a
   obtain⟨p,us,rfl,h,rr⟩:=a
   obtain⟨e1,e2⟩:=i3 hb
   rw[e1] at rr
   exact⟨HF,p,us,nss,rfl,sm,h,rr,e2,h64,fun Dn ws hD hr=>q Dn ws _ HF (.own sm hD) hD (sm.free hD) aD hr⟩
  ·cases hg) B ha (by decide) (by decide) he rfl
end
end Dl
namespace En
open PySem PyProof.Rows
open AutoSeq1 (wpAny_loadPart')
section
variable {prog:Program}{w:World}{A:Around}{E:Value->Shared->Prop}{s:Shared}
theorem nextT_item {j t:Addr}{k:Nat}{its:Array Value}{v:Value}{Q:Value->Shared->Prop}(hj:s.heap.IsTupleIter j t k) (ht:s.heap.IsTuple t its) (hv:its[k]?=some v)
  (hQ:∀g,g.IsTupleIter j t (k+1)->Heap.SameBut j s.heap g->Q v { s with heap:=g }):wpAny (model prog w) A (Builtin.SmallTypes.nextOf (.ref j)) Q E s:=by
 obtain⟨oj,gj,cj,dj⟩:=id hj
 obtain⟨ot,gt,_,nt,dt⟩:=ht
 unfold Builtin.SmallTypes.nextOf
 refine wpAny_bind (wpAny_callSpecial?_slot (name:=Str.ofString "__next__") hj.typeIs F.slot_tuple_iterator_next (wpAny_call_entry F.slot_tuple_iterator_next hj.typeIs F.entry_tuple_iterator_next ?_ (F.args_tuple_iterator_next_1 _)))
 refine wpAny_bind (m:=field (.ref j) 0) (wpAny_field gj dj (x:=.ref t) rfl ?_)
 show wpAny _ _ (if (Value.ref t == Value.none)=true then _ else _) _ _ s
 rw[if_neg (show ¬ ((Value.ref t == Value.none)=true) by exact Bool.false_ne_true)]
 refine wpAny_bind (m:=field (.ref j) 1) (wpAny_field gj dj (x:=.int k 0) rfl ?_)
 refine wpAny_bind (m:=seqItems? (.ref t)) (wpAny_seqItems gt dt ?_)
 simp only[Int.toNat_natCast,hv]
 refine wpAny_bind (wpAny_setField gj dj (by simp) (wpAny_pure ⟨v,rfl,wpAny_pure (hQ _ ⟨_,Heap.get?_update_self _ gj (Obj.isFreed_of_fields (Obj.data_mapFields dj _)),(Obj.cls_mapFields ..).trans cj,?_⟩ (Heap.SameBut.update ..))⟩))
 rw[Obj.data_mapFields dj];simp[rawInt]
theorem nextT_end {j t:Addr}{k:Nat}{its:Array Value}{Q:Value->Shared->Prop}(hh:A.handled=none) (hj:s.heap.IsTupleIter j t k) (ht:s.heap.IsTuple t its) (hv:its[k]?=none)
  (hE:∀g x,Heap.ExtBut j s.heap g->(∃o,g.get? x=some o/\o.cls=.type "StopIteration")->E (.ref x) { s with heap:=g }):wpAny (model prog w) A (Builtin.SmallTypes.nextOf (.ref j)) Q E s:=by
 obtain⟨oj,gj,cj,dj⟩:=id hj
 obtain⟨ot,gt,_,nt,dt⟩:=ht
 unfold Builtin.SmallTypes.nextOf
 refine wpAny_bind (wpAny_callSpecial?_slot (name:=Str.ofString "__next__") hj.typeIs F.slot_tuple_iterator_next (wpAny_call_entry F.slot_tuple_iterator_next hj.typeIs F.entry_tuple_iterator_next ?_ (F.args_tuple_iterator_next_1 _)))
 refine wpAny_bind (m:=field (.ref j) 0) (wpAny_field gj dj (x:=.ref t) rfl ?_)
 show wpAny _ _ (if (Value.ref t == Value.none)=true then _ else _) _ _ s
 rw[if_neg (show ¬ ((Value.ref t == Value.none)=true) by exact Bool.false_ne_true)]
 refine wpAny_bind (m:=field (.ref j) 1) (wpAny_field gj dj (x:=.int k 0) rfl ?_)
 refine wpAny_bind (m:=seqItems? (.ref t)) (wpAny_seqItems gt dt ?_)
 simp only[Int.toNat_natCast,hv]
 refine wpAny_bind (wpAny_rule (wpAny_bind (wpAny_setField gj dj (by simp) (wpAny_bind (m:=newExc (.type "StopIteration") []) ?_))))
 simp only[newExc,newTuple]
 refine wpAny_bind (wpAny_newObj_type (wpAny_bind (m:=firstArgMember _ _) (wpAny_of_eq (a:=Value.none) (by first|rfl|(simp only[firstArgMember];rfl)) ?_)) (by size_fits))
 refine wpAny_newObj_type ?_ (by size_fits);simp only[raiseNew]
 refine wpAny_bind (wpAny_handled ?_)
 first|rw[show A.in1.handled=none from hh]|rw[hh]
 exact wpAny_bind (wpAny_pure (wpAny_throw (hE _ _ (((Heap.SameBut.update ..).extBut.push _).push _) ⟨_,Heap.get?_push_size _ rfl,rfl⟩)))
theorem meets_enumT (t:Addr) (its:Array Value) (n:Nat) (dd:Option Addr) (sl:Array (Option Value)) :
  Meets (Builtin.«enumerate.__new__» ⟨[.type "enumerate",.ref t],[]⟩) (fun _ R s=>s.heap.get? t=some { cls:=.type "tuple",dict:=dd,data:=.seq its n,slots:=sl } /\
   R (.ok (.ret (.ref (s.heap.push { cls:=.type "tuple_iterator",data:=.fields #[.ref t,.int 0 0] }).objs.size)))
    { s with heap:=(s.heap.push { cls:=.type "tuple_iterator",data:=.fields #[.ref t,.int 0 0] }).push { cls:=.type "enumerate",data:=.fields #[.none,.bool false,.ref s.heap.objs.size,rawInt 0,.none,.none] } }) :=
 .of_wp fun prog w A R s h=>by
  obtain⟨hp,g,d,tk,os⟩:=s
  obtain⟨hl,h⟩:=h
  have hsub:=sub_enumerate
  have hL:Heap.IsTuple (Shared.heap ⟨hp,g,d,tk,os⟩) t its:=⟨_,hl,rfl,n,rfl⟩
  wp_walk using wpAny_loadPart' hl
  refine wpAny_stack_any fun st=>wpAny_pure ?_
  split
  ·rename_i c _ _ _ _ _
   cases (c == Value.type "enumerate")
   ·wp_walk using wpAny_loadPart' hl,wpAny_pyIter_tuple hL
    exact⟨_,rfl,h⟩
   ·wp_walk using wpAny_loadPart' hl,wpAny_pyIter_tuple hL
    exact⟨_,rfl,h⟩
  ·wp_walk using wpAny_loadPart' hl,wpAny_pyIter_tuple hL
   exact⟨_,rfl,h⟩
theorem call_enumT {t:Addr}{its:Array Value}{Q:Value->Shared->Prop}(ht:s.heap.IsTuple t its)
  (h:∀h',IsEnum h' (s.heap.objs.size+1) s.heap.objs.size 0 .none->h'.IsTupleIter s.heap.objs.size t 0->h'.objs.size=s.heap.objs.size+2->(∀b o,s.heap.get? b=some o->h'.get? b=some o)->Q (.ref (s.heap.objs.size+1)) { s with heap:=h' }) :
  wpAny (model prog w) A (call (.type "enumerate") [.ref t]) Q E s:=by
 obtain⟨⟨c,dct,dt,sl⟩,hl,hc,n,hd⟩:=ht
 simp only at hc hd
 subst hc hd
 refine callType_new F.called_enumerate (by decide) (F.typeCall_enumerate_1 _) (F.newCall_enumerate_1 _) (fun obj=>F.args_object_init_2 obj _) F.entry_enumerate_new (meets_enumT t its n dct sl) ⟨hl,?_⟩
 have hz:(s.heap.push { cls:=.type "tuple_iterator",data:=.fields #[.ref t,.int 0 0] }).objs.size=s.heap.objs.size+1:=by rw[Heap.size_push]
 have he:=Heap.get?_push_size (s.heap.push { cls:=.type "tuple_iterator",data:=.fields #[.ref t,.int 0 0] }) (o:={ cls:=.type "enumerate",data:=.fields #[.none,.bool false,.ref s.heap.objs.size,rawInt 0,.none,.none] }) rfl
 show _/\_
 rw[hz] at he ⊢
 refine⟨⟨_,he,rfl⟩,h _ he ⟨_,Heap.get?_push_of_some _ (Heap.get?_push_size _ rfl),rfl,rfl⟩ ?_ fun b o x=>Heap.get?_push_of_some _ (Heap.get?_push_of_some _ x)⟩
 show (Heap.push _ _).objs.size=_
 rw[Heap.size_push,hz]
end
end En
namespace Dl
open PySem L2 PySem.Spec PyProof.Rows
section
variable {X:Cx}{pins:List (Addr×Obj)}{σ:L2.St}{H:Hp}{s:Shared}{h':Heap}{t':Nat}{ch:List Addr}
theorem uP (I:Inv X pins σ H s) (hch:∀b∈ch,cf X pins H b) (k:∀b o,b∉ch->s.heap.get? b=some o->h'.get? b=some o) {T:Addr}{vals:List Value}{xs:List V}(hT:s.heap.objs.size<=T) (ht:lQ h' T vals.toArray)
  (rv:az xs vals) (hz:xs.length<=sizeLine):Inv X pins σ (upd H T (.tup xs)) { s with heap:=h',toks:=t' }:=by
 have nT:H T=none:=I.hok.fresh hT
 have ne:∀b o,s.heap.get? b=some o->b≠T:=fun b o e=>Nat.ne_of_lt (Nat.lt_of_lt_of_le (Heap.lt_size e) hT)
 have ne2:∀b o,H b=some o->b≠T:=fun b o e=>aJ e nT
 have nch:∀b o,H b=some o->b∉ch:=fun b o e z=>by rw[(hch b z).1] at e;cases e
 refine I.step (g':=s.gens) (d':=s.drawn) (ch:=ch) (fun b hb=>?_) (fun b o _ _ hc e _=>k b o hc e) (fun b o _ _ hc e _=>⟨o.slots,k b o hc e⟩) (fun b o _ e n=>by rw[ay (ne b o e)];exact n)
  (fun b o hc e=>⟨o,k b o hc e⟩) (fun b ys e=>by rw[ay (ne2 b _ e)];exact e) (fun b o u e=>by rw[ay (ne2 b _ e)];exact e) (.kept (fun b u ⟨q,z⟩ e=>k b u (nch b _ z) e) fun b u e _=>by rw[ay (ne2 b _ e)];exact e) (fun m hm=>?_) (fun b u e=>?_) I.bare
 ·obtain⟨f0,f1,f2,f3,f4,f5⟩:=hch b hb
  exact⟨f3,f1,f4,f5⟩
 ·obtain⟨o,es,ep,ho,r⟩:=hm
  exact⟨o,es,ep,k _ o (fun z=>(hch _ z).2.1 rfl) ho,r⟩
 ·by_cases hb:b=T
  ·subst hb
   rw[aD] at e
   cases e
   exact⟨hz,vals,rv,ht⟩
  ·rw[ay hb] at e
   refine (I.hok b u e).stay (fun c v hc q=>k c v ?_ q) (fun _ q=>?_) fun c v q _=>?_
   ·rcases hc with z|z
    ·rw[z];exact nch b u e
    ·exact nch c _ z
   all_goals first
    | (rw[ay (ne2 _ _ q)];exact q)
    | exact q
theorem JE (I:Inv X pins σ H s) {a b:Addr}{o:Obj}(hf:cf X pins H b) (h:X.K.lookup a=some o):a≠b:=by
 rintro rfl
 have hb:=I.ok.mod.kin a o h
 rcases hf.2.2.2.1 with z|z
 ·exact I.ok.noex a o hb z
 ·exact absurd (Nat.lt_of_lt_of_le (Heap.lt_size (I.ok.bs a o hb).1) z) (Nat.lt_irrefl _)
theorem GN (I:Inv X pins σ H s) {a b:Addr}{xs:List V}(hf:cf X pins H b) (h:gT X.K H a xs):a≠b:=by
 rcases h with (h|⟨o,h⟩)|⟨o,its,n,h,_⟩
 ·exact aJ h hf.1
 ·exact aJ h hf.1
 ·exact JE I hf h
theorem GA (I:Inv X pins σ H s) {a b:Addr}{xs:List V}(hf:cf X pins H b) (h:iM X.K H a xs):a≠b:=by
 rcases h with (h|⟨o,h⟩)|⟨o,its,n,h,_⟩
 ·exact aJ h hf.1
 ·exact aJ h hf.1
 ·exact JE I hf h
end
noncomputable def K2 (sq:Hp->List V->Prop):It:=⟨fun i H=>∃xs x,sq H xs/\xs[i]?=some x,fun i H v H'=>∃T y,v=.ref T/\H T=none/\H'=upd H T (.tup [.int (i:Nat),y])/\∀xs,sq H xs->xs[i]?=some y,fun i H=>∃xs,sq H xs/\xs.length<=i⟩
noncomputable def bw (k:Nat):List D->List D
 | []=>[]
 | d::ds=>.tuple [.int (k:Nat),d]::bw (k+1) ds
theorem qp:∀ {ds:List D}{k i:Nat}{d:D},(bw k ds)[i]?=some d->∃x,ds[i]?=some x/\d=.tuple [.int ((k+i:Nat):Int),x]
 | [],k,i,d,h=>by simp[bw] at h
 | x::ds,k,0,d,h=>by simp[bw] at h;exact⟨x,rfl,h.symm⟩
 | x::ds,k,i+1,d,h=>by
  simp only[bw,List.getElem?_cons_succ] at h
  obtain⟨y,h1,h2⟩:=qp h
  refine⟨y,by simpa using h1,?_⟩
  rw[h2,show k+1+i=k+(i+1) by omega]
theorem jJ:∀ (ds:List D) (k:Nat),(bw k ds).length=ds.length
 | [],k=>rfl
 | x::ds,k=>by simp[bw,jJ ds (k+1)]
theorem zD {K:PySem.W.Frag}{HF:Hp}{sq:Hp->List V->Prop}{ds:List D}{vs:List V}(h:sq HF vs) (mo:∀H H',aV H H'->sq H vs->sq H' vs) (r:aq K HF ds vs):qZ K (K2 sq) HF (bw 0 ds) where
 go:=fun i d H₁ HF₁ e s1 s2=>by
  obtain⟨x,hx,rfl⟩:=qp e
  rw[Nat.zero_add]
  obtain⟨v,hv,rv⟩:=r.getD hx
  have q:=mo _ _ s2 (mo _ _ s1 h)
  refine⟨⟨vs,v,q,hv⟩,fun y H₂ ⟨T,z,e1,hT,e2,hy⟩=>?_⟩
  have:=hy vs q
  rw[hv] at this
  cases this
  subst e1 e2
  exact⟨_,.new s2 hT,cE (s2.free hT) (aq.cons (by simp[Rep]) (aq.cons (rv.mono s1) aq.nil))⟩
 stop:=fun H₁ HF₁ s1 s2=>⟨vs,mo _ _ s2 (mo _ _ s1 h),by rw[jJ,r.length];exact Nat.le_refl _⟩
end Dl
namespace Dl
open PySem L2 PySem.Spec PyProof.Rows
noncomputable def Ln (sq1 sq2:Hp->List V->Prop):It:=⟨fun i H=>∃xs ys x y,sq1 H xs/\sq2 H ys/\xs[i]?=some x/\ys[i]?=some y,
 fun i H v H'=>∃T x y,v=.ref T/\H T=none/\H'=upd H T (.tup [x,y])/\(∀xs,sq1 H xs->xs[i]?=some x)/\∀ys,sq2 H ys->ys[i]?=some y,
 fun i H=>∃xs ys,sq1 H xs/\sq2 H ys/\(xs.length<=i\/ys.length<=i)⟩
section
variable {X:Cx}{pins:List (Addr×Obj)}{σ:L2.St}{H:Hp}{s:Shared}{h':Heap}{t':Nat}{ch:List Addr}
theorem y0 (I:Inv X pins σ H s) (hch:∀b∈ch,cf X pins H b) (k:∀b o,b∉ch->s.heap.get? b=some o->h'.get? b=some o):Inv X pins σ H { s with heap:=h',toks:=t' }:=by
 have nch:∀b o,H b=some o->b∉ch:=fun b o e z=>by rw[(hch b z).1] at e;cases e
 refine I.step (g':=s.gens) (d':=s.drawn) (ch:=ch) (fun b hb=>?_) (fun b o _ _ hc e _=>k b o hc e) (fun b o _ _ hc e _=>⟨o.slots,k b o hc e⟩) (fun b o _ e n=>n)
  (fun b o hc e=>⟨o,k b o hc e⟩) (fun b ys e=>e) (fun b o u e=>e) (.kept (fun b u ⟨q,z⟩ e=>k b u (nch b _ z) e) fun b u e _=>e) (fun m hm=>?_) (fun b u e=>?_) I.bare
 ·obtain⟨f0,f1,f2,f3,f4,f5⟩:=hch b hb
  exact⟨f3,f1,f4,f5⟩
 ·obtain⟨o,es,ep,ho,r⟩:=hm
  exact⟨o,es,ep,k _ o (fun z=>(hch _ z).2.1 rfl) ho,r⟩
 ·refine (I.hok b u e).stay (fun c v hc q=>k c v ?_ q) (fun _ q=>q) fun c v q _=>q
  rcases hc with z|z
  ·rw[z];exact nch b u e
  ·exact nch c _ z
end
structure LY (z TI TO i1 i2:Addr):Prop where
 a1:TI≠z
 a2:TO≠z
 a3:i1≠z
 a4:i2≠z
 a5:TI≠TO
 a6:TI≠i1
 a7:TI≠i2
 a8:TO≠i1
 a9:TO≠i2
 a0:i1≠i2
section
variable {X:Cx}{l l':Expr}{fs:Env->Option (List D)}{elts:List Expr}{k:Nat}{pos p tp:Pos}
noncomputable def gN:List D->List D->List D
 | x::xs,y::ys=>.tuple [x,y]::gN xs ys
 | _,_=>[]
theorem oZ:∀ {xs ys:List D}{i:Nat}{d:D},(gN xs ys)[i]?=some d->∃x y,xs[i]?=some x/\ys[i]?=some y/\d=.tuple [x,y]
 | [],_,i,d,h=>by simp[gN] at h
 | _::_,[],i,d,h=>by simp[gN] at h
 | x::xs,y::ys,0,d,h=>by simp[gN] at h;exact⟨x,y,rfl,rfl,h.symm⟩
 | x::xs,y::ys,i+1,d,h=>by
  simp only[gN,List.getElem?_cons_succ] at h
  obtain⟨a,b,h1,h2,h3⟩:=oZ h
  exact⟨a,b,by simpa using h1,by simpa using h2,h3⟩
theorem lA:∀ (xs ys:List D),(gN xs ys).length=min xs.length ys.length
 | [],_=>by simp[gN]
 | _::_,[]=>by simp[gN]
 | x::xs,y::ys=>by simp[gN,lA xs ys]
theorem AV {K:PySem.W.Frag}{HF:Hp}{sq1 sq2:Hp->List V->Prop}{xs ys:List D}{vs us:List V}(h1:sq1 HF vs) (mo1:∀H H',aV H H'->sq1 H vs->sq1 H' vs) (h2:sq2 HF us) (mo2:∀H H',aV H H'->sq2 H us->sq2 H' us) (r1:aq K HF xs vs) (r2:aq K HF ys us) :
  qZ K (Ln sq1 sq2) HF (gN xs ys) where
 go:=fun i d H₁ HF₁ e s1 s2=>by
  obtain⟨x,y,hx,hy,rfl⟩:=oZ e
  obtain⟨v,hv,rv⟩:=r1.getD hx
  obtain⟨u,hu,ru⟩:=r2.getD hy
  have q1:=mo1 _ _ s2 (mo1 _ _ s1 h1)
  have q2:=mo2 _ _ s2 (mo2 _ _ s1 h2)
  refine⟨⟨vs,us,v,u,q1,q2,hv,hu⟩,fun w H₂ ⟨T,a,b,e1,hT,e2,ha,hb⟩=>?_⟩
  have ea:=ha vs q1
  have eb:=hb us q2
  rw[hv] at ea
  rw[hu] at eb
  cases ea
  cases eb
  subst e1 e2
  exact⟨_,.new s2 hT,cE (s2.free hT) (aq.cons (rv.mono s1) (aq.cons (ru.mono s1) aq.nil))⟩
 stop:=fun H₁ HF₁ s1 s2=>⟨vs,us,mo1 _ _ s2 (mo1 _ _ s1 h1),mo2 _ _ s2 (mo2 _ _ s1 h2),by rw[lA,r1.length,r2.length];omega⟩
end
end Dl
namespace Dl
open PySem L2 PySem.Spec PyProof.Rows
noncomputable def cut {α:Type}(xs:List α) (lo hi:Option Int):List α:=(xs.drop (HT.cn xs.length 0 lo)).take (HT.cn xs.length xs.length hi - HT.cn xs.length 0 lo)
theorem EY {α:Type}(xs:List α) (lo hi:Option Int):(cut xs lo hi).length<=xs.length:=by
 unfold cut;rw[List.length_take,List.length_drop];omega
theorem n0 {K:PySem.W.Frag}{H:Hp}{ds:List D}{vs:List V}(r:aq K H ds vs) (lo hi:Option Int):aq K H (cut ds lo hi) (cut vs lo hi):=by
 unfold cut;rw[r.length];exact (r.drop _).take _
section
variable {X:Cx}
theorem zN {prog:Program}{w:World}{A:Around}{E:Value->Shared->Prop}{s:Shared}{t sl:Addr}{its:Array Value}{vl vu:Value}{lo hi:Option Int}{Q:Value->Shared->Prop}(ht:IsTup s.heap t its) (hs:s.heap.IsSliceOf sl vl vu .none) (pl:IsPart vl lo) (pu:IsPart vu hi)
  (hw:HT.cn its.size 0 lo=0/\HT.cn its.size its.size hi=its.size) (h:Q (.ref t) s):wpAny (model prog w) A (getItem (.ref t) (.ref sl)) Q E s:=by
 obtain⟨os,hos,hcs,hds⟩:=id hs
 have hTs:s.TypeIs (.ref sl) "slice":=⟨os,hos,hcs⟩
 unfold getItem
 try with_reducible refine wpAny_holding ?_
 first|refine wpAny_bind (wpAny_pure ?_)|skip
 refine wpAny_bind (wpAny_sequenceKey ht.typeIs (by decide) (wpAny_bind (wpAny_callSpecial?_slot (name:=Str.ofString "__getitem__") ht.typeIs PyProof.Rows.slot_tuple_getitem (wpAny_call_entry PyProof.Rows.slot_tuple_getitem ht.typeIs entry_tuple_getitem ?_ (args_tuple_getitem _ _)))))
 refine wpAny_bind (m:=Builtin.Tuple.tupleItemsOf (.ref t)) (tupleItemsOf_ ht (wpAny_bind (wpAny_typeOf hTs ?_)))
 rw[if_pos (by decide)]
 refine wpAny_bind (HT.gD hs pl pu ?_)
 show wpAny _ _ (if (((HT.cn its.size 0 lo:Nat):Int) == 0&&(1:Int) == 1&&(HT.cn its.size its.size hi - HT.cn its.size 0 lo) == its.size)=true then _ else _) _ _ s
 rw[hw.1,hw.2,if_pos (by simp)]
 unfold Builtin.Tuple.tupleIsExact
 refine wpAny_bind (wpAny_bind (wpAny_typeOf ht.typeIs (wpAny_pure ?_)))
 rw[if_pos (by decide)]
 first
  | exact wpAny_bind (wpAny_rule (wpAny_pure ⟨_,rfl,wpAny_pure h⟩))
  | exact wpAny_bind (wpAny_rule (wpAny_bind (wpAny_pure (wpAny_pure ⟨_,rfl,wpAny_pure h⟩))))
noncomputable def KS (K:PySem.W.Frag):V->Option Int->Option Int->Hp->VK->Prop:=fun x lo hi H Q=>∃a xs,x=.ref a/\iM K H a xs/\(cut xs lo hi=xs->Q (.ref a) H)/\∀p,H p=none->Q (.ref p) (upd H p (.tup (cut xs lo hi)))
theorem Hx:Fk X (KS X.K):=by
 intro pins s σ H x v vl vu lo hi sl Q I rx hs pl pu h
 obtain⟨a,xs,rfl,hx,q1,q2⟩:=h
 by_cases hw:HT.cn xs.length 0 lo=0/\HT.cn xs.length xs.length hi=xs.length
 ·cases rx
  obtain⟨its,r,ht,hz⟩:=I.tuple hx
  have hlen:its.toArray.size=xs.length:=by rw[List.size_toArray];exact r.length.symm
  refine⟨"tuple",_,PyProof.Rows.slot_tuple_getitem.lookup,ht.typeIs,zN ht hs pl pu (by rw[hlen];exact hw) ⟨.ref a,H,I,rfl,q1 ?_⟩⟩
  unfold cut
  rw[hw.1,hw.2,List.drop_zero,Nat.sub_zero,List.take_length]
 ·exact GU pins s σ H (.ref a) v vl vu lo hi sl Q I rx hs pl pu ⟨a,xs,rfl,hx,hw,q2⟩
noncomputable def HY (K:PySem.W.Frag):V->Option Int->Option Int->Hp->VK->Prop:=fun x lo hi H Q=>∃a xs,x=.ref a/\gT K H a xs/\∀p,H p=none->Q (.ref p) (upd H p (.lst (cut xs lo hi)))
theorem wt (lo hi:Option Int) (n:Nat):sliceBounds lo hi none n=(((HT.cn n 0 lo:Nat):Int),((HT.cn n n hi:Nat):Int),1):=by
 have h1:(1:Int) > 0:=by omega
 refine Prod.ext ?_ (Prod.ext ?_ rfl)
 ·cases lo with
  | none=>simp[sliceBounds,HT.cn]
  | some x =>
   by_cases h:x < 0
   ·simp only[sliceBounds,HT.cn,Option.getD_none,h1,if_true,if_pos h];omega
   ·simp only[sliceBounds,HT.cn,Option.getD_none,h1,if_true,if_neg h];omega
 ·cases hi with
  | none=>simp[sliceBounds,HT.cn]
  | some x =>
   by_cases h:x < 0
   ·simp only[sliceBounds,HT.cn,Option.getD_none,h1,if_true,if_pos h];omega
   ·simp only[sliceBounds,HT.cn,Option.getD_none,h1,if_true,if_neg h];omega
theorem xH:Fk X (HY X.K):=by
 intro pins s σ H x v vl vu lo hi sl Q I rx hs pl pu h
 obtain⟨a,xs,rfl,hx,q⟩:=h
 cases rx
 obtain⟨its,r,p,hz⟩:=I.list hx
 have hlen:=r.length
 refine⟨"list",_,slot_list_getitem.lookup,p.isList.typeIs,wpAny_getItem_list_slice p.isList hs pl pu .none (by simp) ?_ (by rw[List.size_toArray];omega)⟩
 rw[PySem.W.kmk_pick_nat its.toArray (wt lo hi its.toArray.size)]
 have e:((its.toArray.toList.drop (HT.cn its.toArray.size 0 lo)).take (HT.cn its.toArray.size its.toArray.size hi - HT.cn its.toArray.size 0 lo))=cut its lo hi:=by unfold cut;simp
 rw[e]
 have rc:az (cut xs lo hi) (cut its lo hi):=by unfold cut;rw[hlen];exact (r.drop _).take _
 exact⟨.ref s.heap.objs.size,_,I.lnew (t':=s.toks) rc (Nat.le_trans (EY xs lo hi) hz),rfl,q _ I.fresh⟩
noncomputable def Ma (K:PySem.W.Frag) (f:Env->Option (Option Int)):TO:=fun σ H Q=>∃HF ρ o,aV HF H/\cG K HF ρ σ/\f ρ=some o/\∀H' HF',cb HF H HF' H'->Q o H'
noncomputable def DO (X:Cx) (e:Option Expr) (f:Env->Option (Option Int)):Prop:=PO X e (Ma X.K f)
noncomputable def jN:Env->Option (Option Int):=fun _=>some none
noncomputable def gI:D->Option Int|.int i=>some i|_=>none
noncomputable def vN (f:Env->Option D):Env->Option (Option Int):=fun ρ=>(f ρ).bind fun d=>(gI d).map some
theorem DK:DO X none jN:=fun pins s σ H Q I ⟨HF,ρ,o,sm,eo,hf,q⟩=>Ep pins s σ H Q I (by cases hf;exact q H HF (.refl sm))
theorem Ff {e:Expr}{f:Env->Option D}(h:DE X e f):DO X (some e) (vN f):=fun pins s σ H Q I ⟨HF,ρ,o,sm,eo,hf,q⟩=>nj h pins s σ H Q I (by
 obtain⟨d,hd,hf⟩:=bs hf
 obtain⟨i,hi,rfl⟩:=map_some hf
 cases d<;>try cases hi
 exact⟨HF,ρ,_,sm,eo,hd,fun v H1 HF1 g1 r1=>⟨_,by simpa only[Rep] using r1,q H1 HF1 g1⟩⟩)
variable {a:Expr}{lo hi:Option Expr}{fa:Env->Option D}{fl fh:Env->Option (Option Int)}{pos p2:Pos}
noncomputable def jL {β:Type}(g:D->Option Int->Option Int->Option β) (fa:Env->Option D) (fl fh:Env->Option (Option Int)):Env->Option β:=fun ρ=>(fa ρ).bind fun x=>(fl ρ).bind fun l=>(fh ρ).bind fun h=>g x l h
end
end Dl
namespace Dl
open PySem L2 PySem.Spec PyProof.Rows
theorem ub {α β:Type}{f g:α->Option β}:∀ {l:List α},(∀x∈l,f x=g x)->l.filterMap f=l.filterMap g
 | [],_=>rfl
 | x::l,h=>by rw[List.filterMap_cons,List.filterMap_cons,h x List.mem_cons_self,ub fun y hy=>h y (List.mem_cons_of_mem _ hy)]
theorem BZ (xs:List Value):((List.range xs.length).filterMap fun (k:Nat)=>xs.toArray[(((xs.length:Nat):Int) - 1+(k:Int) * (-1)).toNat]?)=xs.reverse:=by
 have e:∀k∈List.range xs.length,xs.toArray[(((xs.length:Nat):Int) - 1+(k:Int) * (-1)).toNat]?=xs.reverse[k]?:=fun k hk=>by
  have hk':k < xs.length:=by simpa using hk
  have:(((xs.length:Nat):Int) - 1+(k:Int) * (-1)).toNat=xs.length - 1 - k:=by omega
  rw[this,List.getElem?_toArray,List.getElem?_reverse hk']
 rw[ub e]
 have:=xs.length_reverse
 apply List.ext_getElem?
 intro i
 have key:∀ (l:List Value),(List.range l.length).filterMap (fun (k:Nat)=>l[k]?)=l:=fun l=>by
  induction l with
  | nil=>rfl
  | cons x l ih =>
   rw[List.length_cons,List.range_succ_eq_map,List.filterMap_cons]
   simp only[List.getElem?_cons_zero]
   rw[List.filterMap_map]
   congr 1
 have k2:=key xs.reverse
 rw[List.length_reverse] at k2
 rw[k2]
theorem Ec {prog:Program}{w:World}{A:Around}{E:Value->Shared->Prop}{s:Shared}{t sl:Addr}{its:List Value}{tk:Tok}{Q:Value->Shared->Prop}(ht:IsTup s.heap t its.toArray) (hs:s.heap.IsSliceOf sl .none .none (.int (-1) tk))
  (hz:its.length<=sizeLine) (h:Q (.ref s.heap.objs.size) { s with heap:=s.heap.push { cls:=.type "tuple",data:=.seq its.reverse.toArray } }):wpAny (model prog w) A (getItem (.ref t) (.ref sl)) Q E s:=by
 obtain⟨os,hos,hcs,hds⟩:=id hs
 have hTs:s.TypeIs (.ref sl) "slice":=⟨os,hos,hcs⟩
 unfold getItem
 try with_reducible refine wpAny_holding ?_
 first|refine wpAny_bind (wpAny_pure ?_)|skip
 refine wpAny_bind (wpAny_sequenceKey ht.typeIs (by decide) (wpAny_bind (wpAny_callSpecial?_slot (name:=Str.ofString "__getitem__") ht.typeIs PyProof.Rows.slot_tuple_getitem (wpAny_call_entry PyProof.Rows.slot_tuple_getitem ht.typeIs entry_tuple_getitem ?_ (args_tuple_getitem _ _)))))
 refine wpAny_bind (m:=Builtin.Tuple.tupleItemsOf (.ref t)) (tupleItemsOf_ ht (wpAny_bind (wpAny_typeOf hTs ?_)))
 rw[if_pos (by decide)]
 have hap:∀ {R:Int×Int×Nat->Shared->Prop},R (((its.length:Nat):Int) - 1,-1,its.length) s->wpAny (model prog w) A.in1 (Builtin.Slice.sliceApplied (.ref sl) (pure ((its.toArray.size:Nat):Int))) R E s:=fun {R} hR=>by
  unfold Builtin.Slice.sliceApplied Builtin.Slice.sliceFields
  refine wpAny_bind (wpAny_bind (wpAny_field hos hds (x:=.none) rfl (wpAny_bind (wpAny_field hos hds (x:=.none) rfl (wpAny_bind (wpAny_field hos hds (x:=.int (-1) tk) rfl (wpAny_pure ?_)))))))
  refine wpAny_bind (slicePart_int ?_)
  show wpAny _ _ (if ((-1:Int) == 0)=true then _ else _) _ _ s
  rw[if_neg (by decide)]
  refine wpAny_bind (slicePart_none (wpAny_bind (slicePart_none (wpAny_bind (wpAny_pure ?_)))))
  have e1:Builtin.Slice.sliceAdjust none none (-1) ((its.toArray.size:Nat):Int)=(((its.length:Nat):Int) - 1,-1):=by simp[Builtin.Slice.sliceAdjust]
  show wpAny _ _ (match Builtin.Slice.sliceAdjust none none (-1) ((its.toArray.size:Nat):Int) with|(lo,hi)=>pure (lo,(-1:Int),Builtin.Slice.slicePlaces lo hi (-1))) _ _ s
  rw[e1]
  have e2:Builtin.Slice.slicePlaces (((its.length:Nat):Int) - 1) (-1) (-1)=its.length:=by
   unfold Builtin.Slice.slicePlaces
   rw[if_neg (by decide)]
   simp only[Int.neg_neg,Int.ediv_one]
   split<;>omega
  show wpAny _ _ (pure (((its.length:Nat):Int) - 1,(-1:Int),Builtin.Slice.slicePlaces (((its.length:Nat):Int) - 1) (-1) (-1))) _ _ s
  rw[e2]
  exact wpAny_pure hR
 first
  | refine wpAny_bind (hap ?_)
  | refine wpAny_bind (wpAny_of_in1 (hap ?_))
 show wpAny _ _ (if ((((its.length:Nat):Int) - 1) == 0&&(-1:Int) == 1&&its.length == its.toArray.size)=true then _ else _) _ _ s
 rw[if_neg (by simp),BZ]
 have hz':sizeOk (.seq its.reverse.toArray):=by show its.reverse.toArray.size<=sizeLine;simpa using hz
 first
  | exact wpAny_bind (m:=Builtin.Tuple.tupleExact _) (wpAny_newObj_type (wpAny_pure ⟨_,rfl,wpAny_pure h⟩) hz')
  | exact wpAny_bind (m:=Builtin.Tuple.tupleExact _) (wpAny_newObj_type (wpAny_bind (wpAny_pure (wpAny_pure ⟨_,rfl,wpAny_pure h⟩))) hz')
  | exact wpAny_bind (wpAny_bind (m:=Builtin.Tuple.tupleExact _) (wpAny_newObj_type (wpAny_pure (wpAny_pure ⟨_,rfl,wpAny_pure h⟩)) hz'))
  | exact wpAny_bind (wpAny_bind (m:=Builtin.Tuple.tupleExact _) (wpAny_newObj_type (wpAny_pure ⟨_,rfl,wpAny_pure h⟩) hz'))
section
variable {X:Cx}{a:Expr}{fa:Env->Option D}{pos p2 p3 p4:Pos}{j:Nat}
theorem IQ {ta:TE}(ha:PE X a ta):PE X (.Subscript a (.Slice none none (some (.UnaryOp .USub (.Constant (.int 1) j p4) p3)) p2) pos) (fun σ H Q=>ta σ H fun x H1=>∃b xs,x=.ref b/\iM X.K H1 b xs/\∀p,H1 p=none->Q (.ref p) (upd H1 p (.tup xs.reverse))):=by
 intro pins s σ H Q I h
 refine Subscript_ (bP (ha pins s σ H _ I h) fun v s1 ⟨x,H1,I1,r1,b,xs,e,hq,q⟩=>?_)
 subst e
 cases r1
 refine wpAny_Slice ?_
 rw[evalPart_none]
 refine wpAny_pure (wpAny_pure ?_)
 have hst:=nj (X:=X) (Aw (op:=.USub) v8 (rJ (X:=X) (i:=1) (j:=j) (pos:=p4)) (pos:=p3)) pins s1 σ H1 (fun o H'=>o=some (-1)/\H'=H1) I1 ⟨1,rfl,-1,rfl,rfl,rfl⟩
 refine bP hst fun vst s2 ⟨o,H2,I2,pst,e1,e2⟩=>?_
 subst e1 e2
 cases pst with
 | int _ tk =>
 obtain⟨its,r,ht,hz⟩:=I2.tuple hq
 have I4:Inv X pins σ H2 { s2 with heap:=s2.heap.push { cls:=.type "slice",data:=.fields #[.none,.none,.int (-1) tk] } }:=I2.kept (t':=s2.toks) fun b ob q=>Heap.get?_push_of_some _ q
 obtain⟨its',r',ht',_⟩:=I4.tuple hq
 refine tail_any (ops:=[.ref b,.ref s2.heap.objs.size]) ht'.typeIs PyProof.Rows.slot_tuple_getitem.lookup (Ec ht' (Heap.IsSliceOf.new ..) (by rw[<- r'.length];exact hz) ?_) (by with_unfolding_all rfl)
 have hv:az xs.reverse its'.reverse:=L2.az.reverse r'
 exact⟨.ref _,_,I4.laid (t':=s2.toks) (o:=.tup xs.reverse) (fun b ob q=>Heap.get?_push_of_some _ q) (Nat.le_refl _) ⟨by rw[List.length_reverse];exact hz,_,hv,lQ.new _ _⟩,rfl,q _ I4.fresh⟩
noncomputable def J5:D->Option D|.tuple ds=>some (.tuple ds.reverse)|_=>none
noncomputable def f1 (g:D->Option D) (f:Env->Option D):Env->Option D:=fun ρ=>(f ρ).bind g
theorem G8 (ha:DE X a fa):DE X (.Subscript a (.Slice none none (some (.UnaryOp .USub (.Constant (.int 1) j p4) p3)) p2) pos) (f1 J5 fa):=aN (IQ ha) fun σ H Q ⟨HF,ρ,d,sm,eo,hf,q⟩=>by
 obtain⟨x,hx,hf⟩:=bs hf
 refine⟨HF,ρ,x,sm,eo,hx,fun v1 H1 HF1 g1 r1=>?_⟩
 cases x<;>try cases hf
 simp only[Rep] at r1
 obtain⟨b,vs,rfl,hs,rr⟩:=r1
 exact⟨b,vs,rfl,aw g1.fh hs,fun p hp=>q _ _ _ (g1.trans (.new g1.fh hp)) (cE (g1.fh.free hp) rr.reverse)⟩
end
end Dl
namespace HT
open PySem PyProof.Rows
section
open PySem.SeqAt
open PySem.AutoSeq1 (wpAny_loadPart')
open PySem.MeetsSeq PySem.MeetsSeq2 PySem.MeetsSeq3
theorem Az (A:Around) (s:Shared) (a:Int) (t:Tok) (c:Int) (u:Tok) (prog:Program) (w:World) (E:Value->Shared->Prop) (Q:Value->Shared->Prop) (h:Q (.bool (decide (c<=a))) s) :
  wpAny (model prog w) A (richCompare .GtE (.int a t) (.int c u)) Q E s :=
 (PyProof.Rows.ge_int h:wpAny (model prog w) A (compareOp .GtE (.int a t) (.int c u)) Q E s)
theorem qa (l b:Addr) (items items2:Array Value) (n n2:Nat) (dd dd2:Option Addr) (sl sl2:Array (Option Value)) (ns ms:List Int) (hi:IntsAre items.toList ns) (hj:IntsAre items2.toList ms) :
  Meets (Builtin.«tuple.__ge__» ⟨[.ref l,.ref b],[]⟩)
   (fun _ R s=>s.heap.get? l=some { cls:=.type "tuple",dict:=dd,data:=.seq items n,slots:=sl }/\s.heap.get? b=some { cls:=.type "tuple",dict:=dd2,data:=.seq items2 n2,slots:=sl2 } /\
    R (.ok (.ret (.bool (!lexLt ns ms)))) s) :=
 .of_wp fun prog w A R s h=>by
  obtain⟨hp,g,d,tk,os⟩:=s;obtain⟨hl,hb,h⟩:=h
  have f2:=AutoSeq1.sub_tuple_tuple
  have z1:items.size=ns.length:=by rw[<- hi.length];simp
  have z2:items2.size=ms.length:=by rw[<- hj.length];simp
  wp_walk using wpAny_loadPart' hl,wpAny_loadPart' hb,wpAny_forIn_list _ (fun rest b s'=>b.1=none/\s'=⟨hp,g,d,tk,os⟩/\∃ (vs ws:List Value) (ns' ms':List Int),rest=vs.zip ws /\
   IntsAre vs ns'/\IntsAre ws ms'/\ns'.length+items2.size=ms'.length+items.size/\R (.ok (.ret (.bool (!lexLt ns' ms')))) ⟨hp,g,d,tk,os⟩) _
  case turn =>
   rintro⟨y,x⟩ rest b s' ⟨hb',rfl,vs,ws,ns',ms',hz,hvi,hwi,hlen,hR⟩
   cases hvi with
   | nil=>rw[List.zip_nil_left] at hz;cases hz
   | cons a t hvi' =>
    cases hwi with
    | nil=>rw[List.zip_nil_right] at hz;cases hz
    | cons c u hwi' =>
     rw[List.zip_cons_cons] at hz
     injection hz with hyx hrest
     injection hyx with hy hx
     subst hy hx
     rw[da] at hR
     simp only[List.length_cons] at hlen
     obtain⟨e,he,hiff⟩:=Cu A.in1 ⟨hp,g,d,tk,os⟩ a t c u
     refine wpAny_bind (he prog w _ _ ?_)
     cases e with
     | true =>
      rw[if_pos (hiff.mp rfl)] at hR
      wp_walk
      exact⟨rfl,rfl,_,_,_,_,hrest,hvi',hwi',by omega,hR⟩
     | false =>
      rw[if_neg (fun q=>absurd (hiff.mpr q) Bool.false_ne_true)] at hR
      have hri:=Az A.in1 ⟨hp,g,d,tk,os⟩ a t c u prog w
      have e1:(!decide (a < c))=decide (c<=a):=by
       rw[<- decide_not]
       exact decide_eq_decide.mpr (by omega)
      rw[e1] at hR
      wp_walk using hri
      exact⟨_,rfl,hR⟩
  case fin =>
   rintro⟨b1,b2⟩ s' ⟨hb',rfl,vs,ws,ns',ms',hz,hvi,hwi,hlen,hR⟩
   simp only at hb'
   subst hb'
   have hv:lexLt ns' ms'=decide (items.size < items2.size):=by
    cases hvi with
    | nil =>
     cases hwi with
     | nil =>
      simp only[List.length_nil] at hlen
      rw[p6]
      exact (decide_eq_false (by omega)).symm
     | cons c u hw =>
      simp only[List.length_nil,List.length_cons] at hlen
      rw[pd]
      exact (decide_eq_true (by omega)).symm
    | cons a t hv =>
     cases hwi with
     | nil =>
      simp only[List.length_nil,List.length_cons] at hlen
      rw[oN]
      exact (decide_eq_false (by omega)).symm
     | cons c u hw =>
      rw[List.zip_cons_cons] at hz
      cases hz
   have hv2:(!lexLt ns' ms')=decide (items.size >= items2.size):=by
    rw[hv,<- decide_not]
    exact decide_eq_decide.mpr (by omega)
   rw[hv2] at hR
   wp_walk
   exact⟨_,rfl,hR⟩
  case h =>
   exact⟨rfl,rfl,items.toList,items2.toList,ns,ms,rfl,hi,hj,by omega,h⟩
end
end HT
namespace Dl
open PySem L2 PySem.Spec PyProof.Rows
section
variable {X:Cx}
noncomputable def lh:D->Option (List Int)|.tuple ds=>intsOf ds|_=>none
theorem iE {x:D}{ns:List Int}(h:lh x=some ns):x=.tuple (ns.map PyData.int):=by
 cases x<;>try cases h
 rename_i xs
 have h:intsOf xs=some ns:=h
 rw[dk h]
noncomputable def Jh:D->D->Option Bool:=fun x y=>(lh x).bind fun ns=>(lh y).map fun ms=>!lexLt ns ms
theorem BV (hu:X.A.units < cLine):gA X (compareOp .GtE) (J3 X.K Jh):=by
 intro pins s σ H v1 v2 u1 u2 Q I rx ry h
 obtain⟨HF,x,y,k,sm,r1,r2,hg,q⟩:=h
 obtain⟨ns,h1,hg⟩:=bs hg
 obtain⟨ms,h2,rfl⟩:=map_some hg
 rw[iE h1] at r1
 rw[iE h2] at r2
 have key:∀ {ns:List Int}{v:V}{u:Value},Rep X.K HF (.tuple (ns.map PyData.int)) v->RelV v u->∃a its,u=.ref a/\IsTup s.heap a its/\IntsAre its.toList ns:=fun {ns v u} r rv=>by
  have p:vx s.heap u ns:=by
   cases ll (X:=X) (us:=[u]) (vs:=[v]) (nss:=[ns]) I sm (aq.cons r aq.nil) (.cons rv .nil) with
   | cons p _=>exact p
  obtain⟨a,o,its,n,rfl,e1,e2,e3,e4⟩:=p.ex
  exact⟨a,its,rfl,⟨o,e1,e2,n,e3⟩,e4⟩
 obtain⟨a,its,rfl,⟨⟨cls,dd,data,sl⟩,ho,hc,n,hd⟩,i1⟩:=key r1 rx
 obtain⟨b,its2,rfl,⟨⟨cls2,dd2,data2,sl2⟩,ho2,hc2,n2,hd2⟩,i2⟩:=key r2 ry
 simp only at hc hd hc2 hd2
 subst hc hd hc2 hd2
 exact richCompare_meets_room (op:=.GtE) ⟨_,ho,rfl⟩ ⟨_,ho2,rfl⟩ PySem.F.slot_tuple_ge PySem.F.entry_tuple_ge (PySem.F.args_tuple_ge_2 _ _) (HT.qa a b its its2 n n2 dd dd2 sl sl2 ns ms i1 i2)
  ⟨ho,ho2,show Value.bool (!lexLt ns ms)≠Value.notImplemented/\EP X pins σ Q (.bool (!lexLt ns ms)) s from ⟨(fun x=>nomatch x),⟨.bl _,H,I,rfl,q⟩⟩⟩ hu
end
end Dl
namespace En
open PySem PyProof.Rows
open AutoSeq1 (wpAny_loadPart')
theorem noFill_tup:fillsNumberSlot (.type "tuple") "mul"=pure false:=PySem.fillsNumberSlot_seq (id:="tuple.__mul__") (r:=some (.builtin "tuple.__rmul__")) F.slot_tuple_mul.lookup (by decide +kernel) F.slot_tuple_rmul.lookup (by decide +kernel)
theorem repeat_tup:seqRepeat? (.type "tuple")=pure (some (.builtin "tuple.__mul__")):=by
 unfold seqRepeat?
 rw[PySem.seqSlot_of (T:="tuple") (name:="__mul__") (id:="tuple.__mul__") F.slot_tuple_mul.lookup (by decide +kernel),PySem.seqSlot_of (T:="tuple") (name:="__rmul__") (id:="tuple.__rmul__") F.slot_tuple_rmul.lookup (by decide +kernel)];rfl
theorem rmul_tup (a:Int) (t:Tok) (l:Addr) (its:Array Value) (n:Nat) (dd:Option Addr) (sl:Array (Option Value)) :
  Meets (Builtin.«int.__rmul__» ⟨[.int a t,.ref l],[]⟩) (fun _ R s=>s.heap.get? l=some { cls:=.type "tuple",dict:=dd,data:=.seq its n,slots:=sl }/\R (.ok (.ret Value.notImplemented)) s) :=
 .of_wp fun prog w A R s h=>by
  obtain⟨hp,g,d,tk,os⟩:=s;obtain⟨hl,h⟩:=h
  wp_walk
  exact⟨_,rfl,h⟩
end En
namespace En
open PySem PyProof.Rows
open AutoSeq1 (wpAny_loadPart')
theorem mulT_same (l:Addr) (its:Array Value) (n:Nat) (dd:Option Addr) (sl:Array (Option Value)) (k:Int) (t:Tok) (h1:¬ (decide (k < -(2 ^ 63))||decide (k >= 2 ^ 63))=true) (h2:(its.isEmpty||k == 1)=true) :
  Meets (Builtin.«tuple.__mul__» ⟨[.ref l,.int k t],[]⟩) (fun _ R s=>s.heap.get? l=some { cls:=.type "tuple",dict:=dd,data:=.seq its n,slots:=sl }/\R (.ok (.ret (.ref l))) s) :=
 .of_wp fun prog w A R s h=>by
  obtain⟨hp,g,d,tk,os⟩:=s;obtain⟨hl,h⟩:=h
  have f1:=AutoSeq1.idx_int
  wp_walk using wpAny_loadPart' hl
  rw[if_neg h1]
  wp_walk using wpAny_loadPart' hl
  exact⟨_,rfl,h⟩
theorem mulT_none (l:Addr) (its:Array Value) (n:Nat) (dd:Option Addr) (sl:Array (Option Value)) (k:Int) (t:Tok) (h1:¬ (decide (k < -(2 ^ 63))||decide (k >= 2 ^ 63))=true) (h2:¬ (its.isEmpty||k == 1)=true) (h3:(decide (k<=0)||its.isEmpty)=true) :
  Meets (Builtin.«tuple.__mul__» ⟨[.ref l,.int k t],[]⟩) (fun _ R s=>s.heap.get? l=some { cls:=.type "tuple",dict:=dd,data:=.seq its n,slots:=sl }/\R (.ok (.ret (.ref s.heap.objs.size))) { s with heap:=s.heap.push { cls:=.type "tuple",data:=.seq #[] } }) :=
 .of_wp fun prog w A R s h=>by
  obtain⟨hp,g,d,tk,os⟩:=s;obtain⟨hl,h⟩:=h
  have f1:=AutoSeq1.idx_int
  wp_walk using wpAny_loadPart' hl
  rw[if_neg h1]
  wp_walk using wpAny_loadPart' hl
  exact⟨_,rfl,h⟩
theorem mulT_many (l:Addr) (its:Array Value) (n:Nat) (dd:Option Addr) (sl:Array (Option Value)) (k:Int) (t:Tok) (h1:¬ (decide (k < -(2 ^ 63))||decide (k >= 2 ^ 63))=true) (h2:¬ (its.isEmpty||k == 1)=true) (h3:¬ (decide (k<=0)||its.isEmpty)=true)
  (h4:¬ ((its.size:Nat):Int) * k > (2 ^ 63 - 1) / 8) (h5:¬ Builtin.Tuple.tupleTooMany (((its.size:Nat):Int) * k)=true) (hz:((List.replicate k.toNat its).foldl (·++·) #[]).size<=sizeLine) :
  Meets (Builtin.«tuple.__mul__» ⟨[.ref l,.int k t],[]⟩) (fun _ R s=>s.heap.get? l=some { cls:=.type "tuple",dict:=dd,data:=.seq its n,slots:=sl }/\R (.ok (.ret (.ref s.heap.objs.size))) { s with heap:=s.heap.push { cls:=.type "tuple",data:=.seq ((List.replicate k.toNat its).foldl (·++·) #[]) } }) :=
 .of_wp fun prog w A R s h=>by
  obtain⟨hp,g,d,tk,os⟩:=s;obtain⟨hl,h⟩:=h
  have f1:=AutoSeq1.idx_int
  wp_walk using wpAny_loadPart' hl
  rw[if_neg h1]
  wp_walk using wpAny_loadPart' hl
  rw[if_neg h4]
  wp_walk using wpAny_loadPart' hl
  exact⟨_,rfl,h⟩
end En
namespace Dl
open PySem L2 PySem.Spec PyProof.Rows
section
variable {X:Cx}
noncomputable def FC (K:PySem.W.Frag):R2:=fun x y H Q=>∃a k xs,x=.ref a/\y=.int k/\iM K H a xs/\-(2 ^ 62)<=k/\k < 2 ^ 62/\xs.length * k.toNat<=sizeLine/\((List.replicate k.toNat xs).flatten=xs->Q (.ref a) H) /\
 ∀p,H p=none->Q (.ref p) (upd H p (.tup (List.replicate k.toNat xs).flatten))
theorem EM:gA X (binaryOp .Mult) (FC X.K):=by
 intro pins s σ H x y v u Q I rx ry h
 obtain⟨a,k,xs,rfl,rfl,hq,k1,k2,hz,q1,q2⟩:=h
 cases rx
 obtain⟨t,rfl⟩:=ry
 obtain⟨its,r,pl,hzx⟩:=I.tuple hq
 have hl:=r.length
 obtain⟨⟨cls,dd,data,sl⟩,ho,hc,n,hd⟩:=id pl
 simp only at hc hd
 subst hc hd
 have b1:¬ (decide (k < -(2 ^ 63))||decide (k >= 2 ^ 63))=true:=by
  simp only[Bool.or_eq_true,decide_eq_true_eq]
  omega
 refine wpAny_binaryOp_repeat_ref (T:="tuple") (U:="int") (by decide) ⟨_,ho,rfl⟩ (fun s'=>typeIs_int s' k t) En.noFill_tup F.fills_int_mul F.slot_int_rmul En.repeat_tup F.slot_int_index.lookup
  (call_meets F.slot_int_rmul (typeIs_int s k t) F.entry_int_rmul (F.args_int_rmul_2 _ _) (En.rmul_tup k t a its.toArray n dd sl) ⟨ho,rfl,⟨_,ho,rfl⟩,?_⟩)
 have hfl:∀m:Nat,List.foldl (fun x1 x2=>x1++x2) #[] (List.replicate m its.toArray)=(List.replicate m its).flatten.toArray:=fun m=>by
  have:=foldl_rep its m []
  rw[List.nil_append] at this
  exact this
 by_cases h2:(its.toArray.isEmpty||k == 1)=true
 ·refine call_meets F.slot_tuple_mul ⟨_,ho,rfl⟩ F.entry_tuple_mul (F.args_tuple_mul_2 _ _) (En.mulT_same a its.toArray n dd sl k t b1 h2) ⟨ho,⟨.ref a,H,I,rfl,q1 ?_⟩⟩
  rw[Bool.or_eq_true] at h2
  rcases h2 with h2|h2
  ·have:xs=[]:=by
    have e:its=[]:=by simpa using h2
    rw[e] at hl
    exact List.length_eq_zero_iff.mp hl
   rw[this]
   simp
  ·have:k=1:=eq_of_beq h2
   subst this
   simp
 ·by_cases h3:(decide (k<=0)||its.toArray.isEmpty)=true
  ·refine call_meets F.slot_tuple_mul ⟨_,ho,rfl⟩ F.entry_tuple_mul (F.args_tuple_mul_2 _ _) (En.mulT_none a its.toArray n dd sl k t b1 h2 h3) ⟨ho,?_⟩
   have hk0:k.toNat=0:=by
    simp only[Bool.or_eq_true,decide_eq_true_eq] at h3 h2
    rcases h3 with h3|h3
    ·omega
    ·exact absurd (.inl h3) h2
   have q3:=q2 s.heap.objs.size I.fresh
   rw[hk0] at q3
   exact⟨.ref s.heap.objs.size,_,I.laid (t':=s.toks) (o:=.tup []) (fun b ob q=>Heap.get?_push_of_some _ q) (Nat.le_refl _) ⟨Nat.zero_le _,[],.nil,lQ.new _ _⟩,rfl,q3⟩
  ·have hm:its.length * k.toNat<=sizeLine:=by rw[<- hl];exact hz
   have hkn:(k.toNat:Int)=k:=by
    simp only[Bool.or_eq_true,decide_eq_true_eq,not_or] at h3
    omega
   have hmi:((its.toArray.size:Nat):Int) * k=((its.length * k.toNat:Nat):Int):=by rw[List.size_toArray,Int.natCast_mul,hkn]
   have hv:=L2.az.rep r k.toNat
   have hlen2:(List.replicate k.toNat xs).flatten.length<=sizeLine:=by rw[len_rep,Nat.mul_comm];exact hz
   have hs8:(sizeLine:Nat)<=(2 ^ 63 - 1) / 8:=by decide
   have h4:¬ ((its.toArray.size:Nat):Int) * k > (2 ^ 63 - 1) / 8:=by rw[hmi];omega
   have h5:¬ Builtin.Tuple.tupleTooMany (((its.toArray.size:Nat):Int) * k)=true:=by
    unfold Builtin.Tuple.tupleTooMany
    rw[hmi]
    simp only[decide_eq_true_eq]
    omega
   refine call_meets F.slot_tuple_mul ⟨_,ho,rfl⟩ F.entry_tuple_mul (F.args_tuple_mul_2 _ _) (En.mulT_many a its.toArray n dd sl k t b1 h2 h3 h4 h5 (by rw[hfl,List.size_toArray,<- hv.length];exact hlen2)) ⟨ho,?_⟩
   rw[hfl]
   exact⟨.ref s.heap.objs.size,_,I.laid (t':=s.toks) (o:=.tup (List.replicate k.toNat xs).flatten) (fun b ob q=>Heap.get?_push_of_some _ q) (Nat.le_refl _) ⟨hlen2,_,hv,lQ.new _ _⟩,rfl,q2 _ I.fresh⟩
noncomputable def vG:D->D->Option D
 | .tuple ds,.int k=>if vM k=true/\ds.length * k.toNat<=sizeLine then some (.tuple (List.replicate k.toNat ds).flatten) else none
 | _,_=>none
theorem lD {K:PySem.W.Frag}{HF:Hp}{ds:List D}{vs:List V}(r:aq K HF ds vs):∀k:Nat,aq K HF (List.replicate k ds).flatten (List.replicate k vs).flatten
 | 0=>aq.nil
 | k+1=>by rw[List.replicate_succ,List.replicate_succ,List.flatten_cons,List.flatten_cons];exact r.append (lD r k)
theorem Ba {K:PySem.W.Frag}:eS K (FC K) vG:=by
 intro HF H x y v1 v2 d Q sm r1 r2 hg q
 cases x<;>cases y<;>simp only[vG] at hg<;>try cases hg
 split at hg
 ·rename_i xs k hh
  cases hg
  simp only[Rep] at r1 r2
  obtain⟨a,vs,rfl,ha,ra⟩:=r1
  have ok:=hh.1
  unfold vM at ok
  rw[Bool.and_eq_true] at ok
  refine⟨a,k,vs,rfl,r2,aw sm ha,of_decide_eq_true ok.1,of_decide_eq_true ok.2,by rw[ra.length];exact hh.2,fun e=>q _ H HF (.refl sm) ?_,fun p hp=>q _ _ _ (.new sm hp) (cE (sm.free hp) (lD ra _))⟩
  simp only[Rep]
  refine⟨a,vs,rfl,ha,?_⟩
  have:=lD ra k.toNat
  rw[e] at this
  exact this
 ·cases hg
end
end Dl
namespace En
open PySem PyProof.Rows
section
variable {prog:Program}{w:World}{A:Around}{E:Value->Shared->Prop}{s:Shared}
theorem call_setT {l:Addr}{its:Array Value}{ns:List Int}{Q:Value->Shared->Prop}(hh:A.handled=none) (hl:s.heap.IsTuple l its) (hi:IntsAre its.toList ns) (hb:its.size+1 < scanBound)
  (h:∀ (h':Heap) (tk:Nat),h'.SetOf (intKind prog w) s.heap.objs.size (fun k'=>(firstMet (fun i=>ns.getD i 0) its.size).any (· == k')) (firstMet (fun i=>ns.getD i 0) its.size).length->(∀b o,b < s.heap.objs.size->s.heap.get? b=some o->h'.get? b=some o)->Q (.ref s.heap.objs.size) { s with heap:=h',toks:=tk }) :
  wpAny (model prog w) A (call (.type "set") [.ref l]) Q E s:=by
 obtain⟨c,tl,hmro⟩:=F.called_set.mro
 have hmade:=F.called_set.made
 have hsub:=F.called_set.sub
 refine wpAny_call (codeAny_of_tree ?_);show wpAny _ _ (callAny (.type "set") _) _ _ _
 refine wpAny_pure ⟨Code.quiet_builtin _ (by decide +kernel),codeAny_builtin F.entry_type_call ?_⟩
 rw[Around.under_plain (weight_type_call_type "set" [.ref l] []) rfl]
 have h1:=F.called_set.notType
 have h2:=F.called_set.canCreate
 have hct:=F.typeCall_set_1 (.ref l)
 repeat (any_goals (first|assumption|wp_step))
 refine codeAny_mono (code_set_new_1 (.ref l) (E:=E) (Q₁:=fun obj s1=>∃led:Bool,obj=.ref s.heap.objs.size/\s1={ s with heap:=s.heap.push { cls:=.type "set",dict:=none,data:=.set #[] 0 (.fresh 0 0 led) } }) fun led=>⟨led,rfl,rfl⟩) fun r s1 hr=>?_
 cases r with
 | error e=>exact hr
 | ok fl =>
  cases fl with
  | ret obj =>
   obtain⟨led,rfl,rfl⟩:=hr
   have hS:(s.heap.push { cls:=.type "set",dict:=none,data:=.set #[] 0 (.fresh 0 0 led) }).get? s.heap.objs.size=some { cls:=.type "set",dict:=none,data:=.set #[] 0 (.fresh 0 0 led) }:=by exact Heap.get?_push_size _ rfl
   have hT:Shared.TypeIs { s with heap:=s.heap.push { cls:=.type "set",dict:=none,data:=.set #[] 0 (.fresh 0 0 led) } } (.ref s.heap.objs.size) "set":=⟨_,hS,rfl⟩
   have hli:=F.called_set.init.lookup
   have hbi:=F.called_set.init.bind (.ref s.heap.objs.size)
   repeat (any_goals (first|assumption|wp_step))
   refine codeAny_mono (codeAny_call_builtin (R:=wants (fun r s2=>r=.none/\∃h' tk,s2={ s with heap:=h',toks:=tk }/\h'.SetOf (intKind prog w) s.heap.objs.size (fun k'=>(firstMet (fun i=>ns.getD i 0) its.size).any (· == k')) (firstMet (fun i=>ns.getD i 0) its.size).length /\
     (∀b o,b < s.heap.objs.size->s.heap.get? b=some o->h'.get? b=some o)) E) F.called_set.init.plain F.entry_set_init (check_set_init_1 hT ?_)) fun r2 s2 hr2=>?_
   ·obtain⟨ol,hol,hcl,nl,hdl⟩:=hl
    obtain⟨ocls,odict,odata,oslots⟩:=ol
    simp only at hcl hdl
    subst hcl hdl
    have hol':(s.heap.push { cls:=.type "set",dict:=none,data:=.set #[] 0 (.fresh 0 0 led) }).get? l=some { cls:=.type "tuple",dict:=odict,data:=.seq its nl,slots:=oslots }:=Heap.get?_push_of_some _ hol
    have hsls:=F.sub_tuple_set
    have hslf:=F.sub_tuple_frozenset
    have hne:(Value.type "tuple" == Value.type "dict")=false:=by decide
    have hl1:(s.heap.push { cls:=.type "set",dict:=none,data:=.set #[] 0 (.fresh 0 0 led) }).IsTuple l its:=⟨_,hol',rfl,nl,rfl⟩
    unfold Builtin.«set.__init__» noKeywords Builtin.Frozenset.updateFrom
    generalize hPI:pyIter=PI
    wp_walk
    subst hPI
    refine wpAny_pyIter_tuple hl1 (wpAny_bind (wpAny_runValue ?_))
    have hlS:l < s.heap.objs.size:=Heap.lt_size hol
    have hh3:A.in1.in1.in1.handled=none:=by simp[hh]
    have hneI:l≠(s.heap.push { cls:=.type "set",dict:=none,data:=.set #[] 0 (.fresh 0 0 led) }).objs.size:=by rw[Heap.size_push];exact Nat.ne_of_lt (Nat.lt_succ_of_lt hlS)
    have hSf:s.heap.objs.size∉[(s.heap.push { cls:=.type "set",dict:=none,data:=.set #[] 0 (.fresh 0 0 led) }).objs.size,l]:=by
     rw[Heap.size_push];simp only[List.mem_cons,List.not_mem_nil,or_false,not_or]
     exact⟨Nat.ne_of_lt (Nat.lt_succ_self _),Nat.ne_of_gt hlS⟩
    have hval:∀ (i:Nat) (v:Value),its[i]?=some v->∃t,v=.int ((fun i=>ns.getD i 0) i) t:=fun i v hv=>IntsAre.int_at hi i v (by rw[Array.getElem?_toList];exact hv)
    refine codeAny_set_update_loopS ((Walks.tuple hh3 _ l hneI its).toS) s.heap.objs.size hSf (fun i=>ns.getD i 0) hval hb (its.size - 0) 0 _ (by omega) (Nat.zero_le _) ⟨⟨_,Heap.get?_push_size _ rfl,rfl,rfl⟩,?ht⟩ ?hS0 ?hR
    case ht=>exact⟨_,Heap.get?_push_of_some _ hol',rfl,nl,rfl⟩
    case hS0 =>
     have hget:((s.heap.push { cls:=.type "set",dict:=none,data:=.set #[] 0 (.fresh 0 0 led) }).push { cls:=.type "tuple_iterator",data:=.fields #[.ref l,.int 0 0] }).get? s.heap.objs.size=some { cls:=.type "set",dict:=none,data:=.set #[] 0 (.fresh 0 0 led) }:=by exact Heap.get?_push_of_some _ hS
     exact SetOf_congr ((setObjOf_fresh (knd:=intKind prog w) led).setOf hget (by unfold scanBound;omega)) (fun _=>rfl) rfl
    case hR =>
     intro s' hm hS'
     obtain⟨h',g',d',tk',os'⟩:=s'
     have eg:g'=s.gens:=hm.gens
     have ed:d'=s.drawn:=hm.drawn
     have eo:os'=s.os:=hm.os
     subst eg ed eo
     show wpAny _ _ _ _ _ _
     refine wpAny_pure ?_
     show wpAny _ _ (ret Value.none) _ _ _
     refine wpAny_pure ⟨rfl,h',tk',rfl,hS',fun b o hb' e=>?_⟩
     refine hm.heap b o ?_ (Heap.get?_push_of_some _ (Heap.get?_push_of_some _ e))
     simp only[List.mem_cons,List.not_mem_nil,or_false,not_or]
     exact⟨Nat.ne_of_lt hb',by rw[Heap.size_push];exact Nat.ne_of_lt (Nat.lt_succ_of_lt hb')⟩
   ·cases r2 with
    | error e=>exact hr2
    | ok fl2 =>
     cases fl2 with
     | ret r =>
      obtain⟨rfl,h',tk,rfl,hS',hk'⟩:=hr2
      repeat (any_goals (first|assumption|wp_step))
      exact h _ _ hS' hk'
     | _=>exact hr2.elim
  | _=>exact hr.elim
end
end En
namespace Dl
open PySem L2 PySem.Spec PyProof.Rows
noncomputable def many (ns:List Int):Nat:=(firstMet (fun i=>ns.getD i 0) ns.length).length
section
variable {X:Cx}{e:Expr}{f:Env->Option D}{pos p p' pos':Pos}
theorem zC (hc:X.calm=true):cD X (.type "set") (fun xs H Q=>∃ (a:Addr) (ns:List Int),xs=[.ref a]/\iM X.K H a (ns.map V.int)/\ns.length+1 < scanBound/\∀q S,H q=none->Q (.ref q) (upd H q (.set S (many ns)))):=by
 intro pins s σ H xs us Q I r h
 obtain⟨a,ns,rfl,hq,hb,q⟩:=h
 obtain⟨u,rfl,rx⟩:=vals1 r
 cases rx
 obtain⟨its,rv,pl,hz⟩:=I.tuple hq
 have hi:IntsAre its.toArray.toList ns:=intsAre_of rv
 have hlen:its.toArray.size=ns.length:=by have:=rv.length;simpa using this.symm
 refine En.call_setT (I.ok.hd hc) (show s.heap.IsTuple a its.toArray from pl) hi (by rw[hlen];exact hb) fun h' tk hS hk=>?_
 rw[hlen] at hS
 exact⟨.ref s.heap.objs.size,_,I.laid (t':=tk) (fun b o e=>hk b o (Heap.lt_size e) e) (Nat.le_refl _) (show eF X.prog X.w _ h' _ (.set _ (many ns)) from hS),rfl,q _ _ I.fresh⟩
theorem zR:cD X (.builtin "len") (fun xs H Q=>∃ (a:Addr) (S:Int->Bool) (n:Nat),xs=[.ref a]/\H a=some (.set S n)/\Q (.int n) H):=by
 intro pins s σ H xs us Q I r h
 obtain⟨a,S,n,rfl,hq,q⟩:=h
 obtain⟨u,rfl,rx⟩:=vals1 r
 cases rx
 obtain⟨o,es,ep,t,ho,hex,hd,hel,hmem,hlt,hf,hn⟩:=(show s.heap.SetOf (intKind X.prog X.w) a S n from I.hok a _ hq)
 have hfit:((es.size:Nat):Int) < 2 ^ 63:=by unfold scanBound at hlt;omega
 refine call_len_set ho hex hd hf hfit ⟨.int n,H,I.tok _,⟨s.toks+1,by rw[hn]⟩,q⟩
noncomputable def jB:D->Option D:=fun d=>(lh d).bind fun ns=>if ns.length+1 < scanBound then some (.int (many ns)) else none
theorem y9 (hc:X.calm=true) (B:mv X "len" (.builtin "len")) (C:mv X "set" (.type "set")) (h:DE X e f) (he:starEach [e] X.env=(false,eval e X.env)::starEach [] X.env:=by rfl) :
  DE X (.Call (.Name "len" p) [.Call (.Name "set" p') [e] [] pos'] [] pos) (f1 jB f) :=
 aN (lr zR B.gl B.mg B.bt (cW (lW (zC hc) C.gl C.mg C.bt (cW h gf he) (by decide) (by decide) he rfl) gf) (by decide) (by decide) rfl rfl) fun σ H Q ⟨HF,ρ,d,sm,eo,hf,q⟩=>by
  obtain⟨x,hx,hf⟩:=bs hf
  obtain⟨ns,h1,hf⟩:=bs hf
  split at hf
  ·rename_i hb
   cases hf
   refine⟨HF,ρ,x,sm,eo,hx,fun v1 H1 HF1 g1 r1=>?_⟩
   rw[iE h1] at r1
   simp only[Rep] at r1
   obtain⟨a,vs,rfl,hs,rr⟩:=r1
   have key:∀ {ns:List Int}{ws:List V},aq X.K HF1 (ns.map PyData.int) ws->ws=ns.map V.int:=fun {ns}=>by
    induction ns with
    | nil=>exact fun h=>h.nil_inv
    | cons n ns ih =>
     intro ws h
     obtain⟨v,r,rfl,a,b⟩:=h.cons_inv
     simp only[Rep] at a
     rw[a,ih b]
     rfl
   have:=key rr
   subst this
   refine⟨a,ns,rfl,aw g1.fh hs,hb,fun b S hb'=>⟨b,S,_,rfl,aD,q _ _ HF1 (g1.trans (.own g1.fh hb')) (by simp[Rep])⟩⟩
  ·cases hf
end
theorem jd (val:Nat->Int):∀i,(firstMet val i).length=i↔((List.range i).map val).Nodup
 | 0=>by simp[firstMet]
 | i+1=>by
  have hle:=firstMet_length_le val i
  rw[firstMet_succ,step_length,List.range_succ,List.map_append,List.nodup_append]
  have ha:=firstMet_any val i (val i)
  have ih:=jd val i
  constructor
  ·intro h
   by_cases hin:(firstMet val i).any (· == val i)=true
   ·rw[if_pos hin] at h;omega
   ·rw[if_neg hin] at h
    refine⟨ih.mp (by omega),by simp,fun a hm b hb z=>?_⟩
    have hb':b=val i:=by simpa using hb
    subst z hb'
    rw[ha] at hin
    exact hin (List.any_eq_true.mpr ⟨_,hm,by simp⟩)
  ·rintro⟨h1,_,h3⟩
   rw[if_neg ?_]
   ·rw[ih.mpr h1]
   ·rw[ha]
    intro hin
    obtain⟨x,hx,he⟩:=List.any_eq_true.mp hin
    have he':x=val i:=by simpa using he
    exact h3 x hx (val i) (by simp) he'
theorem wq (ns:List Int):many ns=ns.length↔ns.Nodup:=by
 unfold many
 rw[jd]
 have:(List.range ns.length).map (fun i=>ns.getD i 0)=ns:=iY ns 0
 rw[this]
end Dl
namespace Dl
open PySem L2 PySem.Spec PyProof.Rows
section
variable {X:Cx}{N:List Str}{sc:Scope}{k:Nat}{a b c e e2:Expr}{es:List Expr}{fa fb fc f:Env->Option D}{fs:Env->Option (List D)}{pos p p' pos' p2 p3 p4 px apos cpos tp:Pos}{x y:Str}{HF₀ H₀:Hp}
theorem nI {K:PySem.W.Frag}{r r':R2}{g g':D->D->Option D}(h:eS K r g) (h':eS K r' g'):eS K (fun x y H Q=>r x y H Q\/r' x y H Q) (fun x y=>(g x y).or (g' x y)):=by
 intro HF H x y v1 v2 d Q sm r1 r2 hg q
 cases e:g x y with
 | some d' =>
  have hg:(g x y).or (g' x y)=some d:=hg
  rw[e] at hg
  cases hg
  exact .inl (h HF H x y v1 v2 d Q sm r1 r2 e q)
 | none =>
  have hg:(g x y).or (g' x y)=some d:=hg
  rw[e] at hg
  exact .inr (h' HF H x y v1 v2 d Q sm r1 r2 hg q)
theorem zX {K:PySem.W.Frag}:eS K (AH K) (fun x y=>(rl x y).map PyData.list):=by
 intro HF H x y v1 v2 d Q sm r1 r2 hg q
 obtain⟨zs,hg',rfl⟩:=map_some hg
 clear hg
 cases x<;>cases y<;>simp only[rl] at hg'<;>try cases hg'
 obtain⟨rfl,hz⟩:=dS hg'
 simp only[Rep] at r1 r2
 obtain⟨a,vs,rfl,ha,ra⟩:=r1
 obtain⟨b,us,rfl,hb,rb⟩:=r2
 refine⟨a,b,vs,us,rfl,rfl,sm.seq ha,sm.seq hb,by rw[ra.length,rb.length,<- List.length_append];exact hz,fun p hp=>q _ _ _ (.new sm hp) ?_⟩
 simp only[Rep]
 exact⟨p,_,rfl,.inl (.inl aD),(ra.append rb).mono (dw (sm.free hp))⟩
noncomputable def aE:D->D->Option D:=fun x y=>((rM (fun _ _=>True) fun i j=>.int (i+j)) x y).or ((Fq x y).or ((rl x y).map PyData.list))
theorem Bk.add (C:Bk X N sc k) (ha:DE X a fa) (hb:DE X b fb):DE X (.BinOp a .Add b pos) (f2 aE fa fb):=ug (Hw.or (zw.or vH)) (nI AF (nI Ey zX)) ha hb
noncomputable def fZ:D->D->Option D:=rM (fun _ _=>True) fun i j=>.int (i - j)
theorem Bk.sub (C:Bk X N sc k) (ha:DE X a fa) (hb:DE X b fb):DE X (.BinOp a .Sub b pos) (f2 fZ fa fb):=ug GC AF ha hb
noncomputable def dP:D->D->Option D:=fun x y=>((rM pY fun i j=>.int (i * j)) x y).or (vG x y)
theorem Bk.mul (C:Bk X N sc k) (ha:DE X a fa) (hb:DE X b fb):DE X (.BinOp a .Mult b pos) (f2 dP fa fb):=ug (IM.or EM) (nI Ce Ba) ha hb
noncomputable def k9:D->D->Option D:=rM Ez fun i j=>.int (i / j)
theorem Bk.div (C:Bk X N sc k) (ha:DE X a fa) (hb:DE X b fb):DE X (.BinOp a .FloorDiv b pos) (f2 k9 fa fb):=ug EJ Ce ha hb
noncomputable def jM:D->D->Option D:=rM (fun _ j=>0 < j) fun i j=>.int (i % j)
theorem Bk.mod (C:Bk X N sc k) (ha:DE X a fa) (hb:DE X b fb):DE X (.BinOp a .Mod b pos) (f2 jM fa fb):=ug HZ Ce ha hb
noncomputable def Av:D->D->Option D:=rM (fun _ _=>True) fun i j=>.bool (decide (i < j))
noncomputable def yf:D->D->Option D:=rM (fun _ _=>True) fun i j=>.bool (decide (i<=j))
noncomputable def xD:D->D->Option D:=rM (fun _ _=>True) fun i j=>.bool (decide (j < i))
noncomputable def LC:D->D->Option D:=fun x y=>((rM (fun _ _=>True) fun i j=>.bool (decide (j<=i))) x y).or ((Jh x y).map PyData.bool)
noncomputable def bS:D->D->Option D:=fun x y=>(Im x y).map PyData.bool
noncomputable def dM:D->D->Option D:=fun x y=>(FK x y).map PyData.bool
noncomputable def IS:D->D->Option D:=fun x y=>(La x y).map PyData.bool
theorem Bk.u64 (C:Bk X N sc k):X.A.units+64 < cLine:=C.room.units
theorem Bk.u66 (C:Bk X N sc k):X.A.units+66 < cLine:=by have:=C.room.un;omega
theorem Bk.lt (C:Bk X N sc k) (ha:DE X a fa) (hb:DE X b fb):DE X (.Compare a [.Lt] [b] pos) (f2 Av fa fb):=il B7 gq ha hb (cN _)
theorem Bk.le (C:Bk X N sc k) (ha:DE X a fa) (hb:DE X b fb):DE X (.Compare a [.LtE] [b] pos) (f2 yf fa fb):=il AW gq ha hb (cN _)
theorem Bk.gt (C:Bk X N sc k) (ha:DE X a fa) (hb:DE X b fb):DE X (.Compare a [.Gt] [b] pos) (f2 xD fa fb):=il F9 gq ha hb (cN _)
theorem Bk.ge (C:Bk X N sc k) (ha:DE X a fa) (hb:DE X b fb):DE X (.Compare a [.GtE] [b] pos) (f2 LC fa fb):=il (F4.or (BV C.room.units0)) (nI gq jc) ha hb (cN _)
theorem Bk.eq (C:Bk X N sc k) (ha:DE X a fa) (hb:DE X b fb):DE X (.Compare a [.Eq] [b] pos) (f2 bS fa fb):=il (BO C.u64) jc ha hb (cN _)
theorem Bk.ne (C:Bk X N sc k) (ha:DE X a fa) (hb:DE X b fb):DE X (.Compare a [.NotEq] [b] pos) (f2 dM fa fb):=il (BQ C.u64) jc ha hb (cN _)
theorem Bk.isin (C:Bk X N sc k) (ha:DE X a fa) (hb:DE X b fb) (hm:behindInMarks .In b=false:=by rfl):DE X (.Compare a [.In] [b] pos) (f2 IS fa fb):=il (BU C.u66) jc ha hb hm
theorem Bk.tlt (C:Bk X N sc k) (ha:DE X a fa) (hb:DE X b fb):DT X (.Compare a [.Lt] [b] pos) (fB (f2 Av fa fb)):=iw B7 gq ha hb (cN _)
theorem Bk.tle (C:Bk X N sc k) (ha:DE X a fa) (hb:DE X b fb):DT X (.Compare a [.LtE] [b] pos) (fB (f2 yf fa fb)):=iw AW gq ha hb (cN _)
theorem Bk.tgt (C:Bk X N sc k) (ha:DE X a fa) (hb:DE X b fb):DT X (.Compare a [.Gt] [b] pos) (fB (f2 xD fa fb)):=iw F9 gq ha hb (cN _)
theorem Bk.tge (C:Bk X N sc k) (ha:DE X a fa) (hb:DE X b fb):DT X (.Compare a [.GtE] [b] pos) (fB (f2 LC fa fb)):=iw (F4.or (BV C.room.units0)) (nI gq jc) ha hb (cN _)
theorem Bk.teq (C:Bk X N sc k) (ha:DE X a fa) (hb:DE X b fb):DT X (.Compare a [.Eq] [b] pos) (fB (f2 bS fa fb)):=iw (BO C.u64) jc ha hb (cN _)
theorem Bk.tne (C:Bk X N sc k) (ha:DE X a fa) (hb:DE X b fb):DT X (.Compare a [.NotEq] [b] pos) (fB (f2 dM fa fb)):=iw (BQ C.u64) jc ha hb (cN _)
theorem Bk.tin (C:Bk X N sc k) (ha:DE X a fa) (hb:DE X b fb) (hm:behindInMarks .In b=false:=by rfl):DT X (.Compare a [.In] [b] pos) (fB (f2 IS fa fb)):=iw (BU C.u66) jc ha hb hm
noncomputable def eN:D->Option Int->Option Int->Option D|.tuple ds,lo,hi=>some (.tuple (cut ds lo hi))|.list ds,lo,hi=>some (.list (cut ds lo hi))|_,_,_=>none
theorem Bk.cut (C:Bk X N sc k) {lo hi:Option Expr}{fl fh:Env->Option (Option Int)}(ha:DE X a fa) (hl:DO X lo fl) (hh:DO X hi fh):DE X (.Subscript a (.Slice lo hi none p2) pos) (jL eN fa fl fh):=aN (CN (Hx.or xH) ha hl hh) fun σ H Q ⟨HF,ρ,d,sm,eo,hf,q⟩=>by
 obtain⟨x,hx,hf⟩:=bs hf
 obtain⟨l,hl,hf⟩:=bs hf
 obtain⟨u,hu,hf⟩:=bs hf
 refine⟨HF,ρ,x,sm,eo,hx,fun v1 H1 HF1 g1 r1=>⟨HF1,ρ,l,g1.fh,eo.mono g1.ff,hl,fun H2 HF2 g2=>⟨HF2,ρ,u,g2.fh,eo.mono (g1.ff.trans g2.ff),hu,fun H3 HF3 g3=>?_⟩⟩⟩
 have G:=(g1.trans g2).trans g3
 have r3:=r1.mono (g2.ff.trans g3.ff)
 cases x<;>try cases hf
 ·simp only[Rep] at r3
  obtain⟨b,vs,rfl,hs,rr⟩:=r3
  refine .inr ⟨b,vs,rfl,G.fh.seq hs,fun p hp=>q _ _ _ (G.trans (.new G.fh hp)) ?_⟩
  simp only[Rep]
  exact⟨p,_,rfl,.inl (.inl aD),(n0 rr l u).mono (dw (G.fh.free hp))⟩
 ·simp only[Rep] at r3
  obtain⟨b,vs,rfl,hs,rr⟩:=r3
  refine .inl ⟨b,vs,rfl,aw G.fh hs,fun e=>q _ H3 HF3 G ?_,fun p hp=>q _ _ _ (G.trans (.new G.fh hp)) (cE (G.fh.free hp) (n0 rr l u))⟩
  simp only[Rep]
  refine⟨b,vs,rfl,hs,?_⟩
  have:=n0 rr l u
  rw[e] at this
  exact this
noncomputable def JZ:D->Option D|.int i=>some (.int (-i))|_=>none
theorem Bk.neg (C:Bk X N sc k) (ha:DE X a fa):DE X (.UnaryOp .USub a pos) (f1 JZ fa):=aN (Aw v8 ha) fun σ H Q ⟨HF,ρ,d,sm,eo,hf,q⟩=>by
 obtain⟨x,hx,hf⟩:=bs hf
 refine⟨HF,ρ,x,sm,eo,hx,fun v1 H1 HF1 g1 r1=>?_⟩
 cases x<;>try cases hf
 exact⟨_,by simpa only[Rep] using r1,q _ H1 HF1 g1 (by simp[Rep])⟩
theorem CD:bootBuiltins "len"=some (.builtin "len"):=by decide +kernel
theorem pP:bootBuiltins "isinstance"=some (.builtin "isinstance"):=by decide +kernel
theorem GR:bootBuiltins "int"=some (.type "int"):=by decide +kernel
theorem CH:bootBuiltins "tuple"=some (.type "tuple"):=by decide +kernel
theorem Dy:bootBuiltins "list"=some (.type "list"):=by decide +kernel
theorem vB:bootBuiltins "range"=some (.type "range"):=by decide +kernel
theorem GV:bootBuiltins "all"=some (.builtin "all"):=by decide +kernel
theorem IV:bootBuiltins "set"=some (.type "set"):=by decide +kernel
theorem lS:bootBuiltins "sorted"=some (.builtin "sorted"):=by decide +kernel
theorem sC:bootBuiltins "enumerate"=some (.type "enumerate"):=by decide +kernel
theorem GP:bootBuiltins "zip"=some (.type "zip"):=by decide +kernel
end
end Dl
namespace Dl
open PySem L2 PySem.Spec PyProof.Rows
noncomputable abbrev cw (f:Env->Option (List D)):Env->Option D:=fun ρ=>(f ρ).map PyData.list
noncomputable abbrev bF:List D->Option D:=fun ds=>(cM ds).map PyData.tuple
section
variable {X:Cx}{N:List Str}{sc:Scope}{k:Nat}
theorem Bk.locl (C:Bk X N sc k) {x:Str}(h:decide (sc.names.lookup x=some .local)=true):X.env.scope.names.lookup x=some .local:=by
 rcases C.tb x _ (of_decide_eq_true h) with q|⟨q,_⟩
 ·exact q
 ·cases q
noncomputable def isStar:Expr->Bool|.Starred ..=>true|_=>false
theorem aZ {e:Expr}{es:List Expr}{env:PySem.Env}(h:isStar e=false):starEach (e::es) env=(false,eval e env)::starEach es env:=by
 cases e<;>first|rfl|cases h
theorem GX {e:Expr}{es:List Expr}{f:Env->Option D}{g:Env->Option (List D)}(he:DE X e f) (hs:DA X es g) (h:isStar e=false:=by rfl):DA X (e::es) (aa f g):=yc he hs (aZ h)
theorem pf {elt:Expr}{gens:List Comprehension}{scope:Scope}{pos py:Pos}{x:Str}{line:Nat}{env:PySem.Env}:swapsWith (.ListComp elt gens scope pos) (some (.Name x py)) line env=pure (env.blockKind == .function&&env.kindOf x == some .local && py.line == pos.line
     &&!(scope.names.any fun (n,k)=>n == x&&(k == .local || k == .cell))):=rfl
theorem F8 {env:PySem.Env}(h:env.scope.kind=.function):env.blockKind=.function:=by unfold PySem.Env.blockKind;rw[h];rfl
theorem Bk.swap (C:Bk X N sc k) {elt:Expr}{gens:List Comprehension}{scope:Scope}{pos py:Pos}{x:Str}{line:Nat}(h:decide (sc.names.lookup x=some .local)=true) (h2:(py.line == pos.line&&!(scope.names.any fun (n,k)=>n == x&&(k == .local || k == .cell)))=true) :
  swapsWith (.ListComp elt gens scope pos) (some (.Name x py)) line X.env=pure true:=by
 rw[pf,F8 C.kd,show X.env.kindOf x=some .local from C.locl h]
 rw[Bool.and_assoc,h2]
 rfl
theorem Bk.noswap (C:Bk X N sc k) {elt:Expr}{gens:List Comprehension}{scope:Scope}{pos py:Pos}{x:Str}{line:Nat}(h:decide (sc.names.lookup x=some .cell)=true) :
  swapsWith (.ListComp elt gens scope pos) (some (.Name x py)) line X.env=pure false:=by
 have q:X.env.kindOf x=some .cell:=by
  rcases C.tb x _ (of_decide_eq_true h) with q|⟨q,_⟩
  ·exact q
  ·cases q
 rw[pf,q,F8 C.kd]
 rfl
end
end Dl
namespace Dl
open PySem L2 PySem.Spec PyProof.Rows
section
variable {K:PySem.W.Frag}
structure aG (K:PySem.W.Frag) (x:Str) (st:Stmt) (ps:List Str):Prop where
 ex:∃ (f:Addr) (fd:FuncData),PySem.W.nsIn K mainGlobals x=some (some (.ref f))/\CV K x x st f fd/\Binds K fd ps []
structure bE (K:PySem.W.Frag) (mg:Str->Option Value) (x:Str) (st:Stmt) (ps:List Str):Prop where
 ex:∃ (f:Addr) (fd:FuncData),mg x=some (.ref f)/\CV K x x st f fd/\Binds K fd ps []
theorem aG.mg {h:Heap}{mg:Str->Option Value}{x:Str}{st:Stmt}{ps:List Str}(D:aG K x st ps) (X:K.In h) (G:h.Ns mainGlobals mg):bE K mg x st ps:=by
 obtain⟨f,fd,a,b,c⟩:=D.ex
 exact⟨f,fd,PySem.W.mg_of X G a,b,c⟩
noncomputable def gm (st:Stmt) (ps:List Str):Prop:=∀ (x qual:Str) (kV doc pm:Value) (an:Option Addr) (cdv ct:Value) (us:List Value),us.length=ps.length->bindArgs (PySem.W.fnOf x qual (fL st) (bT st) (aC st) .none kV doc pm an cdv ct) ⟨us,[]⟩=pure (ps.zip us)
theorem Jj {x:Str}{st:Stmt}{ps:List Str}{f:Addr}{oc:Value}{od an:Option Addr}{osl:Array (Option Value)}{kV doc pm cdv ct:Value}(hb:gm st ps) (a:PySem.W.nsIn K mainGlobals x=some (some (.ref f))) (l:K.lookup f=some ⟨oc,od,.func (PySem.W.fnOf x x (fL st) (bT st) (aC st) .none kV doc pm an cdv ct),osl⟩)
  (c:PySem.W.codeIn K cdv x=true) (k:PySem.W.keepIn K (.ref f)=true):aG K x st ps:=⟨f,_,a,sJ (st:=st) l c k,(sJ (st:=st) l c k).binds fun kV doc pm an cdv ct us h=>hb _ _ kV doc pm an cdv ct us h⟩
structure mR (K:PySem.W.Frag) (x:Str) (st:Stmt) (ps:List Str):Prop where
 ex:∃ (f:Addr) (fd:FuncData) (c P:Addr),PySem.W.nsIn K mainGlobals x=some (some (.ref f))/\CV K x x st f fd/\Binds K fd ps []/\fd.code=.ref c/\PySem.W.codeHdIn K c P=true
structure Bm (K:PySem.W.Frag) (mg:Str->Option Value) (x:Str) (st:Stmt) (ps:List Str):Prop where
 ex:∃ (f:Addr) (fd:FuncData) (c P:Addr),mg x=some (.ref f)/\CV K x x st f fd/\Binds K fd ps []/\fd.code=.ref c/\PySem.W.codeHdIn K c P=true
theorem mR.mg {h:Heap}{mg:Str->Option Value}{x:Str}{st:Stmt}{ps:List Str}(D:mR K x st ps) (X:K.In h) (G:h.Ns mainGlobals mg):Bm K mg x st ps:=by
 obtain⟨f,fd,c,P,a,b⟩:=D.ex
 exact⟨f,fd,c,P,PySem.W.mg_of X G a,b⟩
noncomputable def Bg (K:PySem.W.Frag) (c:Addr):Addr:=match K.lookup c with
 | some ⟨_,_,.fields vs,_⟩=>(match (vs[11]?:Option Value) with|some (.ref P)=>P|_=>0)
 | _=>0
theorem JY {x:Str}{st:Stmt}{ps:List Str}{f c:Addr}{oc:Value}{od an:Option Addr}{osl:Array (Option Value)}{kV doc pm ct:Value}(hb:gm st ps) (a:PySem.W.nsIn K mainGlobals x=some (some (.ref f))) (l:K.lookup f=some ⟨oc,od,.func (PySem.W.fnOf x x (fL st) (bT st) (aC st) .none kV doc pm an (.ref c) ct),osl⟩)
  (cd:PySem.W.codeIn K (.ref c) x=true) (k:PySem.W.keepIn K (.ref f)=true) (hh:PySem.W.codeHdIn K c (Bg K c)=true):mR K x st ps:=⟨f,_,c,Bg K c,a,sJ (st:=st) l cd k,(sJ (st:=st) l cd k).binds fun kV doc pm an cdv ct us h=>hb _ _ kV doc pm an cdv ct us h,rfl,hh⟩
theorem F5 {x:Str}{i:Int}{t:Tok}(h:PySem.W.nsIn K mainGlobals x=some (some (.int i t))):∃t,PySem.W.nsIn K mainGlobals x=some (some (.int i t)):=⟨t,h⟩
theorem Hv {K:PySem.W.Frag}(h0:PySem.W.nsIn K mainGlobals "len"=some none) (h1:PySem.W.nsIn K mainGlobals "isinstance"=some none) (h2:PySem.W.nsIn K mainGlobals "int"=some none) (h3:PySem.W.nsIn K mainGlobals "bool"=some none) (h4:PySem.W.nsIn K mainGlobals "tuple"=some none) (h5:PySem.W.nsIn K mainGlobals "list"=some none) (h6:PySem.W.nsIn K mainGlobals "range"=some none) (h7:PySem.W.nsIn K mainGlobals "all"=some none) (h8:PySem.W.nsIn K mainGlobals "any"=some none) (h9:PySem.W.nsIn K mainGlobals "set"=some none) (h10:PySem.W.nsIn K mainGlobals "sorted"=some none) (h11:PySem.W.nsIn K mainGlobals "enumerate"=some none) (h12:PySem.W.nsIn K mainGlobals "zip"=some none) (h13:PySem.W.nsIn K mainGlobals "sum"=some none) (h14:PySem.W.nsIn K mainGlobals "min"=some none) (h15:PySem.W.nsIn K mainGlobals "max"=some none) (h16:PySem.W.nsIn K mainGlobals "reversed"=some none):∀x∈cH,PySem.W.nsIn K mainGlobals x=some none:=by
 intro x hx
 simp only[cH,List.mem_cons,List.not_mem_nil,or_false] at hx
 rcases hx with rfl|rfl|rfl|rfl|rfl|rfl|rfl|rfl|rfl|rfl|rfl|rfl|rfl|rfl|rfl|rfl|rfl<;>assumption
theorem wz {K:PySem.W.Frag}{H:Hp}{a:Addr}{ns:List Int}{m:List D->Option D}(hS:gT K H a (ns.map V.int)) (hT:eY K H) (h:m [.list (ns.map PyData.int)]=some (.bool true)) {X:_}:JL K 1 m [.ref a] H (fun v _=>v=.bl true) X:=by
 refine⟨H,[.list (ns.map PyData.int)],.bool true,.refl _,hT,aq.cons ?_ aq.nil,rfl,h,fun v H' HF' G r=>by simpa only[Rep] using r⟩
 simp only[Rep]
 refine⟨a,_,rfl,hS,?_⟩
 clear h hS hT
 induction ns with
 | nil=>exact aq.nil
 | cons n ns ih=>exact aq.cons (by simp[Rep]) ih
end
end Dl
namespace Dl
open PySem L2 PySem.Spec PyProof.Rows
end Dl
namespace Dl
open PySem L2 PySem.Spec PyProof.Rows
theorem K6 {X:Cx}{e:Expr}{es:List Expr}{f:Env->Option D}{g:Env->Option (List D)}(h:isStar e=false) (he:DE X e f) (hs:DA X es g):DA X (e::es) (aa f g):=GX he hs h
end Dl
namespace Dl
open PySem L2 PySem.Spec PyProof.Rows
section
variable {X:Cx}{N:List Str}{sc:Scope}{k:Nat}{HF₀ H₀:Hp}{e c:Expr}{es:List Expr}{fs:Env->Option (List D)}{pos p:Pos}
noncomputable def Jo:ai->Option Out:=fun _=>none
theorem JA {st:Stmt}:DS X HF₀ H₀ st Jo:=fun pins s σ H E I ⟨HF,ρ,o,S,hg,q⟩=>by cases hg
noncomputable def j5 (f:Env->Option D):ai->Option Out:=fun ρ=>(f (bb ρ)).map fun _=>.nx ρ
theorem Fo {f:Env->Option D}(hs:swapsWith e none pos.line X.env=pure false) (h:DE X e f):DS X HF₀ H₀ (.Expr e pos) (j5 f):=dE (nz h hs) fun E σ H ⟨HF,ρ,o,S,hg,q⟩=>by
 obtain⟨d,h,rfl⟩:=map_some hg
 exact⟨H,bb ρ,d,.refl _,S.all,h,fun v H' HF' G r=>q σ H' HF (S.step G.hh) (.refl _)⟩
noncomputable def Er (t:Env->Option Bool) (gb:ai->Option Out):Nat->ai->Option Out
 | 0,_=>none
 | n+1,ρ=>(t (bb ρ)).bind fun b=>if b=true then (gb ρ).bind fun|.nx ρ'=>Er t gb n ρ'|.rt d=>some (.rt d) else some (.nx ρ)
theorem Ck (n:Nat) {body:List Stmt}{t:Env->Option Bool}{gb:ai->Option Out}(hp:PassesOwn (model X.prog X.w) X.A X.env X.xe) (hc:DT X c t) (hb:As X HF₀ H₀ body gb):DS X HF₀ H₀ (.While c body [] pos) (Er t gb n) :=
 dE (Dg hp hc hb) fun E σ H ⟨HF,ρ,o,S,hg,q⟩=>by
  refine⟨fun m σ' H'=>∃HF' ρ',jO X.K HF₀ H₀ HF' H' ρ' σ'/\aV HF HF'/\Er t gb m ρ'=some o,⟨n,HF,ρ,S,.refl _,hg⟩,?_⟩
  rintro m σ' H' ⟨HF',ρ',S',s',hf⟩
  cases m with
  | zero=>cases hf
  | succ m =>
   unfold Er at hf
   obtain⟨b,hb,hf⟩:=bs hf
   refine⟨H',bb ρ',b,.refl _,S'.all,hb,fun H1 HF1 G=>?_⟩
   cases b with
   | false =>
    rw[if_neg Bool.false_ne_true] at hf ⊢
    cases hf
    exact q σ' H1 HF' (S'.step G.hh) s'
   | true =>
    rw[if_pos rfl] at hf ⊢
    obtain⟨o1,h2,hf⟩:=bs hf
    refine⟨fun σ2 H3=>∃HF3 ρ3,jO X.K HF₀ H₀ HF3 H3 ρ3 σ2/\aV HF HF3/\Er t gb m ρ3=some o,fun σ2 H3 ⟨HF3,ρ3,a1,a2,a3⟩=>⟨m,Nat.lt_succ_self _,HF3,ρ3,a1,a2,a3⟩,HF',ρ',o1,S'.step G.hh,h2,?_⟩
    cases o1 with
    | nx ρ2=>exact fun σ4 H4 HF4 S4 s4=>⟨HF4,ρ2,S4,s'.trans s4,hf⟩
    | rt d=>cases hf;exact q
noncomputable def uK:List D->Option D
 | [.int a,.int b]=>some (.int (min a b))
 | [.int a,.int b,.int c]=>some (.int (min (min a b) c))
 | _=>none
theorem AO (hc:X.calm=true):cD X (.builtin "min") (fun xs H Q=>(∃a b:Int,xs=[.int a,.int b]/\Q (.int (min a b)) H)\/(∃a b c:Int,xs=[.int a,.int b,.int c]/\Q (.int (min (min a b) c)) H)):=by
 intro pins s σ H xs us Q I r h
 have hh:X.A.handled=none:=I.ok.hd hc
 rcases h with ⟨a,b,rfl,q⟩|⟨a,b,c,rfl,q⟩
 ·cases r with
  | cons r1 r =>
   cases r with
   | cons r2 r =>
    cases r
    obtain⟨t,rfl⟩:=r1
    obtain⟨u,rfl⟩:=r2
    refine min_two_ints hh fun h' tk kp=>⟨.int (min a b),H,I.kept (t':=tk) kp,?_,q⟩
    by_cases h:b < a
    ·rw[if_pos h,show min a b=b by omega];exact⟨_,rfl⟩
    ·rw[if_neg h,show min a b=a by omega];exact⟨_,rfl⟩
 ·cases r with
  | cons r1 r =>
   cases r with
   | cons r2 r =>
    cases r with
    | cons r3 r =>
     cases r
     obtain⟨t,rfl⟩:=r1
     obtain⟨u,rfl⟩:=r2
     obtain⟨x,rfl⟩:=r3
     refine min_three_ints hh fun h' tk kp=>⟨.int (min (min a b) c),H,I.kept (t':=tk) kp,?_,q⟩
     by_cases h:b < a
     ·rw[if_pos h]
      by_cases h2:c < b
      ·rw[if_pos h2,show min (min a b) c=c by omega];exact⟨_,rfl⟩
      ·rw[if_neg h2,show min (min a b) c=b by omega];exact⟨_,rfl⟩
     ·rw[if_neg h]
      by_cases h2:c < a
      ·rw[if_pos h2,show min (min a b) c=c by omega];exact⟨_,rfl⟩
      ·rw[if_neg h2,show min (min a b) c=a by omega];exact⟨_,rfl⟩
theorem vc {K:PySem.W.Frag}{H:Hp}{d:D}{v:V}(r:Rep K H d v):∀ {ds:List D}{vs:List V}(j:Nat),aq K H ds vs->aq K H (ds.set j d) (vs.set j v)
 | [],vs,j,h=>by rw[h.nil_inv];exact aq.nil
 | x::ds,vs,j,h=>by
  obtain⟨u,us,rfl,a,b⟩:=h.cons_inv
  cases j with
  | zero=>exact aq.cons r b
  | succ j=>exact aq.cons a (vc r j b)
noncomputable def xx (i:Nat) (fz:List Nat) (fk f:Env->Option D):ai->Option Out:=fun ρ=>(jP fz f ρ).bind fun p=>(fk (bb p.2)).bind fun kd=>match kd with
 | .int k=>nc i (fun ds=>(Dm ds.length k).map fun j=>ds.set j p.1) p.2
 | _=>none
theorem C6 (i:Nat) (fz:List Nat) {x:Str}{e2:Expr}{px spos:Pos}{fk f:Env->Option D}(hN:X.N[i]?=some x) (hv:FD X.env.scope x) (hk:DE X e fk) (h:DE X e2 f) (hd:(x == ("__debug__":Str))=false:=by decide) (hcd:(x == ("__classdict__":Str))=false:=by decide)
  (ha:∀v,assign (.Subscript (.Name x px) e spos) X.env v=(do
   let ov <- holding [v] (eval (.Name x px) X.env)
   let iv <- holding [v,ov] (eval e X.env)
   standAt spos
   holding [v,ov,iv] (setItem ov iv v)
   release [v,ov,iv] []):=by intro _;rfl)
  (hs:swapsWithSole [.Subscript (.Name x px) e spos] e2 pos.line X.env=pure false:=by rfl) (hw:swappedStores [.Subscript (.Name x px) e spos] e2 X.env=pure none:=by rfl)
  (h1:(assignEach [.Subscript (.Name x px) e spos] X.env).map (·.2)=[assign (.Subscript (.Name x px) e spos) X.env]:=by rfl):DS X HF₀ H₀ (.Assign [.Subscript (.Name x px) e spos] e2 pos) (xx i fz fk f) :=
 dE (GH h (Ii (oF hN hv hd hcd) hk set_list ha) hs hw h1) fun E σ H ⟨HF,ρ,o,S,hg,q⟩=>by
  obtain⟨⟨d,ρ'⟩,h1,hg⟩:=bs hg
  obtain⟨kd,h2,hg⟩:=bs hg
  cases kd<;>try cases hg
  rename_i k
  obtain⟨ds,es,h3,h4,rfl⟩:=jH hg
  obtain⟨j,hj,rfl⟩:=map_some h4
  refine lU S h1 fun v H1 HF1 s1 S1 s2 r=>?_
  obtain⟨a,vs,e1,e2,e3,e5,e4⟩:=S1.own i ds h3
  refine⟨.ref a,e1,H1,bb ρ',.int k,.refl _,S1.all,h2,fun kv H2 HF2 G rk=>?_⟩
  simp only[Rep] at rk
  have S2:=S1.step G.hh
  obtain⟨a',vs',f1,f2,f3,f5,f4⟩:=S2.own i ds h3
  rw[e1] at f1;cases f1
  exact⟨a,vs',k,j,rfl,rk,f2,by rw[f4.length];exact hj,q σ _ HF1 (S2.mut h3 e1 f2 (vc r j f4)) s1⟩
end
end Dl
namespace Dl
open PySem L2 PySem.Spec PyProof.Rows
section
variable {X:Cx}{N:List Str}{sc:Scope}{k:Nat}{HF₀ H₀:Hp}{a b e c:Expr}{es:List Expr}{fa fb:Env->Option D}{fs:Env->Option (List D)}{pos p:Pos}
noncomputable def J6:D->Bool|.none=>true|_=>false
theorem nC {K:PySem.W.Frag}{HF:Hp}{d:D}{v:V}(r:Rep K HF d v):decide (v=.non)=J6 d:=by
 cases d<;>simp only[Rep] at r<;>first
  | (subst r;rfl)
  | (obtain⟨a,vs,rfl,_⟩:=r;rfl)
  | exact r.elim
noncomputable def m8:D->D->Option D:=fun x y=>if J6 y=true then some (.bool (J6 x)) else none
noncomputable def mF:D->D->Option D:=fun x y=>if J6 y=true then some (.bool (!J6 x)) else none
theorem yt {K:PySem.W.Frag}:eS K (fun x y H Q=>y=.non/\Q (.bl (decide (x=.non))) H) m8:=by
 intro HF H x y v1 v2 d Q sm r1 r2 hg q
 unfold m8 at hg
 split at hg
 ·rename_i h
  cases hg
  have h2:=nC r2
  rw[h,decide_eq_true_eq] at h2
  refine⟨h2,?_⟩
  rw[nC r1]
  exact q _ H HF (.refl sm) (by simp[Rep])
 ·cases hg
theorem vq {K:PySem.W.Frag}:eS K (fun x y H Q=>y=.non/\Q (.bl (!decide (x=.non))) H) mF:=by
 intro HF H x y v1 v2 d Q sm r1 r2 hg q
 unfold mF at hg
 split at hg
 ·rename_i h
  cases hg
  have h2:=nC r2
  rw[h,decide_eq_true_eq] at h2
  refine⟨h2,?_⟩
  rw[nC r1]
  exact q _ H HF (.refl sm) (by simp[Rep])
 ·cases hg
theorem Bk.is0 (C:Bk X N sc k) (ha:DE X a fa) (hb:DE X b fb):DE X (.Compare a [.Is] [b] pos) (f2 m8 fa fb):=il BW yt ha hb (cN _)
theorem Bk.not0 (C:Bk X N sc k) (ha:DE X a fa) (hb:DE X b fb):DE X (.Compare a [.IsNot] [b] pos) (f2 mF fa fb):=il xQ vq ha hb (cN _)
theorem Bk.tis0 (C:Bk X N sc k) (ha:DE X a fa) (hb:DE X b fb):DT X (.Compare a [.Is] [b] pos) (fB (f2 m8 fa fb)):=iw BW yt ha hb (cN _)
theorem Bk.tnot0 (C:Bk X N sc k) (ha:DE X a fa) (hb:DE X b fb):DT X (.Compare a [.IsNot] [b] pos) (fB (f2 mF fa fb)):=iw xQ vq ha hb (cN _)
theorem HN (hc:X.calm=true) (B:mv X "min" (.builtin "min")) (he:starEach (e::es) X.env=(false,eval e X.env)::starEach es X.env) (hpl:(backTo pos (starEach es X.env)).any (·.1)=false) (ha:DA X (e::es) fs):DE X (.Call (.Name "min" p) (e::es) [] pos) (aY uK fs) :=
 gM (AO hc) (by
  intro HF H ds vs d Q sm r hg q
  unfold uK at hg
  split at hg
  ·cases hg
   obtain⟨v1,r1,rfl,a1,b1⟩:=r.cons_inv
   obtain⟨v2,r2,rfl,a2,b2⟩:=b1.cons_inv
   rw[b2.nil_inv]
   simp only[Rep] at a1 a2
   exact .inl ⟨_,_,by rw[a1,a2],q _ H HF (.refl sm) (by simp[Rep])⟩
  ·cases hg
   obtain⟨v1,r1,rfl,a1,b1⟩:=r.cons_inv
   obtain⟨v2,r2,rfl,a2,b2⟩:=b1.cons_inv
   obtain⟨v3,r3,rfl,a3,b3⟩:=b2.cons_inv
   rw[b3.nil_inv]
   simp only[Rep] at a1 a2 a3
   exact .inr ⟨_,_,_,by rw[a1,a2,a3],q _ H HF (.refl sm) (by simp[Rep])⟩
  ·cases hg) B ha (by decide) (by decide) he hpl
end
end Dl
namespace Dl
open PySem L2 PySem.Spec PyProof.Rows
section
variable {X:Cx}{a b e c:Expr}{es:List Expr}{fa fb:Env->Option D}{fl fs:Env->Option (List D)}{pos p:Pos}
noncomputable def J7 (ds:List D):D->Option (List D)
 | .int k=>if vM k=true/\ds.length * k.toNat<=sizeLine then some (List.replicate k.toNat ds).flatten else none
 | _=>none
noncomputable def FW (fl:Env->Option (List D)) (fb:Env->Option D):Env->Option (List D):=fun ρ=>(fl ρ).bind fun ds=>(fb ρ).bind (J7 ds)
theorem Ie (ha:DF X a fl) (hb:DE X b fb):DF X (.BinOp a .Mult b pos) (FW fl fb):=aN (C9 IF ha hb) fun σ H Q ⟨HF,ρ,d,sm,eo,hf,q⟩=>by
 obtain⟨ds,hx,hf⟩:=bs hf
 obtain⟨y,hy,hg⟩:=bs hf
 refine⟨HF,ρ,ds,sm,eo,hx,fun l vs H1 HF1 g1 h0 hn h1 r1=>⟨HF1,ρ,y,g1.fh,eo.mono g1.ff,hy,fun v2 H2 HF2 g2 r2=>?_⟩⟩
 cases y<;>try cases hg
 rename_i k
 have hg:(if vM k=true/\ds.length * k.toNat<=sizeLine then some (List.replicate k.toNat ds).flatten else none)=some d:=hg
 split at hg
 ·rename_i hz
  cases hg
  simp only[Rep] at r2
  have r1:=r1.mono g2.ff
  have G:=g1.trans g2
  have ok:=hz.1
  simp only[vM,Bool.and_eq_true,decide_eq_true_eq] at ok
  exact⟨l,k,vs,rfl,r2,g2.hh _ _ h1,by omega,by omega,by rw[r1.length];exact hz.2,fun p hp=>q p _ _ HF2 (G.trans (.own G.fh hp)) (G.hh.free hp) (G.fh.free hp) aD (lD r1 _)⟩
 ·cases hg
theorem wU (hc:X.calm=true):cD X (.builtin "any") (fun xs H Q=>∃ (a:Addr) (bs:List Bool),xs=[.ref a]/\gT X.K H a (bs.map V.bl)/\Q (.bl (bs.any id)) H):=by
 intro pins s σ H xs us Q I r h
 obtain⟨a,bs,rfl,hq,q⟩:=h
 obtain⟨u,rfl,rx⟩:=vals1 r
 cases rx
 obtain⟨its,rv,pl,hz⟩:=I.list hq
 have hv:=kn rv
 subst hv
 have hh:X.A.in1.handled=none:=I.ok.hd hc
 refine call_any_walk (wpAny_pyIter_list pl.isList ?_)
 obtain⟨o,ho,hcl,n,hd⟩:=pl.isList
 have hne:a≠s.heap.objs.size:=Nat.ne_of_lt (Heap.lt_size ho)
 refine⟨_,_,_,_,_,_,fun i=>bs.getD i false,rfl,Walks.list hh s.heap.objs.size a hne (bs.map Value.bool).toArray,⟨⟨_,Heap.get?_push_size _ rfl,rfl,rfl⟩,pl.isList.push _⟩,fun i v s' Q' E' hP hQ=>?_,fun h' tk kp=>?_⟩
 ·have e:v=Value.bool (bs.getD i false):=by
   have hP:(bs.map Value.bool).toArray[i]?=some v:=hP
   rw[List.getElem?_toArray,List.getElem?_map] at hP
   obtain⟨b,hb,rfl⟩:=map_some hP
   rw[List.getD_eq_getElem?_getD,hb]
   rfl
  subst e
  exact wpAny_truthy_bool hQ
 ·refine⟨.bl (bs.any id),H,?_,?_,q⟩
  ·exact I.kept (t':=tk) fun b o' e=>kp b o' (by simp;exact Nat.ne_of_lt (Heap.lt_size e)) (Heap.get?_push_of_some _ e)
  ·show Value.bool _=Value.bool _
   have:=range_any bs
   simp only[List.size_toArray,List.length_map]
   rw[this]
end
end Dl
namespace Dl
open PySem L2 PySem.Spec PyProof.Rows
section
variable {X:Cx}{e:Expr}{fs:Env->Option (List D)}{pos p:Pos}
theorem Hb (hc:X.calm=true) (B:mv X "any" (.builtin "any")) (he:starEach [e] X.env=(false,eval e X.env)::starEach [] X.env) (ha:DA X [e] fs):DE X (.Call (.Name "any" p) [e] [] pos) (aY (fun ds=>(oneOf ds).bind fun d=>match d with
 | .list es=>(boolsOf es).map fun bs=>.bool (bs.any id)
 | _=>none) fs) :=
 gM (wU hc) (by
  intro HF H ds vs d Q sm r hg q
  obtain⟨x,hx,hg⟩:=bs hg
  rw[fF hx] at r
  cases x<;>try cases hg
  obtain⟨bs,hb,rfl⟩:=map_some hg
  obtain⟨v,r',rfl,a,b⟩:=r.cons_inv
  rw[b.nil_inv]
  simp only[Rep] at a
  obtain⟨p,us,rfl,h,rr⟩:=a
  rw[ir hb] at rr
  have:=kj rr
  subst this
  exact⟨p,bs,rfl,sm.seq h,q _ H HF (.refl sm) (by simp[Rep])⟩) B ha (by decide) (by decide) he rfl
theorem mN (ns:List Int):∀j:Nat,preSum (fun i=>ns.getD i 0) j=(ns.take j).sum
 | 0=>by simp[preSum]
 | j+1=>by
  rw[preSum,mN ns j,List.take_add_one,List.sum_append]
  congr 1
  rw[List.getD_eq_getElem?_getD]
  cases ns[j]?<;>simp
theorem qQ (val:Nat->Int) (B:Int) (h:∀i,-B<=val i/\val i<=B):∀j:Nat,-(B * j)<=preSum val j/\preSum val j<=B * j
 | 0=>by simp[preSum]
 | j+1=>by
  have ih:=qQ val B h j
  have:=h j
  rw[preSum]
  have e:B * ((j+1:Nat):Int)=B * (j:Int)+B:=by rw[Int.natCast_add,Int.mul_add];simp
  rw[e]
  omega
noncomputable def HD (ns:List Int):Bool:=decide (ns.length<=1000)&&ns.all fun n=>decide (-1000000<=n)&&decide (n<=1000000)
theorem IH {ns:List Int}(h:HD ns=true):ns.length<=1000/\∀i,-1000000<=ns.getD i 0/\ns.getD i 0<=1000000:=by
 unfold HD at h
 rw[Bool.and_eq_true,decide_eq_true_eq,List.all_eq_true] at h
 refine⟨h.1,fun i=>?_⟩
 rw[List.getD_eq_getElem?_getD]
 cases e:ns[i]? with
 | none=>simp
 | some n =>
  have:=h.2 n (List.mem_of_getElem? e)
  simpa using this
theorem nq {ns:List Int}{its:List Value}(r:az (ns.map V.int) its) {i:Nat}{v:Value}(h:its.toArray[i]?=some v):∃t,v=.int (ns.getD i 0) t:=by
 rw[List.getElem?_toArray] at h
 induction ns generalizing its i with
 | nil=>cases r;simp at h
 | cons n ns ih =>
  cases r with
  | cons r1 rr =>
   cases i with
   | zero =>
    simp only[List.getElem?_cons_zero,Option.some.injEq] at h
    subst h
    obtain⟨t,rfl⟩:=r1
    exact⟨t,rfl⟩
   | succ i =>
    simp only[List.getElem?_cons_succ] at h
    exact ih rr h
theorem wJ (hc:X.calm=true):cD X (.builtin "sum") (fun xs H Q=>∃ (a:Addr) (ns:List Int),xs=[.ref a]/\(gT X.K H a (ns.map V.int)\/iM X.K H a (ns.map V.int))/\HD ns=true/\Q (.int ns.sum) H):=by
 intro pins s σ H xs us Q I r h
 obtain⟨a,ns,rfl,hq,hok,q⟩:=h
 obtain⟨u,rfl,rx⟩:=vals1 r
 cases rx
 have hh:X.A.in1.handled=none:=I.ok.hd hc
 obtain⟨hlen,hbd⟩:=IH hok
 have hin:∀n:Nat,n<=1000->∀j,j < n->InLong ((fun i=>ns.getD i 0) j)/\InLong (preSum (fun i=>ns.getD i 0) (j+1)):=fun n hn j hj=>by
  have h1:=hbd j
  have h2:=qQ (fun i=>ns.getD i 0) 1000000 hbd (j+1)
  refine⟨⟨?_,?_⟩,?_,?_⟩
  ·show -(2 ^ 63)<=ns.getD j 0
   omega
  ·show ns.getD j 0 < 2 ^ 63
   omega
  ·omega
  ·omega
 have hsum:preSum (fun i=>ns.getD i 0) ns.length=ns.sum:=by rw[mN,List.take_length]
 rcases hq with hq|hq
 ·obtain⟨its,rv,pl,hz⟩:=I.list hq
  have hl:its.length=ns.length:=by rw[<- rv.length,List.length_map]
  refine call_sum_walk (wpAny_pyIter_list pl.isList ?_)
  obtain⟨o,ho,hcl,n,hd⟩:=pl.isList
  have hlt:=Heap.lt_size ho
  have hne:a≠s.heap.objs.size:=Nat.ne_of_lt hlt
  refine⟨_,_,_,_,_,_,fun i=>ns.getD i 0,rfl,Walks.list hh s.heap.objs.size a hne its.toArray,⟨⟨_,Heap.get?_push_size _ rfl,rfl,rfl⟩,pl.isList.push _⟩,fun b hb=>?_,fun i v hP=>nq rv hP,by rw[List.size_toArray,hl];exact hin _ hlen,fun h' tk t' kp=>?_⟩
  ·show b < (s.heap.push _).objs.size
   rw[Heap.size_push]
   simp only[List.mem_cons,List.not_mem_nil,or_false] at hb
   rcases hb with rfl|rfl
   ·exact Nat.lt_succ_self _
   ·exact Nat.lt_succ_of_lt hlt
  ·refine⟨.int ns.sum,H,I.kept (t':=tk) fun b o' e=>kp b o' (by simp;exact Nat.ne_of_lt (Heap.lt_size e)) (Heap.get?_push_of_some _ e),⟨t',?_⟩,q⟩
   rw[List.size_toArray,hl,hsum]
 ·obtain⟨its,rv,pl,hz⟩:=I.tuple hq
  have pl:s.heap.IsTuple a its.toArray:=pl
  have hl:its.length=ns.length:=by rw[<- rv.length,List.length_map]
  refine call_sum_walk (wpAny_pyIter_tuple pl ?_)
  obtain⟨o,ho,hcl,n,hd⟩:=id pl
  have hlt:=Heap.lt_size ho
  have hne:a≠s.heap.objs.size:=Nat.ne_of_lt hlt
  refine⟨_,_,_,_,_,_,fun i=>ns.getD i 0,rfl,Walks.tuple hh s.heap.objs.size a hne its.toArray,⟨⟨_,Heap.get?_push_size _ rfl,rfl,rfl⟩,pl.push _⟩,fun b hb=>?_,fun i v hP=>nq rv hP,by rw[List.size_toArray,hl];exact hin _ hlen,fun h' tk t' kp=>?_⟩
  ·show b < (s.heap.push _).objs.size
   rw[Heap.size_push]
   simp only[List.mem_cons,List.not_mem_nil,or_false] at hb
   rcases hb with rfl|rfl
   ·exact Nat.lt_succ_self _
   ·exact Nat.lt_succ_of_lt hlt
  ·refine⟨.int ns.sum,H,I.kept (t':=tk) fun b o' e=>kp b o' (by simp;exact Nat.ne_of_lt (Heap.lt_size e)) (Heap.get?_push_of_some _ e),⟨t',?_⟩,q⟩
   rw[List.size_toArray,hl,hsum]
end
end Dl
namespace Dl
open PySem L2 PySem.Spec PyProof.Rows
section
variable {X:Cx}{e:Expr}{fs:Env->Option (List D)}{pos p:Pos}
noncomputable def pN:List D->Option D:=fun ds=>(cM ds).bind fun es=>(intsOf es).bind fun ns=>if HD ns=true then some (.int ns.sum) else none
theorem jG {K:PySem.W.Frag}{H:Hp}:∀ {ns:List Int}{vs:List V},aq K H (ns.map PyData.int) vs->vs=ns.map V.int
 | [],vs,h=>h.nil_inv
 | b::bs,vs,h=>by
  obtain⟨v,r,rfl,a,c⟩:=h.cons_inv
  simp only[Rep] at a
  rw[a,jG c]
  rfl
theorem Hs (hc:X.calm=true) (B:mv X "sum" (.builtin "sum")) (he:starEach [e] X.env=(false,eval e X.env)::starEach [] X.env) (ha:DA X [e] fs):DE X (.Call (.Name "sum" p) [e] [] pos) (aY pN fs) :=
 gM (wJ hc) (by
  intro HF H ds vs d Q sm r hg q
  obtain⟨es,h1,hg⟩:=bs hg
  obtain⟨ns,h2,hg⟩:=bs hg
  have hg:(if HD ns=true then some (PyData.int ns.sum) else none)=some d:=hg
  split at hg
  ·rename_i hok
   cases hg
   have e2:=dk h2
   subst e2
   rcases fP h1 with rfl|rfl
   all_goals
    obtain⟨v,r',rfl,a,b⟩:=r.cons_inv
    rw[b.nil_inv]
    simp only[Rep] at a
    obtain⟨p,us,rfl,h,rr⟩:=a
    have:=jG rr
    subst this
   ·exact⟨p,ns,rfl,.inr (aw sm h),hok,q _ H HF (.refl sm) (by simp[Rep])⟩
   ·exact⟨p,ns,rfl,.inl (sm.seq h),hok,q _ H HF (.refl sm) (by simp[Rep])⟩
  ·cases hg) B ha (by decide) (by decide) he rfl
end
end Dl
namespace Dl
open PySem L2 PySem.Spec PyProof.Rows
section
variable {X:Cx}
noncomputable def Je (i:Int):Value->Bool|.int a _=>a == i|_=>false
theorem Ac:Jb X "list.index" (fun x vs H Q=>∃ (l:Addr) (ns:List Int) (i:Int) (j:Nat),x=.ref l/\vs=[.int i]/\gT X.K H l (ns.map V.int)/\ns[j]?=some i/\(∀m,m < j->ns[m]?≠some i)/\Q (.int j) H):=by
 intro pins s σ H x vs v us Q I rx rv h
 obtain⟨l,ns,i,j,rfl,rfl,hq,hj,hno,q⟩:=h
 cases rx
 obtain⟨u,rfl,ru⟩:=rv.one
 obtain⟨t,rfl⟩:=ru
 obtain⟨its,r,pl,hz⟩:=I.list hq
 obtain⟨⟨cls,dd,data,sl⟩,ho,hc,n,hd⟩:=id pl.isList
 simp only at hc hd
 subst hc hd
 have hl:its.length=ns.length:=by rw[<- r.length,List.length_map]
 have hj1:j < ns.length:=(List.getElem?_eq_some_iff.mp hj).1
 have hz':ns.length<=sizeLine:=by rw[List.length_map] at hz;exact hz
 have hs63:(sizeLine:Nat) < 2 ^ 62:=by decide
 have at_:∀m (hm:m < its.toArray.size),∃t',its.toArray[m]=.int (ns.getD m 0) t':=fun m hm=>nq r (Array.getElem?_eq_getElem hm)
 refine call_meets F.slot_list_index ⟨_,ho,rfl⟩ F.entry_list_index (F.args_list_index_2 _ _) (PySem.SeqAt.list_indexAt l its.toArray n dd sl (.int i t) (Je i) j (by rw[List.size_toArray,hl];exact hj1) (by omega) ?_ ?_) ⟨ho,?_,?_⟩
 ·obtain⟨t',e⟩:=at_ j (by rw[List.size_toArray,hl];exact hj1)
  rw[e,Je,List.getD_eq_getElem?_getD,hj]
  simp
 ·intro m hm hmj
  obtain⟨t',e⟩:=at_ m hm
  have hm':m < ns.length:=by omega
  have:=hno m hmj
  rw[e,Je,List.getD_eq_getElem?_getD]
  rw[List.getElem?_eq_getElem hm'] at this ⊢
  simp only[Option.getD_some,beq_eq_false_iff_ne]
  exact fun h=>this (by rw[h])
 ·intro y hy
  obtain⟨m,hm,rfl⟩:=Array.getElem_of_mem hy
  obtain⟨t',e⟩:=at_ m hm
  rw[e]
  exact PySem.SeqAt.EqAt.int_int _ _ _ _
 ·exact⟨.int j,H,I.tok _,⟨_,rfl⟩,q⟩
noncomputable def uy (i:Int):List Int->Option Nat
 | []=>none
 | n::ns=>if n=i then some 0 else (uy i ns).map (·+1)
theorem lZ {i:Int}:∀ {ns:List Int}{j:Nat},uy i ns=some j->ns[j]?=some i/\∀m,m < j->ns[m]?≠some i
 | [],j,h=>by cases h
 | n::ns,j,h=>by
  unfold uy at h
  split at h
  ·cases h
   rename_i e
   exact⟨by rw[e];rfl,fun m hm=>absurd hm (Nat.not_lt_zero _)⟩
  ·rename_i e
   obtain⟨k,hk,rfl⟩:=map_some h
   obtain⟨a,b⟩:=lZ hk
   refine⟨by simpa using a,fun m hm=>?_⟩
   cases m with
   | zero=>simpa using e
   | succ m=>simpa using b m (by omega)
noncomputable def K5:D->D->Option D
 | .list es,.int i=>(intsOf es).bind fun ns=>(uy i ns).map fun j=>.int ((j:Nat):Int)
 | _,_=>none
theorem AC {o e:Expr}{apos cpos:Pos}{fo fe:Env->Option D}(hbase:attributeBase o "index" X.env (eval o X.env)=eval o X.env)
  (hfew:((backTo cpos (starEach [e] X.env)).all (fun x=>!x.1)&&(backToKw cpos (keywordEach [] X.env)).all (fun x=>x.1.isSome)&&decide ([e].length+([]:List Keyword).length+(if ([]:List Keyword).isEmpty then 0 else 1) < 30))=true)
  (hline:(apos.endLine == cpos.line)=true) (hs:starEach [e] X.env=(false,eval e X.env)::starEach [] X.env) (ho:DE X o fo) (he:DE X e fe):DE X (.Call (.Attribute o "index" apos) [e] [] cpos) (f2 K5 fo fe) :=
 aN (qY PySem.F.plainAttrs_list PySem.F.slot_list_index PySem.F.type_list_index Ac ho (cW he gf hs) hbase hfew hline hs rfl) fun σ H Q ⟨HF,ρ,d,sm,eo,hf,q⟩=>by
  obtain⟨x,hx,hf⟩:=bs hf
  obtain⟨y,hy,hg⟩:=bs hf
  refine⟨HF,ρ,x,sm,eo,hx,fun v1 H1 HF1 g1 r1=>?_⟩
  cases x<;>try cases hg
  cases y<;>try cases hg
  rename_i es i
  obtain⟨ns,h1,hg⟩:=bs hg
  obtain⟨j,h2,rfl⟩:=map_some hg
  have e1:=dk h1
  subst e1
  simp only[Rep] at r1
  obtain⟨l,us,rfl,hq,rr⟩:=r1
  have:=jG rr
  subst this
  refine⟨.inl ⟨rfl,_,g1.fh.seq hq⟩,HF1,ρ,.int i,g1.fh,eo.mono g1.ff,hy,fun v2 H2 HF2 g2 r2=>?_⟩
  simp only[Rep] at r2
  obtain⟨a,b⟩:=lZ h2
  exact⟨l,ns,i,j,rfl,by rw[r2],g2.fh.seq (g2.ff.seq hq),a,b,q _ H2 HF2 (g1.trans g2) (by simp[Rep])⟩
end
end Dl
namespace Tx
open PySem PySem.SeqAt PyProof.Rows
open PySem.AutoSeq1 (wpAny_loadPart')
open PySem.MeetsSeq PySem.MeetsSeq2 PySem.MeetsSeq3
theorem wpR {M:Model}{A:Around}{E:Value->Shared->Prop}{s:Shared}{β:Type}(f:Nat->β->Sem (ForInStep β)) (I:List Nat->β->Shared->Prop) (Q:β->Shared->Prop)
  (turn:∀x rest b s,I (x::rest) b s->wpAny M A (f x b) (fun r s'=>match r with|.yield b'=>I rest b' s'|.done b'=>Q b' s') E s)
  (fin:∀b s,I [] b s->Q b s) (n:Nat) (b:β) (h:I (List.range' 0 n 1) b s):wpAny M A (forIn [:n] b f) Q E s:=by
 have e:forIn [:n] b f=forIn (List.range' 0 n 1) b f:=by
  rw[Std.Legacy.Range.forIn_eq_forIn_range']
  simp[Std.Legacy.Range.size]
 rw[e]
 exact wpAny_forIn_list f I Q turn fin _ b h
theorem tuple_indexAt (l:Addr) (items:Array Value) (n:Nat) (dd:Option Addr) (sl:Array (Option Value)) (x:Value) (e:Value->Bool) (j:Nat) (hj:j < items.size) (h1:e items[j]=true) (h2:∀m (hm:m < items.size),m < j->e items[m]=false) :
  Meets (Builtin.«tuple.index» ⟨[.ref l,x],[]⟩)
   (fun A R s=>s.heap.get? l=some { cls:=.type "tuple",dict:=dd,data:=.seq items n,slots:=sl }/\(∀y,y∈items->EqAt A.in1 s y x (e y))/\R (.ok (.ret (.int (j:Nat) s.toks))) { s with toks:=s.toks+1 }) :=
 .of_wp fun prog w A R s h=>by
  obtain⟨hp,g,d,tk,os⟩:=s;obtain⟨hl,he,h⟩:=h
  wp_walk using wpAny_loadPart' hl,wpR _ (fun rest b s'=>s'=⟨hp,g,d,tk,os⟩/\b.1=none/\∃i,i<=j/\rest=List.range' i (items.size - i) 1) _
  case turn =>
   rintro i rest b s' ⟨rfl,hb,i',hi,e1⟩
   have hlt:i' < items.size:=by omega
   rw[show items.size - i'=(items.size - (i'+1))+1 by omega,List.range'_succ] at e1
   injection e1 with e2 e3
   subst e2
   subst e3
   simp only[Array.getElem?_eq_getElem hlt]
   refine wpAny_bind (he _ (Array.getElem_mem hlt) prog w _ _ ?_)
   by_cases hij:i=j
   ·subst hij
    rw[h1]
    wp_walk
    exact⟨_,rfl,h⟩
   ·rw[h2 i hlt (by omega)]
    wp_walk
    exact⟨rfl,rfl,i+1,by omega,rfl⟩
  case fin =>
   rintro b s' ⟨rfl,hb,i,hi,e1⟩
   have:=congrArg List.length e1
   simp at this
   omega
  case h =>
   exact⟨rfl,rfl,0,Nat.zero_le _,by simp⟩
end Tx
namespace Dl
open PySem L2 PySem.Spec PyProof.Rows
section
variable {X:Cx}
theorem Aj:Jb X "tuple.index" (fun x vs H Q=>∃ (l:Addr) (ns:List Int) (i:Int) (j:Nat),x=.ref l/\vs=[.int i]/\iM X.K H l (ns.map V.int)/\ns[j]?=some i/\(∀m,m < j->ns[m]?≠some i)/\Q (.int j) H):=by
 intro pins s σ H x vs v us Q I rx rv h
 obtain⟨l,ns,i,j,rfl,rfl,hq,hj,hno,q⟩:=h
 cases rx
 obtain⟨u,rfl,ru⟩:=rv.one
 obtain⟨t,rfl⟩:=ru
 obtain⟨its,r,pl,hz⟩:=I.tuple hq
 obtain⟨⟨cls,dd,data,sl⟩,ho,hc,n,hd⟩:=id pl
 simp only at hc hd
 subst hc hd
 have hl:its.length=ns.length:=by rw[<- r.length,List.length_map]
 have hj1:j < ns.length:=(List.getElem?_eq_some_iff.mp hj).1
 have at_:∀m (hm:m < its.toArray.size),∃t',its.toArray[m]=.int (ns.getD m 0) t':=fun m hm=>nq r (Array.getElem?_eq_getElem hm)
 refine call_meets F.slot_tuple_index ⟨_,ho,rfl⟩ F.entry_tuple_index (F.args_tuple_index_2 _ _) (Tx.tuple_indexAt l its.toArray n dd sl (.int i t) (Je i) j (by rw[List.size_toArray,hl];exact hj1) ?_ ?_) ⟨ho,?_,?_⟩
 ·obtain⟨t',e⟩:=at_ j (by rw[List.size_toArray,hl];exact hj1)
  rw[e,Je,List.getD_eq_getElem?_getD,hj]
  simp
 ·intro m hm hmj
  obtain⟨t',e⟩:=at_ m hm
  have hm':m < ns.length:=by
   rw[List.size_toArray] at hm
   omega
  have:=hno m hmj
  rw[e,Je,List.getD_eq_getElem?_getD]
  rw[List.getElem?_eq_getElem hm'] at this ⊢
  simp only[Option.getD_some,beq_eq_false_iff_ne]
  exact fun h=>this (by rw[h])
 ·intro y hy
  obtain⟨m,hm,rfl⟩:=Array.getElem_of_mem hy
  obtain⟨t',e⟩:=at_ m hm
  rw[e]
  exact PySem.SeqAt.EqAt.int_int _ _ _ _
 ·exact⟨.int j,H,I.tok _,⟨_,rfl⟩,q⟩
theorem Be {e:Expr}{t u:TE}(h:PE X e t) (g:PE X e u):PE X e (fun σ H Q=>t σ H Q\/u σ H Q):=fun pins s σ H Q I q=>q.elim (h pins s σ H Q I) (g pins s σ H Q I)
noncomputable def mZ:D->D->Option D
 | .list es,.int i=>(intsOf es).bind fun ns=>(uy i ns).map fun j=>.int ((j:Nat):Int)
 | .tuple es,.int i=>(intsOf es).bind fun ns=>(uy i ns).map fun j=>.int ((j:Nat):Int)
 | _,_=>none
theorem zr {o e:Expr}{apos cpos:Pos}{fo fe:Env->Option D}(hbase:attributeBase o "index" X.env (eval o X.env)=eval o X.env)
  (hfew:((backTo cpos (starEach [e] X.env)).all (fun x=>!x.1)&&(backToKw cpos (keywordEach [] X.env)).all (fun x=>x.1.isSome)&&decide ([e].length+([]:List Keyword).length+(if ([]:List Keyword).isEmpty then 0 else 1) < 30))=true)
  (hline:(apos.endLine == cpos.line)=true) (hs:starEach [e] X.env=(false,eval e X.env)::starEach [] X.env) (ho:DE X o fo) (he:DE X e fe):DE X (.Call (.Attribute o "index" apos) [e] [] cpos) (f2 mZ fo fe) :=
 aN (Be (AC hbase hfew hline hs ho he) (qY PySem.F.plainAttrs_tuple PySem.F.slot_tuple_index PySem.F.type_tuple_index Aj ho (cW he gf hs) hbase hfew hline hs rfl)) fun σ H Q ⟨HF,ρ,d,sm,eo,hf,q⟩=>by
  obtain⟨x,hx,hf⟩:=bs hf
  obtain⟨y,hy,hg⟩:=bs hf
  cases x<;>try cases hg
  ·cases y<;>try cases hg
   rename_i es i
   exact .inl ⟨HF,ρ,d,sm,eo,by simp only[f2,hx,hy,Option.bind_some];exact hg,q⟩
  ·cases y<;>try cases hg
   rename_i es i
   obtain⟨ns,h1,hg⟩:=bs hg
   obtain⟨j,h2,rfl⟩:=map_some hg
   have e1:=dk h1
   subst e1
   refine .inr ⟨HF,ρ,_,sm,eo,hx,fun v1 H1 HF1 g1 r1=>?_⟩
   simp only[Rep] at r1
   obtain⟨l,us,rfl,hq,rr⟩:=r1
   have:=jG rr
   subst this
   refine⟨?_,HF1,ρ,.int i,g1.fh,eo.mono g1.ff,hy,fun v2 H2 HF2 g2 r2=>?_⟩
   ·first|exact .inr (.inl ⟨rfl,_,aw g1.fh hq⟩)|exact .inl ⟨rfl,_,aw g1.fh hq⟩|exact .inr ⟨rfl,_,aw g1.fh hq⟩
   ·simp only[Rep] at r2
    obtain⟨a,b⟩:=lZ h2
    exact⟨l,ns,i,j,rfl,by rw[r2],aw g2.fh (aw g2.ff hq),a,b,q _ H2 HF2 (g1.trans g2) (by simp[Rep])⟩
end
end Dl
namespace Zp
open PySem PyProof.Rows
noncomputable def IsI (b:Bool) (h:Heap) (it l:Addr) (k:Nat):Prop:=match b with|true=>h.IsTupleIter it l k|false=>h.IsListIter it l k
noncomputable def IsS (b:Bool) (h:Heap) (l:Addr) (xs:Array Value):Prop:=match b with|true=>h.IsTuple l xs|false=>h.IsList l xs
theorem IsI.obj {b:Bool}{h:Heap}{it l:Addr}{k:Nat}(x:IsI b h it l k):∃o,h.get? it=some o/\∀v,o.data≠.cell v:=by
 cases b
 ·obtain⟨o,e,_,d⟩:=(show h.IsListIter it l k from x);exact⟨o,e,fun v q=>by rw[d] at q;cases q⟩
 ·obtain⟨o,e,_,d⟩:=(show h.IsTupleIter it l k from x);exact⟨o,e,fun v q=>by rw[d] at q;cases q⟩
theorem IsI.at {b:Bool}{h h':Heap}{it l:Addr}{k:Nat}(x:IsI b h it l k) (e:∀o,h.get? it=some o->h'.get? it=some o):IsI b h' it l k:=by
 cases b
 ·exact Heap.IsListIter.at x e
 ·exact Heap.IsTupleIter.at x e
theorem IsI.extBut {b:Bool}{h h':Heap}{a it l:Addr}{k:Nat}(x:IsI b h it l k) (e:Heap.ExtBut a h h') (n:it≠a):IsI b h' it l k:=x.at fun o q=>e it o n q
theorem IsS.at {b:Bool}{h h':Heap}{l:Addr}{xs:Array Value}(x:IsS b h l xs) (e:∀o,h.get? l=some o->h'.get? l=some o):IsS b h' l xs:=by
 cases b
 ·obtain⟨o,q,r⟩:=(show h.IsList l xs from x);exact⟨o,e o q,r⟩
 ·obtain⟨o,q,r⟩:=(show h.IsTuple l xs from x);exact⟨o,e o q,r⟩
theorem IsS.extBut {b:Bool}{h h':Heap}{a l:Addr}{xs:Array Value}(x:IsS b h l xs) (e:Heap.ExtBut a h h') (n:l≠a):IsS b h' l xs:=x.at fun o q=>e l o n q
section
variable {prog:Program}{w:World}{A:Around}{E:Value->Shared->Prop}{s:Shared}
theorem nxt {b:Bool}{j t:Addr}{k:Nat}{its:Array Value}{v:Value}{Q:Value->Shared->Prop}(hj:IsI b s.heap j t k) (ht:IsS b s.heap t its) (hv:its[k]?=some v)
  (hQ:∀g,IsI b g j t (k+1)->Heap.SameBut j s.heap g->Q v { s with heap:=g }):wpAny (model prog w) A (Builtin.SmallTypes.nextOf (.ref j)) Q E s:=by
 cases b
 ·exact wpAny_nextOf_list_item hj ht hv hQ
 ·exact En.nextT_item hj ht hv hQ
theorem nxtE {b:Bool}{j t:Addr}{k:Nat}{its:Array Value}{Q:Value->Shared->Prop}(hh:A.handled=none) (hj:IsI b s.heap j t k) (ht:IsS b s.heap t its) (hv:its[k]?=none)
  (hE:∀g x,Heap.ExtBut j s.heap g->(∃o,g.get? x=some o/\o.cls=.type "StopIteration")->E (.ref x) { s with heap:=g }):wpAny (model prog w) A (Builtin.SmallTypes.nextOf (.ref j)) Q E s:=by
 cases b
 ·exact wpAny_nextOf_list_end hh hj ht hv hE
 ·exact En.nextT_end hh hj ht hv hE
structure ZS (b₁ b₂:Bool) (h₀ h:Heap) (z TI TO i j l m:Addr) (xs ys:Array Value) (f:Value) (p q:Nat) (a b:Value):Prop where
 zo:IsZip h z TI TO f
 ti:IsPair h TI (.ref i) (.ref j)
 to:IsPair h TO a b
 wi:IsI b₁ h i l p
 wj:IsI b₂ h j m q
 sl:IsS b₁ h l xs
 sm:IsS b₂ h m ys
 kp:∀c o,c≠z->c≠TO->c≠i->c≠j->h₀.get? c=some o->h.get? c=some o
 sz:h.objs.size=h₀.objs.size
section
variable {b₁ b₂:Bool}{h₀ h g:Heap}{z TI TO i j l m:Addr}{xs ys:Array Value}{f f':Value}{p q:Nat}{a b x y:Value}
theorem ZS.fl (Z:ZS b₁ b₂ h₀ h z TI TO i j l m xs ys f p q a b) (D:ZipApart z TI TO i j l m) (e:IsZip g z TI TO f') (t:Heap.SameBut z h g):ZS b₁ b₂ h₀ g z TI TO i j l m xs ys f' p q a b :=
 ⟨e,t.extBut _ _ D.TIz Z.ti,t.extBut _ _ D.TOz Z.to,Z.wi.extBut t.extBut D.i1z,Z.wj.extBut t.extBut D.i2z,Z.sl.extBut t.extBut D.l1z,Z.sm.extBut t.extBut D.l2z,fun c o n1 n2 n3 n4 r=>t.extBut _ _ n1 (Z.kp c o n1 n2 n3 n4 r),t.1.trans Z.sz⟩
theorem ZS.fst (Z:ZS b₁ b₂ h₀ h z TI TO i j l m xs ys f p q a b) (D:ZipApart z TI TO i j l m) (e:IsI b₁ g i l (p+1)) (t:Heap.SameBut i h g):ZS b₁ b₂ h₀ g z TI TO i j l m xs ys f (p+1) q a b :=
 ⟨t.extBut _ _ D.i1z.symm Z.zo,t.extBut _ _ D.TIi1 Z.ti,t.extBut _ _ D.TOi1 Z.to,e,Z.wj.extBut t.extBut D.i12.symm,Z.sl.extBut t.extBut D.l1i1,Z.sm.extBut t.extBut D.l2i1,fun c o n1 n2 n3 n4 r=>t.extBut _ _ n3 (Z.kp c o n1 n2 n3 n4 r),t.1.trans Z.sz⟩
theorem ZS.snd (Z:ZS b₁ b₂ h₀ h z TI TO i j l m xs ys f p q a b) (D:ZipApart z TI TO i j l m) (e:IsI b₂ g j m (q+1)) (t:Heap.SameBut j h g):ZS b₁ b₂ h₀ g z TI TO i j l m xs ys f p (q+1) a b :=
 ⟨t.extBut _ _ D.i2z.symm Z.zo,t.extBut _ _ D.TIi2 Z.ti,t.extBut _ _ D.TOi2 Z.to,Z.wi.extBut t.extBut D.i12,e,Z.sl.extBut t.extBut D.l1i2,Z.sm.extBut t.extBut D.l2i2,fun c o n1 n2 n3 n4 r=>t.extBut _ _ n4 (Z.kp c o n1 n2 n3 n4 r),t.1.trans Z.sz⟩
theorem ZS.put (Z:ZS b₁ b₂ h₀ h z TI TO i j l m xs ys f p q a b) (D:ZipApart z TI TO i j l m) (e:IsPair g TO x y) (t:Heap.SameBut TO h g):ZS b₁ b₂ h₀ g z TI TO i j l m xs ys f p q x y :=
 ⟨t.extBut _ _ D.TOz.symm Z.zo,t.extBut _ _ D.TITO Z.ti,e,Z.wi.extBut t.extBut D.TOi1.symm,Z.wj.extBut t.extBut D.TOi2.symm,Z.sl.extBut t.extBut D.l1TO,Z.sm.extBut t.extBut D.l2TO,fun c o n1 n2 n3 n4 r=>t.extBut _ _ n2 (Z.kp c o n1 n2 n3 n4 r),t.1.trans Z.sz⟩
end
variable {b₁ b₂:Bool}{z TI TO i j l m:Addr}{xs ys:Array Value}{p q:Nat}{a b:Value}
theorem zipN {Q:Value->Shared->Prop}(hn:A.handled=none) (D:ZipApart z TI TO i j l m) (Z:ZS b₁ b₂ s.heap s.heap z TI TO i j l m xs ys .none p q a b)
  (item:∀x y g g',xs[p]?=some x->ys[q]?=some y->ZS b₁ b₂ s.heap g z TI TO i j l m xs ys .ellipsis (p+1) (q+1) x y->IsZip g' z TI TO (rawInt g.objs.size) ->
   Heap.SameBut z (g.push { cls:=.type "tuple",data:=.seq #[x,y] }) g'->Q (.ref g.objs.size) { s with heap:=g' })
  (over:(xs[p]?=none\/ys[q]?=none)->∀g e,(∀c o,c≠z->c≠TO->c≠i->c≠j->s.heap.get? c=some o->g.get? c=some o)->(∃o,g.get? e=some o/\o.cls=.type "StopIteration")->E (.ref e) { s with heap:=g }) :
  wpAny (model prog w) A (Builtin.«zip.__next__» ⟨[.ref z],[]⟩) (fun r s'=>∃v,r=.done (.ret v)/\Q v s') E s:=by
 have stop:∀ {g1 g2:Heap}{e:Addr}{c:Addr}{p' q':Nat}{a' b':Value},ZS b₁ b₂ s.heap g1 z TI TO i j l m xs ys .ellipsis p' q' a' b'->(c=i\/c=j)->(xs[p]?=none\/ys[q]?=none)->Heap.ExtBut c g1 g2 ->
   (∃o,g2.get? e=some o/\o.cls=.type "StopIteration")->wpAny (model prog w) A (setField (.ref z) 0 Value.none) (fun _ t=>E (.ref e) t) E { s with heap:=g2 }:=by
  intro g1 g2 e c p' q' a' b' Y hc hv k ⟨o,ho,ht⟩
  have cz:z≠c:=hc.elim (fun e=>e ▸ D.i1z.symm) fun e=>e ▸ D.i2z.symm
  have Yz:IsZip g2 z TI TO .ellipsis:=k _ _ cz Y.zo
  refine wpAny_setField_rec Yz (by simp) fun g3 _ t=>over hv g3 e (fun d u n1 n2 n3 n4 r=>t.extBut _ _ n1 (k _ _ ?_ (Y.kp d u n1 n2 n3 n4 r))) ⟨o,t.extBut _ _ ?_ ho,ht⟩
  ·exact hc.elim (fun e=>e ▸ n3) fun e=>e ▸ n4
  ·rintro rfl;rw[Yz] at ho;cases ho;simp at ht
 show wpAny _ _ (field (.ref z) 2 >>= _) _ _ _
 refine wpAny_bind (wpAny_field Z.zo rfl (x:=.bool false) rfl (wpAny_bind (wpAny_field Z.zo rfl (x:=.ref TI) rfl (wpAny_bind (wpAny_seqItems Z.ti rfl (wpAny_bind (m:=Builtin.SmallTypes.ownedTupleIsFree _) ?_))))))
 refine wpAny_bind (wpAny_field Z.zo rfl (x:=.none) rfl (wpAny_pure ?_))
 rw[if_pos rfl]
 refine wpAny_bind (wpAny_rule (wpAny_bind (wpAny_field Z.zo rfl (x:=.ref TO) rfl (wpAny_bind (wpAny_setField_rec Z.zo (by simp) fun g1 e1 t1=>?_)))))
 have Z1:=Z.fl D (f':=.ellipsis) e1 t1
 refine wpAny_bind ?_
 simp only[List.zipIdx_cons,List.zipIdx_nil,List.forIn_cons,List.forIn_nil]
 refine wpAny_bind (wpAny_bind (wpAny_onRaise (wpAny_bind (m:=Builtin.SmallTypes.nextOf _) ?_)))
 cases hx:xs[p]? with
 | none=>exact nxtE hn Z1.wi Z1.sl hx fun g2 e k o=>stop Z1 (.inl rfl) (.inl hx) k o
 | some x =>
 refine nxt Z1.wi Z1.sl hx fun g2 e2 t2=>wpAny_pure ?_
 have Z2:=Z1.fst D e2 t2
 refine wpAny_bind (wpAny_seqItems Z2.to rfl (wpAny_bind (wpAny_updateSeq_pair Z2.to fun g3 e3 t3=>wpAny_bind (wpAny_letGo (wpAny_pure ?_)))))
 have Z3:=Z2.put D (x:=x) (y:=b) e3 t3
 refine wpAny_bind (wpAny_bind (wpAny_onRaise (wpAny_bind (m:=Builtin.SmallTypes.nextOf _) ?_)))
 cases hy:ys[q]? with
 | none=>exact nxtE hn Z3.wj Z3.sm hy fun g4 e k o=>stop Z3 (.inr rfl) (.inr hy) k o
 | some y =>
 refine nxt Z3.wj Z3.sm hy fun g4 e4 t4=>wpAny_pure ?_
 have Z4:=Z3.snd D e4 t4
 refine wpAny_bind (wpAny_seqItems Z4.to rfl (wpAny_bind (wpAny_updateSeq_pair Z4.to fun g5 e5 t5=>wpAny_bind (wpAny_letGo (wpAny_pure (wpAny_pure ?_))))))
 have Z5:=Z4.put D (x:=x) (y:=y) e5 t5
 refine wpAny_bind (wpAny_seqItems Z5.to rfl (wpAny_bind (wpAny_newTuple (wpAny_bind (m:=Builtin.SmallTypes.ownedTupleHandOut _ _) ?_))))
 refine wpAny_bind (wpAny_setField_rec (Heap.get?_push_of_some _ Z5.zo) (by simp) fun g6 e6 t6=>wpAny_setField_rec e6 (by simp) fun g7 e7 t7=>wpAny_pure ⟨_,rfl,?_⟩)
 exact item x y g5 g7 hx hy Z5 e7 (t6.trans t7)
theorem nextZ {x y:Value}{Q:Option Value->Shared->Prop}(hn:A.handled=none) (D:ZipApart z TI TO i j l m)
  (qz:IsZip s.heap z TI TO .none) (qI:IsPair s.heap TI (.ref i) (.ref j)) (qO:IsPair s.heap TO a b)
  (p1:IsI b₁ s.heap i l p) (p2:IsI b₂ s.heap j m q) (r1:IsS b₁ s.heap l xs) (r2:IsS b₂ s.heap m ys) (ex:xs[p]?=some x) (ey:ys[q]?=some y)
  (kQ:∀g,IsZip g z TI TO (rawInt s.heap.objs.size)->IsPair g TO x y->IsI b₁ g i l (p+1)->IsI b₂ g j m (q+1)->IsPair g s.heap.objs.size x y->g.objs.size=s.heap.objs.size+1 ->
   (∀c o,c≠z->c≠TO->c≠i->c≠j->s.heap.get? c=some o->g.get? c=some o)->Q (some (.ref s.heap.objs.size)) { s with heap:=g }) :
  wpAny (model prog w) A (pyNext (.ref z)) Q E s:=by
 have ty:s.TypeIs (.ref z) "zip":=⟨_,qz,rfl⟩
 have Z:ZS b₁ b₂ s.heap s.heap z TI TO i j l m xs ys .none p q a b:=⟨qz,qI,qO,p1,p2,r1,r2,fun _ _ _ _ _ _ e=>e,rfl⟩
 refine wpAny_bind (wpAny_attempt (wpAny_callSpecial?_slot (name:=Str.ofString "__next__") ty F.slot_zip_next (wpAny_call_entry F.slot_zip_next ty F.entry_zip_next (zipN hn D Z ?_ ?_) (F.args_zip_next_1 _))))
 ·intro x' y' g g' hx hy Y ez t
  rw[ex] at hx;rw[ey] at hy;cases hx;cases hy
  rw[Y.sz] at ez ⊢
  have lt:=Heap.lt_size Y.zo
  have up:∀c o,c≠z->g.get? c=some o->g'.get? c=some o:=fun c o n e=>t.extBut _ _ n (Heap.get?_push_of_some _ e)
  refine wpAny_pure (kQ g' ez (up _ _ D.TOz Y.to) (Y.wi.at fun o e=>up _ _ D.i1z e) (Y.wj.at fun o e=>up _ _ D.i2z e) ?_ (by rw[t.1,Heap.size_push,Y.sz]) fun c o n1 n2 n3 n4 e=>up c o n1 (Y.kp c o n1 n2 n3 n4 e))
  rw[<- Y.sz]
  exact t.extBut _ _ (Nat.ne_of_gt lt) (Heap.get?_push_size _ rfl)
 ·intro no
  rw[ex,ey] at no
  rcases no with no|no<;>cases no
theorem nextZE {Q:Option Value->Shared->Prop}(hn:A.handled=none) (D:ZipApart z TI TO i j l m)
  (qz:IsZip s.heap z TI TO .none) (qI:IsPair s.heap TI (.ref i) (.ref j)) (qO:IsPair s.heap TO a b)
  (p1:IsI b₁ s.heap i l p) (p2:IsI b₂ s.heap j m q) (r1:IsS b₁ s.heap l xs) (r2:IsS b₂ s.heap m ys) (ends:xs[p]?=none\/ys[q]?=none)
  (kQ:∀g,(∀c o,c≠z->c≠TO->c≠i->c≠j->s.heap.get? c=some o->g.get? c=some o)->Q none { s with heap:=g }):wpAny (model prog w) A (pyNext (.ref z)) Q E s:=by
 have ty:s.TypeIs (.ref z) "zip":=⟨_,qz,rfl⟩
 have Z:ZS b₁ b₂ s.heap s.heap z TI TO i j l m xs ys .none p q a b:=⟨qz,qI,qO,p1,p2,r1,r2,fun _ _ _ _ _ _ e=>e,rfl⟩
 refine wpAny_bind (wpAny_attempt (wpAny_callSpecial?_slot (name:=Str.ofString "__next__") ty F.slot_zip_next (wpAny_call_entry F.slot_zip_next ty F.entry_zip_next (zipN hn D Z ?_ ?_) (F.args_zip_next_1 _))))
 ·intro x y g g' hx hy
  rw[hx,hy] at ends
  rcases ends with no|no<;>cases no
 ·rintro _ g e kp ⟨o,ho,ht⟩
  exact wpAny_bind (wpAny_isInstance (T:="StopIteration") (b:=true) ⟨o,ho,ht⟩ isSubtype_stop (wpAny_pure (kQ _ kp)))
end
end Zp
namespace Zp
open PySem PyProof.Rows
noncomputable abbrev itO (b:Bool) (l:Addr):Obj:={ cls:=.type (if b then "tuple_iterator" else "list_iterator"),data:=.fields #[.ref l,.int 0 0] }
noncomputable abbrev z1 (b:Bool) (h:Heap) (l:Addr):Heap:=h.push (itO b l)
noncomputable abbrev z2 (b c:Bool) (h:Heap) (l m:Addr):Heap:=(z1 b h l).push (itO c m)
noncomputable abbrev z3 (b c:Bool) (h:Heap) (l m:Addr):Heap:=(z2 b c h l m).push { cls:=.type "tuple",data:=.seq #[.ref h.objs.size,.ref (z1 b h l).objs.size] }
noncomputable abbrev z4 (b c:Bool) (h:Heap) (l m:Addr):Heap:=(z3 b c h l m).push { cls:=.type "tuple",data:=.seq #[.none,.none] }
noncomputable abbrev z5 (b c:Bool) (h:Heap) (l m:Addr):Heap:=(z4 b c h l m).push { cls:=.type "zip",data:=.fields #[.none,.bool false,.bool false,.ref (z2 b c h l m).objs.size,.ref (z3 b c h l m).objs.size] }
theorem IsS.push {b:Bool}{h:Heap}{l:Addr}{xs:Array Value}(x:IsS b h l xs) (o:Obj):IsS b (h.push o) l xs:=x.at fun o' e=>Heap.get?_push_of_some _ e
theorem new_zip (b c:Bool) (l m:Addr) (xs ys:Array Value):Meets (Builtin.«zip.__new__» ⟨[.type "zip",.ref l,.ref m],[]⟩) (fun _ R s=>IsS b s.heap l xs/\IsS c s.heap m ys/\R (.ok (.ret (.ref (z4 b c s.heap l m).objs.size))) { s with heap:=z5 b c s.heap l m }) :=
 .of_wp fun prog w A R s h=>by
  obtain⟨hp,g,d,tk,os⟩:=s;obtain⟨q1,q2,h⟩:=h
  have hsub:=sub_zip
  cases b<;>cases c
  ·have L1:Heap.IsList (Shared.heap ⟨hp,g,d,tk,os⟩) l xs:=q1
   have L2:Heap.IsList (Shared.heap ⟨hp.push { cls:=.type "list_iterator",data:=.fields #[.ref l,.int 0 0] },g,d,tk,os⟩) m ys:=IsS.push (b:=false) q2 _
   wp_walk using wpAny_pyIter_list L1,wpAny_pyIter_list L2
   exact⟨_,rfl,h⟩
  ·have L1:Heap.IsList (Shared.heap ⟨hp,g,d,tk,os⟩) l xs:=q1
   have L2:Heap.IsTuple (Shared.heap ⟨hp.push { cls:=.type "list_iterator",data:=.fields #[.ref l,.int 0 0] },g,d,tk,os⟩) m ys:=IsS.push (b:=true) q2 _
   wp_walk using wpAny_pyIter_list L1,wpAny_pyIter_tuple L2
   exact⟨_,rfl,h⟩
  ·have L1:Heap.IsTuple (Shared.heap ⟨hp,g,d,tk,os⟩) l xs:=q1
   have L2:Heap.IsList (Shared.heap ⟨hp.push { cls:=.type "tuple_iterator",data:=.fields #[.ref l,.int 0 0] },g,d,tk,os⟩) m ys:=IsS.push (b:=false) q2 _
   wp_walk using wpAny_pyIter_tuple L1,wpAny_pyIter_list L2
   exact⟨_,rfl,h⟩
  ·have L1:Heap.IsTuple (Shared.heap ⟨hp,g,d,tk,os⟩) l xs:=q1
   have L2:Heap.IsTuple (Shared.heap ⟨hp.push { cls:=.type "tuple_iterator",data:=.fields #[.ref l,.int 0 0] },g,d,tk,os⟩) m ys:=IsS.push (b:=true) q2 _
   wp_walk using wpAny_pyIter_tuple L1,wpAny_pyIter_tuple L2
   exact⟨_,rfl,h⟩
section
variable {prog:Program}{w:World}{A:Around}{E:Value->Shared->Prop}{s:Shared}
theorem isI_new {b:Bool}{h:Heap}{it l:Addr}(e:h.get? it=some (itO b l)):IsI b h it l 0:=by
 cases b
 ·exact⟨_,e,rfl,rfl⟩
 ·exact⟨_,e,rfl,rfl⟩
theorem call_zip {b c:Bool}{l m:Addr}{xs ys:Array Value}{Q:Value->Shared->Prop}(q1:IsS b s.heap l xs) (q2:IsS c s.heap m ys)
  (h:∀g,IsZip g (s.heap.objs.size+4) (s.heap.objs.size+2) (s.heap.objs.size+3) .none->IsPair g (s.heap.objs.size+2) (.ref s.heap.objs.size) (.ref (s.heap.objs.size+1))->IsPair g (s.heap.objs.size+3) .none .none ->
   IsI b g s.heap.objs.size l 0->IsI c g (s.heap.objs.size+1) m 0->(∀a o,s.heap.get? a=some o->g.get? a=some o)->Q (.ref (s.heap.objs.size+4)) { s with heap:=g }) :
  wpAny (model prog w) A (call (.type "zip") [.ref l,.ref m]) Q E s:=by
 refine callType_new F.called_zip (by decide) (F.typeCall_zip_2 _ _) (F.newCall_zip_2 _ _) (fun obj=>F.args_object_init_3 obj _ _) F.entry_zip_new (new_zip b c l m xs ys) ⟨q1,q2,?_⟩
 have n1:(z1 b s.heap l).objs.size=s.heap.objs.size+1:=Heap.size_push ..
 have n2:(z2 b c s.heap l m).objs.size=s.heap.objs.size+2:=by rw[Heap.size_push,n1]
 have n3:(z3 b c s.heap l m).objs.size=s.heap.objs.size+3:=by rw[Heap.size_push,n2]
 have n4:(z4 b c s.heap l m).objs.size=s.heap.objs.size+4:=by rw[Heap.size_push,n3]
 have g5:(z5 b c s.heap l m).get? (z4 b c s.heap l m).objs.size=some _:=Heap.get?_push_size _ rfl
 have g4:(z5 b c s.heap l m).get? (z3 b c s.heap l m).objs.size=some _:=Heap.get?_push_of_some _ (Heap.get?_push_size _ rfl)
 have g3:(z5 b c s.heap l m).get? (z2 b c s.heap l m).objs.size=some _:=Heap.get?_push_of_some _ (Heap.get?_push_of_some _ (Heap.get?_push_size _ rfl))
 have g2:(z5 b c s.heap l m).get? (z1 b s.heap l).objs.size=some (itO c m):=Heap.get?_push_of_some _ (Heap.get?_push_of_some _ (Heap.get?_push_of_some _ (Heap.get?_push_size _ rfl)))
 have g1:(z5 b c s.heap l m).get? s.heap.objs.size=some (itO b l):=Heap.get?_push_of_some _ (Heap.get?_push_of_some _ (Heap.get?_push_of_some _ (Heap.get?_push_of_some _ (Heap.get?_push_size _ rfl))))
 show _/\_
 rw[n2,n3,n4] at g5
 rw[n1,n2] at g3
 rw[n3] at g4
 rw[n1] at g2
 rw[n4]
 exact⟨⟨_,g5,rfl⟩,h _ g5 g3 g4 (isI_new g1) (isI_new g2) fun a o x=>Heap.get?_push_of_some _ (Heap.get?_push_of_some _ (Heap.get?_push_of_some _ (Heap.get?_push_of_some _ (Heap.get?_push_of_some _ x))))⟩
end
end Zp
namespace Dl
open PySem L2 PySem.Spec PyProof.Rows Zp
noncomputable def qF (K:PySem.W.Frag) (b:Bool) (a:Addr) (H:Hp) (xs:List V):Prop:=match b with|true=>iM K H a xs|false=>gT K H a xs
section
variable {X:Cx}{pins:List (Addr×Obj)}{σ:L2.St}{H:Hp}{s:Shared}{b:Bool}{a:Addr}{xs ys:List V}
theorem qF.src (I:Inv X pins σ H s) (h:qF X.K b a H xs):∃its:List Value,az xs its/\IsS b s.heap a its.toArray/\xs.length<=sizeLine:=by
 cases b
 ·obtain⟨its,rv,pl,hz⟩:=I.list (show gT X.K H a xs from h);exact⟨its,rv,pl.isList,hz⟩
 ·obtain⟨its,rv,pl,hz⟩:=I.tuple (show iM X.K H a xs from h);exact⟨its,rv,pl,hz⟩
theorem qF.ne (I:Inv X pins σ H s) {c:Addr}(hf:cf X pins H c) (h:qF X.K b a H xs):a≠c:=by
 cases b
 ·exact GN I hf h
 ·exact GA I hf h
theorem qF.inj (I:Inv X pins σ H s) (h:qF X.K b a H xs) (h':qF X.K b a H ys):xs=ys:=by
 cases b
 ·exact I.list_inj h h'
 ·exact I.tuple_inj h h'
theorem qF.mono {K:PySem.W.Frag}{H H':Hp}(e:aV H H') (h:qF K b a H xs):qF K b a H' xs:=by
 cases b
 ·exact e.seq h
 ·exact aw e h
end
theorem zW {P:Program}{w:World}{K:PySem.W.Frag}{elts:List Expr}{k:Nat}{pos:Pos}(b c:Bool) (l1 l2 z TI TO i1 i2:Addr) (Z:LY z TI TO i1 i2) :
  Turn P w K (.Tuple elts k pos) (Ln (qF K b l1) (qF K c l2)) [z,TI,TO,i1,i2] z (fun i h=>IsZip h z TI TO .none/\IsPair h TI (.ref i1) (.ref i2)/\(∃a b,IsPair h TO a b)/\IsI b h i1 l1 i/\IsI c h i2 l2 i) where
 mem:=by simp
 obj:=fun i h st d hd=>by
  obtain⟨hz,hTI,⟨a,b',hTO⟩,p1,p2⟩:=st
  simp only[List.mem_cons,List.not_mem_nil,or_false] at hd
  rcases hd with rfl|rfl|rfl|rfl|rfl
  ·exact⟨_,hz,fun v q=>by have q:Data.fields _=Data.cell v:=q;cases q⟩
  ·exact⟨_,hTI,fun v q=>by have q:Data.seq _ _=Data.cell v:=q;cases q⟩
  ·exact⟨_,hTO,fun v q=>by have q:Data.seq _ _=Data.cell v:=q;cases q⟩
  ·exact p1.obj
  ·exact p2.obj
 keep:=fun i h h' st kk=>by
  obtain⟨hz,hTI,⟨a,b',hTO⟩,h1,h2⟩:=st
  exact⟨kk z (by simp) _ hz,kk TI (by simp) _ hTI,⟨a,b',kk TO (by simp) _ hTO⟩,h1.at fun o q=>kk i1 (by simp) o q,h2.at fun o q=>kk i2 (by simp) o q⟩
 item:=by
  intro X hP hw hK hc i pins s σ H E I hf st hg
  subst hP hw hK
  obtain⟨xs,ys,x,y,hq1,hq2,hx,hy⟩:=hg
  obtain⟨its1,rv1,p1,hz1⟩:=hq1.src I
  obtain⟨its2,rv2,p2,hz2⟩:=hq2.src I
  obtain⟨u1,hu1,ru1⟩:=rv1.get hx
  obtain⟨u2,hu2,ru2⟩:=rv2.get hy
  have D:ZipApart z TI TO i1 i2 l1 l2:=⟨Z.a1,Z.a2,Z.a3,Z.a4,Z.a5,Z.a6,Z.a7,Z.a8,Z.a9,Z.a0,hq1.ne I (hf z (by simp)),hq1.ne I (hf TO (by simp)),hq1.ne I (hf i1 (by simp)),hq1.ne I (hf i2 (by simp)),hq2.ne I (hf z (by simp)),hq2.ne I (hf TO (by simp)),hq2.ne I (hf i1 (by simp)),hq2.ne I (hf i2 (by simp))⟩
  obtain⟨hz,hTI,⟨a,b',hTO⟩,h1,h2⟩:=st
  refine nextZ (I.ok.hd hc) D hz hTI hTO h1 h2 p1 p2 (x:=u1) (y:=u2) (by simpa using hu1) (by simpa using hu2) fun g b1 b2 b3 b4 b5 b6 hk=>⟨.ref s.heap.objs.size,rfl,?_⟩
  have lt:∀ {c:Addr}{o:Obj},s.heap.get? c=some o->s.heap.objs.size≠c:=fun e=>Nat.ne_of_gt (Heap.lt_size e)
  refine wpAny_letOwnedTupleGo_zip (s:={ s with heap:=g }) b1 fun g' hz' hs'=>?_
  have b5':g'.get? s.heap.objs.size=some { cls:=.type "tuple",data:=.seq #[u1,u2] }:=hs'.extBut _ _ (lt hz) b5
  have ht:lQ g' s.heap.objs.size (List.toArray [u1,u2]):=⟨⟨_,b5',rfl,_,rfl⟩,_,b5',rfl⟩
  refine⟨.ref s.heap.objs.size,_,uP (ch:=[z,TI,TO,i1,i2]) (xs:=[x,y]) (t':=s.toks) I hf (fun b o hb q=>?_) (Nat.le_refl _) ht (.cons ru1 (.cons ru2 .nil)) (by show 2<=sizeLine;decide),rfl,
   ⟨s.heap.objs.size,x,y,rfl,I.fresh,rfl,fun zs hzs=>by rw[hzs.inj I hq1];exact hx,fun zs hzs=>by rw[hzs.inj I hq2];exact hy⟩,
   ⟨hz',hs'.extBut _ _ Z.a1 (hk _ _ D.TIz D.TITO D.TIi1 D.TIi2 hTI),⟨_,_,hs'.extBut _ _ Z.a2 b2⟩,b3.extBut hs'.extBut Z.a3,b4.extBut hs'.extBut Z.a4⟩,fun b hb=>?_⟩
  ·simp only[List.mem_cons,List.not_mem_nil,or_false,not_or] at hb
   exact hs'.extBut _ _ hb.1 (hk b o hb.1 hb.2.2.1 hb.2.2.2.1 hb.2.2.2.2 q)
  ·have:s.heap.objs.size≠b:=by
    simp only[List.mem_cons,List.not_mem_nil,or_false] at hb
    obtain⟨o1,g1,_⟩:=h1.obj
    obtain⟨o2,g2,_⟩:=h2.obj
    rcases hb with rfl|rfl|rfl|rfl|rfl
    ·exact lt hz
    ·exact lt hTI
    ·exact lt hTO
    ·exact lt g1
    ·exact lt g2
   rw[ay (Ne.symm this)]
   exact (hf b hb).1
 done:=by
  intro X hP hw hK hc i pins s σ H E I hf st hg
  subst hP hw hK
  obtain⟨xs,ys,hq1,hq2,hx⟩:=hg
  obtain⟨its1,rv1,p1,hz1⟩:=hq1.src I
  obtain⟨its2,rv2,p2,hz2⟩:=hq2.src I
  have D:ZipApart z TI TO i1 i2 l1 l2:=⟨Z.a1,Z.a2,Z.a3,Z.a4,Z.a5,Z.a6,Z.a7,Z.a8,Z.a9,Z.a0,hq1.ne I (hf z (by simp)),hq1.ne I (hf TO (by simp)),hq1.ne I (hf i1 (by simp)),hq1.ne I (hf i2 (by simp)),hq2.ne I (hf z (by simp)),hq2.ne I (hf TO (by simp)),hq2.ne I (hf i1 (by simp)),hq2.ne I (hf i2 (by simp))⟩
  obtain⟨hz,hTI,⟨a,b',hTO⟩,h1,h2⟩:=st
  have e1:=rv1.length
  have e2:=rv2.length
  refine nextZE (I.ok.hd hc) D hz hTI hTO h1 h2 p1 p2 (hx.elim (fun q=>.inl (by simp;omega)) fun q=>.inr (by simp;omega)) fun g hk=>⟨rfl,?_⟩
  refine y0 (ch:=[z,TI,TO,i1,i2]) (t':=s.toks) I hf fun b o hb q=>?_
  simp only[List.mem_cons,List.not_mem_nil,or_false,not_or] at hb
  exact hk b o hb.1 hb.2.2.1 hb.2.2.2.1 hb.2.2.2.2 q
 self:=fun _ _ _ _ _ st h=>wpAny_pyIter_zip st.1 h
section
variable {X:Cx}{l l':Expr}{fs:Env->Option (List D)}{elts:List Expr}{k:Nat}{pos p tp:Pos}
theorem Es {tl:TA}(B:mv X "zip" (.type "zip")) (ha:PA X [l,l'] tl) (hs:starEach [l,l'] X.env=(false,eval l X.env)::starEach [l'] X.env) (hs2:(backTo pos (starEach [l'] X.env)).any (·.1)=false) :
  PI X (.Tuple elts k tp) (.Call (.Name "zip" p) [l,l'] [] pos) (fun σ H R=>tl σ H fun vs H1=>∃a b,vs=[.ref a,.ref b]/\∃c d xs ys,qF X.K c a H1 xs/\qF X.K d b H1 ys/\R (Ln (qF X.K c a) (qF X.K d b)) H1):=by
 intro pins s σ H R I h
 refine Call_ (iy I B.gl B.mg B.bt (PyProof.Rows.callWith_type1 (bP (ha pos pins s σ H _ I h) fun us s1 ⟨vs,H1,I1,r1,q1⟩=>?_) hs hs2))
 obtain⟨a,b,e,c,d,xs,ys,hq1,hq2,q⟩:=q1
 subst e
 obtain⟨u,u',rfl,rx,ry⟩:=vals2 r1
 cases rx
 cases ry
 obtain⟨its,rv,pl,hz⟩:=hq1.src I1
 obtain⟨its',rv',pl',hz'⟩:=hq2.src I1
 refine call_zip pl pl' fun g b1 b2 b3 b4 b5 kp=>wpAny_pyIter_zip (s:={ s1 with heap:=g }) b1 ?_
 refine⟨_,_,_,_,H1,rfl,I1.kept (t':=s1.toks) kp,zW c d a b (s1.heap.objs.size+4) (s1.heap.objs.size+2) (s1.heap.objs.size+3) s1.heap.objs.size (s1.heap.objs.size+1) ?_,⟨b1,b2,⟨_,_,b3⟩,b4,b5⟩,fun c hc=>?_,q⟩
 ·constructor<;>(intro z;have z:(_:Nat)=_:=z;omega)
 ·have hge:s1.heap.objs.size<=c:=by
   simp only[List.mem_cons,List.not_mem_nil,or_false] at hc
   rcases hc with rfl|rfl|rfl|rfl|rfl
   ·exact Nat.le_add_right _ _
   ·exact Nat.le_add_right _ _
   ·exact Nat.le_add_right _ _
   ·exact Nat.le_refl _
   ·exact Nat.le_add_right _ _
  exact I1.fpOk hge (I1.hok.fresh hge)
noncomputable def J1:List D->Option (List D):=fun ds=>match ds with
 | [x,y]=>(fQ x).bind fun xs=>(fQ y).map fun ys=>gN xs ys
 | _=>none
theorem vP {K:PySem.W.Frag}{HF:Hp}{d:D}{v:V}{xs:List D}(h:fQ d=some xs) (r:Rep K HF d v):∃b a vs,v=.ref a/\qF K b a HF vs/\aq K HF xs vs:=by
 rcases j3 h with rfl|rfl
 ·simp only[Rep] at r
  obtain⟨a,vs,rfl,q,rr⟩:=r
  exact⟨true,a,vs,rfl,q,rr⟩
 ·simp only[Rep] at r
  obtain⟨a,vs,rfl,q,rr⟩:=r
  exact⟨false,a,vs,rfl,q,rr⟩
noncomputable def eO (fs:Env->Option (List D)):Env->Option (List D):=fun ρ=>(fs ρ).bind J1
theorem Fg (B:mv X "zip" (.type "zip")) (hs:starEach [l,l'] X.env=(false,eval l X.env)::starEach [l'] X.env) (hs2:(backTo pos (starEach [l'] X.env)).any (·.1)=false) (h:DA X [l,l'] fs) :
  DI X (.Tuple elts k tp) (.Call (.Name "zip" p) [l,l'] [] pos) (eO fs) :=
 so (Es B h hs hs2) fun σ H R ⟨HF,ρ,ds,sm,eo,hf,q⟩=>by
  obtain⟨x,hx,hf⟩:=bs hf
  refine⟨HF,ρ,_,sm,eo,hx,fun vs H1 HF1 g1 r1=>?_⟩
  unfold J1 at hf
  split at hf
  ·obtain⟨xs,h1,hf⟩:=bs hf
   obtain⟨ys,h2,rfl⟩:=map_some hf
   obtain⟨v,r',rfl,a,b⟩:=r1.cons_inv
   obtain⟨v',r'',rfl,a',b'⟩:=b.cons_inv
   rw[b'.nil_inv]
   obtain⟨c,ad,us,rfl,hq,rr⟩:=vP h1 a
   obtain⟨c',ad',us',rfl,hq',rr'⟩:=vP h2 a'
   exact⟨ad,ad',rfl,c,c',us,us',hq.mono g1.fh,hq'.mono g1.fh,q _ H1 HF1 g1 (AV hq (fun _ _ s h=>h.mono s) hq' (fun _ _ s h=>h.mono s) rr rr')⟩
  ·cases hf
end
end Dl
namespace Zp
open PySem PyProof.Rows
theorem IsI.ne {b:Bool}{h:Heap}{it l:Addr}{k:Nat}{xs:Array Value}(x:IsI b h it l k) (y:IsS b h l xs):l≠it:=by
 rintro rfl
 cases b
 ·obtain⟨o,e,c,d⟩:=(show h.IsListIter l l k from x)
  obtain⟨o',e',r⟩:=(show h.IsList l xs from y)
  rw[e] at e';cases e'
  simp_all
 ·obtain⟨o,e,c,d⟩:=(show h.IsTupleIter l l k from x)
  obtain⟨o',e',r⟩:=(show h.IsTuple l xs from y)
  rw[e] at e';cases e'
  simp_all
section
variable {prog:Program}{w:World}{A:Around}{E:Value->Shared->Prop}{s:Shared}
theorem drawsI (hn:A.handled=none) (b:Bool) (it l:Addr) (xs:Array Value):Draws prog w A it [it,l] xs.size (fun i x=>xs[i]?=some x) (fun i h=>IsI b h it l i/\IsS b h l xs) where
 live:=fun i h st=>let ⟨o,e,_⟩:=st.1.obj;⟨o,e⟩
 frame:=fun i h h' st k=>⟨st.1.at (k it (by simp)),st.2.at (k l (by simp))⟩
 item:=fun i s Q E hi st hQ=>nxt st.1 st.2 (v:=xs[i]) (by simp[hi]) fun g e t=>hQ _ g s.toks (by simp[hi]) ⟨e,st.2.extBut t.extBut (st.1.ne st.2)⟩ t
 done:=fun s Q E st hE=>nxtE hn st.1 st.2 (by simp) hE
theorem nextE {b₁:Bool}{e it l:Addr}{i:Nat}{items:Array Value}{x old:Value}{Q:Option Value->Shared->Prop}(hn:A.handled=none)
  (qe:IsEnum s.heap e it i old) (qi:IsI b₁ s.heap it l i) (ql:IsS b₁ s.heap l items) (ex:items[i]?=some x) (nei:e≠it)
  (kQ:∀g tk,IsEnumOut g e it ((i:Int)+1) x s.heap.objs.size->IsI b₁ g it l (i+1)->g.get? s.heap.objs.size=some { cls:=.type "tuple",data:=.seq #[.int i tk,x] } ->
   g.objs.size=s.heap.objs.size+1->(∀c o,c≠e->c≠it->s.heap.get? c=some o->g.get? c=some o)->Q (some (.ref s.heap.objs.size)) { s with heap:=g,toks:=tk+1 }) :
  wpAny (model prog w) A (pyNext (.ref e)) Q E s:=by
 have nel:e≠l:=by
  rintro rfl
  cases b₁
  ·obtain⟨o,e1,r⟩:=(show s.heap.IsList e items from ql)
   rw[qe] at e1;cases e1;simp at r
  ·obtain⟨o,e1,r⟩:=(show s.heap.IsTuple e items from ql)
   rw[qe] at e1;cases e1;simp at r
 have D:Draws prog w A.in1 it [it,l] items.size (fun i x=>items[i]?=some x) (fun i h=>IsI b₁ h it l i/\IsS b₁ h l items):=drawsI (A:=A.in1) hn b₁ it l items
 refine wpAny_pyNext_enum_itemD D qe ⟨qi,ql⟩ (Array.getElem?_eq_some_iff.mp ex).1 nei (by simp[nei,nel]) fun y g tk hy a b c d k=>?_
 rw[ex] at hy;cases hy
 exact kQ g tk a b.1 c d k
end
end Zp
namespace Dl
open PySem L2 PySem.Spec PyProof.Rows Zp
theorem oa {P:Program}{w:World}{K:PySem.W.Frag}{elts:List Expr}{k:Nat}{pos:Pos}(b:Bool) (a it e:Addr) (hei:e≠it):Turn P w K (.Tuple elts k pos) (K2 (qF K b a)) [e,it] e (fun i h=>(∃old,IsEnum h e it i old)/\IsI b h it a i) where
 mem:=by simp
 obj:=fun i h st c hc=>by
  obtain⟨⟨old,he⟩,hi⟩:=st
  rcases List.mem_cons.mp hc with z|z
  ·subst z;exact⟨_,he,fun v q=>by have q:Data.fields _=Data.cell v:=q;cases q⟩
  ·rw[List.mem_singleton.mp z];exact hi.obj
 keep:=fun i h h' st kk=>⟨let ⟨old,he⟩:=st.1;⟨old,kk e (by simp) _ he⟩,st.2.at fun o q=>kk it (by simp) o q⟩
 item:=by
  intro X hP hw hK hc i pins s σ H E I hf st hg
  subst hP hw hK
  obtain⟨xs,x,hq,hx⟩:=hg
  obtain⟨its,rv,p,hz⟩:=hq.src I
  obtain⟨u,hu,ru⟩:=rv.get hx
  obtain⟨⟨old,he⟩,hi⟩:=st
  refine nextE (I.ok.hd hc) he hi p (x:=u) (by simpa using hu) hei fun g tk b1 b2 b3 b4 hk=>⟨.ref s.heap.objs.size,rfl,?_⟩
  have lt:∀ {c:Addr}{o:Obj},s.heap.get? c=some o->s.heap.objs.size≠c:=fun e=>Nat.ne_of_gt (Heap.lt_size e)
  have hte:s.heap.objs.size≠e:=lt he
  refine wpAny_letOwnedTupleGo_enum (s:={ s with heap:=g,toks:=tk+1 }) b1 fun g' he' hs'=>?_
  have b3':g'.get? s.heap.objs.size=some { cls:=.type "tuple",data:=.seq #[.int i tk,u] }:=hs'.extBut _ _ hte b3
  have ht:lQ g' s.heap.objs.size (List.toArray [Value.int (i:Nat) tk,u]):=⟨⟨_,b3',rfl,_,rfl⟩,_,b3',rfl⟩
  refine⟨.ref s.heap.objs.size,_,uP (ch:=[e,it]) (xs:=[.int (i:Nat),x]) (t':=tk+1) I hf (fun c o hb q=>?_) (Nat.le_refl _) ht (.cons ⟨_,rfl⟩ (.cons ru .nil)) (by show 2<=sizeLine;decide),rfl,
   ⟨s.heap.objs.size,x,rfl,I.fresh,rfl,fun zs hzs=>by rw[hzs.inj I hq];exact hx⟩,⟨⟨_,he'⟩,b2.extBut hs'.extBut (Ne.symm hei)⟩,fun c hc'=>?_⟩
  ·simp only[List.mem_cons,List.not_mem_nil,or_false,not_or] at hb
   exact hs'.extBut _ _ hb.1 (hk c o hb.1 hb.2 q)
  ·have:s.heap.objs.size≠c:=by
    simp only[List.mem_cons,List.not_mem_nil,or_false] at hc'
    obtain⟨o1,g1,_⟩:=hi.obj
    rcases hc' with rfl|rfl
    ·exact lt he
    ·exact lt g1
   rw[ay (Ne.symm this)]
   exact (hf c hc').1
 done:=by
  intro X hP hw hK hc i pins s σ H E I hf st hg
  subst hP hw hK
  obtain⟨xs,hq,hx⟩:=hg
  obtain⟨its,rv,p,hz⟩:=hq.src I
  have hh:X.A.in1.handled=none:=I.ok.hd hc
  have hl:=rv.length
  obtain⟨⟨old,he⟩,hi⟩:=st
  have hT:s.TypeIs (.ref e) "enumerate":=⟨_,he,rfl⟩
  unfold pyNext
  refine wpAny_bind (wpAny_attempt (wpAny_callSpecial?_slot (name:=Str.ofString "__next__") hT F.slot_enumerate_next (wpAny_call_entry F.slot_enumerate_next hT F.entry_enumerate_next ?_ (F.args_enumerate_next_1 _))))
  refine wpAny_bind (m:=field (.ref e) 2) (wpAny_field he rfl (x:=.ref it) rfl ?_)
  refine wpAny_bind (nxtE hh hi p (by simp;omega) fun h1 x k1 hx1=>?_)
  obtain⟨o,ho,hc1⟩:=hx1
  refine wpAny_bind (wpAny_isInstance (T:="StopIteration") (b:=true) ⟨o,ho,hc1⟩ isSubtype_stop (wpAny_pure ⟨rfl,?_⟩))
  obtain⟨f0,f1,f2,f3,f4,f5⟩:=hf it (by simp)
  exact I.turned (t':=s.toks) (fun b o hb q=>k1 b o hb q) f0 f1 f3 f4 f5
 self:=fun _ _ _ _ _ st h=>let ⟨_,he⟩:=st.1;wpAny_pyIter_enum he h
section
variable {X:Cx}{l:Expr}{f:Env->Option D}{fs:Env->Option (List D)}{elts:List Expr}{k:Nat}{pos p tp:Pos}
theorem DU {tl:TA}(B:mv X "enumerate" (.type "enumerate")) (ha:PA X [l] tl) (hs:starEach [l] X.env=[(false,eval l X.env)]):PI X (.Tuple elts k tp) (.Call (.Name "enumerate" p) [l] [] pos) (fun σ H R=>tl σ H fun vs H1=>∃a,vs=[.ref a]/\∃b xs,qF X.K b a H1 xs/\R (K2 (qF X.K b a)) H1):=by
 intro pins s σ H R I h
 refine Call_ (iy I B.gl B.mg B.bt (PyProof.Rows.callWith_type1 (bP (ha pos pins s σ H _ I h) fun us s1 ⟨vs,H1,I1,r1,q1⟩=>?_) hs rfl))
 obtain⟨a,e,b,xs,hq,q⟩:=q1
 subst e
 obtain⟨u,rfl,rx⟩:=vals1 r1
 cases rx
 have fresh:∀b∈[s1.heap.objs.size+1,s1.heap.objs.size],cf X pins H1 b:=fun b hb=>by
  rcases List.mem_cons.mp hb with z|z
  ·subst z;exact I1.fpOk (Nat.le_succ _) (I1.hok.fresh (Nat.le_succ _))
  ·cases List.mem_singleton.mp z;exact I1.fpOk (Nat.le_refl _) I1.fresh
 obtain⟨its,rv,pl,hz⟩:=hq.src I1
 cases b with
 | false =>
  refine call_enumerate_list pl fun h' he hit hsz kp=>wpAny_pyIter_enum (s:={ s1 with heap:=h' }) he ?_
  exact⟨_,_,_,_,H1,rfl,I1.kept (t':=s1.toks) kp,oa false a s1.heap.objs.size (s1.heap.objs.size+1) (Nat.succ_ne_self _),⟨⟨_,he⟩,hit⟩,fresh,q⟩
 | true =>
  refine En.call_enumT (show s1.heap.IsTuple a its.toArray from pl) fun h' he hit hsz kp=>wpAny_pyIter_enum (s:={ s1 with heap:=h' }) he ?_
  exact⟨_,_,_,_,H1,rfl,I1.kept (t':=s1.toks) kp,oa true a s1.heap.objs.size (s1.heap.objs.size+1) (Nat.succ_ne_self _),⟨⟨_,he⟩,hit⟩,fresh,q⟩
noncomputable def br (fs:Env->Option (List D)):Env->Option (List D):=fun ρ=>(fs ρ).bind fun ds=>(cM ds).map (bw 0)
theorem DD (B:mv X "enumerate" (.type "enumerate")) (h:DA X [l] fs) (hs:starEach [l] X.env=[(false,eval l X.env)]):DI X (.Tuple elts k tp) (.Call (.Name "enumerate" p) [l] [] pos) (br fs) :=
 so (DU B h hs) fun σ H R ⟨HF,ρ,ds,sm,eo,hf,q⟩=>by
  obtain⟨x,hx,hf⟩:=bs hf
  obtain⟨es,h1,rfl⟩:=map_some hf
  obtain⟨d,h0,h1⟩:=bs h1
  rw[fF h0] at hx
  refine⟨HF,ρ,_,sm,eo,hx,fun vs H1 HF1 g1 r1=>?_⟩
  obtain⟨v,r',rfl,a,b⟩:=r1.cons_inv
  rw[b.nil_inv]
  obtain⟨c,ad,us,rfl,hq,rr⟩:=vP h1 a
  exact⟨ad,rfl,c,us,hq.mono g1.fh,q _ H1 HF1 g1 (zD hq (fun _ _ s h=>h.mono s) rr)⟩
end
end Dl
namespace Srt
open PySem PySem.W PySem.Calls PyProof.Rows L2
theorem cf.at {X:Cx}{pins:List (Addr×Obj)}{H H':Hp}{b:Addr}(h:cf X pins H b) (e:H' b=none):cf X pins H' b:=⟨e,h.2⟩
section
variable {X:Cx}{pins:List (Addr×Obj)}{σ:L2.St}{H:Hp}{s:Shared}{A:Around}{E:Value->Shared->Prop}
theorem upd_inv {b:Addr}{g:Array Value->Array Value}(I:Inv X pins σ H s) (f:cf X pins H b):Inv X pins σ H { s with heap:=s.heap.update b (Obj.mapSeq g) }:=by
 obtain⟨f0,f1,f2,f3,f4,f5⟩:=f
 exact I.turned (t':=s.toks) (h':=s.heap.update b (Obj.mapSeq g)) (fun c o hc e=>(Heap.get?_update_other _ _ (Ne.symm hc)).trans e) f0 f1 f3 f4 f5
theorem pin_get {fp:List Addr}{h:Heap}{b:Addr}{o:Obj}{H':Hp}{s':Shared}(I:Inv X (pins++l7 fp h) σ H' s') (hb:b∈fp) (e:h.get? b=some o):s'.heap.get? b=some o/\H' b=none :=
 let q:=I.pin (b,o) (List.mem_append_right _ (List.mem_append_right _ (cZ hb e)));⟨q.1,q.2.1⟩
theorem list_sortK {a:Addr}{f:Value}{vs:List Value}{n:Nat}{P:PySem.Fin->Shared->Prop}(I:Inv X pins σ H s) (ho:s.heap.get? a=some (seqObj "list" vs.toArray n)) (fa:cf X pins H a) (h64:vs.length < 64)
  (J:List Value->Hp->Prop) (j0:J [] H)
  (step:∀us v,vs[us.length]?=some v->∀pl s' H',Inv X (pins++pl) σ H' s'->J us H'->wpAny (model X.prog X.w) A (call f [v]) (fun u s''=>∃H'',Inv X (pins++pl) σ H'' s''/\J (us++[u]) H'') (fun _ _=>False) s')
  (fin:∀us H',us.length=vs.length->J us H'->∃ (z:Nat->Int) (κ:SortKind),(2<=vs.length->∀s',Inv X pins σ H' s'->(∀Q':SortKind->Shared->Prop,Q' κ s'->wpAny (model X.prog X.w) A (keyKind' us.toArray) Q' (fun _ _=>False) s') /\
    ∀i j C,i < vs.length->j < vs.length->C (SP.dN z i j) s'->kas_ask X.prog X.w A κ us i j C s') /\
   ∀s' c,Inv X pins σ H' s'->cf X pins H' a->s'.heap.get? a=some (seqObj "list" (outV z vs).toArray c)->P (.done (.ret .none)) s') :
  wpAny (model X.prog X.w) A (ksk_tree a f false) P E s:=by
 have hsl:vs.length<=sizeLine:=by rw[sizeLine_eq];omega
 unfold ksk_tree
 refine wpAny_bind (listItems_at ho rfl ?_)
 refine wpAny_bind (listUpdate_at ho rfl ?_ (by simpa using hsl) (Nat.zero_le _))
 obtain⟨e1,ho1⟩:∃e,(s.heap.update a (Obj.mapSeq fun _=>(#[]:Array Value))).get? a=some (seqObj "list" #[] e):=⟨_,get?_update_seq ho fun _=>#[]⟩
 have I1:=upd_inv (g:=fun _=>(#[]:Array Value)) I fa
 refine wpAny_bind (seqEpoch_at ho1 rfl ?_)
 refine wpAny_bind (wpAny_newTuple ?_ (by simpa using hsl))
 refine wpAny_bind (wpAny_newList ?_ (Nat.zero_le _))
 refine wpAny_holding ?_
 have ho3:(((s.heap.update a (Obj.mapSeq fun _=>(#[]:Array Value))).push (seqObj "tuple" vs.toArray 0)).push (seqObj "list" #[] 0)).get? a=some (seqObj "list" #[] e1):=Heap.get?_push_of_some _ (Heap.get?_push_of_some _ ho1)
 have hk3:(((s.heap.update a (Obj.mapSeq fun _=>(#[]:Array Value))).push (seqObj "tuple" vs.toArray 0)).push (seqObj "list" #[] 0)).get? ((s.heap.update a (Obj.mapSeq fun _=>(#[]:Array Value))).push (seqObj "tuple" vs.toArray 0)).objs.size=some (seqObj "list" #[] 0):=Heap.get?_push_size _ rfl
 have I3:=(I1.kept (t':=s.toks) (h':=((s.heap.update a (Obj.mapSeq fun _=>(#[]:Array Value))).push (seqObj "tuple" vs.toArray 0)).push (seqObj "list" #[] 0)) fun b o e=>Heap.get?_push_of_some _ (Heap.get?_push_of_some _ e))
 have I2:=(I1.kept (t':=s.toks) (h':=(s.heap.update a (Obj.mapSeq fun _=>(#[]:Array Value))).push (seqObj "tuple" vs.toArray 0)) fun b o e=>Heap.get?_push_of_some _ e)
 have fk:cf X pins H ((s.heap.update a (Obj.mapSeq fun _=>(#[]:Array Value))).push (seqObj "tuple" vs.toArray 0)).objs.size:=I2.fpOk (Nat.le_refl _) (I2.hok.fresh (Nat.le_refl _))
 have hka:((s.heap.update a (Obj.mapSeq fun _=>(#[]:Array Value))).push (seqObj "tuple" vs.toArray 0)).objs.size≠a:=by
  have hlt:=Heap.lt_size ho1
  rw[Heap.size_push]
  exact Nat.ne_of_gt (Nat.lt_succ_of_lt hlt)
 show wpAny _ A _ P E { s with heap:=((s.heap.update a (Obj.mapSeq fun _=>(#[]:Array Value))).push (seqObj "tuple" vs.toArray 0)).push (seqObj "list" #[] 0) }
 generalize ((s.heap.update a (Obj.mapSeq fun _=>(#[]:Array Value))).push (seqObj "tuple" vs.toArray 0)).objs.size=kS at hk3 fk hka
 generalize e3:({ s with heap:=((s.heap.update a (Obj.mapSeq fun _=>(#[]:Array Value))).push (seqObj "tuple" vs.toArray 0)).push (seqObj "list" #[] 0) }:Shared)=s3 at I3
 have ho3:s3.heap.get? a=some (seqObj "list" #[] e1):=by rw[<- e3];exact ho3
 have hk3:s3.heap.get? kS=some (seqObj "list" #[] 0):=by rw[<- e3];exact hk3
 clear e3 I2 I1 ho1 ho
 unfold ksk_rest
 refine wpAny_bind (wpAny_rule ?_)
 first
  | rw[List.forIn_toArray]
  | (rw[<- Array.forIn_toList];simp only[List.toList_toArray])
  | rw[<- Array.forIn_toList]
 refine wpAny_bind (ksk_fold (fun i s'=>∃us H' e,us.length=i/\Inv X pins σ H' s'/\H' a=none/\H' kS=none/\s'.heap.get? a=some (seqObj "list" #[] e1)/\s'.heap.get? kS=some (seqObj "list" us.toArray e)/\J us H') vs 0 s3
  ⟨[],H,0,rfl,I3,fa.1,fk.1,ho3,hk3,j0⟩ ?step ?done)
 case step =>
  rintro j x s' hx ⟨us,H',e,hu,I',ha',hk',hoa,hok,j'⟩
  have hu:us.length=j:=by omega
  have hj:j < vs.length:=(List.getElem?_eq_some_iff.mp hx).1
  have Ip:=I'.pinned (fp:=[a,kS]) (fun b hb=>by
   rcases List.mem_cons.mp hb with rfl|hb
   ·exact cf.at fa ha'
   ·rw[List.mem_singleton.mp hb];exact cf.at fk hk') (fun b hb=>by
   rcases List.mem_cons.mp hb with rfl|hb
   ·exact⟨_,hoa,fun v z=>by cases z⟩
   ·rw[List.mem_singleton.mp hb];exact⟨_,hok,fun v z=>by cases z⟩)
  refine wpAny_bind (wpAny_attempt (wpAny_mono (step us x (by rw[hu];exact hx) _ s' H' Ip j') (fun u s'' he=>?_) fun _ _ hF=>hF.elim))
  obtain⟨H'',I'',j''⟩:=he
  try dsimp only
  obtain⟨ga,na⟩:=pin_get I'' (b:=a) List.mem_cons_self hoa
  obtain⟨gk,nk⟩:=pin_get I'' (b:=kS) (List.mem_cons_of_mem _ List.mem_cons_self) hok
  have I4:=I''.unpinned
  obtain⟨c2,hc2⟩:∃c2,(s''.heap.update kS (Obj.mapSeq (·.push u))).get? kS=some (seqObj "list" (us.toArray.push u) c2):=⟨_,get?_update_seq gk (·.push u)⟩
  refine wpAny_bind (listUpdate_at gk rfl ?_ (by rw[List.size_toArray,sizeLine_eq];omega) (Nat.le_trans (Nat.le_of_eq (Array.size_push ..)) (by rw[List.size_toArray,sizeLine_eq];omega)))
  refine wpAny_pure ⟨rfl,us++[u],H'',c2,by rw[List.length_append,hu];simp,upd_inv I4 (cf.at fk nk),na,nk,(Heap.get?_update_other _ _ hka).trans ga,?_,j''⟩
  rw[hc2]
  simp
 case done =>
  rintro s' ⟨us,H',e,hu,I',ha',hk',hoa,hok,j'⟩
  have hu:us.length=vs.length:=by omega
  try dsimp only
  refine wpAny_bind (listItems_at hok rfl ?_)
  obtain⟨z,κ,hz,hP⟩:=fin us H' hu j'
  have last:∀st':SortSt,(arrOf st').map (·.2)=(outV z vs).toArray->failedOf st'=none->wpAny (model X.prog X.w) A (ksk_tail a false e1 (.ref kS) st') P E s':=fun st' h1 h2=>by
   unfold ksk_tail
   try dsimp only
   rw[h1,h2]
   have na1:(s'.heap.update kS (Obj.mapSeq fun _=>(#[]:Array Value))).get? a=some (seqObj "list" #[] e1):=(Heap.get?_update_other _ _ hka).trans hoa
   have I5:=upd_inv (g:=fun _=>(#[]:Array Value)) I' (cf.at fk hk')
   have I6:=upd_inv (s:={ s' with heap:=s'.heap.update kS (Obj.mapSeq fun _=>(#[]:Array Value)) }) (g:=fun _=>(outV z vs).toArray) I5 (cf.at fa ha')
   refine wpAny_bind (listUpdate_at hok rfl ?_ (by rw[List.size_toArray,sizeLine_eq];omega) (Nat.zero_le _))
   refine wpAny_bind (wpAny_letGo ?_)
   refine wpAny_bind (seqEpoch_at na1 rfl ?_)
   refine wpAny_bind (listUpdate_at na1 rfl ?_ (Nat.zero_le _) (by
    simp only[Bool.false_eq_true,if_false]
    show (outV z vs).toArray.size<=_;rw[List.size_toArray,outV_len];omega))
   obtain⟨c,hc⟩:∃c,((s'.heap.update kS (Obj.mapSeq fun _=>(#[]:Array Value))).update a (Obj.mapSeq fun _=>(outV z vs).toArray)).get? a=some (seqObj "list" (outV z vs).toArray c):=⟨_,get?_update_seq na1 fun _=>(outV z vs).toArray⟩
   simp only[bne_self_eq_false,Bool.false_eq_true,if_false]
   exact wpAny_pure (hP _ c I6 (cf.at fa ha') hc)
  unfold ksk_end
  try dsimp only
  simp only[Bool.false_eq_true,if_false]
  by_cases h2:vs.toArray.size < 2
  ·rw[if_pos h2,if_pos h2]
   refine wpAny_bind (wpAny_pure ?_)
   rw[StateT.run_pure]
   refine wpAny_bind (wpAny_pure (last _ ?_ rfl))
   have h2':vs.length < 2:=by simpa using h2
   unfold outV
   rw[if_pos h2']
   show ((us.toArray.zip vs.toArray).map (·.2))=vs.toArray
   apply Array.toList_inj.mp
   simp only[Array.toList_map,Array.toList_zip]
   exact List.map_snd_zip (by rw[hu];exact Nat.le_refl _)
  ·rw[if_neg h2,if_neg h2]
   have h2':2<=vs.length:=by
    have:¬ vs.length < 2:=by simpa using h2
    omega
   obtain⟨hk,hlt⟩:=hz h2' s' I'
   refine wpAny_bind (wpAny_mono (hk (fun κ' s''=>κ'=κ/\s''=s') ⟨rfl,rfl⟩) (fun κ' s'' hs=>?_) fun _ _ x=>x.elim)
   obtain⟨rfl,rfl⟩:=hs
   refine wpAny_bind (wpAny_mono (kat_run (Q:=fun st' s2=>s2=s''/\(arrOf st').map (·.2)=(outV z vs).toArray/\failedOf st'=none) (G:=fun p s2=>s2=s''/\p=SP.run (SP.dN z) (kas_sort vs.length))
    hu h2' h64 (fun p st' s2 a1 a2 a3 a4=>⟨a4.1,?_,a3⟩) (SP.wp_run hlt (kas_sort vs.length) (SP.BL (by omega)) ⟨rfl,rfl⟩)) ?_ fun _ _ e=>e)
   ·rw[kat_snds hu a2,a4.2]
    unfold outV
    rw[if_neg (by omega)]
   ·rintro⟨⟨⟩,st'⟩ s2 ⟨hs,h4,h5⟩
    subst hs
    exact last st' h4 h5
theorem sortedK {l:Value}{f:Addr}{vs:List Value}{Q:Value->Shared->Prop}(I:Inv X pins σ H s) (h64:vs.length < 64)
  (hcol:∀ {Q':List Value->Shared->Prop},(∀h':Heap,(∀b o,s.heap.get? b=some o->h'.get? b=some o)->Q' vs { s with heap:=h' })->wpAny (model X.prog X.w) A.in1 (collect l) Q' E s)
  (J:List Value->Hp->Prop) (j0:J [] H)
  (step:∀us v,vs[us.length]?=some v->∀pl s' H',Inv X (pins++pl) σ H' s'->J us H'->wpAny (model X.prog X.w) A.in1.in1 (call (.ref f) [v]) (fun u s''=>∃H'',Inv X (pins++pl) σ H'' s''/\J (us++[u]) H'') (fun _ _=>False) s')
  (fin:∀us H',us.length=vs.length->J us H'->∃ (z:Nat->Int) (κ:SortKind),(2<=vs.length->∀s',Inv X pins σ H' s'->(∀Q':SortKind->Shared->Prop,Q' κ s'->wpAny (model X.prog X.w) A.in1.in1 (keyKind' us.toArray) Q' (fun _ _=>False) s') /\
    ∀i j C,i < vs.length->j < vs.length->C (SP.dN z i j) s'->kas_ask X.prog X.w A.in1.in1 κ us i j C s') /\
   ∀s' D c,Inv X pins σ H' s'->cf X pins H' D->s'.heap.get? D=some (seqObj "list" (outV z vs).toArray c)->Q (.ref D) s') :
  wpAny (model X.prog X.w) A (call (.builtin "sorted") [l] [(Str.ofString "key",.ref f)]) Q E s:=by
 have hsl:vs.length<=sizeLine:=by rw[sizeLine_eq];omega
 refine call_function_entry_kw kind_sorted plain_sorted entry_sorted (ksk_s1 _ _) ?_
 unfold Builtin.«sorted»
 refine wpAny_bind (m:=checkCount "sorted" 1 1 _) (wpAny_pure (wpAny_bind (hcol fun h1 kp=>?_)))
 refine wpAny_bind (wpAny_newList ?_ (by simpa using hsl))
 have I1:=I.kept (t':=s.toks) kp
 have fD:cf X pins H h1.objs.size:=I1.fpOk (Nat.le_refl _) (I1.hok.fresh (Nat.le_refl _))
 have hoD:(h1.push (seqObj "list" vs.toArray 0)).get? h1.objs.size=some (seqObj "list" vs.toArray 0):=Heap.get?_push_size _ rfl
 have I2:=I1.kept (t':=s.toks) (h':=h1.push (seqObj "list" vs.toArray 0)) fun b o e=>Heap.get?_push_of_some _ e
 show wpAny _ _ _ _ _ { s with heap:=h1.push (seqObj "list" vs.toArray 0) }
 refine wpAny_bind (wpAny_holding (wpAny_call_entry_kw slot_list_sort ⟨_,hoD,rfl⟩ entry_list_sort ?body (ksk_l1 _ _)))
 case body =>
  show wpAny (model X.prog X.w) A.in1.in1 (Builtin.«list.sort» ⟨[.ref h1.objs.size],[(Str.ofString "key",.ref f)]⟩) _ _ _
  rw[ksk_t1]
  refine list_sortK I2 hoD fD h64 J j0 step fun us H' hu j'=>?_
  obtain⟨z,κ,hz,hP⟩:=fin us H' hu j'
  exact⟨z,κ,hz,fun s' c I' f' e=>⟨_,rfl,wpAny_pure ⟨_,rfl,hP s' _ c I' f' e⟩⟩⟩
end
end Srt
namespace Dl
open PySem L2 PySem.Spec PyProof.Rows
theorem _root_.L2.Inv.track {X:Cx}{pins:List (Addr×Obj)}{σ:L2.St}{H:Hp}{s:Shared}{b:Addr}{o:HO}(I:Inv X pins σ H s) (f:cf X pins H b) (ho:eF X.prog X.w (upd H b o) s.heap b o):Inv X pins σ (upd H b o) s:=by
 obtain⟨f0,f1,f2,f3,f4,f5⟩:=f
 have up:∀c u,H c=some u->upd H b o c=some u:=fun c u e=>by rw[ay (aJ e f0)];exact e
 refine⟨I.ok,I.os,I.bare,⟨I.base.keep,I.base.slot,fun c oc e n hx=>?_,I.base.there,fun c xs e=>up c _ (I.base.tups c xs e),fun c oc u e=>up c _ (I.base.frzs c oc u e),⟨fun c u e t=>up c u (I.base.tbls.st c u e t),I.base.tbls.gr⟩⟩,I.loc,I.cell,?_,fun x c e=>?_,fun p hp=>?_,fun c u e=>?_,I.len⟩
 ·have hne:c≠b:=fun z=>by
   rcases f3 with g|g
   ·exact hx (z ▸ g)
   ·exact absurd (Nat.lt_of_lt_of_le (Heap.lt_size e) (z ▸ g)) (Nat.lt_irrefl _)
  rw[ay hne];exact I.base.free c oc e n hx
 ·rw[ay (Ne.symm f1)];exact I.free
 ·rw[ay (f4 x c e)];exact I.freeC x c e
 ·obtain⟨e,n,r⟩:=I.pin p hp
  exact⟨e,by rw[ay (f5 p hp)];exact n,r⟩
 ·by_cases hc:c=b
  ·subst hc;rw[aD] at e;cases e;exact ho
  ·rw[ay hc] at e
   exact (I.hok c u e).stay (fun d w _ q=>q) (fun d q=>up d _ q) fun d w q _=>up d _ q
noncomputable def mJ (scope:Scope) (N':List Str) (p:Str):Bool:=scope.names.all (fun q=>!decide (q.2=NameKind.cell))&&decide (N'[0]?=some p)&&decide (scope.names.lookup p=some .local)&&decide (scope.isCoroutine=false)&&decide (scope.isGenerator=false)
section
variable {X:Cx}{N:List Str}{sc:Scope}{k:Nat}
theorem CZ {scope:Scope}{N':List Str}{p qual:Str}{A:Around}{f c:Addr}{s:Shared}{H:Hp}(C:Bk X N sc (k+3)) (hA:dH (k+1) A) (hk:scope.kind=.function) (hnd:N'.Nodup) (hl:mJ scope N' p=true):Bk (fU X A qual scope N' f c s H) N' scope k where
 n:=rfl
 nd:=hnd
 tb:=fun x kd hx=>.inl hx
 calm:=rfl
 fn:=fun x hx=>by
  unfold mJ at hl
  simp only[Bool.and_eq_true,List.all_eq_true,Bool.not_eq_true',decide_eq_false_iff_not] at hl
  exact absurd rfl (hl.1.1.1.1 _ (mem_of_lookup hx))
 room:=hA.deeper _
 xe:=rfl
 kd:=hk
structure n9 (X:Cx) (qual:Str):Prop where
 ex:∃c P,X.env.code=.ref c/\X.env.qual++"<lambda>"=qual/\PySem.W.codeHdIn X.K c P=true/\∀HF,eY X.K HF->HF P=some (.tab qual)
noncomputable def gP (te:Env->Option D) (ρ:Env):List D->Option (List D)
 | []=>some []
 | d::ds=>(te (ρ.set 0 (some d))).bind fun x=>(gP te ρ ds).map (x::·)
theorem ml {te:Env->Option D}{ρ:Env}:∀ {ds ks:List D},gP te ρ ds=some ks->ks.length=ds.length
 | [],ks,h=>by cases h;rfl
 | d'::ds,ks,h=>by
  unfold gP at h
  obtain⟨y,h1,h⟩:=bs h
  obtain⟨ys,h2,rfl⟩:=map_some h
  simp[ml h2]
theorem nU {te:Env->Option D}{ρ:Env}:∀ {ds ks:List D}{i:Nat}{d:D},gP te ρ ds=some ks->ds[i]?=some d->∃x,te (ρ.set 0 (some d))=some x/\ks[i]?=some x
 | [],ks,i,d,h,e=>by simp at e
 | d'::ds,ks,i,d,h,e=>by
  unfold gP at h
  obtain⟨y,h1,h⟩:=bs h
  obtain⟨ys,h2,rfl⟩:=map_some h
  cases i with
  | zero=>simp at e;subst e;exact⟨y,h1,rfl⟩
  | succ i=>obtain⟨x,a,b⟩:=nU h2 (by simpa using e);exact⟨x,a,by simpa using b⟩
noncomputable def mr (cs:List Nat) (fl te:Env->Option D):Env->Option (List D):=fun ρ=>(fl ρ).bind fun l=>match l with
 | .list ds=>(gP te (eh 1 cs ρ) ds).bind fun ks=>(intsOf ks).bind fun zs=>if ds.length < 64 then some (nr (fun i=>zs.getD i 0) ds .none) else none
 | _=>none
theorem vv {K:PySem.W.Frag}{HF:Hp}{ρ:Env}{σ:L2.St}{cs:List Nat}{d:D}{v:V}(eo:cG K HF ρ σ) (r:Rep K HF d v):cG K HF ((eh 1 cs ρ).set 0 (some d)) ((jo 1 cs σ).set 0 (some v)):=ij (xV eo) r
theorem lC {K:PySem.W.Frag}{HF:Hp}:∀ {ks:List D}{zs:List Int}{kvs:List V}{us:List Value},intsOf ks=some zs->aq K HF ks kvs->az kvs us->IntsAre us zs
 | [],zs,kvs,us,h,r,v=>by
  cases h
  rw[r.nil_inv] at v
  cases v
  exact .nil
 | d::ks,zs,kvs,us,h,r,v=>by
  cases d<;>simp only[intsOf] at h<;>try cases h
  rename_i i
  obtain⟨ys,h2,rfl⟩:=map_some h
  obtain⟨w,ws,rfl,a,b⟩:=r.cons_inv
  simp only[Rep] at a
  subst a
  cases v with
  | cons r1 r2 =>
   obtain⟨t,rfl⟩:=r1
   exact .cons i t (lC h2 b r2)
theorem ix:∀ {us:List Value}{zs:List Int}{i:Nat},IntsAre us zs->i < us.length->∃t,us.getD i Value.none=.int (zs.getD i 0) t
 | _,_,i,.nil,h=>by simp at h
 | _,_,0,.cons n t r,h=>⟨t,rfl⟩
 | _,_,i+1,.cons n t r,h=>by
  obtain⟨t',e⟩:=ix (i:=i) r (by simpa using h)
  exact⟨t',by simpa using e⟩
variable {l body:Expr}{fl te:Env->Option D}{params:Arguments}{scope:Scope}{lpos pos p0 kpos:Pos}{N':List Str}{cs:List Nat}{p qual:Str}
theorem Bk.sortK (C:Bk X N sc (k+3)) (B:mv X "sorted" (.builtin "sorted")) (L:n9 X qual) (ok:hU sc scope N N' 1 cs=true) (hl:mJ scope N' p=true)
  (hb:∀ (cl:List (Str×Addr)) (pm ctv u:Value) (c:Addr),bindArgs (PySem.W.kla_fn "<lambda>" qual params body scope cl pm (.ref c) ctv) ⟨[u],[]⟩=pure [(p,u)]) (hdef:defaultsOf params X.env=([],[])) (h:DE X l fl)
  (hY:∀A f c s H,Bk (fU X A qual scope N' f c s H) N' scope k->DE (fU X A qual scope N' f c s H) body te)
  (hst:starEach [l] X.env=(false,eval l X.env)::starEach [] X.env) (he:backTo pos (starEach [l] X.env)=(false,eval l X.env)::backTo pos (starEach [] X.env)) (hpl:(backTo pos (starEach [l] X.env)).any (·.1)=false) :
  DF X (.Call (.Name "sorted" p0) [l] [⟨some "key",.Lambda params body scope lpos,kpos⟩] pos) (mr cs fl te):=by
 obtain⟨S,_⟩:=C.comp ok
 have hnd:N'.Nodup:=by
  unfold hU at ok
  simp only[Bool.and_eq_true,decide_eq_true_eq] at ok
  exact ok.2
 have hl':=hl
 unfold mJ at hl'
 simp only[Bool.and_eq_true,List.all_eq_true,Bool.not_eq_true',decide_eq_false_iff_not,decide_eq_true_eq] at hl'
 obtain⟨⟨⟨⟨hnc,hN0⟩,hp⟩,hco⟩,hgen⟩:=hl'
 obtain⟨cc,P,hcode,hqual,hhd,eG⟩:=L.ex
 intro pins s σ H Q I ⟨HF,ρ,out,sm,eo,hf,q⟩
 obtain⟨ld,hld,hf⟩:=bs hf
 cases ld<;>try cases hf
 rename_i ds
 obtain⟨ks,hks,hf⟩:=bs hf
 obtain⟨zs,hzs,hf⟩:=bs hf
 split at hf<;>cases hf
 rename_i h64
 refine wpAny_Call_Name_kw (iy I B.gl B.mg B.bt ?_ (by decide) (by decide))
 refine PyProof.Rows.callWith_kw (e:=l) (rest:=[]) (kws:=[⟨some "key",.Lambda params body scope lpos,kpos⟩]) ?_ he hpl rfl rfl
 refine bP (yc h AS hst pos pins s σ H _ I ⟨HF,ρ,[.list ds],sm,eo,by simp[aa,ae,hld],fun vs H1 HF1 g1 r1=>(⟨HF1,g1,r1⟩:∃HF1,cb HF H HF1 H1/\aq X.K HF1 [.list ds] vs)⟩) fun us s1 ⟨vs,H1,I1,rv,HF1,g1,r1⟩=>?_
 obtain⟨v,vr,rfl,a1,b1⟩:=r1.cons_inv
 rw[b1.nil_inv] at rv
 obtain⟨u,rfl,rx⟩:=vals1 rv
 simp only[Rep] at a1
 obtain⟨la,ws,rfl,hq,rr⟩:=a1
 cases rx
 have hT1:H1 P=some (.tab qual):=g1.fh _ _ (eG HF1 (eo.tb.mono g1.ff))
 show wpAny _ _ (evalAll ((do let v <- eval (.Lambda params body scope lpos) X.env;standAt pos;pure v)::[])) _ _ s1
 refine wpAny_evalAll_cons (wpAny_bind ?_)
 refine ue (P:=P) I1 S hqual hcode (PySem.W.codeHd_of_K I1.ok.mod.kin hhd) hT1 I1.ok.mod.bmd hdef fun f c' pm ctv s2 H2 I2 hfo hfn hcod s12 fp2 _=>?_
 refine wpAny_bind (wpAny_standAt (wpAny_pure (wpAny_evalAll_nil ?_)))
 show wpAny _ _ (call (.builtin "sorted") [.ref la] [(Str.ofString "key",.ref f)]) _ _ s2
 have Ip:=I2.pinned (fp:=[f]) (fun b hb=>by rw[List.mem_singleton.mp hb];exact fp2) (fun b hb=>by rw[List.mem_singleton.mp hb];exact⟨_,hfo,fun v z=>by cases z⟩)
 have g2:cb HF1 H1 HF1 H2:=⟨s12,.refl _,g1.fh.trans s12,fun _ _ e=>.inl e⟩
 obtain⟨its,rvi,pl,hz⟩:=Ip.list (s12.seq (g1.fh.seq hq))
 have hlen:its.length=ds.length:=by rw[<- rvi.length,rr.length]
 have hkl:=ml hks
 have hR:dH (k+1) X.A.in1.in1:=C.room.in1.in1
 refine Srt.sortedK (vs:=its) Ip (by omega) (fun {Q'} hQ=>?_) (fun us H'=>∃HF' kvs,cb HF1 H2 HF' H'/\aq X.K HF' (ks.take us.length) kvs/\az kvs us) ⟨HF1,[],.refl g2.fh,by simpa using aq.nil,.nil⟩ (fun us x hx pl' s3 H3 I3 ⟨HF3,kvs,g3,rk,rvk⟩=>?_) fun us H3 hu ⟨HF3,kvs,g3,rk,rvk⟩=>?_
 ·refine collect_list pl.isList (hQ _ fun b o e=>?_) (by rw[sizeLine_eq];omega)
  exact (Heap.get?_update_other _ _ (Nat.ne_of_gt (Heap.lt_size e))).trans (Heap.get?_push_of_some _ e)
 ·have hi:us.length < its.length:=(List.getElem?_eq_some_iff.mp hx).1
  obtain⟨w,hw⟩:∃w,ws[us.length]?=some w:=⟨_,List.getElem?_eq_getElem (by rw[rvi.length];exact hi)⟩
  obtain⟨x',hx',rw'⟩:=rvi.get hw
  rw[hx] at hx'
  cases hx'
  obtain⟨d,hd,rd⟩:=rr.get hw
  obtain⟨kd,hkd,hki⟩:=nU hks hd
  have hfo3:s3.heap.get? f=some (PySem.W.kla_obj "<lambda>" qual params body scope (dR X.env scope.names []) pm c' ctv) :=
   (I3.pin (f,_) (List.mem_append_right _ (List.mem_append_left _ (List.mem_append_right _ (cZ List.mem_cons_self hfo))))).1
  refine wpAny_mono (u5 (Q:=fun v H4=>∃HF4,cb HF3 H3 HF4 H4/\Rep X.K HF4 kd v) (te:=tD X.K te) I3 hR I3.ok.frames S hnc hN0 hp hnd hco hgen hfo3 (g3.hh _ _ hcod) (hb _ _ _ _ _) rw' (hY _ _ _ _ _ (CZ C hR S.kind hnd hl))
   ⟨HF3,_,kd,g3.fh,vv (eo.mono (g1.ff.trans g3.ff)) (rd.mono g3.ff),hkd,fun v H4 HF4 g4 r4=>⟨HF4,g4,r4⟩⟩) (fun u s4 ⟨v4,H4,I4,r4,HF4,g4,rp⟩=>⟨H4,I4,HF4,kvs++[v4],g3.trans g4,?_,rvk.append (.cons r4 .nil)⟩) fun _ _ e=>e
  rw[List.length_append,List.length_singleton,List.take_add_one,hki]
  exact (rk.mono g4.ff).append (aq.cons rp aq.nil)
 ·have hk':ks.take us.length=ks:=List.take_of_length_le (by omega)
  rw[hk'] at rk
  have ia:=lC hzs rk rvk
  refine⟨fun i=>zs.getD i 0,oneType',fun h2 s3 I3=>⟨fun Q' q'=>?_,fun i j Cc hi hj q'=>?_⟩,fun s3 Dn c I3 fD e=>?_⟩
  ·rw[PyProof.Rows.ksk_kind (keys:=us.toArray) (kz:=zs) (by simpa using ia) (by simpa [hu] using h2)]
   exact wpAny_pure q'
  ·obtain⟨t1,e1⟩:=ix ia (i:=i) (by omega)
   obtain⟨t2,e2⟩:=ix ia (i:=j) (by omega)
   unfold PySem.W.kas_ask
   rw[e1,e2]
   exact PySem.W.kat_lt_int q'
  ·have hv:=o8 (fun i=>zs.getD i 0) rvi
   have hr:=oh (fun i=>zs.getD i 0) rr
   have hnD:H3 Dn=none:=fD.1
   have I4:=Inv.track (o:=.lst (nr (fun i=>zs.getD i 0) ws .non)) I3 fD ⟨by rw[(fA _ _ _).length_eq];exact hz,_,c,hv,e⟩
   have G:=(g1.trans g2).trans g3
   refine⟨.ref Dn,_,I4.unpinned,rfl,q Dn _ _ HF3 (G.trans (.own G.fh hnD)) (G.hh.free hnD) (G.fh.free hnD) aD (hr.mono g3.ff)⟩
end
end Dl
namespace Srt
open PySem PySem.W PySem.Calls PyProof.Rows L2
section
variable {prog:Program}{w:World}{A:Around}{E:Value->Shared->Prop}{s:Shared}
theorem iadd_rng {R:Result->Shared->Prop}{r S:Addr}{a b c:Int}{t u v:Tok}{n:Nat}(hh:A.handled=none) (hr:IsRange s.heap r a b c t u v) (hsmall:Builtin.Range.small a b c=true) (hn:Builtin.Range.rangeSize a b c=n) (hlen:n<=2 ^ 24)
  (hS:s.heap.get? S=some { cls:=.type "list",data:=.seq #[] })
  (hR:∀h' tk acc' c',(∀b o,b≠S->s.heap.get? b=some o->h'.get? b=some o)->h'.get? S=some { cls:=.type "list",dict:=none,data:=.seq acc' c',slots:=#[] } ->
   ItemsOf (fun i v=>∃t,v=.int (a+i * c) t) acc' n->R (.ok (.ret (.ref S))) { s with heap:=h',toks:=tk }):codeAny (model prog w) A (.builtin "list.__iadd__" ⟨[.ref S,.ref r],[]⟩) R s:=by
 refine codeAny_builtin entry_list_iadd' ?_
 rw[Around.under_plainId (by decide +kernel:plainId "list.__iadd__"=true) _]
 exact wpAny_extend_range (A:=A) hh hr hsmall hn hlen S (.ref S) _ hS hR
theorem collect_rng {r:Addr}{a b c:Int}{t u v:Tok}{n:Nat}{Q:List Value->Shared->Prop}(hh:A.handled=none) (hr:IsRange s.heap r a b c t u v) (hsmall:Builtin.Range.small a b c=true) (hn:Builtin.Range.rangeSize a b c=n) (hlen:n<=2 ^ 24)
  (h:∀h' tk acc,(∀b o,s.heap.get? b=some o->h'.get? b=some o)->ItemsOf (fun i v=>∃t,v=.int (a+i * c) t) acc n->Q acc.toList { s with heap:=h',toks:=tk }):wpAny (model prog w) A (collect (.ref r)) Q E s:=by
 unfold collect
 refine wpAny_bind (wpAny_runValue (codeAny_builtin entry_proto_collect' ?_))
 rw[Around.under_plainId (by decide +kernel:plainId "proto.collect"=true) _]
 show wpAny _ A.in1 (newList [] >>= fun l=>again (.builtin "list.__iadd__" ⟨[l,.ref r],[]⟩)) _ _ s
 refine wpAny_bind (wpAny_newObj_type ?_)
 have hS:(s.heap.push { cls:=.type "list",data:=.seq #[] }).get? s.heap.objs.size=some { cls:=.type "list",data:=.seq #[] }:=Heap.get?_push_size _ rfl
 refine wpAny_pure ⟨plainId_quiet (by decide +kernel) _,iadd_rng (s:={ s with heap:=s.heap.push { cls:=.type "list",data:=.seq #[] } }) hh (Heap.get?_push_of_some _ hr) hsmall hn hlen hS fun h' tk acc' c' hk hS' hacc=>?_⟩
 show wpAny _ A (load s.heap.objs.size >>= _) _ _ _
 refine wpAny_bind (wpAny_load hS' ?_)
 exact wpAny_pure (h h' tk acc' (fun b o e=>hk b o (Nat.ne_of_lt (Heap.lt_size e)) (Heap.get?_push_of_some _ e)) hacc)
end
section
variable {X:Cx}{pins:List (Addr×Obj)}{σ:L2.St}{H:Hp}{s:Shared}{A:Around}{E:Value->Shared->Prop}
theorem sortedR {l:Value}{f:Addr}{PV:List Value->Prop}{Q:Value->Shared->Prop}(I:Inv X pins σ H s)
  (hcol:∀ {Q':List Value->Shared->Prop},(∀ (h':Heap) (tk:Nat) (vs:List Value),PV vs->(∀b o,s.heap.get? b=some o->h'.get? b=some o)->Q' vs { s with heap:=h',toks:=tk })->wpAny (model X.prog X.w) A.in1 (collect l) Q' E s)
  (rest:∀vs,PV vs->vs.length < 64/\∃J:List Value->Hp->Prop,J [] H /\
   (∀us v,vs[us.length]?=some v->∀pl s' H',Inv X (pins++pl) σ H' s'->J us H'->wpAny (model X.prog X.w) A.in1.in1 (call (.ref f) [v]) (fun u s''=>∃H'',Inv X (pins++pl) σ H'' s''/\J (us++[u]) H'') (fun _ _=>False) s') /\
   (∀us H',us.length=vs.length->J us H'->∃ (z:Nat->Int) (κ:SortKind),(2<=vs.length->∀s',Inv X pins σ H' s'->(∀Q':SortKind->Shared->Prop,Q' κ s'->wpAny (model X.prog X.w) A.in1.in1 (keyKind' us.toArray) Q' (fun _ _=>False) s') /\
    ∀i j C,i < vs.length->j < vs.length->C (SP.dN z i j) s'->kas_ask X.prog X.w A.in1.in1 κ us i j C s') /\
   ∀s' D c,Inv X pins σ H' s'->cf X pins H' D->s'.heap.get? D=some (seqObj "list" (outV z vs).toArray c)->Q (.ref D) s')) :
  wpAny (model X.prog X.w) A (call (.builtin "sorted") [l] [(Str.ofString "key",.ref f)]) Q E s:=by
 refine call_function_entry_kw kind_sorted plain_sorted entry_sorted (ksk_s1 _ _) ?_
 unfold Builtin.«sorted»
 refine wpAny_bind (m:=checkCount "sorted" 1 1 _) (wpAny_pure (wpAny_bind (hcol fun h1 tk vs hv kp=>?_)))
 obtain⟨h64,J,j0,step,fin⟩:=rest vs hv
 have hsl:vs.length<=sizeLine:=by rw[sizeLine_eq];omega
 refine wpAny_bind (wpAny_newList ?_ (by simpa using hsl))
 have I1:=I.kept (t':=tk) kp
 have fD:cf X pins H h1.objs.size:=I1.fpOk (Nat.le_refl _) (I1.hok.fresh (Nat.le_refl _))
 have hoD:(h1.push (seqObj "list" vs.toArray 0)).get? h1.objs.size=some (seqObj "list" vs.toArray 0):=Heap.get?_push_size _ rfl
 have I2:=I1.kept (t':=tk) (h':=h1.push (seqObj "list" vs.toArray 0)) fun b o e=>Heap.get?_push_of_some _ e
 show wpAny _ _ _ _ _ { s with heap:=h1.push (seqObj "list" vs.toArray 0),toks:=tk }
 refine wpAny_bind (wpAny_holding (wpAny_call_entry_kw slot_list_sort ⟨_,hoD,rfl⟩ entry_list_sort ?body (ksk_l1 _ _)))
 case body =>
  show wpAny (model X.prog X.w) A.in1.in1 (Builtin.«list.sort» ⟨[.ref h1.objs.size],[(Str.ofString "key",.ref f)]⟩) _ _ _
  rw[ksk_t1]
  refine list_sortK I2 hoD fD h64 J j0 step fun us H' hu j'=>?_
  obtain⟨z,κ,hz,hP⟩:=fin us H' hu j'
  exact⟨z,κ,hz,fun s' c I' f' e=>⟨_,rfl,wpAny_pure ⟨_,rfl,hP s' _ c I' f' e⟩⟩⟩
end
end Srt
namespace Dl
open PySem L2 PySem.Spec PyProof.Rows
noncomputable def n6 (n:Nat):List D:=(List.range n).map fun i=>PyData.int ((i:Nat):Int)
noncomputable def o5 (cs:List Nat) (fs:Env->Option (List D)) (te:Env->Option D):Env->Option (List D):=fun ρ=>(fs ρ).bind fun l=>match l with
 | [.int n]=>if 0<=n/\n < 64 then (gP te (eh 1 cs ρ) (n6 n.toNat)).bind fun ks=>(rowsOf ks).map fun nss=>nr (fun i=>rk nss (nss.getD i [])) (n6 n.toNat) .none else none
 | _=>none
theorem qq:∀ {vs:List Value}{k:Nat},(∀i v,vs[i]?=some v->∃t,v=Value.int ((k+i:Nat):Int) t)->az ((List.range' k vs.length).map fun i=>V.int ((i:Nat):Int)) vs
 | [],k,_=>.nil
 | v::vs,k,h=>by
  rw[List.length_cons,List.range'_succ,List.map_cons]
  obtain⟨t,e⟩:=h 0 v rfl
  refine .cons ⟨t,by simpa using e⟩ (qq fun i u hu=>?_)
  obtain⟨t',e'⟩:=h (i+1) u (by simpa using hu)
  exact⟨t',by rw[e'];congr 1;omega⟩
theorem qK {K:PySem.W.Frag}{HF:Hp}:∀ (l:List Nat),aq K HF (l.map fun i=>PyData.int ((i:Nat):Int)) (l.map fun i=>V.int ((i:Nat):Int))
 | []=>aq.nil
 | i::l=>aq.cons (by simp[Rep]) (qK l)
section
variable {X:Cx}{N:List Str}{sc:Scope}{k:Nat}
variable {e body:Expr}{fs:Env->Option (List D)}{te:Env->Option D}{params:Arguments}{scope:Scope}{lpos pos p0 kpos rpos p1:Pos}{N':List Str}{cs:List Nat}{p qual:Str}
theorem Bk.sortR (C:Bk X N sc (k+3)) (B:mv X "sorted" (.builtin "sorted")) (BR:mv X "range" (.type "range")) (L:n9 X qual) (ok:hU sc scope N N' 1 cs=true) (hl:mJ scope N' p=true)
  (hb:∀ (cl:List (Str×Addr)) (pm ctv u:Value) (c:Addr),bindArgs (PySem.W.kla_fn "<lambda>" qual params body scope cl pm (.ref c) ctv) ⟨[u],[]⟩=pure [(p,u)]) (hdef:defaultsOf params X.env=([],[])) (h:DA X [e] fs)
  (hY:∀A f c s H,Bk (fU X A qual scope N' f c s H) N' scope k->DE (fU X A qual scope N' f c s H) body te)
  (hsR:starEach [e] X.env=[(false,eval e X.env)])
  (hst:starEach [.Call (.Name "range" p1) [e] [] rpos] X.env=(false,eval (.Call (.Name "range" p1) [e] [] rpos) X.env)::starEach [] X.env) (he:backTo pos (starEach [.Call (.Name "range" p1) [e] [] rpos] X.env)=(false,eval (.Call (.Name "range" p1) [e] [] rpos) X.env)::backTo pos (starEach [] X.env)) (hpl:(backTo pos (starEach [.Call (.Name "range" p1) [e] [] rpos] X.env)).any (·.1)=false) :
  DF X (.Call (.Name "sorted" p0) [.Call (.Name "range" p1) [e] [] rpos] [⟨some "key",.Lambda params body scope lpos,kpos⟩] pos) (o5 cs fs te):=by
 obtain⟨S,_⟩:=C.comp ok
 have hnd:N'.Nodup:=by
  unfold hU at ok
  simp only[Bool.and_eq_true,decide_eq_true_eq] at ok
  exact ok.2
 have hl':=hl
 unfold mJ at hl'
 simp only[Bool.and_eq_true,List.all_eq_true,Bool.not_eq_true',decide_eq_false_iff_not,decide_eq_true_eq] at hl'
 obtain⟨⟨⟨⟨hnc,hN0⟩,hp⟩,hco⟩,hgen⟩:=hl'
 obtain⟨cc,P,hcode,hqual,hhd,eG⟩:=L.ex
 intro pins s σ H Q I ⟨HF,ρ,out,sm,eo,hf,q⟩
 obtain⟨ld,hld,hf⟩:=bs hf
 obtain⟨n,rfl⟩:∃n,ld=[.int n]:=by
  split at hf
  ·exact⟨_,rfl⟩
  ·cases hf
 simp only at hf
 split at hf
 rotate_left
 ·cases hf
 rename_i h64
 obtain⟨ks,hks,hf⟩:=bs hf
 obtain⟨nss,hns,rfl⟩:=map_some hf
 obtain⟨hkr,hne⟩:=i3 hns
 refine wpAny_Call_Name_kw (iy I B.gl B.mg B.bt ?_ (by decide) (by decide))
 refine PyProof.Rows.callWith_kw (e:=.Call (.Name "range" p1) [e] [] rpos) (rest:=[]) (kws:=[⟨some "key",.Lambda params body scope lpos,kpos⟩]) ?_ he hpl rfl rfl
 rw[he]
 refine Calls.spliced_cons ?_
 refine Call_ (iy I BR.gl BR.mg boot_range (PyProof.Rows.callWith_type1 (bP (h rpos pins s σ H _ I ⟨HF,ρ,[.int n],sm,eo,hld,fun vs H1 HF1 g1 r1=>(⟨HF1,g1,r1⟩:∃HF1,cb HF H HF1 H1/\aq X.K HF1 [.int n] vs)⟩) fun us s1 ⟨vs,H1,I1,rv,HF1,g1,r1⟩=>?_) hsR rfl))
 obtain⟨v,vr,rfl,a1,b1⟩:=r1.cons_inv
 rw[b1.nil_inv] at rv
 obtain⟨u,rfl,rx⟩:=vals1 rv
 simp only[Rep] at a1
 subst a1
 obtain⟨t,rfl⟩:=rx
 refine call_range_1 ?_
 refine Calls.spliced_nil ?_
 obtain⟨hn0,hn64⟩:=h64
 have I1':=I1.kept (t':=s1.toks+1+1) (h':=s1.heap.push { cls:=Value.type "range",data:=Data.fields #[Value.int 0 s1.toks,Value.int n t,Value.int 1 (s1.toks+1)] }) fun b o e=>Heap.get?_push_of_some _ e
 have hro:(s1.heap.push { cls:=Value.type "range",data:=Data.fields #[Value.int 0 s1.toks,Value.int n t,Value.int 1 (s1.toks+1)] }).get? s1.heap.objs.size=some { cls:=Value.type "range",data:=Data.fields #[Value.int 0 s1.toks,Value.int n t,Value.int 1 (s1.toks+1)] }:=Heap.get?_push_size _ rfl
 have Ir:=I1'.pinned (fp:=[s1.heap.objs.size]) (fun b hb=>by rw[List.mem_singleton.mp hb];exact I1.fpOk (Nat.le_refl _) I1.fresh) (fun b hb=>by rw[List.mem_singleton.mp hb];exact⟨_,hro,fun v z=>by cases z⟩)
 have hT1:H1 P=some (.tab qual):=g1.fh _ _ (eG HF1 (eo.tb.mono g1.ff))
 show wpAny _ _ (evalAll ((do let v <- eval (.Lambda params body scope lpos) X.env;standAt pos;pure v)::[])) _ _ _
 refine wpAny_evalAll_cons (wpAny_bind ?_)
 refine ue (P:=P) Ir S hqual hcode (PySem.W.codeHd_of_K Ir.ok.mod.kin hhd) hT1 Ir.ok.mod.bmd hdef fun f c' pm ctv s2 H2 I2 hfo hfn hcod s12 fp2 _=>?_
 refine wpAny_bind (wpAny_standAt (wpAny_pure (wpAny_evalAll_nil ?_)))
 show wpAny _ _ (call (.builtin "sorted") [.ref s1.heap.objs.size] [(Str.ofString "key",.ref f)]) _ _ s2
 have hr2:IsRange s2.heap s1.heap.objs.size 0 n 1 s1.toks t (s1.toks+1):=(Srt.pin_get I2 List.mem_cons_self hro).1
 have Ip:=I2.pinned (fp:=[f]) (fun b hb=>by rw[List.mem_singleton.mp hb];exact fp2) (fun b hb=>by rw[List.mem_singleton.mp hb];exact⟨_,hfo,fun v z=>by cases z⟩)
 have g2:cb HF1 H1 HF1 H2:=⟨s12,.refl _,g1.fh.trans s12,fun _ _ e=>.inl e⟩
 have hkl:=ml hks
 have hnl:(n6 n.toNat).length=n.toNat:=by simp[n6]
 have hR:dH (k+1) X.A.in1.in1:=C.room.in1.in1
 refine Srt.sortedR (PV:=fun vs=>vs.length=n.toNat/\∀i v,vs[i]?=some v->∃t,v=Value.int ((i:Nat):Int) t) Ip (fun {Q'} hQ=>?_) fun its ⟨hil,hiv⟩=>⟨by omega,fun us H'=>∃HF' kvs,cb HF1 H2 HF' H'/\aq X.K HF' (ks.take us.length) kvs/\az kvs us,⟨HF1,[],.refl g2.fh,by simpa using aq.nil,.nil⟩,fun us x hx pl' s3 H3 I3 ⟨HF3,kvs,g3,rk,rvk⟩=>?_,fun us H3 hu ⟨HF3,kvs,g3,rk,rvk⟩=>?_⟩
 ·refine Srt.collect_rng (n:=n.toNat) C.room.in1.hd hr2 (small_one (by omega) (by omega) (by omega) (by omega)) (by rw[rangeSize_one];split<;>omega) (by omega) fun h' tk acc kp ha=>?_
  refine hQ h' tk acc.toList ⟨by have:=ha.1;simpa using this,fun i v hv=>?_⟩ kp
  obtain⟨t',e'⟩:=ha.2 i v (by simpa using hv)
  exact⟨t',by rw[e'];congr 1;omega⟩
 ·have hi:us.length < n.toNat:=by rw[<- hil];exact (List.getElem?_eq_some_iff.mp hx).1
  obtain⟨tx,rfl⟩:=hiv _ _ hx
  have hd:(n6 n.toNat)[us.length]?=some (.int ((us.length:Nat):Int)):=by simp[n6,hi]
  obtain⟨kd,hkd,hki⟩:=nU hks hd
  have hfo3:s3.heap.get? f=some (PySem.W.kla_obj "<lambda>" qual params body scope (dR X.env scope.names []) pm c' ctv) :=
   (I3.pin (f,_) (List.mem_append_right _ (List.mem_append_left _ (List.mem_append_right _ (cZ List.mem_cons_self hfo))))).1
  refine wpAny_mono (u5 (v:=V.int ((us.length:Nat):Int)) (Q:=fun v H4=>∃HF4,cb HF3 H3 HF4 H4/\Rep X.K HF4 kd v) (te:=tD X.K te) I3 hR I3.ok.frames S hnc hN0 hp hnd hco hgen hfo3 (g3.hh _ _ hcod) (hb _ _ _ _ _) ⟨tx,rfl⟩ (hY _ _ _ _ _ (CZ C hR S.kind hnd hl))
   ⟨HF3,_,kd,g3.fh,vv (eo.mono (g1.ff.trans g3.ff)) (by simp[Rep]),hkd,fun v H4 HF4 g4 r4=>⟨HF4,g4,r4⟩⟩) (fun u s4 ⟨v4,H4,I4,r4,HF4,g4,rp⟩=>⟨H4,I4,HF4,kvs++[v4],g3.trans g4,?_,rvk.append (.cons r4 .nil)⟩) fun _ _ e=>e
  rw[List.length_append,List.length_singleton,List.take_add_one,hki]
  exact (rk.mono g4.ff).append (aq.cons rp aq.nil)
 ·have hk':ks.take us.length=ks:=List.take_of_length_le (by omega)
  rw[hk',hkr] at rk
  have hnn:nss.length=n.toNat:=by
   have:=congrArg List.length hkr
   rw[List.length_map] at this
   omega
  refine⟨fun i=>Dl.rk nss (nss.getD i []),tuples' true,fun h2 s3 I3=>⟨fun Q' q'=>?_,fun i j Cc hi hj q'=>?_⟩,fun s3 Dn c I3 fD e=>?_⟩
  ·obtain⟨fs',tt,hlen,hff⟩:=nW (ll I3 g3.fh rk rvk) hne
   refine PySem.W.kat_kind (T:=.type "int") tt (by omega) (fun v hv=>?_) (by decide) q'
   obtain⟨n',t',rfl⟩:=hff v hv
   exact PySem.W.Looks.of_pure rfl
  ·have hp3:=ll I3 g3.fh rk rvk
   have ri:=eZ (d:=Value.none) (d':=[]) hp3 (show i < us.length by omega)
   have rj:=eZ (d:=Value.none) (d':=[]) hp3 (show j < us.length by omega)
   obtain⟨a,o,its1,n1,ea,e1,e2,e3,e4⟩:=ri.ex
   obtain⟨b,o',its',n',eb,f1,f2,f3,f4⟩:=rj.ex
   unfold PySem.W.kas_ask
   rw[ea,eb]
   have hmem:nss.getD i []∈nss:=by
    rw[List.getD_eq_getElem?_getD,List.getElem?_eq_getElem (by omega)]
    exact List.getElem_mem _
   have q2:Cc (lexLt (nss.getD i []) (nss.getD j [])) s3:=by
    rw[yS hmem]
    exact q'
   refine PySem.W.kat_lt e1 e3 f1 f3 ?_
   have:=nR (prog:=X.prog) (w:=X.w) (A:=X.A.in1.in1) (s:=s3) 0 e4 f4 q2
   have l1:its1.size=(nss.getD i []).length:=by have:=IntsAre.length e4;simpa using this
   have l2:its'.size=(nss.getD j []).length:=by have:=IntsAre.length f4;simpa using this
   rw[l1,l2]
   exact this
  ·have rvi:az ((List.range n.toNat).map fun i=>V.int ((i:Nat):Int)) its:=by
    have:=qq (vs:=its) (k:=0) fun i v hv=>by
     obtain⟨t',e'⟩:=hiv i v hv
     exact⟨t',by rw[e'];congr 1;omega⟩
    rw[hil,<- List.range_eq_range'] at this
    exact this
   have rr:aq X.K HF1 (n6 n.toNat) ((List.range n.toNat).map fun i=>V.int ((i:Nat):Int)):=qK _
   have hv:=o8 (fun i=>Dl.rk nss (nss.getD i [])) rvi
   have hr:=oh (fun i=>Dl.rk nss (nss.getD i [])) rr
   have hnD:H3 Dn=none:=fD.1
   have I4:=Inv.track (o:=.lst (nr (fun i=>Dl.rk nss (nss.getD i [])) ((List.range n.toNat).map fun i=>V.int ((i:Nat):Int)) .non)) I3 fD ⟨by rw[(fA _ _ _).length_eq,List.length_map,List.length_range,PySem.sizeLine_eq];omega,_,c,hv,e⟩
   have G:=(g1.trans g2).trans g3
   refine⟨.ref Dn,_,I4.unpinned.unpinned,rfl,q Dn _ _ HF3 (G.trans (.own G.fh hnD)) (G.hh.free hnD) (G.fh.free hnD) aD (hr.mono g3.ff)⟩
end
end Dl
namespace Dl
open PySem L2 PySem.Spec PyProof.Rows
section
variable {X:Cx}{pos:Pos}
noncomputable def Do (i j l:Nat):Env->D->Option Env:=fun ρ d=>match d with
 | .tuple [x,y,z]=>if isFree ρ i=true/\isFree ρ j=true/\isFree ρ l=true then some (((ρ.set i (some x)).set j (some y)).set l (some z)) else none
 | _=>none
theorem Cs (i j l:Nat) {x y z:Str}{px py pz:Pos}{k:Nat}(hc:X.calm=true) (hN:X.N.Nodup) (hi:X.N[i]?=some x) (hx:Loc X.env.scope x) (hj:X.N[j]?=some y) (hy:Loc X.env.scope y) (hl:X.N[l]?=some z) (hz:Loc X.env.scope z)
  (hf:X.fn x=true\/X.env.scope.names.lookup x=some .local) (hf':X.fn y=true\/X.env.scope.names.lookup y=some .local) (hf'':X.fn z=true\/X.env.scope.names.lookup z=some .local) :
  DG X (.Tuple [.Name x px,.Name y py,.Name z pz] k pos) (Do i j l) :=
 l8 (nS hc (ck (cK hN hi hx hf) (ck (cK hN hj hy hf') (ck (cK hN hl hz hf'') kL)))) fun v σ H Q ⟨HF,ρ,d,ρ',sm,eo,r,hf,q⟩=>by
  unfold Do at hf
  split at hf
  ·rename_i x' y' z'
   split at hf
   ·rename_i hh
    cases hf
    simp only[Rep] at r
    obtain⟨a,vs,rfl,hs,rr⟩:=r
    obtain⟨v1,r1,rfl,a1,b1⟩:=rr.cons_inv
    obtain⟨v2,r2,rfl,a2,b2⟩:=b1.cons_inv
    obtain⟨v3,r3,rfl,a3,b3⟩:=b2.cons_inv
    rw[b3.nil_inv] at hs
    exact⟨a,_,rfl,aw sm hs,rfl,v1,_,rfl,v2,_,rfl,v3,_,rfl,rfl,q _ (ij (ij (ij eo a1) a2) a3) (jC (jC (jC eo hh.1) hh.2.1) hh.2.2)⟩
   ·cases hf
  ·cases hf
end
end Dl
namespace Dl
open PySem L2 PySem.Spec PyProof.Rows
theorem JH {xs:List Value}(h:2<=xs.length):((List.range 2).filterMap fun (k:Nat)=>xs.toArray[((1:Int)+(k:Int) * (-1)).toNat]?)=(xs.take 2).reverse:=by
 match xs,h with
 | a::b::r,_=>rfl
theorem Bx {prog:Program}{w:World}{A:Around}{E:Value->Shared->Prop}{s:Shared}{t sl:Addr}{its:List Value}{tk tk1:Tok}{Q:Value->Shared->Prop}(ht:IsTup s.heap t its.toArray) (hs:s.heap.IsSliceOf sl (.int 1 tk1) .none (.int (-1) tk))
  (h2:2<=its.length) (h:Q (.ref s.heap.objs.size) { s with heap:=s.heap.push { cls:=.type "tuple",data:=.seq (its.take 2).reverse.toArray } }):wpAny (model prog w) A (getItem (.ref t) (.ref sl)) Q E s:=by
 obtain⟨os,hos,hcs,hds⟩:=id hs
 have hTs:s.TypeIs (.ref sl) "slice":=⟨os,hos,hcs⟩
 unfold getItem
 try with_reducible refine wpAny_holding ?_
 first|refine wpAny_bind (wpAny_pure ?_)|skip
 refine wpAny_bind (wpAny_sequenceKey ht.typeIs (by decide) (wpAny_bind (wpAny_callSpecial?_slot (name:=Str.ofString "__getitem__") ht.typeIs PyProof.Rows.slot_tuple_getitem (wpAny_call_entry PyProof.Rows.slot_tuple_getitem ht.typeIs entry_tuple_getitem ?_ (args_tuple_getitem _ _)))))
 refine wpAny_bind (m:=Builtin.Tuple.tupleItemsOf (.ref t)) (tupleItemsOf_ ht (wpAny_bind (wpAny_typeOf hTs ?_)))
 rw[if_pos (by decide)]
 have hap:∀ {R:Int×Int×Nat->Shared->Prop},R (1,-1,2) s->wpAny (model prog w) A.in1 (Builtin.Slice.sliceApplied (.ref sl) (pure ((its.toArray.size:Nat):Int))) R E s:=fun {R} hR=>by
  unfold Builtin.Slice.sliceApplied Builtin.Slice.sliceFields
  refine wpAny_bind (wpAny_bind (wpAny_field hos hds (x:=.int 1 tk1) rfl (wpAny_bind (wpAny_field hos hds (x:=.none) rfl (wpAny_bind (wpAny_field hos hds (x:=.int (-1) tk) rfl (wpAny_pure ?_)))))))
  refine wpAny_bind (slicePart_int ?_)
  show wpAny _ _ (if ((-1:Int) == 0)=true then _ else _) _ _ s
  rw[if_neg (by decide)]
  refine wpAny_bind (slicePart_int (wpAny_bind (slicePart_none (wpAny_bind (wpAny_pure ?_)))))
  have e1:Builtin.Slice.sliceAdjust (some 1) none (-1) ((its.toArray.size:Nat):Int)=(1,-1):=by
   simp[Builtin.Slice.sliceAdjust]
   omega
  show wpAny _ _ (match Builtin.Slice.sliceAdjust (some 1) none (-1) ((its.toArray.size:Nat):Int) with|(lo,hi)=>pure (lo,(-1:Int),Builtin.Slice.slicePlaces lo hi (-1))) _ _ s
  rw[e1]
  have e2:Builtin.Slice.slicePlaces 1 (-1) (-1)=2:=by decide
  show wpAny _ _ (pure ((1:Int),(-1:Int),Builtin.Slice.slicePlaces 1 (-1) (-1))) _ _ s
  rw[e2]
  exact wpAny_pure hR
 first
  | refine wpAny_bind (hap ?_)
  | refine wpAny_bind (wpAny_of_in1 (hap ?_))
 show wpAny _ _ (if ((1:Int) == 0&&(-1:Int) == 1&&2 == its.toArray.size)=true then _ else _) _ _ s
 rw[if_neg (by simp),JH h2]
 have hz':sizeOk (.seq (its.take 2).reverse.toArray):=Nat.le_trans (m:=2) (by simp;omega) (by decide)
 first
  | exact wpAny_bind (m:=Builtin.Tuple.tupleExact _) (wpAny_newObj_type (wpAny_pure ⟨_,rfl,wpAny_pure h⟩) hz')
  | exact wpAny_bind (m:=Builtin.Tuple.tupleExact _) (wpAny_newObj_type (wpAny_bind (wpAny_pure (wpAny_pure ⟨_,rfl,wpAny_pure h⟩))) hz')
  | exact wpAny_bind (wpAny_bind (m:=Builtin.Tuple.tupleExact _) (wpAny_newObj_type (wpAny_pure (wpAny_pure ⟨_,rfl,wpAny_pure h⟩)) hz'))
  | exact wpAny_bind (wpAny_bind (m:=Builtin.Tuple.tupleExact _) (wpAny_newObj_type (wpAny_pure ⟨_,rfl,wpAny_pure h⟩) hz'))
section
variable {X:Cx}{a:Expr}{fa:Env->Option D}{pos p1 p2 p3 p4:Pos}{i j:Nat}
theorem DH {ta:TE}(ha:PE X a ta):PE X (.Subscript a (.Slice (some (.Constant (.int 1) i p1)) none (some (.UnaryOp .USub (.Constant (.int 1) j p4) p3)) p2) pos) (fun σ H Q=>ta σ H fun x H1=>∃b xs,x=.ref b/\iM X.K H1 b xs/\2<=xs.length/\∀p,H1 p=none->Q (.ref p) (upd H1 p (.tup (xs.take 2).reverse))):=by
 intro pins s σ H Q I h
 refine Subscript_ (bP (ha pins s σ H _ I h) fun v s1 ⟨x,H1,I1,r1,b,xs,e,hq,h2,q⟩=>?_)
 subst e
 cases r1
 refine wpAny_Slice ?_
 have hlo:=nj (X:=X) (rJ (X:=X) (i:=1) (j:=i) (pos:=p1)) pins s1 σ H1 (fun o H'=>o=some 1/\H'=H1) I1 ⟨1,rfl,rfl,rfl⟩
 refine bP hlo fun vlo s0 ⟨o,H0,I0,plo,e1,e2⟩=>?_
 subst e1 e2
 rw[evalPart_none]
 refine wpAny_pure ?_
 have hst:=nj (X:=X) (Aw (op:=.USub) v8 (rJ (X:=X) (i:=1) (j:=j) (pos:=p4)) (pos:=p3)) pins s0 σ H0 (fun o H'=>o=some (-1)/\H'=H0) I0 ⟨1,rfl,-1,rfl,rfl,rfl⟩
 refine bP hst fun vst s2 ⟨o,H2,I2,pst,e1,e2⟩=>?_
 subst e1 e2
 cases plo with
 | int _ tk1 =>
 cases pst with
 | int _ tk =>
 obtain⟨its,r,ht,hz⟩:=I2.tuple hq
 have I4:Inv X pins σ H2 { s2 with heap:=s2.heap.push { cls:=.type "slice",data:=.fields #[.int 1 tk1,.none,.int (-1) tk] } }:=I2.kept (t':=s2.toks) fun b ob q=>Heap.get?_push_of_some _ q
 obtain⟨its',r',ht',_⟩:=I4.tuple hq
 refine tail_any (ops:=[.ref b,.ref s2.heap.objs.size]) ht'.typeIs PyProof.Rows.slot_tuple_getitem.lookup (Bx ht' (Heap.IsSliceOf.new ..) (by rw[<- r'.length];exact h2) ?_) (by with_unfolding_all rfl)
 have hv:az (xs.take 2).reverse (its'.take 2).reverse:=L2.az.reverse (r'.take 2)
 exact⟨.ref _,_,I4.laid (t':=s2.toks) (o:=.tup (xs.take 2).reverse) (fun b ob q=>Heap.get?_push_of_some _ q) (Nat.le_refl _) ⟨by rw[List.length_reverse,List.length_take];omega,_,hv,lQ.new _ _⟩,rfl,q _ I4.fresh⟩
noncomputable def qH:D->Option D|.tuple ds=>if 2<=ds.length then some (.tuple (ds.take 2).reverse) else none|_=>none
theorem Ea (ha:DE X a fa):DE X (.Subscript a (.Slice (some (.Constant (.int 1) i p1)) none (some (.UnaryOp .USub (.Constant (.int 1) j p4) p3)) p2) pos) (f1 qH fa):=aN (DH ha) fun σ H Q ⟨HF,ρ,d,sm,eo,hf,q⟩=>by
 obtain⟨x,hx,hf⟩:=bs hf
 refine⟨HF,ρ,x,sm,eo,hx,fun v1 H1 HF1 g1 r1=>?_⟩
 unfold qH at hf
 split at hf<;>try cases hf
 split at hf
 ·rename_i h2
  cases hf
  simp only[Rep] at r1
  obtain⟨b,vs,rfl,hs,rr⟩:=r1
  exact⟨b,vs,rfl,aw g1.fh hs,by rw[rr.length];exact h2,fun p hp=>q _ _ _ (g1.trans (.new g1.fh hp)) (cE (g1.fh.free hp) (rr.take 2).reverse)⟩
 ·cases hf
end
end Dl
namespace Dl
open PySem L2 PySem.Spec PyProof.Rows
section
variable {X:Cx}
noncomputable def CG (d:D):List D->Option Nat
 | []=>none
 | x::xs=>if PyData.eqv x d=true then some 0 else (CG d xs).map (·+1)
theorem qr {d:D}:∀ {xs:List D}{j:Nat},CG d xs=some j->j < xs.length/\(∀x,xs[j]?=some x->PyData.eqv x d=true)/\∀m,m < j->∀x,xs[m]?=some x->PyData.eqv x d=false
 | [],j,h=>by cases h
 | x::xs,j,h=>by
  unfold CG at h
  split at h
  ·cases h
   rename_i e
   exact⟨Nat.succ_pos _,fun y hy=>by cases hy;exact e,fun m hm=>absurd hm (Nat.not_lt_zero _)⟩
  ·rename_i e
   obtain⟨k,hk,rfl⟩:=map_some h
   obtain⟨a,b,c⟩:=qr hk
   refine⟨by simpa using a,fun y hy=>b y (by simpa using hy),fun m hm y hy=>?_⟩
   cases m with
   | zero=>cases hy;simpa using e
   | succ m=>exact c m (by omega) y (by simpa using hy)
theorem zG (hu:X.A.units+66 < cLine):Jb X "list.index" (fun x vs H Q=>∃ (HF:Hp) (ds:List D) (d:D) (y:V) (j:Nat),aV HF H/\Rep X.K HF (.list ds) x/\vs=[y]/\Rep X.K HF d y/\SeqAt.shaped d=true/\SeqAt.shaped (.list ds)=true/\ds.length<=sizeLine/\CG d ds=some j/\Q (.int j) H):=by
 intro pins s σ H x vs v us Q I rx rv h
 obtain⟨HF,ds,d,y,j,sm,r1,rfl,r2,hd,hl,hz,hj,q⟩:=h
 obtain⟨u,rfl,ru⟩:=rv.one
 obtain⟨as,ra⟩:=dG I sm r1 rx
 obtain⟨bs,rb⟩:=dG I sm r2 ru
 have c1:=SeqAt.canLay_of_shaped hd
 have c2:=SeqAt.canLay_of_shaped hl
 have d1:=SeqAt.depth_of_shaped hd
 simp only[PyData.canLay0] at c2
 have m:=Nat.min_le_right (PyData.depthAll ds) d.depth
 obtain⟨hj1,hj2,hj3⟩:=qr hj
 cases ra with
 | list h1 h2 h3 h4 =>
  rename_i l o its n as
  obtain⟨cls,dd,data,sl⟩:=o
  simp only at h2 h3
  subst h2 h3
  have hm:=SeqAt.readsAll_map _ _ _ c2 h4
  have hlen:its.size=ds.length:=by rw[<- hm];simp
  have hs63:(sizeLine:Nat) < 2 ^ 62:=by decide
  have at_:∀m (hm:m < its.size),ds[m]?=some (SeqAt.readOf s.heap its[m]):=fun m hm'=>by
   rw[<- hm,List.getElem?_map,Array.getElem?_toList,Array.getElem?_eq_getElem hm']
   rfl
  refine call_meets F.slot_list_index ⟨_,h1,rfl⟩ F.entry_list_index (F.args_list_index_2 _ _) (PySem.SeqAt.list_indexAt l its n dd sl u (fun y=>PyData.eqv (SeqAt.readOf s.heap y) d) j (by rw[hlen];exact hj1) (by omega) ?_ ?_) ⟨h1,?_,?_⟩
  ·exact hj2 _ (at_ j (by rw[hlen];exact hj1))
  ·intro m hm' hmj
   exact hj3 m hmj _ (at_ m hm')
  ·exact SeqAt.items_eqAt h4 rb c2 c1 (by omega)
  ·exact⟨.int j,H,I.tok _,⟨_,rfl⟩,q⟩
noncomputable def G7:D->D->Option D
 | .list es,d=>if SeqAt.shaped d=true/\SeqAt.shaped (.list es)=true/\es.length<=sizeLine then (CG d es).map fun j=>.int ((j:Nat):Int) else none
 | _,_=>none
theorem Aq (hu:X.A.units+66 < cLine) {o e:Expr}{apos cpos:Pos}{fo fe:Env->Option D}(hbase:attributeBase o "index" X.env (eval o X.env)=eval o X.env)
  (hfew:((backTo cpos (starEach [e] X.env)).all (fun x=>!x.1)&&(backToKw cpos (keywordEach [] X.env)).all (fun x=>x.1.isSome)&&decide ([e].length+([]:List Keyword).length+(if ([]:List Keyword).isEmpty then 0 else 1) < 30))=true)
  (hline:(apos.endLine == cpos.line)=true) (hs:starEach [e] X.env=(false,eval e X.env)::starEach [] X.env) (ho:DE X o fo) (he:DE X e fe):DE X (.Call (.Attribute o "index" apos) [e] [] cpos) (f2 G7 fo fe) :=
 aN (qY PySem.F.plainAttrs_list PySem.F.slot_list_index PySem.F.type_list_index (zG hu) ho (cW he gf hs) hbase hfew hline hs rfl) fun σ H Q ⟨HF,ρ,d,sm,eo,hf,q⟩=>by
  obtain⟨x,hx,hf⟩:=bs hf
  obtain⟨y,hy,hg⟩:=bs hf
  refine⟨HF,ρ,x,sm,eo,hx,fun v1 H1 HF1 g1 r1=>?_⟩
  unfold G7 at hg
  split at hg
  ·split at hg
   ·rename_i es hh
    obtain⟨j,h2,rfl⟩:=map_some hg
    have r1':=r1
    simp only[Rep] at r1
    obtain⟨l,us,rfl,hq,rr⟩:=r1
    refine⟨.inl ⟨rfl,_,g1.fh.seq hq⟩,HF1,ρ,y,g1.fh,eo.mono g1.ff,hy,fun v2 H2 HF2 g2 r2=>?_⟩
    exact⟨HF2,es,y,v2,j,g2.fh,r1'.mono g2.ff,rfl,r2,hh.1,hh.2.1,hh.2.2,h2,q _ H2 HF2 (g1.trans g2) (by simp[Rep])⟩
   ·cases hg
  ·cases hg
noncomputable def EW:List D->Option D
 | [.int i]=>some (.int i)
 | [.bool b]=>some (.int (if b then 1 else 0))
 | _=>none
theorem Eh {K:PySem.W.Frag}:y6 K (fun xs H Q=>(∃i,xs=[.int i]/\Q (.int i) H)\/∃k,xs=[.bl k]/\Q (.int (if k then 1 else 0)) H) EW:=by
 intro HF H ds vs d Q sm r hg q
 unfold EW at hg
 split at hg
 ·cases hg
  obtain⟨v,r',rfl,a,b⟩:=r.cons_inv
  rw[b.nil_inv]
  simp only[Rep] at a
  subst a
  exact .inl ⟨_,rfl,q _ H HF (.refl sm) (by simp[Rep])⟩
 ·cases hg
  obtain⟨v,r',rfl,a,b⟩:=r.cons_inv
  rw[b.nil_inv]
  simp only[Rep] at a
  subst a
  exact .inr ⟨_,rfl,q _ H HF (.refl sm) (by simp[Rep])⟩
 ·cases hg
theorem A1 {e:Expr}{fs:Env->Option (List D)}{p pos:Pos}(B:mv X "int" (.type "int")) (ha:DA X [e] fs) (he:starEach [e] X.env=(false,eval e X.env)::starEach [] X.env:=by rfl):DE X (.Call (.Name "int" p) [e] [] pos) (aY EW fs) :=
 rm zq Eh B ha (by decide) (by decide) he rfl
noncomputable def Bf (i j k l:Nat):ai->D->Option ai:=fun ρ d=>match d with
 | .tuple [x,.tuple [a,b,c]]=>some ((((ρ.set i (.val x)).set j (.val a)).set k (.val b)).set l (.val c))
 | _=>none
variable {HF₀ H₀:Hp}
theorem Io (i j k l:Nat) {x y z w:Str}{px py pz pw p2 pos:Pos}{m n:Nat}(hc:X.calm=true) (hN:X.N.Nodup) (hi:X.N[i]?=some x) (hx:Loc X.env.scope x) (hj:X.N[j]?=some y) (hy:Loc X.env.scope y) (hk:X.N[k]?=some z) (hz:Loc X.env.scope z) (hl:X.N[l]?=some w) (hw:Loc X.env.scope w)
  (f1:X.fn x=true\/X.env.scope.names.lookup x=some .local) (f2:X.fn y=true\/X.env.scope.names.lookup y=some .local) (f3:X.fn z=true\/X.env.scope.names.lookup z=some .local) (f4:X.fn w=true\/X.env.scope.names.lookup w=some .local) :
  JW X HF₀ H₀ (.Tuple [.Name x px,.Tuple [.Name y py,.Name z pz,.Name w pw] m p2] n pos) (Bf i j k l) :=
 l8 (nS hc (ck (cK hN hi hx f1) (ck (nS hc (ck (cK hN hj hy f2) (ck (cK hN hk hz f3) (ck (cK hN hl hw f4) kL)))) kL))) fun v σ H Q ⟨HF,ρ,d,ρ',S,r,hf,q⟩=>by
  unfold Bf at hf
  split at hf
  ·cases hf
   simp only[Rep] at r
   obtain⟨a,vs,rfl,hs,rr⟩:=r
   obtain⟨v1,r1,rfl,a1,b1⟩:=rr.cons_inv
   obtain⟨v2,r2,rfl,a2,b2⟩:=b1.cons_inv
   rw[b2.nil_inv] at hs
   simp only[Rep] at a2
   obtain⟨a',vs',rfl,hs',rr'⟩:=a2
   obtain⟨v3,r3,rfl,a3,b3⟩:=rr'.cons_inv
   obtain⟨v4,r4,rfl,a4,b4⟩:=b3.cons_inv
   obtain⟨v5,r5,rfl,a5,b5⟩:=b4.cons_inv
   rw[b5.nil_inv] at hs'
   exact⟨a,_,rfl,aw S.gr.fh hs,rfl,v1,_,rfl,_,_,rfl,⟨a',_,rfl,aw S.gr.fh hs',rfl,v3,_,rfl,v4,_,rfl,v5,_,rfl,rfl,rfl,q _ ((((S.setV a1).setV a3).setV a4).setV a5)⟩⟩
  ·cases hf
end
end Dl
namespace Dl
open PySem L2 PySem.Spec PyProof.Rows
section
variable {X:Cx}{e:Expr}{es:List Expr}{fs:Env->Option (List D)}{pos p:Pos}
noncomputable def IX:List D->Option D
 | [.int a,.int b]=>some (.int (max a b))
 | _=>none
theorem CM (hc:X.calm=true):cD X (.builtin "max") (fun xs H Q=>∃a b:Int,xs=[.int a,.int b]/\Q (.int (max a b)) H):=by
 intro pins s σ H xs us Q I r h
 have hh:X.A.handled=none:=I.ok.hd hc
 obtain⟨a,b,rfl,q⟩:=h
 cases r with
 | cons r1 r =>
  cases r with
  | cons r2 r =>
   cases r
   obtain⟨t,rfl⟩:=r1
   obtain⟨u,rfl⟩:=r2
   refine max_two_ints hh fun h' tk kp=>⟨.int (max a b),H,I.kept (t':=tk) kp,?_,q⟩
   by_cases h:b > a
   ·rw[if_pos h,show max a b=b by omega];exact⟨_,rfl⟩
   ·rw[if_neg h,show max a b=a by omega];exact⟨_,rfl⟩
theorem Iy (hc:X.calm=true) (B:mv X "max" (.builtin "max")) (he:starEach (e::es) X.env=(false,eval e X.env)::starEach es X.env) (hpl:(backTo pos (starEach es X.env)).any (·.1)=false) (ha:DA X (e::es) fs):DE X (.Call (.Name "max" p) (e::es) [] pos) (aY IX fs) :=
 gM (CM hc) (by
  intro HF H ds vs d Q sm r hg q
  unfold IX at hg
  split at hg
  ·cases hg
   obtain⟨v1,r1,rfl,a1,b1⟩:=r.cons_inv
   obtain⟨v2,r2,rfl,a2,b2⟩:=b1.cons_inv
   rw[b2.nil_inv]
   simp only[Rep] at a1 a2
   exact⟨_,_,by rw[a1,a2],q _ H HF (.refl sm) (by simp[Rep])⟩
  ·cases hg) B ha (by decide) (by decide) he hpl
end
end Dl
namespace Rf
open PySem L2 Dl PySem.Spec PyProof.Rows
structure Tr where
 e:Expr->Option (Dl.Env->Option D)
 f:Expr->Option (Dl.Env->Option (List D))
 t:Expr->Option (Dl.Env->Option Bool)
structure Sg where
 fn:List (Str×Nat×(List D->Option D))
 int:List (Str×Int)
noncomputable abbrev FE:=Dl.Env->Option D
noncomputable def vW (G:Sg) (sc:Scope) (N:List Str) (x:Str):Option FE:=match N.idxOf? x with
 | some i=>if zQ N sc i x=true then some (ab i) else none
 | none=>if (yr sc x&&!(x == ("__debug__":Str)))=true then (G.int.lookup x).map fun n=>fC (.int n) else none
noncomputable def yK:Const->Option FE
 | .int i=>some (fC (.int i))
 | .bool b=>some (fC (.bool b))
 | .none=>some (fC .none)
 | .str x=>some (fC (.str x))
 | _=>none
noncomputable def J0 (T:Tr) (op:UnaryOp) (a:Expr):Option FE:=match op with
 | .Not=>(T.e a).map Gf
 | .USub=>(T.e a).map (f1 JZ)
 | _=>none
noncomputable def Lo:Operator->Option (D->D->Option D)
 | .Add=>some aE
 | .Sub=>some Dl.fZ
 | .Mult=>some dP
 | .FloorDiv=>some k9
 | .Mod=>some jM
 | _=>none
noncomputable def FT:Expr->Bool
 | .List ..=>true
 | .ListComp ..=>true
 | _=>false
noncomputable def yd:Expr->Bool
 | .List ..=>true
 | .ListComp ..=>true
 | .BinOp a .Mult _ _=>FT a
 | .BinOp a .Add b _=>yd a||yd b
 | .Call (.Name x _) _ _ _=>x == ("sorted":Str)||x == ("list":Str)
 | _=>false
noncomputable def Ci (T:Tr) (whole a:Expr) (op:Operator) (b:Expr):Option FE :=
 if yd whole=true then (T.f whole).map cw else (Lo op).bind fun g=>(T.e a).bind fun x=>(T.e b).map fun y=>f2 g x y
noncomputable def sQ (T:Tr) (op:BoolOp):List Expr->Option FE
 | []=>none
 | [a]=>T.e a
 | a::b::r=>(T.e a).bind fun x=>(sQ T op (b::r)).map fun y=>match op with|.And=>jK x y|.Or=>Lj x y
noncomputable def Kb:CmpOp->Option (D->D->Option D)
 | .Lt=>some Av
 | .LtE=>some yf
 | .Gt=>some xD
 | .GtE=>some LC
 | .Eq=>some bS
 | .NotEq=>some dM
 | .In=>some IS
 | .Is=>some m8
 | .IsNot=>some mF
 | _=>none
noncomputable def KY:CmpOp->Option (D->D->Option D)
 | .Lt=>some Av
 | .LtE=>some yf
 | _=>none
noncomputable def yb (T:Tr) (a:Expr) (ops:List CmpOp) (cs:List Expr):Option FE:=match ops,cs with
 | [op],[b]=>if behindInMarks op b=false then (Kb op).bind fun g=>(T.e a).bind fun x=>(T.e b).map fun y=>f2 g x y else none
 | [op,op'],[b,c]=>if lastMarks [op,op'] [b,c]=false then (KY op).bind fun g=>(KY op').bind fun g'=>(T.e a).bind fun x=>(T.e b).bind fun y=>(T.e c).map fun z=>i6 g g' x y z else none
 | _,_=>none
noncomputable def rE (T:Tr):List Expr->Option (Dl.Env->Option (List D))
 | []=>some ae
 | e::es=>if isStar e=false then (T.e e).bind fun x=>(rE T es).map fun r=>aa x r else none
noncomputable def K0 (T:Tr):Option Expr->Option (Dl.Env->Option (Option Int))
 | none=>some jN
 | some e=>(T.e e).map vN
noncomputable def Bv:Expr->Bool
 | .Slice ..=>true
 | .Tuple ..=>true
 | .Starred ..=>true
 | _=>false
noncomputable def kZ:Expr->Bool
 | .UnaryOp .USub (.Constant (.int 1) _ _) _=>true
 | _=>false
noncomputable def CA:Expr->Bool
 | .Constant (.int 1) _ _=>true
 | _=>false
noncomputable def Ca (T:Tr) (a b:Expr):Option FE:=match b with
 | .Slice lo hi none _=>(T.e a).bind fun x=>(K0 T lo).bind fun l=>(K0 T hi).map fun h=>jL eN x l h
 | .Slice none none (some s) _=>if kZ s=true then (T.e a).map fun x=>f1 J5 x else none
 | .Slice (some l) none (some s) _=>if (CA l&&kZ s)=true then (T.e a).map fun x=>f1 qH x else none
 | _=>if Bv b=false then (T.e a).bind fun x=>(T.e b).map fun y=>f2 au x y else none
noncomputable def A9:List D->Option D:=fun ds=>(oneOf ds).bind fun d=>match d with
 | .list es=>(boolsOf es).map fun bs=>.bool (bs.any id)
 | _=>none
noncomputable def l4:Expr->Option Expr
 | .Call (.Name x _) [e] [] _=>if x="set" then some e else none
 | _=>none
noncomputable def Hi (x:Str):Option String:=if x="int" then some "int" else if x="bool" then some "bool" else if x="tuple" then some "tuple" else if x="list" then some "list" else none
noncomputable def wy (T:Tr) (x:Str) (args:List Expr):Option FE :=
 if x="int" then (if args.length=1 then (rE T args).map fun fs=>aY EW fs else none)
 else if x="max" then (if args.isEmpty=true then none else (rE T args).map fun fs=>aY IX fs)
 else none
noncomputable def wF (G:Sg) (sc:Scope) (T:Tr) (whole:Expr) (x:Str) (args:List Expr):Option FE :=
 if (yr sc x&&args.all fun e=>!isStar e)=true then
  match G.fn.lookup x with
  | some (n,m)=>if (args.isEmpty||x == ("__debug__":Str))=true then none else (rE T args).map fun fs=>ag n m fs
  | none =>
   if x="len" then (match args with
    | [e]=>(match l4 e with
     | some e'=>if (yr sc "set"&&!isStar e')=true then (T.e e').map fun y=>f1 jB y else none
     | none=>(rE T args).map fun fs=>aY bu fs)
    | _=>none)
   else if x="isinstance" then (match args with
    | [e,.Name y _]=>if yr sc y=true then (Hi y).bind fun ty=>(T.e e).map fun z=>Ga ty z else none
    | _=>none)
   else if x="tuple" then (if args.length=1 then (rE T args).map fun fs=>aY bF fs else none)
   else if x="all" then (if args.length=1 then (rE T args).map fun fs=>aY lH fs else none)
   else if x="any" then (if args.length=1 then (rE T args).map fun fs=>aY A9 fs else none)
   else if x="sum" then (if args.length=1 then (rE T args).map fun fs=>aY pN fs else none)
   else if x="min" then (if args.isEmpty=true then none else (rE T args).map fun fs=>aY uK fs)
   else if (x == ("list":Str)||x == ("sorted":Str))=true then (T.f whole).map cw
   else wy T x args
 else none
noncomputable def yo:Expr->Bool
 | .Call ..=>true
 | _=>false
noncomputable def Gx:Expr->Bool
 | .Tuple ..=>true
 | _=>false
noncomputable def wW (T:Tr) (o:Expr) (m:Str) (apos:Pos) (args:List Expr) (cpos:Pos):Option FE :=
 if (m == ("index":Str)&&apos.endLine == cpos.line&&!yo o)=true then (match args with
  | [e]=>if isStar e=false then (T.e o).bind fun x=>(T.e e).map fun y=>if Gx e=true then f2 G7 x y else f2 mZ x y else none
  | _=>none)
 else none
noncomputable def Cz (G:Sg) (sc:Scope) (N:List Str) (T:Tr) (whole:Expr):Option FE:=match whole with
 | .Name x _=>vW G sc N x
 | .Constant c _ _=>yK c
 | .UnaryOp op a _=>J0 T op a
 | .BinOp a op b _=>Ci T whole a op b
 | .BoolOp op es _=>sQ T op es
 | .Compare a ops cs _=>yb T a ops cs
 | .IfExp c a b _=>(T.t c).bind fun z=>(T.e a).bind fun x=>(T.e b).map fun y=>FV z x y
 | .Tuple es _ _=>(rE T es).map aH
 | .Subscript a b _=>Ca T a b
 | .List ..=>(T.f whole).map cw
 | .ListComp ..=>(T.f whole).map cw
 | .Call (.Name x _) args [] _=>wF G sc T whole x args
 | .Call (.Name _ _) _ (_::_) _=>(T.f whole).map cw
 | .Call (.Attribute o m apos) args [] cpos=>wW T o m apos args cpos
 | _=>none
noncomputable def Kr (T:Tr) (op:BoolOp):List Expr->Option (Dl.Env->Option Bool)
 | []=>none
 | [a]=>T.t a
 | a::b::r=>(T.t a).bind fun x=>(Kr T op (b::r)).map fun y=>match op with|.And=>mM x y|.Or=>kl x y
noncomputable def C5:Expr->Bool
 | .Name ..=>true
 | .Call ..=>true
 | .Subscript ..=>true
 | _=>false
noncomputable def stepT (T:Tr) (whole:Expr):Option (Dl.Env->Option Bool):=match whole with
 | .Compare a ops cs _=>(yb T a ops cs).map fB
 | .UnaryOp .Not a _=>(T.t a).map bA
 | .BoolOp op es _=>Kr T op es
 | _=>if C5 whole=true then (T.e whole).map fB else none
noncomputable def rH:Expr->Bool
 | .Tuple ..=>true
 | _=>false
noncomputable def Ky (sc:Scope) (T:Tr) (tg iter:Expr):Option (Dl.Env->Option (List D)):=match iter with
 | .Call (.Name x _) args [] _ =>
  if x="range" then (match args with|[e]=>if (yr sc "range"&&!isStar e)=true then (rE T args).map bG else none|_=>none)
  else if x="enumerate" then (match args with|[e]=>if (yr sc "enumerate"&&!isStar e&&rH tg)=true then (rE T args).map br else none|_=>none)
  else if x="zip" then (match args with|[e,e']=>if (yr sc "zip"&&!isStar e&&!isStar e'&&rH tg)=true then (rE T args).map eO else none|_=>none)
  else (T.e iter).map aS
 | .Set ..=>none
 | _=>(T.e iter).map aS
noncomputable def Lr:Expr->Option (List Str)
 | .Name x _=>some [x]
 | .Tuple [.Name x _,.Name y _] _ _=>some [x,y]
 | _=>none
noncomputable def LA:Expr->Option (List Str)
 | .Tuple [.Name x _,.Name y _,.Name z _] _ _=>some [x,y,z]
 | tg=>Lr tg
noncomputable def eM (N:List Str) (scope:Scope):List Nat:=(List.range N.length).filter fun j=>match N[j]? with|some x=>decide (scope.names.lookup x=some .free)|none=>false
noncomputable def He:Expr->Bool
 | .Set ..=>false
 | _=>true
noncomputable def FI (B:Tr) (ifs:List Expr):Option (Dl.Env->Option Bool):=match ifs with
 | []=>some fun _=>some true
 | [c]=>B.t c
 | _=>none
noncomputable def rO (sc:Scope) (N:List Str) (T:Tr) (blk:Scope->List Str->Tr) (elt:Expr) (gens:List Comprehension) (scope:Scope):Option (Dl.Env->Option (List D)):=match gens with
 | [⟨tg,iter,ifs,as⟩] =>
  if as=0 then (LA tg).bind fun xs =>
   if (hU sc scope N (xs++(eM N scope).filterMap fun j=>N[j]?) xs.length (eM N scope)&&(List.range xs.length).all fun i=>og (xs++(eM N scope).filterMap fun j=>N[j]?) scope i (xs.getD i ""))=true then
    (Ky sc T tg iter).bind fun fi=>(FI (blk scope (xs++(eM N scope).filterMap fun j=>N[j]?)) ifs).bind fun tt =>
     ((blk scope (xs++(eM N scope).filterMap fun j=>N[j]?)).e elt).map fun te=>ak xs.length (eM N scope) fi (match xs with|[_]=>fG 0|[_,_]=>fI 0 1|_=>Do 0 1 2) tt te
   else none
  else none
 | _=>none
noncomputable def yH:Arguments->Option Str
 | ⟨[],[⟨x,none,_⟩],none,[],[],none,[]⟩=>if x="number" then some x else if x="plan" then some x else none
 | _=>none
noncomputable def sx (lam:Option Str) (sc:Scope) (N:List Str) (T:Tr) (lmb:Scope->List Str->Tr) (l:Expr) (params:Arguments) (body:Expr) (scope:Scope):Option (Dl.Env->Option (List D)) :=
 if (lam.isSome&&yr sc "sorted"&&!isStar l)=true then
  (yH params).bind fun p =>
   if (hU sc scope N (p::(eM N scope).filterMap fun j=>N[j]?) 1 (eM N scope)&&mJ scope (p::(eM N scope).filterMap fun j=>N[j]?) p)=true then
    (T.e l).bind fun fl=>((lmb scope (p::(eM N scope).filterMap fun j=>N[j]?)).e body).map fun te=>mr (eM N scope) fl te
   else none
 else none
noncomputable def sX (lam:Option Str) (sc:Scope) (N:List Str) (T:Tr) (lmb:Scope->List Str->Tr) (l:Expr) (params:Arguments) (body:Expr) (scope:Scope):Option (Dl.Env->Option (List D)):=match l with
 | .Call (.Name r _) [e] [] _ =>
  if (lam.isSome&&yr sc "sorted"&&r == ("range":Str)&&yr sc "range"&&!isStar e)=true then
   (yH params).bind fun p =>
    if (hU sc scope N (p::(eM N scope).filterMap fun j=>N[j]?) 1 (eM N scope)&&mJ scope (p::(eM N scope).filterMap fun j=>N[j]?) p)=true then
     (rE T [e]).bind fun fs=>((lmb scope (p::(eM N scope).filterMap fun j=>N[j]?)).e body).map fun te=>o5 (eM N scope) fs te
    else none
  else none
 | _=>none
noncomputable def yu (lam:Option Str) (sc:Scope) (N:List Str) (T:Tr) (blk lmb:Scope->List Str->Tr) (whole:Expr):Option (Dl.Env->Option (List D)):=match whole with
 | .List es _=>(rE T es).map iz
 | .ListComp elt gens scope _=>rO sc N T blk elt gens scope
 | .BinOp a .Mult b _=>if FT a=true then (T.f a).bind fun x=>(T.e b).map fun y=>FW x y else none
 | .BinOp a .Add b _=>(T.e a).bind fun x=>(T.e b).map fun y=>LJ rl x y
 | .Call (.Name x _) [l] [⟨some ky,.Lambda params body scope _,_⟩] _=>if (x == ("sorted":Str)&&ky == ("key":Str))=true then (match sx lam sc N T lmb l params body scope with|some f=>some f|none=>sX lam sc N T lmb l params body scope) else none
 | .Call (.Name x _) [e] [] _ =>
  if (yr sc x&&!isStar e)=true then
   if x="list" then (rE T [e]).map fun fs=>hV cM fs
   else if x="sorted" then (rE T [e]).map fun fs=>hV cx fs
   else none
  else none
 | _=>none
noncomputable def tr (G:Sg):Nat->Option Str->Scope->List Str->Tr
 | 0,_,_,_=>⟨fun _=>none,fun _=>none,fun _=>none⟩
 | n+1,lam,sc,N=>⟨Cz G sc N (tr G n lam sc N),yu lam sc N (tr G n lam sc N) (tr G n none) (tr G n none),stepT (tr G n lam sc N)⟩
end Rf
namespace Rf
open PySem L2 Dl PySem.Spec PyProof.Rows
structure Jv (G:Sg) (X:Cx) (j:Nat):Prop where
 fn:∀x n m,G.fn.lookup x=some (n,m)->du X.prog X.w X.K X.mg X.base j x n m
 int:∀x i,G.int.lookup x=some i->∃t,X.mg x=some (.int i t)
 bn:Bn X
structure oJ (X:Cx) (tg iter:Expr) (ifs:List Expr) (elt:Expr) (scope:Scope) (f:Dl.Env->Option (List D)):Prop where
 ex:∃ (N':List Str) (t:Nat) (cs:List Nat) (fi:Dl.Env->Option (List D)) (tgt:Dl.Env->D->Option Dl.Env) (tt:Dl.Env->Option Bool) (te:FE),f=ak t cs fi tgt tt te/\g9 X scope N' (jo t cs)/\DI X tg iter fi/\(∀x,foldedSetIterable iter X.env x=pure x) /\
  ∀fp s H,DG (aO X scope N' fp s H) tg tgt/\Jm (aO X scope N' fp s H) ifs tt/\DE (aO X scope N' fp s H) elt te
structure dv (X:Cx) (T:Tr):Prop where
 c:∀elt gens scope p f,T.f (.ListComp elt gens scope p)=some f->∃tg iter ifs,gens=[⟨tg,iter,ifs,0⟩]/\oJ X tg iter ifs elt scope f
 e:∀e f,T.e e=some f->DE X e f
 f:∀e f,T.f e=some f->DF X e f
 t:∀e f,T.t e=some f->DT X e f
section
variable {G:Sg}{X:Cx}{N:List Str}{sc:Scope}{k j:Nat}{T:Tr}{pos p:Pos}
theorem zF (C:Bk X N sc k) (g:Jv G X j) {x:Str}{f:FE}(h:vW G sc N x=some f):DE X (.Name x pos) f:=by
 unfold vW at h
 split at h
 ·split at h
  ·cases h;exact C.v _ ‹_›
  ·cases h
 ·split at h
  ·rename_i hg
   obtain⟨n,hn,rfl⟩:=map_some h
   obtain⟨t,ht⟩:=g.int x n hn
   simp only[Bool.and_eq_true,Bool.not_eq_true'] at hg
   exact DL (C.gl hg.1) ht hg.2
  ·cases h
theorem xu {c:Const}{i:Nat}{f:FE}(h:yK c=some f):DE X (.Constant c i pos) f:=by
 cases c<;>cases h<;>first|exact Hq|exact JT|exact Gr|exact Hf
theorem Fs (C:Bk X N sc k) (O:dv X T) {op:UnaryOp}{a:Expr}{f:FE}(h:J0 T op a=some f):DE X (.UnaryOp op a pos) f:=by
 cases op<;>try cases h
 ·obtain⟨x,hx,rfl⟩:=map_some h;exact HI (O.e _ _ hx)
 ·obtain⟨x,hx,rfl⟩:=map_some h;exact C.neg (O.e _ _ hx)
theorem Bh (C:Bk X N sc k) (O:dv X T) {op:Operator}{a b:Expr}{f:FE}(h:Ci T (.BinOp a op b pos) a op b=some f):DE X (.BinOp a op b pos) f:=by
 unfold Ci at h
 split at h
 ·obtain⟨x,hx,rfl⟩:=map_some h;exact DF.de (O.f _ _ hx)
 ·obtain⟨g,hg,h⟩:=bs h
  obtain⟨x,hx,h⟩:=bs h
  obtain⟨y,hy,rfl⟩:=map_some h
  cases op<;>cases hg
  ·exact C.add (O.e _ _ hx) (O.e _ _ hy)
  ·exact C.sub (O.e _ _ hx) (O.e _ _ hy)
  ·exact C.mul (O.e _ _ hx) (O.e _ _ hy)
  ·exact C.mod (O.e _ _ hx) (O.e _ _ hy)
  ·exact C.div (O.e _ _ hx) (O.e _ _ hy)
theorem qD (O:dv X T) {op:BoolOp}:∀ {es:List Expr}{f:FE},sQ T op es=some f->DE X (.BoolOp op es pos) f
 | [],f,h=>by cases h
 | [a],f,h=>IK (O.e _ _ h)
 | a::b::r,f,h=>by
  unfold sQ at h
  obtain⟨x,hx,h⟩:=bs h
  obtain⟨y,hy,rfl⟩:=map_some h
  have ih:=qD O hy
  cases op with
  | And=>exact HJ (O.e _ _ hx) ih
  | Or=>exact Kk (O.e _ _ hx) ih
theorem HB (C:Bk X N sc k) {op:CmpOp}{a b:Expr}{g:D->D->Option D}{x y:FE}(hg:Kb op=some g) (hm:behindInMarks op b=false) (ha:DE X a x) (hb:DE X b y):DE X (.Compare a [op] [b] pos) (f2 g x y)/\DT X (.Compare a [op] [b] pos) (fB (f2 g x y)):=by
 cases op<;>cases hg
 ·exact⟨C.eq ha hb,C.teq ha hb⟩
 ·exact⟨C.ne ha hb,C.tne ha hb⟩
 ·exact⟨C.lt ha hb,C.tlt ha hb⟩
 ·exact⟨C.le ha hb,C.tle ha hb⟩
 ·exact⟨C.gt ha hb,C.tgt ha hb⟩
 ·exact⟨C.ge ha hb,C.tge ha hb⟩
 ·exact⟨C.is0 ha hb,C.tis0 ha hb⟩
 ·exact⟨C.not0 ha hb,C.tnot0 ha hb⟩
 ·exact⟨C.isin ha hb hm,C.tin ha hb hm⟩
theorem FH {op:CmpOp}{g:D->D->Option D}(h:KY op=some g):∃r,gA X (compareOp op) r/\eS X.K r g:=by
 cases op<;>cases h
 ·exact⟨_,B7,gq⟩
 ·exact⟨_,AW,gq⟩
theorem uH (C:Bk X N sc k) (O:dv X T) {a:Expr}{ops:List CmpOp}{cs:List Expr}{f:FE}(h:yb T a ops cs=some f):DE X (.Compare a ops cs pos) f/\DT X (.Compare a ops cs pos) (fB f):=by
 unfold yb at h
 split at h
 ·split at h
  ·rename_i hm
   obtain⟨g,hg,h⟩:=bs h
   obtain⟨x,hx,h⟩:=bs h
   obtain⟨y,hy,rfl⟩:=map_some h
   exact HB C hg hm (O.e _ _ hx) (O.e _ _ hy)
  ·cases h
 ·split at h
  ·rename_i hm
   obtain⟨g,hg,h⟩:=bs h
   obtain⟨g',hg',h⟩:=bs h
   obtain⟨x,hx,h⟩:=bs h
   obtain⟨y,hy,h⟩:=bs h
   obtain⟨z,hz,rfl⟩:=map_some h
   obtain⟨r,r1,r2⟩:=FH (X:=X) hg
   obtain⟨r',r1',r2'⟩:=FH (X:=X) hg'
   exact⟨By r1 r2 r1' r2' (O.e _ _ hx) (O.e _ _ hy) (O.e _ _ hz) hm,CY r1 r2 r1' r2' (O.e _ _ hx) (O.e _ _ hy) (O.e _ _ hz) hm⟩
  ·cases h
 ·cases h
theorem cm (O:dv X T):∀ {es:List Expr}{fs:Dl.Env->Option (List D)},rE T es=some fs->DA X es fs
 | [],fs,h=>by cases h;exact AS
 | e::es,fs,h=>by
  unfold rE at h
  split at h
  ·rename_i hs
   obtain⟨x,hx,h⟩:=bs h
   obtain⟨r,hr,rfl⟩:=map_some h
   exact K6 hs (O.e _ _ hx) (cm O hr)
  ·cases h
theorem BG (O:dv X T) {o:Option Expr}{f:Dl.Env->Option (Option Int)}(h:K0 T o=some f):DO X o f:=by
 cases o with
 | none=>cases h;exact DK
 | some e=>obtain⟨x,hx,rfl⟩:=map_some h;exact Ff (O.e _ _ hx)
theorem w6 {b:Expr}(h:Bv b=false):sj b:=by
 cases b<;>first|(intro _ _;rfl)|cases h
theorem qP {e:Expr}(h:kZ e=true):∃j p4 p3,e=.UnaryOp .USub (.Constant (.int 1) j p4) p3:=by
 unfold kZ at h
 split at h
 ·exact⟨_,_,_,rfl⟩
 ·cases h
theorem GZ {e:Expr}(h:CA e=true):∃j p,e=.Constant (.int 1) j p:=by
 unfold CA at h
 split at h
 ·exact⟨_,_,rfl⟩
 ·cases h
theorem BC (C:Bk X N sc k) (O:dv X T) {a b:Expr}{f:FE}(h:Ca T a b=some f):DE X (.Subscript a b pos) f:=by
 unfold Ca at h
 split at h
 ·obtain⟨x,hx,h⟩:=bs h
  obtain⟨l,hl,h⟩:=bs h
  obtain⟨u,hu,rfl⟩:=map_some h
  exact C.cut (O.e _ _ hx) (BG O hl) (BG O hu)
 ·split at h
  ·rename_i hm
   obtain⟨x,hx,rfl⟩:=map_some h
   obtain⟨_,_,_,rfl⟩:=qP hm
   exact G8 (O.e _ _ hx)
  ·cases h
 ·split at h
  ·rename_i hm
   rw[Bool.and_eq_true] at hm
   obtain⟨x,hx,rfl⟩:=map_some h
   obtain⟨_,_,_,rfl⟩:=qP hm.2
   obtain⟨_,_,rfl⟩:=GZ hm.1
   exact Ea (O.e _ _ hx)
  ·cases h
 ·split at h
  ·rename_i hc
   obtain⟨x,hx,h⟩:=bs h
   obtain⟨y,hy,rfl⟩:=map_some h
   exact J8 (O.e _ _ hx) (O.e _ _ hy) (w6 hc)
  ·cases h
theorem dc {env:PySem.Env}:∀ {es:List Expr},(es.all fun e=>!isStar e)=true->(backTo pos (starEach es env)).any (·.1)=false
 | [],_=>rfl
 | e::es,h=>by
  rw[List.all_cons,Bool.and_eq_true,Bool.not_eq_true'] at h
  rw[aZ h.1]
  show (false||(backTo pos (starEach es env)).any (·.1))=false
  rw[dc h.2]
  rfl
theorem AX {e e':Expr}(h:l4 e=some e'):∃p q,e=.Call (.Name "set" p) [e'] [] q:=by
 unfold l4 at h
 split at h
 ·split at h
  ·rename_i hx;cases h;subst hx;exact⟨_,_,rfl⟩
  ·cases h
 ·cases h
theorem EB {y:Str}{ty:String}(h:Hi y=some ty):y∈cH/\bootBuiltins y=some (.type ty)/\y≠"__name__"/\(y == ("__debug__":Str))=false:=by
 unfold Hi at h
 split at h
 ·rename_i e;cases h;subst e;exact⟨by decide +kernel,by decide +kernel,by decide,by decide⟩
 ·split at h
  ·rename_i e;cases h;subst e;exact⟨by decide +kernel,by decide +kernel,by decide,by decide⟩
  ·split at h
   ·rename_i e;cases h;subst e;exact⟨by decide +kernel,by decide +kernel,by decide,by decide⟩
   ·split at h
    ·rename_i e;cases h;subst e;exact⟨by decide +kernel,by decide +kernel,by decide,by decide⟩
    ·cases h
theorem G6:bootBuiltins "any"=some (.builtin "any"):=by decide +kernel
theorem HH:bootBuiltins "sum"=some (.builtin "sum"):=by decide +kernel
theorem Gm:bootBuiltins "max"=some (.builtin "max"):=by decide +kernel
theorem Gh:bootBuiltins "min"=some (.builtin "min"):=by decide +kernel
theorem tG {α:Type}{l:List α}(h:l.length=1):∃a,l=[a]:=by
 match l,h with
 | [a],_=>exact⟨a,rfl⟩
theorem Ak (C:Bk X N sc k) (g:Jv G X j) (O:dv X T) {x:Str}{args:List Expr}{f:FE}(hg:yr sc x=true) (hs:args.all (fun e=>!isStar e)=true) (h:wy T x args=some f):DE X (.Call (.Name x p) args [] pos) f:=by
 have st1:∀ {e:Expr}{es:List Expr},args=e::es->starEach (e::es) X.env=(false,eval e X.env)::starEach es X.env:=fun {e es} q=>by
  subst q
  rw[List.all_cons,Bool.and_eq_true,Bool.not_eq_true'] at hs
  exact aZ hs.1
 have st2:∀ {e:Expr}{es:List Expr},args=e::es->(backTo pos (starEach es X.env)).any (·.1)=false:=fun {e es} q=>by
  subst q
  rw[List.all_cons,Bool.and_eq_true] at hs
  exact dc hs.2
 unfold wy at h
 split at h
 ·rename_i hx
  subst hx
  split at h
  ·rename_i hl
   obtain⟨fs,hfs,rfl⟩:=map_some h
   obtain⟨e,rfl⟩:=tG hl
   exact A1 (C.blt g.bn hg (by decide +kernel) GR) (cm O hfs) (st1 rfl)
  ·cases h
 ·split at h
  ·rename_i hx
   subst hx
   split at h
   ·cases h
   ·rename_i hl
    obtain⟨fs,hfs,rfl⟩:=map_some h
    cases args with
    | nil=>exact absurd rfl hl
    | cons e es=>exact Iy C.calm (C.blt g.bn hg (by decide +kernel) Gm) (st1 rfl) (st2 rfl) (cm O hfs)
  ·cases h
theorem zE (C:Bk X N sc k) (g:Jv G X j) (hjk:j<=k) (O:dv X T) {x:Str}{args:List Expr}{f:FE}(h:wF G sc T (.Call (.Name x p) args [] pos) x args=some f):DE X (.Call (.Name x p) args [] pos) f:=by
 unfold wF at h
 split at h
 ·rename_i hg
  rw[Bool.and_eq_true] at hg
  obtain⟨hg,hs⟩:=hg
  have st1:∀ {e:Expr}{es:List Expr},args=e::es->starEach (e::es) X.env=(false,eval e X.env)::starEach es X.env:=fun {e es} q=>by
   subst q
   rw[List.all_cons,Bool.and_eq_true,Bool.not_eq_true'] at hs
   exact aZ hs.1
  have st2:∀ {e:Expr}{es:List Expr},args=e::es->(backTo pos (starEach es X.env)).any (·.1)=false:=fun {e es} q=>by
   subst q
   rw[List.all_cons,Bool.and_eq_true] at hs
   exact dc hs.2
  split at h
  ·rename_i n m hfn
   split at h
   ·cases h
   ·rename_i hne
    obtain⟨fs,hfs,rfl⟩:=map_some h
    cases args with
    | nil=>exact absurd (by simp) hne
    | cons e es =>
     have hd:(x == ("__debug__":Str))=false:=by simpa using hne
     exact Dp (g.fn x n m hfn) (C.room.mono hjk) (C.gl hg) (cm O hfs) hd (st1 rfl) (st2 rfl)
  ·split at h
   ·rename_i hx
    subst hx
    split at h
    ·rename_i e
     split at h
     ·rename_i e' he'
      split at h
      ·rename_i hg2
       rw[Bool.and_eq_true,Bool.not_eq_true'] at hg2
       obtain⟨y,hy,rfl⟩:=map_some h
       obtain⟨p1,p2,rfl⟩:=AX he'
       exact y9 C.calm (C.blt g.bn hg (by decide +kernel) CD) (C.blt g.bn hg2.1 (by decide +kernel) IV) (O.e _ _ hy) (aZ hg2.2)
      ·cases h
     ·obtain⟨fs,hfs,rfl⟩:=map_some h
      exact HK (C.blt g.bn hg (by decide +kernel) CD) (cm O hfs) (st1 rfl)
    ·cases h
   ·split at h
    ·rename_i hx
     subst hx
     split at h
     ·rename_i e y py
      split at h
      ·rename_i hgy
       obtain⟨ty,hty,h⟩:=bs h
       obtain⟨z,hz,rfl⟩:=map_some h
       obtain⟨t1,t2,t3,t4⟩:=EB hty
       exact JO (C.blt g.bn hg (by decide +kernel) pP) (C.blt g.bn hgy t1 t2) (O.e _ _ hz) t3 t4 (st1 rfl)
      ·cases h
     ·cases h
    ·split at h
     ·rename_i hx
      subst hx
      split at h
      ·rename_i hl
       obtain⟨fs,hfs,rfl⟩:=map_some h
       obtain⟨e,rfl⟩:=tG hl
       exact C8 (C.blt g.bn hg (by decide +kernel) CH) (cm O hfs) (st1 rfl)
      ·cases h
     ·split at h
      ·rename_i hx
       subst hx
       split at h
       ·rename_i hl
        obtain⟨fs,hfs,rfl⟩:=map_some h
        obtain⟨e,rfl⟩:=tG hl
        exact Hc C.calm (C.blt g.bn hg (by decide +kernel) GV) (cm O hfs) (st1 rfl)
       ·cases h
      ·split at h
       ·rename_i hx
        subst hx
        split at h
        ·rename_i hl
         obtain⟨fs,hfs,rfl⟩:=map_some h
         obtain⟨e,rfl⟩:=tG hl
         exact Hb C.calm (C.blt g.bn hg (by decide +kernel) G6) (st1 rfl) (cm O hfs)
        ·cases h
       ·split at h
        ·rename_i hx
         subst hx
         split at h
         ·rename_i hl
          obtain⟨fs,hfs,rfl⟩:=map_some h
          obtain⟨e,rfl⟩:=tG hl
          exact Hs C.calm (C.blt g.bn hg (by decide +kernel) HH) (st1 rfl) (cm O hfs)
         ·cases h
        ·split at h
         ·rename_i hx
          subst hx
          split at h
          ·cases h
          ·rename_i hl
           obtain⟨fs,hfs,rfl⟩:=map_some h
           cases args with
           | nil=>exact absurd rfl hl
           | cons e es=>exact HN C.calm (C.blt g.bn hg (by decide +kernel) Gh) (st1 rfl) (st2 rfl) (cm O hfs)
         ·split at h
          ·obtain⟨y,hy,rfl⟩:=map_some h
           exact DF.de (O.f _ _ hy)
          ·exact Ak C g O hg hs h
 ·cases h
end
end Rf
namespace Rf
open PySem L2 Dl PySem.Spec PyProof.Rows
section
variable {G:Sg}{X:Cx}{N:List Str}{sc:Scope}{k j:Nat}{T:Tr}{pos p:Pos}
theorem JC {env:PySem.Env}{e:Expr}{cpos:Pos}(h:isStar e=false):((backTo cpos (starEach [e] env)).all (fun x=>!x.1)&&(backToKw cpos (keywordEach [] env)).all (fun x=>x.1.isSome)&&decide ([e].length+([]:List Keyword).length+(if ([]:List Keyword).isEmpty then 0 else 1) < 30))=true:=by
 rw[aZ h];rfl
theorem jz {o:Expr}{a:Str}{env:PySem.Env}{w:Sem Value}(h:yo o=false):attributeBase o a env w=w:=by
 cases o<;>first|rfl|cases h
theorem yW (C:Bk X N sc k) (O:dv X T) {o:Expr}{m:Str}{apos cpos:Pos}{args:List Expr}{f:FE}(h:wW T o m apos args cpos=some f):DE X (.Call (.Attribute o m apos) args [] cpos) f:=by
 unfold wW at h
 split at h
 ·rename_i hm
  rw[Bool.and_eq_true,Bool.and_eq_true,Bool.not_eq_true'] at hm
  obtain⟨⟨hm1,hm⟩,hcl⟩:=hm
  have e1:m="index":=eq_of_beq hm1
  subst e1
  split at h
  ·rename_i e
   split at h
   ·rename_i hs
    obtain⟨x,hx,h⟩:=bs h
    obtain⟨y,hy,rfl⟩:=map_some h
    split
    ·exact Aq C.u66 (jz hcl) (JC hs) hm (aZ hs) (O.e _ _ hx) (O.e _ _ hy)
    ·exact zr (jz hcl) (JC hs) hm (aZ hs) (O.e _ _ hx) (O.e _ _ hy)
   ·cases h
  ·cases h
 ·cases h
theorem Bu (C:Bk X N sc k) (g:Jv G X j) (hjk:j<=k) (O:dv X T) {e:Expr}{f:FE}(h:Cz G sc N T e=some f):DE X e f:=by
 unfold Cz at h
 split at h
 ·exact zF C g h
 ·exact xu h
 ·exact Fs C O h
 ·exact Bh C O h
 ·exact qD O h
 ·exact (uH C O h).1
 ·obtain⟨z,hz,h⟩:=bs h
  obtain⟨x,hx,h⟩:=bs h
  obtain⟨y,hy,rfl⟩:=map_some h
  exact JF (O.t _ _ hz) (O.e _ _ hx) (O.e _ _ hy)
 ·obtain⟨x,hx,rfl⟩:=map_some h;exact GF (cm O hx)
 ·exact BC C O h
 ·obtain⟨x,hx,rfl⟩:=map_some h;exact DF.de (O.f _ _ hx)
 ·obtain⟨x,hx,rfl⟩:=map_some h;exact DF.de (O.f _ _ hx)
 ·exact zE C g hjk O h
 ·obtain⟨x,hx,rfl⟩:=map_some h;exact DF.de (O.f _ _ hx)
 ·exact yW C O h
 ·cases h
theorem BY (O:dv X T) {op:BoolOp}:∀ {es:List Expr}{f:Dl.Env->Option Bool},Kr T op es=some f->DW X (.BoolOp op es pos) f
 | [],f,h=>by cases h
 | [a],f,h=>by
  cases op with
  | And=>exact D0 (O.t _ _ h)
  | Or=>exact GL (O.t _ _ h)
 | a::b::r,f,h=>by
  unfold Kr at h
  obtain⟨x,hx,h⟩:=bs h
  obtain⟨y,hy,rfl⟩:=map_some h
  have ih:=BY O hy
  cases op with
  | And=>exact GI (O.t _ _ hx) ih
  | Or=>exact Jz (O.t _ _ hx) ih
theorem CT (C:Bk X N sc k) (O:dv X T) {e:Expr}{f:Dl.Env->Option Bool}(h:stepT T e=some f):DT X e f:=by
 unfold stepT at h
 split at h
 ·obtain⟨x,hx,rfl⟩:=map_some h;exact (uH C O hx).2
 ·obtain⟨x,hx,rfl⟩:=map_some h;exact IE (O.t _ _ hx)
 ·exact DW.dt (BY O h)
 ·split at h
  ·rename_i hp
   obtain⟨x,hx,rfl⟩:=map_some h
   refine IW (O.e _ _ hx) ?_
   revert hp
   cases e<;>first|(intro hp;cases hp;done)|(intro hp _;rfl)
  ·cases h
theorem Ha {e:Expr}{env:PySem.Env}(h:He e=true):∀x,foldedSetIterable e env x=pure x:=by
 cases e<;>first|(intro _;rfl)|cases h
theorem Cn (C:Bk X N sc k) (B:Bn X) (O:dv X T) {tg iter:Expr}{fi:Dl.Env->Option (List D)}(h:Ky sc T tg iter=some fi):DI X tg iter fi/\∀x,foldedSetIterable iter X.env x=pure x:=by
 unfold Ky at h
 split at h
 ·refine⟨?_,fun _=>rfl⟩
  split at h
  ·rename_i hx
   subst hx
   split at h
   ·split at h
    ·rename_i hg
     rw[Bool.and_eq_true,Bool.not_eq_true'] at hg
     obtain⟨x,hx,rfl⟩:=map_some h
     exact Dd (C.blt B hg.1 (by decide +kernel) vB) (cm O hx) (aZ hg.2)
    ·cases h
   ·cases h
  ·split at h
   ·rename_i hx
    subst hx
    split at h
    ·split at h
     ·rename_i hg
      simp only[Bool.and_eq_true,Bool.not_eq_true'] at hg
      obtain⟨x,hx,rfl⟩:=map_some h
      cases tg<;>first|exact DD (C.blt B hg.1.1 (by decide +kernel) sC) (cm O hx) (aZ hg.1.2)|exact absurd hg.2 (by simp[rH])
     ·cases h
    ·cases h
   ·split at h
    ·rename_i hx
     subst hx
     split at h
     ·split at h
      ·rename_i e e' hg
       simp only[Bool.and_eq_true,Bool.not_eq_true'] at hg
       obtain⟨x,hx,rfl⟩:=map_some h
       cases tg<;>first|exact Fg (C.blt B hg.1.1.1 (by decide +kernel) GP) (aZ hg.1.1.2) (dc (by simp[hg.1.2])) (cm O hx)|exact absurd hg.2 (by simp[rH])
      ·cases h
     ·cases h
    ·obtain⟨x,hx,rfl⟩:=map_some h
     exact AU (O.e _ _ hx)
 ·cases h
 ·rename_i h1 h2
  obtain⟨x,hx,rfl⟩:=map_some h
  refine⟨AU (O.e _ _ hx),Ha ?_⟩
  cases iter<;>first|rfl|exact absurd rfl (h2 _ _ _)
theorem HQ {tg:Expr}{xs:List Str}(h:Lr tg=some xs):(∃x px,tg=.Name x px/\xs=[x])\/∃x px y py m pt,tg=.Tuple [.Name x px,.Name y py] m pt/\xs=[x,y]:=by
 unfold Lr at h
 split at h
 ·cases h;exact .inl ⟨_,_,rfl,rfl⟩
 ·cases h;exact .inr ⟨_,_,_,_,_,_,rfl,rfl⟩
 ·cases h
theorem IT {tg:Expr}{xs:List Str}(h:LA tg=some xs):((∃x px,tg=.Name x px/\xs=[x])\/∃x px y py m pt,tg=.Tuple [.Name x px,.Name y py] m pt/\xs=[x,y])\/∃x px y py z pz m pt,tg=.Tuple [.Name x px,.Name y py,.Name z pz] m pt/\xs=[x,y,z]:=by
 unfold LA at h
 split at h
 ·cases h;exact .inr ⟨_,_,_,_,_,_,_,_,rfl,rfl⟩
 ·exact .inl (HQ h)
theorem rf (C:Bk X N sc k) (B:Bn X) (O:dv X T) {blk:Scope->List Str->Tr}(OB:∀scope N' fp s H,Bk (aO X scope N' fp s H) N' scope k->dv (aO X scope N' fp s H) (blk scope N')) {tg iter elt:Expr}{ifs:List Expr}{as:Int}{scope:Scope}{f:Dl.Env->Option (List D)}
  (h:rO sc N T blk elt [⟨tg,iter,ifs,as⟩] scope=some f):as=0/\oJ X tg iter ifs elt scope f:=by
 unfold rO at h
 dsimp only at h
 split at h
 ·rename_i has
  refine⟨has,?_⟩
  obtain⟨xs,hxs,h⟩:=bs h
  split at h
  ·rename_i hok
   rw[Bool.and_eq_true] at hok
   obtain⟨fi,hfi,h⟩:=bs h
   obtain⟨tt,htt,h⟩:=bs h
   obtain⟨te,hte,rfl⟩:=map_some h
   obtain⟨S,CB⟩:=C.comp hok.1
   obtain⟨hd,hfold⟩:=Cn C B O hfi
   refine⟨_,_,_,_,_,_,_,rfl,S,hd,hfold,fun fp s H=>?_⟩
   have C1:=CB fp s H
   have O1:=OB scope _ fp s H C1
   refine⟨?_,?_,O1.e _ _ hte⟩
   ·rcases IT hxs with (⟨x,px,rfl,rfl⟩|⟨x,px,y,py,m,pt,rfl,rfl⟩)|⟨x,px,y,py,z,pz,m,pt,rfl,rfl⟩
    ·have z:=C1.loc (i:=0) (x:=x) (List.all_eq_true.mp hok.2 0 (by simp))
     exact EE 0 z.1 z.2.1 z.2.2.1 z.2.2.2
    ·have z:=C1.loc (i:=0) (x:=x) (List.all_eq_true.mp hok.2 0 (by simp))
     have w:=C1.loc (i:=1) (x:=y) (List.all_eq_true.mp hok.2 1 (by simp))
     exact G1 0 1 C1.calm z.1 z.2.1 z.2.2.1 w.2.1 w.2.2.1 z.2.2.2 w.2.2.2
    ·have z0:=C1.loc (i:=0) (x:=x) (List.all_eq_true.mp hok.2 0 (by simp))
     have w:=C1.loc (i:=1) (x:=y) (List.all_eq_true.mp hok.2 1 (by simp))
     have u:=C1.loc (i:=2) (x:=z) (List.all_eq_true.mp hok.2 2 (by simp))
     exact Cs 0 1 2 C1.calm z0.1 z0.2.1 z0.2.2.1 w.2.1 w.2.2.1 u.2.1 u.2.2.1 z0.2.2.2 w.2.2.2 u.2.2.2
   ·unfold FI at htt
    split at htt
    ·cases htt;exact Em
    ·exact Dr (O1.t _ _ htt)
    ·cases htt
  ·cases h
 ·cases h
theorem oJ.df {tg iter elt:Expr}{ifs:List Expr}{scope:Scope}{f:Dl.Env->Option (List D)}(hc:X.calm=true) (h:oJ X tg iter ifs elt scope f):DF X (.ListComp elt [⟨tg,iter,ifs,0⟩] scope pos) f:=by
 obtain⟨N',t,cs,fi,tgt,tt,te,rfl,S,hd,hfold,hY⟩:=h.ex
 exact DX hc S hd hY hfold
theorem uw {a:Arguments}{x:Str}(h:yH a=some x):∃px,a=⟨[],[⟨x,none,px⟩],none,[],[],none,[]⟩/\(x="number"\/x="plan"):=by
 unfold yH at h
 split at h
 ·split at h
  ·cases h;exact⟨_,rfl,.inl ‹_›⟩
  ·split at h
   ·cases h;exact⟨_,rfl,.inr ‹_›⟩
   ·cases h
 ·cases h
theorem bind1 {x q:Str}{px:Pos}{body:Expr}{scope:Scope}{cl:List (Str×Addr)}{pm ctv u:Value}{c:Addr}(h:x="number"\/x="plan") :
  bindArgs (PySem.W.kla_fn "<lambda>" q ⟨[],[⟨x,none,px⟩],none,[],[],none,[]⟩ body scope cl pm (.ref c) ctv) ⟨[u],[]⟩=pure [(x,u)]:=by
 rcases h with rfl|rfl<;>rfl
theorem w8 {lam:Option Str}(C:Bk X N sc k) (B:Bn X) (hlam:∀q,lam=some q->n9 X q/\j+3<=k) (O:dv X T) {lmb:Scope->List Str->Tr}
  (OL:∀scope N' qual A f c s H,Bk (fU X A qual scope N' f c s H) N' scope (k - 3)->j<=k - 3->dv (fU X A qual scope N' f c s H) (lmb scope N')) {l body:Expr}{params:Arguments}{scope:Scope}{p0 lpos kpos:Pos}{f:Dl.Env->Option (List D)}
  (h:sx lam sc N T lmb l params body scope=some f):DF X (.Call (.Name "sorted" p0) [l] [⟨some "key",.Lambda params body scope lpos,kpos⟩] pos) f:=by
 unfold sx at h
 split at h
 ·rename_i hg
  simp only[Bool.and_eq_true,Bool.not_eq_true'] at hg
  obtain⟨⟨hl,hg⟩,hs⟩:=hg
  obtain⟨q,rfl⟩:=Option.isSome_iff_exists.mp hl
  obtain⟨L,hk⟩:=hlam q rfl
  obtain⟨x,hx,h2⟩:=bs h
  clear h
  obtain⟨px,rfl,hpx⟩:=uw hx
  split at h2
  ·rename_i hok
   rw[Bool.and_eq_true] at hok
   obtain⟨fl,hfl,h⟩:=bs h2
   obtain⟨te,hte,rfl⟩:=map_some h
   obtain⟨k',rfl⟩:∃k',k=k'+3:=⟨k - 3,by omega⟩
   exact Bk.sortK (p:=x) C (C.blt B hg (by decide +kernel) lS) L hok.1 hok.2 (fun _ _ _ _ _=>bind1 hpx) rfl (O.e _ _ hfl) (fun A f c s H C'=>(OL scope _ q A f c s H C' (by omega)).e _ _ hte) (aZ hs) (by rw[aZ hs];rfl) (dc (by simp[hs]))
  ·cases h2
 ·cases h
theorem wu {lam:Option Str}(C:Bk X N sc k) (B:Bn X) (hlam:∀q,lam=some q->n9 X q/\j+3<=k) (O:dv X T) {lmb:Scope->List Str->Tr}
  (OL:∀scope N' qual A f c s H,Bk (fU X A qual scope N' f c s H) N' scope (k - 3)->j<=k - 3->dv (fU X A qual scope N' f c s H) (lmb scope N')) {l body:Expr}{params:Arguments}{scope:Scope}{p0 lpos kpos:Pos}{f:Dl.Env->Option (List D)}
  (h:sX lam sc N T lmb l params body scope=some f):DF X (.Call (.Name "sorted" p0) [l] [⟨some "key",.Lambda params body scope lpos,kpos⟩] pos) f:=by
 unfold sX at h
 split at h
 ·split at h
  ·rename_i hg
   simp only[Bool.and_eq_true,Bool.not_eq_true'] at hg
   obtain⟨⟨⟨⟨hl,hg⟩,hr⟩,hgr⟩,hs⟩:=hg
   have er:=eq_of_beq hr
   subst er
   obtain⟨q,rfl⟩:=Option.isSome_iff_exists.mp hl
   obtain⟨L,hk⟩:=hlam q rfl
   obtain⟨x,hx,h2⟩:=bs h
   clear h
   obtain⟨px,rfl,hpx⟩:=uw hx
   split at h2
   ·rename_i hok
    rw[Bool.and_eq_true] at hok
    obtain⟨fl,hfl,h⟩:=bs h2
    obtain⟨te,hte,rfl⟩:=map_some h
    obtain⟨k',rfl⟩:∃k',k=k'+3:=⟨k - 3,by omega⟩
    exact Bk.sortR (p:=x) C (C.blt B hg (by decide +kernel) lS) (C.blt B hgr (by decide +kernel) vB) L hok.1 hok.2 (fun _ _ _ _ _=>bind1 hpx) rfl (cm O hfl) (fun A f c s H C'=>(OL scope _ q A f c s H C' (by omega)).e _ _ hte) (aZ hs) (aZ rfl) (by rw[aZ rfl];rfl) (dc (by rfl))
   ·cases h2
  ·cases h
 ·cases h
theorem Bp {lam:Option Str}(C:Bk X N sc k) (B:Bn X) (hlam:∀q,lam=some q->n9 X q/\j+3<=k) (O:dv X T) {blk lmb:Scope->List Str->Tr}
  (OB:∀scope N' fp s H,Bk (aO X scope N' fp s H) N' scope k->dv (aO X scope N' fp s H) (blk scope N'))
  (OL:∀scope N' qual A f c s H,Bk (fU X A qual scope N' f c s H) N' scope (k - 3)->j<=k - 3->dv (fU X A qual scope N' f c s H) (lmb scope N')) {e:Expr}{f:Dl.Env->Option (List D)}(h:yu lam sc N T blk lmb e=some f):DF X e f:=by
 unfold yu at h
 split at h
 ·obtain⟨x,hx,rfl⟩:=map_some h;exact Hr (cm O hx)
 ·rename_i elt gens scope ps
  match gens,h with
  | [⟨tg,iter,ifs,as⟩],h =>
   obtain⟨rfl,q⟩:=rf C B O OB h
   exact q.df C.calm
 ·split at h
  ·obtain⟨x,hx,h⟩:=bs h
   obtain⟨y,hy,rfl⟩:=map_some h
   exact Ie (O.f _ _ hx) (O.e _ _ hy)
  ·cases h
 ·obtain⟨x,hx,h⟩:=bs h
  obtain⟨y,hy,rfl⟩:=map_some h
  exact HA (O.e _ _ hx) (O.e _ _ hy)
 ·split at h
  ·rename_i hk
   rw[Bool.and_eq_true] at hk
   have e1:=eq_of_beq hk.1
   have e2:=eq_of_beq hk.2
   subst e1 e2
   split at h
   ·cases h;exact w8 C B hlam O OL ‹_›
   ·exact wu C B hlam O OL h
  ·cases h
 ·split at h
  ·rename_i hg
   rw[Bool.and_eq_true,Bool.not_eq_true'] at hg
   split at h
   ·rename_i hx
    subst hx
    obtain⟨x,hx,rfl⟩:=map_some h
    exact EA (C.blt B hg.1 (by decide +kernel) Dy) (cm O hx) (aZ hg.2)
   ·split at h
    ·rename_i hx
     subst hx
     obtain⟨x,hx,rfl⟩:=map_some h
     exact zM (C.blt B hg.1 (by decide +kernel) lS) (cm O hx) (aZ hg.2)
    ·cases h
  ·cases h
 ·cases h
theorem D9 {lam:Option Str}(C:Bk X N sc k) (B:Bn X) (O:dv X T) {blk lmb:Scope->List Str->Tr}(OB:∀scope N' fp s H,Bk (aO X scope N' fp s H) N' scope k->dv (aO X scope N' fp s H) (blk scope N'))
  {elt:Expr}{gens:List Comprehension}{scope:Scope}{p:Pos}{f:Dl.Env->Option (List D)}(h:yu lam sc N T blk lmb (.ListComp elt gens scope p)=some f):∃tg iter ifs,gens=[⟨tg,iter,ifs,0⟩]/\oJ X tg iter ifs elt scope f:=by
 have h:rO sc N T blk elt gens scope=some f:=h
 match gens,h with
 | [⟨tg,iter,ifs,as⟩],h =>
  obtain⟨rfl,q⟩:=rf C B O OB h
  exact⟨tg,iter,ifs,rfl,q⟩
theorem FL (n:Nat):∀ {lam:Option Str}{X:Cx}{N:List Str}{sc:Scope}{k:Nat},Bk X N sc k->Jv G X j->j<=k->(∀q,lam=some q->n9 X q/\j+3<=k)->dv X (tr G n lam sc N):=by
 induction n with
 | zero=>intro lam X N sc k C g hjk hlam;exact⟨fun _ _ _ _ _ h=>(by cases h),fun _ _ h=>(by cases h),fun _ _ h=>(by cases h),fun _ _ h=>(by cases h)⟩
 | succ n ih =>
  intro lam X N sc k C g hjk hlam
  have O:=ih C g hjk hlam
  exact⟨fun elt gens scope p f h=>D9 (lam:=lam) (lmb:=tr G n none) (p:=p) C g.bn O (fun scope N' fp s H C'=>ih C' ⟨g.fn,g.int,g.bn⟩ hjk fun q z=>by cases z) h,fun e f h=>Bu C g hjk O h,
   fun e f h=>Bp C g.bn hlam O (fun scope N' fp s H C'=>ih C' ⟨g.fn,g.int,g.bn⟩ hjk fun q z=>by cases z) (fun scope N' qual A f c s H C' hk=>ih C' ⟨g.fn,g.int,g.bn⟩ hk fun q z=>by cases z) h,
   fun e f h=>CT C O h⟩
end
end Rf
namespace Rf
open PySem L2 Dl PySem.Spec PyProof.Rows
noncomputable def o9:Nat->Expr->List Str
 | 0,_=>[]
 | n+1,e=>match e with
  | .Name x _=>[x]
  | .UnaryOp _ a _=>o9 n a
  | .BinOp a _ b _=>o9 n a++o9 n b
  | .BoolOp _ es _=>es.flatMap (o9 n)
  | .Compare a _ cs _=>o9 n a++cs.flatMap (o9 n)
  | .IfExp c a b _=>o9 n c++(o9 n a++o9 n b)
  | .Tuple es _ _=>es.flatMap (o9 n)
  | .List es _=>es.flatMap (o9 n)
  | .Subscript a b _=>o9 n a++o9 n b
  | .Slice lo hi st _=>(lo.toList++(hi.toList++st.toList)).flatMap (o9 n)
  | .Call f args kws _=>o9 n f++(args.flatMap (o9 n)++kws.flatMap fun k=>o9 n k.value)
  | .Attribute o _ _=>o9 n o
  | .ListComp elt gens _ _=>o9 n elt++gens.flatMap fun g=>o9 n g.iter++g.ifs.flatMap (o9 n)
  | .Lambda _ b _ _=>o9 n b
  | _=>[]
noncomputable def pR (N:List Str) (e:Expr):List Nat:=let ns:=o9 60 e;(List.range N.length).filter fun j=>match N[j]? with|some x=>ns.contains x|none=>false
noncomputable abbrev GS:=ai->Option Out
noncomputable def turns:Nat:=1000000
noncomputable def wk:Expr->Bool
 | .ListComp ..=>true
 | .SetComp ..=>true
 | .DictComp ..=>true
 | _=>false
noncomputable def Bs (sc:Scope) (N:List Str) (T:Tr) (x:Str) (px:Pos) (e:Expr):Option GS :=
 (N.idxOf? x).bind fun i=>if og N sc i x=true then
  (if yd e=true then (match e with
   | .ListComp _ _ scope lp =>
    if (decide (sc.names.lookup x=some .local)&&(px.line == lp.line&&!(scope.names.any fun (n,k)=>n == x&&(k == .local || k == .cell))))=true then (T.f e).map fun f=>aK i (pR N e) f
    else if decide (sc.names.lookup x=some .cell)=true then (T.f e).map fun f=>aK i (pR N e) f
    else if (px.line == lp.line)=false then (T.f e).map fun f=>aK i (pR N e) f
    else none
   | _=>(T.f e).map fun f=>aK i (pR N e) f)
  else if wk e=false then (T.e e).map fun f=>aB i (pR N e) f else none) else none
noncomputable def BD (N:List Str) (sc:Scope) (T:Tr) (e:Expr):Option GS:=match e with
 | .Constant (.str _) _ _=>some eU
 | .Call (.Attribute (.Name x _) m apos) args [] cpos =>
  (N.idxOf? x).bind fun i=>if (zQ N sc i x&&apos.endLine == cpos.line&&args.all fun e=>!isStar e)=true then
   (if m="append" then (match args with
    | [a]=>(T.e a).map fun f=>kg i (pR N a) f
    | _=>none)
   else if m="extend" then (match args with
    | [a]=>(T.f a).map fun f=>Ai i (pR N a) f
    | _=>none)
   else if m="insert" then (match args with
    | [a,b]=>(T.e a).bind fun fk=>(T.e b).map fun f=>B6 i (pR N b) fk f
    | _=>none)
   else none) else none
 | .Call (.Name _ _) _ _ _=>(T.e e).map j5
 | _=>none
noncomputable def KG (sc:Scope) (N:List Str) (tg:Expr):Option (ai->D->Option ai):=match tg with
 | .Name x _=>(N.idxOf? x).bind fun i=>if og N sc i x=true then some (tN i) else none
 | .Tuple [.Name x _,.Name y _] _ _=>(N.idxOf? x).bind fun i=>(N.idxOf? y).bind fun j=>if (og N sc i x&&og N sc j y)=true then some (eR i j) else none
 | .Tuple [.Name x _,.Tuple [.Name y _,.Name z _,.Name w _] _ _] _ _=>(N.idxOf? x).bind fun i=>(N.idxOf? y).bind fun j=>(N.idxOf? z).bind fun k=>(N.idxOf? w).bind fun l=>if ((og N sc i x&&og N sc j y)&&(og N sc k z&&og N sc l w))=true then some (Bf i j k l) else none
 | _=>none
noncomputable def Bw (sc:Scope) (N:List Str) (T:Tr) (x:Str) (kx e:Expr):Option GS :=
 (N.idxOf? x).bind fun i=>if (zQ N sc i x&&!Bv kx&&!wk e)=true then (T.e kx).bind fun fk=>(T.e e).map fun f=>xx i (pR N e) fk f else none
noncomputable def oW (f:Stmt->Option GS):List Stmt->Option GS
 | []=>some eU
 | [s]=>f s
 | s::r=>(f s).bind fun g=>(oW f r).map fun h=>av g h
noncomputable def Dk (sc:Scope) (N:List Str) (T:Tr):Nat->Stmt->Option GS
 | 0,_=>none
 | n+1,st=>match st with
  | .Return (some e) _=>(T.e e).map aF
  | .If c a b _=>(T.t c).bind fun t=>(oW (Dk sc N T n) a).bind fun g=>(oW (Dk sc N T n) b).map fun h=>eX t g h
  | .Assign [.Name x px] e _=>Bs sc N T x px e
  | .Assign [.Subscript (.Name x _) kx _] e _=>Bw sc N T x kx e
  | .For tg iter body [] _=>(Ky sc T tg iter).bind fun fi=>(KG sc N tg).bind fun t=>(oW (Dk sc N T n) body).map fun g=>dW (pR N iter) fi t g
  | .While c body [] _=>(T.t c).bind fun t=>(oW (Dk sc N T n) body).map fun g=>Er t g turns
  | .Expr e _=>BD N sc T e
  | .Raise ..=>some Jo
  | .Pass _=>some eU
  | _=>none
section
variable {X:Cx}{N:List Str}{sc:Scope}{k:Nat}{T:Tr}{HF₀ H₀:Hp}{pos:Pos}
theorem iH {f:Stmt->Option GS}(H:∀s g,f s=some g->DS X HF₀ H₀ s g):∀ {l:List Stmt}{g:GS},oW f l=some g->As X HF₀ H₀ l g
 | [],g,h=>by cases h;exact EX
 | [s],g,h=>Du (H _ _ h)
 | s::t::r,g,h=>by
  unfold oW at h
  obtain⟨x,hx,h⟩:=bs h
  obtain⟨y,hy,rfl⟩:=map_some h
  exact BI (H _ _ hx) (iH H hy)
theorem qy {e:Expr}{x:Str}{px:Pos}{line:Nat}{env:PySem.Env}(h:wk e=false):swapsWith e (some (.Name x px)) line env=pure false:=by
 cases e<;>first|rfl|cases h
theorem Cd (C:Bk X N sc k) (O:dv X T) {x:Str}{px:Pos}{e:Expr}{g:GS}(h:Bs sc N T x px e=some g):DS X HF₀ H₀ (.Assign [.Name x px] e pos) g:=by
 unfold Bs at h
 obtain⟨i,hi,h⟩:=bs h
 split at h
 ·rename_i hloc
  obtain⟨z1,z2,z3,z4⟩:=C.loc hloc
  split at h
  ·split at h
   ·rename_i elt gens scope lp hl
    split at h
    ·rename_i hc
     rw[Bool.and_eq_true] at hc
     obtain⟨f,hf,rfl⟩:=map_some h
     obtain⟨tg,iter,ifs,rfl,q⟩:=O.c _ _ _ _ _ hf
     obtain⟨N',t,cs,fi,tgt,tt,te,rfl,S,hd,hfold,hY⟩:=q.ex
     exact EI i _ C.calm S hd hY z1 z2 (C.locl hc.1) (C.swap hc.1 hc.2) hfold
    ·split at h
     ·rename_i hc
      obtain⟨f,hf,rfl⟩:=map_some h
      exact r0 i _ z1 z2 z3 (O.f _ _ hf) (C.noswap hc) z4
     ·split at h
      ·rename_i hc
       obtain⟨f,hf,rfl⟩:=map_some h
       refine r0 i _ z1 z2 z3 (O.f _ _ hf) ?_ z4
       rw[pf,hc]
       simp
      ·cases h
   ·rename_i hl hn
    obtain⟨f,hf,rfl⟩:=map_some h
    refine r0 i _ z1 z2 z3 (O.f _ _ hf) (qy ?_) z4
    cases e<;>first|rfl|exact absurd rfl (hn _ _ _ _)|(rename_i hl _;cases hl;done)
  ·split at h
   ·rename_i hc
    obtain⟨f,hf,rfl⟩:=map_some h
    exact Hn i _ z1 z2 z3 (O.e _ _ hf) (qy hc) z4
   ·cases h
 ·cases h
theorem vU {env:PySem.Env}{es:List Expr}{cpos:Pos}(h:(es.all fun e=>!isStar e)=true) (hl:es.length < 20):((backTo cpos (starEach es env)).all (fun x=>!x.1)&&(backToKw cpos (keywordEach [] env)).all (fun x=>x.1.isSome)&&decide (es.length+([]:List Keyword).length+(if ([]:List Keyword).isEmpty then 0 else 1) < 30))=true:=by
 have h1:(backTo cpos (starEach es env)).all (fun x=>!x.1)=true:=by
  have:=dc (pos:=cpos) (env:=env) h
  rw[List.all_eq_not_any_not]
  simpa using this
 rw[h1]
 simp[backToKw,keywordEach]
 omega
theorem B0 (C:Bk X N sc k) (O:dv X T) {e:Expr}{g:GS}(h:BD N sc T e=some g):DS X HF₀ H₀ (.Expr e pos) g:=by
 unfold BD at h
 split at h
 ·cases h;exact GD
 ·rename_i x px m apos args cpos
  replace h:=bs h
  obtain⟨i,hi,h⟩:=h
  split at h
  ·rename_i hv
   simp only[Bool.and_eq_true] at hv
   obtain⟨⟨hv,hline⟩,hs⟩:=hv
   obtain⟨z1,z2,z3,z4⟩:=C.vis hv
   split at h
   ·rename_i hm
    subst hm
    split at h
    ·obtain⟨f,hf,rfl⟩:=map_some h
     exact zO i _ z1 z2 (O.e _ _ hf) z3 z4 (vU hs (by simp)) hline (aZ (by simpa using hs))
    ·cases h
   ·split at h
    ·rename_i hm
     subst hm
     split at h
     ·obtain⟨f,hf,rfl⟩:=map_some h
      exact Ag i _ z1 z2 (O.f _ _ hf) z3 z4 (vU hs (by simp)) hline (aZ (by simpa using hs))
     ·cases h
    ·split at h
     ·rename_i hm
      subst hm
      split at h
      ·obtain⟨fk,hfk,h⟩:=bs h
       obtain⟨f,hf,rfl⟩:=map_some h
       have hs':=hs
       simp only[List.all_cons,List.all_nil,Bool.and_true,Bool.and_eq_true,Bool.not_eq_true'] at hs'
       exact Ae i _ z1 z2 (O.e _ _ hfk) (O.e _ _ hf) z3 z4 (vU hs (by simp)) hline (aZ hs'.1) (aZ hs'.2)
      ·cases h
     ·cases h
  ·cases h
 ·obtain⟨f,hf,rfl⟩:=map_some h
  exact Fo rfl (O.e _ _ hf)
 ·cases h
theorem IP (C:Bk X N sc k) {tg:Expr}{t:ai->D->Option ai}(h:KG sc N tg=some t):JW X HF₀ H₀ tg t:=by
 unfold KG at h
 split at h
 ·obtain⟨i,hi,h⟩:=bs h
  split at h
  ·rename_i hl
   cases h
   have z:=C.loc hl
   exact Cr i z.1 z.2.1 z.2.2.1 z.2.2.2
  ·cases h
 ·obtain⟨i,hi,h⟩:=bs h
  obtain⟨j,hj,h⟩:=bs h
  split at h
  ·rename_i hl
   rw[Bool.and_eq_true] at hl
   cases h
   have z:=C.loc hl.1
   have w:=C.loc hl.2
   exact ES i j C.calm z.1 z.2.1 z.2.2.1 w.2.1 w.2.2.1 z.2.2.2 w.2.2.2
  ·cases h
 ·obtain⟨i,hi,h⟩:=bs h
  obtain⟨j,hj,h⟩:=bs h
  obtain⟨m,hm,h⟩:=bs h
  obtain⟨l,hl,h⟩:=bs h
  split at h
  ·rename_i hl
   rw[Bool.and_eq_true,Bool.and_eq_true,Bool.and_eq_true] at hl
   cases h
   have z:=C.loc hl.1.1
   have w:=C.loc hl.1.2
   have y:=C.loc hl.2.1
   have u:=C.loc hl.2.2
   exact Io i j m l C.calm z.1 z.2.1 z.2.2.1 w.2.1 w.2.2.1 y.2.1 y.2.2.1 u.2.1 u.2.2.1 z.2.2.2 w.2.2.2 y.2.2.2 u.2.2.2
  ·cases h
 ·cases h
theorem A8 (C:Bk X N sc k) (O:dv X T) {x:Str}{px spos:Pos}{kx e:Expr}{g:GS}(h:Bw sc N T x kx e=some g):DS X HF₀ H₀ (.Assign [.Subscript (.Name x px) kx spos] e pos) g:=by
 unfold Bw at h
 obtain⟨i,hi,h⟩:=bs h
 split at h
 ·rename_i hv
  simp only[Bool.and_eq_true,Bool.not_eq_true'] at hv
  obtain⟨⟨hv,hc⟩,he⟩:=hv
  obtain⟨z1,z2,z3,z4⟩:=C.vis hv
  obtain⟨fk,hfk,h⟩:=bs h
  obtain⟨f,hf,rfl⟩:=map_some h
  refine C6 i _ z1 z2 (O.e _ _ hfk) (O.e _ _ hf) z3 z4 (fun v=>?_) ?_ ?_ rfl
  ·cases kx<;>first|rfl|cases hc
  ·cases e<;>first|rfl|cases he
  ·rfl
 ·cases h
theorem wg (C:Bk X N sc k) (B:Bn X) (O:dv X T):∀ (n:Nat) {st:Stmt}{g:GS},Dk sc N T n st=some g->DS X HF₀ H₀ st g
 | 0,st,g,h=>by cases h
 | n+1,st,g,h=>by
  have ih:=fun s g h=>wg C B O n (st:=s) (g:=g) h
  unfold Dk at h
  split at h
  ·obtain⟨f,hf,rfl⟩:=map_some h;exact GK (O.e _ _ hf)
  ·obtain⟨t,ht,h⟩:=bs h
   obtain⟨a,ha,h⟩:=bs h
   obtain⟨b,hb,rfl⟩:=map_some h
   exact J4 (O.t _ _ ht) (iH ih ha) (iH ih hb)
  ·exact Cd C O h
  ·exact A8 C O h
  ·obtain⟨fi,hfi,h⟩:=bs h
   obtain⟨t,ht,h⟩:=bs h
   obtain⟨b,hb,rfl⟩:=map_some h
   obtain⟨hd,hfold⟩:=Cn C B O hfi
   exact HE _ C.pass C.calm hd (IP C ht) (iH ih hb) hfold
  ·obtain⟨t,ht,h⟩:=bs h
   obtain⟨b,hb,rfl⟩:=map_some h
   exact Ck _ C.pass (O.t _ _ ht) (iH ih hb)
  ·exact B0 C O h
  ·cases h;exact JA
  ·cases h;exact Fn
  ·cases h
end
end Rf
namespace Rf
open PySem L2 Dl PySem.Spec PyProof.Rows
section
variable {P:Program}{w:World}{K:PySem.W.Frag}{mg:Str->Option Value}{base:Heap}{j:Nat}
noncomputable def jY (P:Program) (w:World) (K:PySem.W.Frag) (mg:Str->Option Value) (base:Heap) (j:Nat) (l:List (Str×Nat×(List D->Option D))):Prop:=∀x n m,l.lookup x=some (n,m)->du P w K mg base j x n m
noncomputable def i4 (mg:Str->Option Value) (l:List (Str×Int)):Prop:=∀x i,l.lookup x=some i->∃t,mg x=some (.int i t)
theorem bI:jY P w K mg base j []:=fun _ _ _ h=>by cases h
theorem JM {x:Str}{n:Nat}{m:List D->Option D}{l:List (Str×Nat×(List D->Option D))}(F:du P w K mg base j x n m) (h:jY P w K mg base j l):jY P w K mg base j ((x,n,m)::l):=fun y n' m' e=>by
 rw[List.lookup_cons] at e
 cases q:y == x with
 | true=>rw[q] at e;cases e;rw[eq_of_beq q];exact F
 | false=>rw[q] at e;exact h y n' m' e
theorem bJ:i4 mg []:=fun _ _ h=>by cases h
theorem A0 {x:Str}{i:Int}{l:List (Str×Int)}(F:∃t,mg x=some (.int i t)) (h:i4 mg l):i4 mg ((x,i)::l):=fun y i' e=>by
 rw[List.lookup_cons] at e
 cases q:y == x with
 | true=>rw[q] at e;cases e;rw[eq_of_beq q];exact F
 | false=>rw[q] at e;exact h y i' e
theorem FO {X:Cx}{N:List Str}{st:Stmt}{g:ai->Option Out}{fs:List (Str×Nat×(List D->Option D))}{is:List (Str×Int)}{HF₀ H₀:Hp}(C:Bk X N (aC st) j) (B:Bn X) (hf:jY X.prog X.w X.K X.mg X.base j fs) (hi:i4 X.mg is)
  (t:oW (Dk (aC st) N (tr ⟨fs,is⟩ 40 none (aC st) N) 40) (bT st)=some g):As X HF₀ H₀ (bT st) g :=
 iH (fun s g h=>wg C B (FL (G:=⟨fs,is⟩) 40 C ⟨hf,hi,B⟩ (Nat.le_refl j) fun q z=>by cases z) 40 h) t
theorem L8 {x:Str}{st:Stmt}{ps N:List Str}{g:ai->Option Out}{fs:List (Str×Nat×(List D->Option D))}{is:List (Str×Int)}(D:bE K mg x st ps) (S:dZ N ps (aC st)) (B:∀x∈cH,mg x=none) (hf:jY P w K mg base j fs) (hi:i4 mg is)
  (t:oW (Dk (aC st) N (tr ⟨fs,is⟩ 40 none (aC st) N) 40) (bT st)=some g):du P w K mg base (j+1) x ps.length (bc g N.length):=by
 obtain⟨f,fd,hm,F,hb⟩:=D.ex
 exact LN F S hb hm fun X hP hw hK hm' hb' C _ _ HF H=>by subst hP;subst hw;subst hK;subst hm';subst hb';exact FO C B hf hi t
theorem LW {x q:Str}{st:Stmt}{ps N:List Str}{g:ai->Option Out}{fs:List (Str×Nat×(List D->Option D))}{is:List (Str×Int)}(D:Bm K mg x st ps) (S:dZ N ps (aC st)) (B:∀x∈cH,mg x=none) (hf:jY P w K mg base j fs) (hi:i4 mg is)
  (hq:x∈i8/\x++".<locals>."++"<lambda>"=q) (t:oW (Dk (aC st) N (tr ⟨fs,is⟩ 40 (some q) (aC st) N) 40) (bT st)=some g):du P w K mg base (j+4) x ps.length (bc g N.length):=by
 obtain⟨f,fd,c,P',hm,F,hb,hc,hh⟩:=D.ex
 refine LN (k:=j+3) F S hb hm fun X hP hw hK hm' hb' C h1 h2 HF H=>?_
 subst hP;subst hw;subst hK;subst hm';subst hb'
 have L:n9 X q:=by
  refine⟨c,P',by rw[h1,hc],by rw[h2];exact hq.2,hh,fun HF tb=>?_⟩
  obtain⟨oc,od,kV,doc,pm,an,cdv,ct,osl,rfl,lk,_⟩:=F.ex
  have:=tb f oc od _ osl c P' lk hq.1 hc hh
  rw[<- hq.2]
  exact this
 exact iH (fun s g h=>wg C B (FL (G:=⟨fs,is⟩) (j:=j) 40 C ⟨hf,hi,B⟩ (Nat.le_add_right _ _) fun q' z=>by cases z;exact⟨L,Nat.le_refl _⟩) 40 h) t
end
end Rf
namespace Rf
open PySem L2 Dl PySem.Spec PyProof.Rows
noncomputable abbrev tW (s:Stmt) (N:List Str) (S:Sg) (l:Option Str):Option GS:=oW (Dk (aC s) N (tr S 40 l (aC s) N) 40) (bT s)
theorem Ll {N P:List Str}{sc:Scope}(a:sc.kind=.function:=by rfl) (b:sc.isCoroutine=false:=by rfl) (c:sc.isGenerator=false:=by rfl) (d:N.Nodup:=by decide +kernel) (e:N.take P.length=P:=by rfl) (f:∀x∈P,sc.names.lookup x=some .local \/ sc.names.lookup x=some .cell:=by decide +kernel) (g:∀y∈sc.names,y.2≠.free:=by decide +kernel):dZ N P sc:=⟨a,b,c,d,e,f,g⟩
section
variable {P:Program}{w:World}{K:PySem.W.Frag}{mg:Str->Option Value}{base:Heap}{i j:Nat}
theorem fm {x:Str}{n:Nat}{m:List D->Option D}{l:List (Str×Nat×(List D->Option D))}(F:du P w K mg base i x n m) (h:jY P w K mg base j l) (e:i<=j:=by decide):jY P w K mg base j ((x,n,m)::l):=JM (F.mono e) h
theorem fX {x:Str}{st:Stmt}{ps N:List Str}{g:ai->Option Out}{S:Sg}(D:bE K mg x st ps) (B:∀x∈cH,mg x=none) (hf:jY P w K mg base j S.fn) (hi:i4 mg S.int) (t:tW st N S none=some g) (F:dZ N ps (aC st):=by exact Rf.Ll):du P w K mg base (j+1) x ps.length (bc g N.length):=L8 D F B hf hi t
theorem LG {x q:Str}{st:Stmt}{ps N:List Str}{g:ai->Option Out}{S:Sg}(D:Bm K mg x st ps) (B:∀x∈cH,mg x=none) (hf:jY P w K mg base j S.fn) (hi:i4 mg S.int) (t:tW st N S (some q)=some g) (F:dZ N ps (aC st):=by exact Rf.Ll) (hq:x∈i8/\x++".<locals>."++"<lambda>"=q:=by decide +kernel):du P w K mg base (j+4) x ps.length (bc g N.length):=LW D F B hf hi hq t
end
end Rf
namespace Hd
open PySem L2 Dl PySem.Spec PyProof.Rows
section
variable {K:PySem.W.Frag}
theorem fIn {x:Str}{st:Stmt}{ps:List Str}{f c:Addr}{pm:Value}(hb:gm st ps) (a:PySem.W.nsIn K mainGlobals x=some (some (.ref f))) (l:K.lookup f=some (fo x st pm c)) (d:PySem.W.codeIn K (.ref c) x=true) (k:PySem.W.keepIn K (.ref f)=true):aG K x st ps:=Jj hb a l d k
theorem lIn {x:Str}{st:Stmt}{ps:List Str}{f c:Addr}{pm:Value}(hb:gm st ps) (a:PySem.W.nsIn K mainGlobals x=some (some (.ref f))) (l:K.lookup f=some (fo x st pm c)) (d:PySem.W.codeIn K (.ref c) x=true) (k:PySem.W.keepIn K (.ref f)=true) (hh:PySem.W.codeHdIn K c (Bg K c)=true):mR K x st ps:=JY hb a l d k hh
end
section
variable {α:Type}{R:List α->Prop}
theorem tG (h:∀a,R [a]) (us:List α) (e:us.length=1):R us:=by
 obtain⟨a,rfl⟩:=List.length_eq_one_iff.mp e;exact h a
theorem lenS {n:Nat}(us:List α) (e:us.length=n+1):∃a r,us=a::r/\r.length=n:=by
 cases us with
 | nil=>cases e
 | cons a r=>exact⟨a,r,rfl,by simpa using e⟩
theorem len2 (h:∀a b,R [a,b]) (us:List α) (e:us.length=2):R us:=by
 obtain⟨a,r,rfl,e'⟩:=lenS us e;exact tG (R:=fun r=>R (a::r)) (h a) r e'
theorem len3 (h:∀a b c,R [a,b,c]) (us:List α) (e:us.length=3):R us:=by
 obtain⟨a,r,rfl,e'⟩:=lenS us e;exact len2 (R:=fun r=>R (a::r)) (h a) r e'
theorem len4 (h:∀a b c d,R [a,b,c,d]) (us:List α) (e:us.length=4):R us:=by
 obtain⟨a,r,rfl,e'⟩:=lenS us e;exact len3 (R:=fun r=>R (a::r)) (h a) r e'
end
section
variable {K:PySem.W.Frag}
theorem f1 (f c:Addr) (pm:Value) {x:Str}{st:Stmt}{ps:List Str}(hb:gm st ps:=by exact fun _ _ _ _ _ _ _ _ us hl=>tG (R:=fun us=>bindArgs _ ⟨us,[]⟩=pure (List.zip _ us)) (fun _=>rfl) us hl) (a:PySem.W.nsIn K mainGlobals x=some (some (.ref f)):=by kernel_rfl) (l:K.lookup f=some (fo x st pm c):=by kernel_rfl) (d:PySem.W.codeIn K (.ref c) x=true:=by kernel_rfl) (k:PySem.W.keepIn K (.ref f)=true:=by kernel_rfl):aG K x st ps:=fIn hb a l d k
theorem l1 (f c:Addr) (pm:Value) {x:Str}{st:Stmt}{ps:List Str}(hb:gm st ps:=by exact fun _ _ _ _ _ _ _ _ us hl=>tG (R:=fun us=>bindArgs _ ⟨us,[]⟩=pure (List.zip _ us)) (fun _=>rfl) us hl) (a:PySem.W.nsIn K mainGlobals x=some (some (.ref f)):=by kernel_rfl) (l:K.lookup f=some (fo x st pm c):=by kernel_rfl) (d:PySem.W.codeIn K (.ref c) x=true:=by kernel_rfl) (k:PySem.W.keepIn K (.ref f)=true:=by kernel_rfl) (hh:PySem.W.codeHdIn K c (Bg K c)=true:=by kernel_rfl):mR K x st ps:=lIn hb a l d k hh
theorem f2 (f c:Addr) (pm:Value) {x:Str}{st:Stmt}{ps:List Str}(hb:gm st ps:=by exact fun _ _ _ _ _ _ _ _ us hl=>len2 (R:=fun us=>bindArgs _ ⟨us,[]⟩=pure (List.zip _ us)) (fun _ _=>rfl) us hl) (a:PySem.W.nsIn K mainGlobals x=some (some (.ref f)):=by kernel_rfl) (l:K.lookup f=some (fo x st pm c):=by kernel_rfl) (d:PySem.W.codeIn K (.ref c) x=true:=by kernel_rfl) (k:PySem.W.keepIn K (.ref f)=true:=by kernel_rfl):aG K x st ps:=fIn hb a l d k
theorem f3 (f c:Addr) (pm:Value) {x:Str}{st:Stmt}{ps:List Str}(hb:gm st ps:=by exact fun _ _ _ _ _ _ _ _ us hl=>len3 (R:=fun us=>bindArgs _ ⟨us,[]⟩=pure (List.zip _ us)) (fun _ _ _=>rfl) us hl) (a:PySem.W.nsIn K mainGlobals x=some (some (.ref f)):=by kernel_rfl) (l:K.lookup f=some (fo x st pm c):=by kernel_rfl) (d:PySem.W.codeIn K (.ref c) x=true:=by kernel_rfl) (k:PySem.W.keepIn K (.ref f)=true:=by kernel_rfl):aG K x st ps:=fIn hb a l d k
theorem l3 (f c:Addr) (pm:Value) {x:Str}{st:Stmt}{ps:List Str}(hb:gm st ps:=by exact fun _ _ _ _ _ _ _ _ us hl=>len3 (R:=fun us=>bindArgs _ ⟨us,[]⟩=pure (List.zip _ us)) (fun _ _ _=>rfl) us hl) (a:PySem.W.nsIn K mainGlobals x=some (some (.ref f)):=by kernel_rfl) (l:K.lookup f=some (fo x st pm c):=by kernel_rfl) (d:PySem.W.codeIn K (.ref c) x=true:=by kernel_rfl) (k:PySem.W.keepIn K (.ref f)=true:=by kernel_rfl) (hh:PySem.W.codeHdIn K c (Bg K c)=true:=by kernel_rfl):mR K x st ps:=lIn hb a l d k hh
theorem f4 (f c:Addr) (pm:Value) {x:Str}{st:Stmt}{ps:List Str}(hb:gm st ps:=by exact fun _ _ _ _ _ _ _ _ us hl=>len4 (R:=fun us=>bindArgs _ ⟨us,[]⟩=pure (List.zip _ us)) (fun _ _ _ _=>rfl) us hl) (a:PySem.W.nsIn K mainGlobals x=some (some (.ref f)):=by kernel_rfl) (l:K.lookup f=some (fo x st pm c):=by kernel_rfl) (d:PySem.W.codeIn K (.ref c) x=true:=by kernel_rfl) (k:PySem.W.keepIn K (.ref f)=true:=by kernel_rfl):aG K x st ps:=fIn hb a l d k
end
end Hd
namespace Pg
open PySem L2 Dl PySem.Spec PyProof.Rows
noncomputable abbrev xh:List Str:=["thing","least","most"]
noncomputable def kr:ai->Option Out:=(av (eX (kl (bA (fB (Ga "int" (ab 0)))) (fB (Ga "bool" (ab 0)))) (aF (fC (.bool false))) eU) (aF (i6 yf yf (ab 1) (ab 0) (ab 2))))
noncomputable def aM:List D->Option D:=bc kr 3
noncomputable abbrev tU:List Str:=["thing","many"]
noncomputable def jh:ai->Option Out:=(aF (ag 3 aM (aa (ab 0) (aa (fC (.int 0)) (aa (f2 Dl.fZ (ab 1) (fC (.int 1))) ae)))))
noncomputable def bK:List D->Option D:=bc jh 2
noncomputable abbrev zm:List Str:=["thing","least","most"]
noncomputable def l5:ai->Option Out:=(aF (jK (Ga "tuple" (ab 0)) (i6 yf yf (ab 1) (aY bu (aa (ab 0) ae)) (ab 2))))
noncomputable def aW:List D->Option D:=bc l5 3
noncomputable abbrev uY:List Str:=["thing","many"]
noncomputable def iR:ai->Option Out:=(av (eX (bA (fB (Ga "tuple" (ab 0)))) (aF (fC (.bool false))) eU) (av (eX (bA (fB (aY lH (aa (cw (ak 1 [1] (aS (ab 0)) (fG 0) (fun _=>some true) (ag 2 bK (aa (ab 0) (aa (ab 1) ae))))) ae)))) (aF (fC (.bool false))) eU) (aF (f2 bS (f1 jB (ab 0)) (aY bu (aa (ab 0) ae))))))
noncomputable def eC:List D->Option D:=bc iR 2
noncomputable abbrev Bt:List Str:=["thing","many"]
noncomputable def oC:ai->Option Out:=(aF (jK (ag 3 aW (aa (ab 0) (aa (fC (.int 2)) (aa (fC (.int 2)) ae)))) (jK (ag 3 aM (aa (f2 au (ab 0) (fC (.int 0))) (aa (fC (.int 0)) (aa (fC (.int 9)) ae)))) (ag 2 eC (aa (f2 au (ab 0) (fC (.int 1))) (aa (ab 1) ae))))))
noncomputable def ej:List D->Option D:=bc oC 2
noncomputable abbrev Bo:List Str:=["thing","givers","takers"]
noncomputable def o3:ai->Option Out:=(av (eX (bA (fB (ag 3 aW (aa (ab 0) (aa (fC (.int 3)) (aa (fC (.int 3)) ae)))))) (aF (fC (.bool false))) eU) (aF (jK (ag 2 bK (aa (f2 au (ab 0) (fC (.int 0))) (aa (ab 1) ae))) (jK (ag 2 bK (aa (f2 au (ab 0) (fC (.int 1))) (aa (ab 2) ae))) (ag 3 aM (aa (f2 au (ab 0) (fC (.int 2))) (aa (fC (.int 1)) (aa (fC (.int 9)) ae))))))))
noncomputable def gE:List D->Option D:=bc o3 3
noncomputable abbrev tZ:List Str:=["givers","takers","ways"]
noncomputable def iP:ai->Option Out:=(av (eX (kl (bA (fB (ag 3 aW (aa (ab 0) (aa (fC (.int 1)) (aa (fC (.int 4)) ae)))))) (bA (fB (ag 3 aW (aa (ab 1) (aa (fC (.int 1)) (aa (fC (.int 4)) ae))))))) (aF (fC (.bool false))) eU) (av (eX (bA (fB (aY lH (aa (cw (ak 1 [1] (aS (ab 0)) (fG 0) (fun _=>some true) (ag 2 ej (aa (ab 0) (aa (aY bu (aa (ab 1) ae)) ae))))) ae)))) (aF (fC (.bool false))) eU) (av (eX (bA (fB (aY lH (aa (cw (ak 1 [0] (aS (ab 1)) (fG 0) (fun _=>some true) (ag 2 ej (aa (ab 0) (aa (aY bu (aa (ab 1) ae)) ae))))) ae)))) (aF (fC (.bool false))) eU) (aF (jK (Ga "tuple" (ab 2)) (aY lH (aa (cw (ak 1 [0,1] (aS (ab 2)) (fG 0) (fun _=>some true) (ag 3 gE (aa (ab 0) (aa (aY bu (aa (ab 1) ae)) (aa (aY bu (aa (ab 2) ae)) ae)))))) ae)))))))
noncomputable def ee:List D->Option D:=bc iP 3
noncomputable abbrev pG:List Str:=["places","pairs","number","place"]
noncomputable def fW:ai->Option Out:=(av (aK 1 [] (iz ae)) (av (dW [0] (br (aa (ab 0) ae)) (eR 2 3) (Ai 1 [2,3] (ak 1 [2] (aS (f2 au (ab 3) (fC (.int 1)))) (fG 0) (fun _=>some true) (aH (aa (ab 1) (aa (ab 0) ae)))))) (aF (ab 1))))
noncomputable def bo:List D->Option D:=bc fW 4
noncomputable abbrev wA:List Str:=["thing","joined","by_givers","by_takers"]
noncomputable def fx:ai->Option Out:=(av (eX (kl (bA (fB (ag 3 aW (aa (ab 0) (aa (fC (.int 3)) (aa (fC (.int 3)) ae)))))) (bA (fB (ag 3 ee (aa (f2 au (ab 0) (fC (.int 0))) (aa (f2 au (ab 0) (fC (.int 1))) (aa (f2 au (ab 0) (fC (.int 2))) ae))))))) (aF (fC (.bool false))) eU) (av (aK 1 [0] (ak 1 [] (aS (f2 au (ab 0) (fC (.int 2)))) (fG 0) (fun _=>some true) (aH (aa (f2 au (ab 0) (fC (.int 0))) (aa (f2 au (ab 0) (fC (.int 1))) ae))))) (av (aK 2 [0] (hV cx (aa (ag 1 bo (aa (f2 au (ab 0) (fC (.int 0))) ae)) ae))) (av (aK 3 [0] (hV cx (aa (cw (ak 2 [] (aS (ag 1 bo (aa (f2 au (ab 0) (fC (.int 1))) ae))) (fI 0 1) (fun _=>some true) (aH (aa (ab 1) (aa (ab 0) ae))))) ae))) (aF (jK (f2 bS (ab 1) (ab 2)) (f2 bS (ab 1) (ab 3))))))))
noncomputable def bg:List D->Option D:=bc fx 4
noncomputable abbrev pF:List Str:=["world"]
noncomputable def cP:ai->Option Out:=(eX (bA (fB (ag 1 bg (aa (ab 0) ae)))) Jo eU)
noncomputable def bz:List D->Option D:=bc cP 1
noncomputable abbrev pU:List Str:=["thing","least","most"]
noncomputable def cQ:ai->Option Out:=(eX (bA (fB (ag 3 aM (aa (ab 0) (aa (ab 1) (aa (ab 2) ae)))))) Jo eU)
noncomputable def d0:List D->Option D:=bc cQ 3
noncomputable abbrev n8:List Str:=["thing","many"]
noncomputable def cB:ai->Option Out:=(j5 (ag 3 d0 (aa (ab 0) (aa (fC (.int 0)) (aa (f2 Dl.fZ (ab 1) (fC (.int 1))) ae)))))
noncomputable def bX:List D->Option D:=bc cB 2
noncomputable abbrev wb:List Str:=["parts","number","part"]
noncomputable def jZ:ai->Option Out:=(aF (f2 aE (f2 aE (jL eN (ab 0) jN (vN (ab 1))) (aH (aa (ab 2) ae))) (jL eN (ab 0) (vN (f2 aE (ab 1) (fC (.int 1)))) jN)))
noncomputable def ik:List D->Option D:=bc jZ 3
noncomputable abbrev zj:List Str:=["world","side","place","ways","likes","own"]
noncomputable def js:ai->Option Out:=(av (aB 3 [0] (f2 au (ab 0) (fC (.int 2)))) (av (aB 4 [0,1,2] (f2 au (f2 au (f2 au (ab 0) (ab 1)) (ab 2)) (fC (.int 1)))) (av (aK 5 [1,2,3] (ak 2 [1,2] (br (aa (ab 3) ae)) (fI 0 1) (fB (f2 bS (f2 au (ab 1) (ab 2)) (ab 3))) (ab 0))) (aF (cw (mr [1,3,4] (ab 5) (f2 mZ (ab 3) (f2 au (f2 au (ab 2) (ab 0)) (f2 Dl.fZ (fC (.int 1)) (ab 1))))))))))
noncomputable def dU:List D->Option D:=bc js 6
noncomputable abbrev uO:List Str:=["world","side","place","offers","chosen","left","number"]
noncomputable def fJ:ai->Option Out:=(av (aK 4 [0] (ak 1 [] (aS (f2 au (ab 0) (fC (.int 2)))) (fG 0) (fun _=>some true) (fC (.int 0)))) (av (aB 5 [0,1,2] (f2 au (f2 au (f2 au (ab 0) (ab 1)) (ab 2)) (fC (.int 0)))) (av (dW [0,1,2] (aS (ag 3 dU (aa (ab 0) (aa (ab 1) (aa (ab 2) ae))))) (tN 6) (av (xx 4 [0,3,5,6] (ab 6) (aY uK (aa (f2 au (ab 3) (ab 6)) (aa (f2 au (f2 au (f2 au (ab 0) (fC (.int 2))) (ab 6)) (fC (.int 2))) (aa (ab 5) ae))))) (aB 5 [4,5,6] (f2 Dl.fZ (ab 5) (f2 au (ab 4) (ab 6)))))) (aF (aY bF (aa (ab 4) ae))))))
noncomputable def dg:List D->Option D:=bc fJ 7
noncomputable abbrev ni:List Str:=["world","side","offers","sums","place","chosen"]
noncomputable def cT:ai->Option Out:=(av (aK 3 [0] (ak 1 [] (aS (f2 au (ab 0) (fC (.int 2)))) (fG 0) (fun _=>some true) (fC (.int 0)))) (av (dW [0,1] (bG (aa (aY bu (aa (f2 au (ab 0) (ab 1)) ae)) ae)) (tN 4) (av (aB 5 [0,1,2,4] (ag 4 dg (aa (ab 0) (aa (ab 1) (aa (ab 4) (aa (ab 2) ae)))))) (aK 3 [3,5] (ak 2 [] (eO (aa (ab 3) (aa (ab 5) ae))) (fI 0 1) (fun _=>some true) (f2 aE (ab 0) (ab 1)))))) (aF (aY bF (aa (ab 3) ae)))))
noncomputable def aU:List D->Option D:=bc cT 6
noncomputable abbrev AJ:List Str:=["world"]
noncomputable def oo:ai->Option Out:=(aF (aY bF (aa (cw (ak 1 [] (aS (f2 au (ab 0) (fC (.int 2)))) (fG 0) (fun _=>some true) (f2 au (ab 0) (fC (.int 2))))) ae)))
noncomputable def eB:List D->Option D:=bc oo 1
noncomputable abbrev y2:List Str:=["caps","way","cap"]
noncomputable def me:ai->Option Out:=(aF (ag 3 ik (aa (ab 0) (aa (ab 1) (aa (ab 2) ae)))))
noncomputable def bV:List D->Option D:=bc me 3
noncomputable abbrev zK:List Str:=["world","caps","given","kept","way","many"]
noncomputable def jE:ai->Option Out:=(av (aB 2 [0,1] (ag 3 aU (aa (ab 0) (aa (fC (.int 0)) (aa (ab 1) ae))))) (av (aB 3 [0,2] (ag 3 aU (aa (ab 0) (aa (fC (.int 1)) (aa (ab 2) ae))))) (av (dW [3] (br (aa (ab 3) ae)) (eR 4 5) (eX (fB (f2 Av (ab 5) (f2 au (ab 2) (ab 4)))) (aF (aH (aa (ab 4) (aa (ab 5) ae)))) eU)) (aF (fC .none)))))
noncomputable def dm:List D->Option D:=bc jE 6
noncomputable abbrev Eu:List Str:=["world","rows","caps","row"]
noncomputable def nA:ai->Option Out:=(av (aK 1 [] (iz ae)) (av (aB 2 [0] (ag 1 eB (aa (ab 0) ae))) (av (aB 3 [0,2] (ag 2 dm (aa (ab 0) (aa (ab 2) ae)))) (av (Er (fB (f2 mF (ab 3) (fC .none))) (av (kg 1 [3] (ab 3)) (av (aB 2 [2,3] (ag 3 bV (aa (ab 2) (aa (f2 au (ab 3) (fC (.int 0))) (aa (f2 au (ab 3) (fC (.int 1))) ae))))) (aB 3 [0,2] (ag 2 dm (aa (ab 0) (aa (ab 2) ae)))))) Rf.turns) (aF (ab 1))))))
noncomputable def nv:List D->Option D:=bc nA 4
noncomputable abbrev Ay:List Str:=["world","rows","caps","way","cap"]
noncomputable def lF:ai->Option Out:=(av (aB 2 [0] (ag 1 eB (aa (ab 0) ae))) (av (dW [1] (aS (ab 1)) (eR 3 4) (aB 2 [2,3,4] (ag 3 bV (aa (ab 2) (aa (ab 3) (aa (ab 4) ae)))))) (aF (ab 2))))
noncomputable def kJ:List D->Option D:=bc lF 5
noncomputable abbrev pQ:List Str:=["world"]
noncomputable def d5:ai->Option Out:=(av (j5 (ag 1 bz (aa (ab 0) ae))) (aF (ag 3 aU (aa (ab 0) (aa (fC (.int 0)) (aa (ag 2 kJ (aa (ab 0) (aa (ag 1 nv (aa (ab 0) ae)) ae))) ae))))))
noncomputable def bj:List D->Option D:=bc d5 1
noncomputable abbrev uM:List Str:=["_law_script","_law_k"]
noncomputable def fO:ai->Option Out:=(av (eX (fB (f2 bS (ab 0) (cw (iz ae)))) (aF (f2 dP (fC (.int 7)) (ab 1))) eU) (aF (f2 aE (f2 au (ab 0) (f2 jM (ab 1) (aY bu (aa (ab 0) ae)))) (f2 dP (fC (.int 6553)) (f2 k9 (ab 1) (aY bu (aa (ab 0) ae)))))))
noncomputable def dh:List D->Option D:=bc fO 2
noncomputable abbrev sT:List Str:=["_law_script","_law_k","_law_many","_law_cell_here"]
noncomputable def iB:ai->Option Out:=(av (aB 3 [0,1] (f2 jM (f2 aE (f2 dP (f2 jM (ag 2 dh (aa (ab 0) (aa (ab 1) ae))) (fC (.int 2147483563))) (fC (.int 69069))) (f2 dP (fC (.int 104723)) (f2 aE (ab 1) (fC (.int 1))))) (fC (.int 2147483563)))) (av (aB 3 [3] (f2 jM (f2 aE (f2 dP (ab 3) (ab 3)) (f2 k9 (ab 3) (fC (.int 3)))) (fC (.int 2147483399)))) (aF (f2 jM (f2 k9 (f2 jM (f2 aE (f2 dP (ab 3) (ab 3)) (f2 k9 (ab 3) (fC (.int 7)))) (fC (.int 2147483647))) (fC (.int 11))) (ab 2)))))
noncomputable def aj:List D->Option D:=bc iB 4
noncomputable abbrev qd:List Str:=["_law_script","_law_at","_law_rows","_law_found","_law_k","_law_row","_law_order","_law_j","_law_one"]
noncomputable def gn:ai->Option Out:=(av (aK 3 [] (iz ae)) (av (dW [2] (br (aa (ab 2) ae)) (eR 4 5) (av (aK 6 [] (iz ae)) (av (dW [5] (br (aa (ab 5) ae)) (eR 7 8) (B6 6 [8] (ag 3 aj (aa (ab 0) (aa (f2 aE (f2 aE (ab 1) (f2 dP (fC (.int 4)) (ab 4))) (ab 7)) (aa (f2 aE (aY bu (aa (ab 6) ae)) (fC (.int 1))) ae)))) (ab 8))) (kg 3 [6] (aY bF (aa (ab 6) ae)))))) (aF (ab 3))))
noncomputable def bB:List D->Option D:=bc gn 9
noncomputable abbrev rS:List Str:=["_law_script","_law_at","_law_most","_law_each","_law_takers","_law_many","_law_size","_law_ways","_law_k","_law_mine","_law_yours","_law_givers"]
noncomputable def dB:ai->Option Out:=(av (eX (mM (fB (f2 xD (ab 2) (fC (.int 3)))) (fB (f2 bS (ag 3 aj (aa (ab 0) (aa (f2 aE (ab 1) (fC (.int 64))) (aa (fC (.int 4)) ae)))) (fC (.int 0))))) (av (aB 3 [0,1] (f2 aE (fC (.int 1)) (ag 3 aj (aa (ab 0) (aa (f2 aE (ab 1) (fC (.int 65))) (aa (fC (.int 2)) ae)))))) (av (aB 4 [3] (aH (aa (aH (aa (ab 3) (aa (aH (aa (fC (.int 1)) (aa (fC (.int 0)) ae))) ae))) (aa (aH (aa (ab 3) (aa (aH (aa (fC (.int 0)) (aa (fC (.int 1)) ae))) ae))) ae)))) (aF (aH (aa (aH (aa (aH (aa (ab 3) (aa (aH (aa (fC (.int 0)) (aa (fC (.int 1)) ae))) ae))) (aa (aH (aa (ab 3) (aa (aH (aa (fC (.int 1)) (aa (fC (.int 0)) ae))) ae))) ae))) (aa (ab 4) (aa (aH (aa (aH (aa (fC (.int 0)) (aa (fC (.int 0)) (aa (fC (.int 2)) ae)))) (aa (aH (aa (fC (.int 0)) (aa (fC (.int 1)) (aa (fC (.int 2)) ae)))) (aa (aH (aa (fC (.int 1)) (aa (fC (.int 0)) (aa (fC (.int 2)) ae)))) (aa (aH (aa (fC (.int 1)) (aa (fC (.int 1)) (aa (fC (.int 2)) ae)))) ae))))) ae))))))) eU) (av (aB 5 [0,1] (f2 aE (fC (.int 1)) (ag 3 aj (aa (ab 0) (aa (ab 1) (aa (fC (.int 3)) ae)))))) (av (aB 6 [0,1] (f2 aE (fC (.int 1)) (ag 3 aj (aa (ab 0) (aa (f2 aE (ab 1) (fC (.int 1))) (aa (fC (.int 3)) ae)))))) (av (aK 7 [] (iz ae)) (av (dW [5,6] (bG (aa (f2 dP (ab 5) (ab 6)) ae)) (tN 8) (eX (mM (fB (f2 Av (aY bu (aa (ab 7) ae)) (ab 2))) (fB (f2 xD (ag 3 aj (aa (ab 0) (aa (f2 aE (f2 aE (ab 1) (fC (.int 2))) (ab 8)) (aa (fC (.int 4)) ae)))) (fC (.int 0))))) (kg 7 [0,1,6,8] (aH (aa (f2 k9 (ab 8) (ab 6)) (aa (f2 jM (ab 8) (ab 6)) (aa (f2 aE (fC (.int 1)) (ag 3 aj (aa (ab 0) (aa (f2 aE (f2 aE (ab 1) (fC (.int 12))) (ab 8)) (aa (fC (.int 2)) ae))))) ae))))) eU)) (av (aB 9 [0,1,5,7] (ag 3 bB (aa (ab 0) (aa (f2 aE (ab 1) (fC (.int 24))) (aa (cw (ak 1 [7] (bG (aa (ab 5) ae)) (fG 0) (fun _=>some true) (cw (ak 1 [0] (aS (ab 1)) (fG 0) (fB (f2 bS (f2 au (ab 0) (fC (.int 0))) (ab 1))) (f2 au (ab 0) (fC (.int 1))))))) ae))))) (av (aB 10 [0,1,6,7] (ag 3 bB (aa (ab 0) (aa (f2 aE (ab 1) (fC (.int 40))) (aa (cw (ak 1 [7] (bG (aa (ab 6) ae)) (fG 0) (fun _=>some true) (cw (ak 1 [0] (aS (ab 1)) (fG 0) (fB (f2 bS (f2 au (ab 0) (fC (.int 1))) (ab 1))) (f2 au (ab 0) (fC (.int 0))))))) ae))))) (av (aB 11 [0,1,8,9] (aY bF (aa (cw (ak 2 [0,1] (br (aa (ab 9) ae)) (fI 0 1) (fun _=>some true) (aH (aa (ag 3 aj (aa (ab 2) (aa (f2 aE (f2 aE (ab 3) (fC (.int 56))) (ab 0)) (aa (fC (.int 4)) ae)))) (aa (ab 1) ae))))) ae))) (av (aB 4 [0,1,8,10] (aY bF (aa (cw (ak 2 [0,1] (br (aa (ab 10) ae)) (fI 0 1) (fun _=>some true) (aH (aa (ag 3 aj (aa (ab 2) (aa (f2 aE (f2 aE (ab 3) (fC (.int 60))) (ab 0)) (aa (fC (.int 4)) ae)))) (aa (ab 1) ae))))) ae))) (aF (aH (aa (ab 11) (aa (ab 4) (aa (aY bF (aa (ab 7) ae)) ae))))))))))))))
noncomputable def bM:List D->Option D:=bc dB 12
noncomputable abbrev zc:List Str:=["world","plan","side","place"]
noncomputable def l6:ai->Option Out:=(aF (aY pN (aa (cw (ak 2 [2,3] (eO (aa (f2 au (ab 0) (fC (.int 2))) (aa (ab 1) ae))) (fI 0 1) (fB (f2 bS (f2 au (ab 0) (ab 2)) (ab 3))) (ab 1))) ae)))
noncomputable def bD:List D->Option D:=bc l6 4
noncomputable abbrev ng:List Str:=["world","plan","side"]
noncomputable def eK:ai->Option Out:=(aF (aY lH (aa (cw (ak 2 [0,1,2] (br (aa (f2 au (ab 0) (ab 2)) ae)) (fI 0 1) (fun _=>some true) (f2 yf (ag 4 bD (aa (ab 2) (aa (ab 3) (aa (ab 4) (aa (ab 0) ae))))) (f2 au (ab 1) (fC (.int 0)))))) ae)))
noncomputable def cg:List D->Option D:=bc eK 3
noncomputable abbrev An:List Str:=["world","thing","ways"]
noncomputable def jI:ai->Option Out:=(av (aB 2 [0] (f2 au (ab 0) (fC (.int 2)))) (av (eX (bA (fB (ag 3 aW (aa (ab 1) (aa (aY bu (aa (ab 2) ae)) (aa (aY bu (aa (ab 2) ae)) ae)))))) (aF (fC (.bool false))) eU) (av (eX (bA (fB (aY lH (aa (cw (ak 2 [] (eO (aa (ab 2) (aa (ab 1) ae))) (fI 0 1) (fun _=>some true) (ag 3 aM (aa (ab 1) (aa (fC (.int 0)) (aa (f2 au (ab 0) (fC (.int 2))) ae)))))) ae)))) (aF (fC (.bool false))) eU) (aF (jK (ag 3 cg (aa (ab 0) (aa (ab 1) (aa (fC (.int 0)) ae)))) (ag 3 cg (aa (ab 0) (aa (ab 1) (aa (fC (.int 1)) ae)))))))))
noncomputable def dq:List D->Option D:=bc jI 3
noncomputable abbrev rZ:List Str:=["world","plan"]
noncomputable def dF:ai->Option Out:=(av (j5 (ag 1 bz (aa (ab 0) ae))) (eX (bA (fB (ag 2 dq (aa (ab 0) (aa (ab 1) ae))))) Jo eU))
noncomputable def aR:List D->Option D:=bc dF 2
noncomputable abbrev oT:List Str:=["world","ways"]
noncomputable def dA:ai->Option Out:=(av (aB 1 [0] (f2 au (ab 0) (fC (.int 2)))) (aF (cw (o5 [1] (aa (aY bu (aa (ab 1) ae)) ae) (aH (aa (f2 au (f2 au (ab 1) (ab 0)) (fC (.int 1))) (aa (f2 au (f2 au (ab 1) (ab 0)) (fC (.int 0))) ae)))))))
noncomputable def aP:List D->Option D:=bc dA 2
noncomputable abbrev BF:List Str:=["world","ways"]
noncomputable def kN:ai->Option Out:=(av (j5 (ag 1 bz (aa (ab 0) ae))) (av (aK 1 [0] (ak 1 [0] (aS (ag 1 aP (aa (ab 0) ae))) (fG 0) (fun _=>some true) (f2 au (f2 au (ab 1) (fC (.int 2))) (ab 0)))) (aF (aH (aa (f2 au (ab 0) (fC (.int 1))) (aa (f2 au (ab 0) (fC (.int 0))) (aa (aY bF (aa (cw (ak 3 [] (aS (ab 1)) (Do 0 1 2) (fun _=>some true) (aH (aa (ab 1) (aa (ab 0) (aa (ab 2) ae)))))) ae)) ae)))))))
noncomputable def cR:List D->Option D:=bc kN 2
noncomputable abbrev pS:List Str:=["world","plan"]
noncomputable def d4:ai->Option Out:=(av (j5 (ag 2 aR (aa (ab 0) (aa (ab 1) ae)))) (aF (aY bF (aa (cw (ak 1 [1] (aS (ag 1 aP (aa (ab 0) ae))) (fG 0) (fun _=>some true) (f2 au (ab 1) (ab 0)))) ae))))
noncomputable def aQ:List D->Option D:=bc d4 2
noncomputable abbrev Gd:List Str:=["world","plan","giver"]
noncomputable def rG:ai->Option Out:=(av (j5 (ag 2 aR (aa (ab 0) (aa (ab 1) ae)))) (av (j5 (ag 2 bX (aa (ab 2) (aa (aY bu (aa (f2 au (ab 0) (fC (.int 0))) ae)) ae)))) (aF (ag 4 bD (aa (ab 0) (aa (ab 1) (aa (fC (.int 0)) (aa (ab 2) ae))))))))
noncomputable def j7:List D->Option D:=bc rG 3
noncomputable abbrev Fh:List Str:=["world","plan","taker"]
noncomputable def nH:ai->Option Out:=(av (j5 (ag 2 aR (aa (ab 0) (aa (ab 1) ae)))) (av (j5 (ag 2 bX (aa (ab 2) (aa (aY bu (aa (f2 au (ab 0) (fC (.int 1))) ae)) ae)))) (aF (ag 4 bD (aa (ab 0) (aa (ab 1) (aa (fC (.int 1)) (aa (ab 2) ae))))))))
noncomputable def iA:List D->Option D:=bc nH 3
noncomputable abbrev tI:List Str:=["world","plan","side","way","place","own","less_liked"]
noncomputable def eQ:ai->Option Out:=(av (aB 4 [0,2,3] (f2 au (f2 au (f2 au (ab 0) (fC (.int 2))) (ab 3)) (ab 2))) (av (eX (fB (f2 Av (ag 4 bD (aa (ab 0) (aa (ab 1) (aa (ab 2) (aa (ab 4) ae))))) (f2 au (f2 au (f2 au (ab 0) (ab 2)) (ab 4)) (fC (.int 0))))) (aF (fC (.bool true))) eU) (av (aB 5 [0,2,4] (ag 3 dU (aa (ab 0) (aa (ab 2) (aa (ab 4) ae))))) (av (aB 6 [3,5] (jL eN (ab 5) (vN (f2 aE (f2 mZ (ab 5) (ab 3)) (fC (.int 1)))) jN)) (aF (aY Rf.A9 (aa (cw (ak 1 [1] (aS (ab 6)) (fG 0) (fun _=>some true) (f2 xD (f2 au (ab 1) (ab 0)) (fC (.int 0))))) ae)))))))
noncomputable def bZ:List D->Option D:=bc eQ 7
noncomputable abbrev wN:List Str:=["world","plan","way"]
noncomputable def iC:ai->Option Out:=(av (eX (fB (f2 bS (f2 au (ab 1) (ab 2)) (f2 au (f2 au (f2 au (ab 0) (fC (.int 2))) (ab 2)) (fC (.int 2))))) (aF (fC (.str "full"))) eU) (av (eX (bA (fB (ag 4 bZ (aa (ab 0) (aa (ab 1) (aa (fC (.int 0)) (aa (ab 2) ae))))))) (aF (fC (.str "giver"))) eU) (av (eX (bA (fB (ag 4 bZ (aa (ab 0) (aa (ab 1) (aa (fC (.int 1)) (aa (ab 2) ae))))))) (aF (fC (.str "taker"))) eU) (aF (fC .none)))))
noncomputable def b8:List D->Option D:=bc iC 3
noncomputable abbrev mV:List Str:=["world","plan","way"]
noncomputable def cY:ai->Option Out:=(av (dW [1] (bG (aa (aY bu (aa (ab 1) ae)) ae)) (tN 2) (eX (fB (f2 m8 (ag 3 b8 (aa (ab 0) (aa (ab 1) (aa (ab 2) ae)))) (fC .none))) (aF (ab 2)) eU)) (aF (fC .none)))
noncomputable def cU:List D->Option D:=bc cY 3
noncomputable abbrev wL:List Str:=["world","plan"]
noncomputable def ib:ai->Option Out:=(aF (f2 m8 (ag 2 cU (aa (ab 0) (aa (ab 1) ae))) (fC .none)))
noncomputable def iD:List D->Option D:=bc ib 2
noncomputable abbrev yY:List Str:=["world","plan"]
noncomputable def jx:ai->Option Out:=(av (j5 (ag 2 aR (aa (ab 0) (aa (ab 1) ae)))) (aF (cw (ak 1 [0,1] (bG (aa (aY bu (aa (ab 1) ae)) ae)) (fG 0) (fB (f2 m8 (ag 3 b8 (aa (ab 1) (aa (ab 2) (aa (ab 0) ae)))) (fC .none))) (ab 0)))))
noncomputable def dY:List D->Option D:=bc jx 2
noncomputable abbrev DM:List Str:=["world","plan"]
noncomputable def nF:ai->Option Out:=(av (j5 (ag 2 aR (aa (ab 0) (aa (ab 1) ae)))) (aF (ag 2 iD (aa (ab 0) (aa (ab 1) ae)))))
noncomputable def hX:List D->Option D:=bc nF 2
noncomputable abbrev pM:List Str:=["world","other"]
noncomputable def d7:ai->Option Out:=(av (aB 1 [0] (ag 1 cR (aa (ab 0) ae))) (aF (ag 2 aQ (aa (ab 1) (aa (ag 1 bj (aa (ab 1) ae)) ae)))))
noncomputable def bN:List D->Option D:=bc d7 2
noncomputable abbrev uB:List Str:=["_law_world_here","_law_plan_here","_law_side","_law_place"]
noncomputable def jb:ai->Option Out:=(aF (aY pN (aa (cw (ak 2 [2,3] (eO (aa (ab 1) (aa (f2 au (ab 0) (fC (.int 2))) ae))) (fI 0 1) (fB (f2 bS (f2 au (ab 1) (ab 2)) (ab 3))) (ab 0))) ae)))
noncomputable def cI:List D->Option D:=bc jb 4
noncomputable abbrev uj:List Str:=["_law_world_here","_law_plan_here","_law_side","_law_place","_law_row"]
noncomputable def fV:ai->Option Out:=(av (dW [] (bG (aa (fC (.int 2)) ae)) (tN 2) (dW [0,2] (br (aa (f2 au (ab 0) (ab 2)) ae)) (eR 3 4) (eX (fB (f2 xD (ag 4 cI (aa (ab 0) (aa (ab 1) (aa (ab 2) (aa (ab 3) ae))))) (f2 au (ab 4) (fC (.int 0))))) (aF (fC (.bool false))) eU))) (aF (fC (.bool true))))
noncomputable def cF:List D->Option D:=bc fV 5
noncomputable abbrev uN:List Str:=["_law_script","_law_at","_law_world_here","_law_found","_law_k","_law_way","_law_more","_law_fit"]
noncomputable def fM:ai->Option Out:=(av (aB 3 [] (aH ae)) (av (dW [2] (br (aa (f2 au (ab 2) (fC (.int 2))) ae)) (eR 4 5) (av (aB 6 [0,1,3,4,5] (f2 aE (ab 3) (aH (aa (ag 3 aj (aa (ab 0) (aa (f2 aE (ab 1) (ab 4)) (aa (f2 aE (f2 au (ab 5) (fC (.int 2))) (fC (.int 1))) ae)))) ae)))) (av (aB 7 [2,6] (ag 2 cF (aa (ab 2) (aa (f2 aE (ab 6) (f2 dP (aH (aa (fC (.int 0)) ae)) (f2 Dl.fZ (aY bu (aa (f2 au (ab 2) (fC (.int 2))) ae)) (aY bu (aa (ab 6) ae))))) ae)))) (aB 3 [3,6,7] (FV (fB (ab 7)) (ab 6) (f2 aE (ab 3) (aH (aa (fC (.int 0)) ae)))))))) (aF (ab 3))))
noncomputable def eu:List D->Option D:=bc fM 8
noncomputable abbrev qw:List Str:=["_law_script","_law_world_here","_law_plan_here","_law_other","_law_back","_law_mine","_law_yours","_law_giver","_law_taker"]
noncomputable def jv:ai->Option Out:=(av (aB 1 [0] (ag 3 bM (aa (ab 0) (aa (fC (.int 0)) (aa (fC (.int 9)) ae))))) (av (aB 2 [0,1] (ag 3 eu (aa (ab 0) (aa (fC (.int 70)) (aa (ab 1) ae))))) (av (aB 3 [1] (ag 1 cR (aa (ab 1) ae))) (av (aB 4 [1,2] (ag 2 aQ (aa (ab 1) (aa (ab 2) ae)))) (av (eX (kl (fB (f2 dM (ag 1 cR (aa (ab 3) ae)) (ab 1))) (kl (fB (f2 dM (ag 2 aQ (aa (ab 3) (aa (ab 4) ae))) (ab 2))) (kl (bA (fB (ag 1 bg (aa (ab 3) ae)))) (bA (fB (ag 2 dq (aa (ab 3) (aa (ab 4) ae)))))))) (aF (fC (.bool false))) eU) (av (eX (fB (f2 dM (ag 2 hX (aa (ab 1) (aa (ab 2) ae))) (ag 2 hX (aa (ab 3) (aa (ab 4) ae))))) (aF (fC (.bool false))) eU) (av (aK 5 [1,2] (hV cx (aa (cw (ak 1 [1] (aS (ag 2 dY (aa (ab 1) (aa (ab 2) ae)))) (fG 0) (fun _=>some true) (jL eN (f2 au (f2 au (ab 1) (fC (.int 2))) (ab 0)) jN (vN (fC (.int 2)))))) ae))) (av (aK 6 [3,4] (hV cx (aa (cw (ak 1 [3] (aS (ag 2 dY (aa (ab 3) (aa (ab 4) ae)))) (fG 0) (fun _=>some true) (f1 qH (f2 au (f2 au (ab 1) (fC (.int 2))) (ab 0))))) ae))) (av (eX (fB (f2 dM (ab 5) (ab 6))) (aF (fC (.bool false))) eU) (av (dW [1] (bG (aa (aY bu (aa (f2 au (ab 1) (fC (.int 0))) ae)) ae)) (tN 7) (eX (fB (f2 dM (ag 3 j7 (aa (ab 1) (aa (ab 2) (aa (ab 7) ae)))) (ag 3 iA (aa (ab 3) (aa (ab 4) (aa (ab 7) ae)))))) (aF (fC (.bool false))) eU)) (av (dW [1] (bG (aa (aY bu (aa (f2 au (ab 1) (fC (.int 1))) ae)) ae)) (tN 8) (eX (fB (f2 dM (ag 3 iA (aa (ab 1) (aa (ab 2) (aa (ab 8) ae)))) (ag 3 j7 (aa (ab 3) (aa (ab 4) (aa (ab 8) ae)))))) (aF (fC (.bool false))) eU)) (av (eX (fB (f2 dM (ag 2 aQ (aa (ab 1) (aa (ag 1 bj (aa (ab 1) ae)) ae))) (ag 1 bN (aa (ab 3) ae)))) (aF (fC (.bool false))) eU) (aF (f2 bS (ag 2 aQ (aa (ab 1) (aa (ag 1 bN (aa (ab 1) ae)) ae))) (ag 1 bj (aa (ab 3) ae))))))))))))))))
noncomputable def gF:List D->Option D:=bc jv 9
end Pg
namespace K03
open PySem L2 Dl PySem.Spec PyProof.Rows
open Pg
noncomputable abbrev ka:Stmt:=top 8
noncomputable abbrev vR:Rf.Sg:=⟨[],[]⟩
theorem we:Rf.tW ka xh vR none=some kr:=by kernel_rfl
noncomputable abbrev ja:Stmt:=top 9
noncomputable abbrev ua:Rf.Sg:=⟨[("is_whole",3,aM)],[]⟩
theorem vp:Rf.tW ja tU ua none=some jh:=by kernel_rfl
noncomputable abbrev md:Stmt:=top 10
noncomputable abbrev zJ:Rf.Sg:=⟨[],[]⟩
theorem zp:Rf.tW md zm zJ none=some l5:=by kernel_rfl
noncomputable abbrev iQ:Stmt:=top 11
noncomputable abbrev vE:Rf.Sg:=⟨[("is_number",2,bK)],[]⟩
theorem uh:Rf.tW iQ uY vE none=some iR:=by kernel_rfl
noncomputable abbrev nY:Stmt:=top 12
noncomputable abbrev AG:Rf.Sg:=⟨[("is_long",3,aW),("is_whole",3,aM),("are_likes",2,eC)],[("MOST",9)]⟩
theorem A4:Rf.tW nY Bt AG none=some oC:=by kernel_rfl
noncomputable abbrev oK:Stmt:=top 13
noncomputable abbrev B5:Rf.Sg:=⟨[("is_long",3,aW),("is_number",2,bK),("is_whole",3,aM)],[("MOST",9)]⟩
theorem Cj:Rf.tW oK Bo B5 none=some o3:=by kernel_rfl
noncomputable abbrev ji:Stmt:=top 14
noncomputable abbrev ud:Rf.Sg:=⟨[("is_long",3,aW),("is_end",2,ej),("is_way",3,gE)],[("MOST_PLACES",4)]⟩
theorem ur:Rf.tW ji tZ ud none=some iP:=by kernel_rfl
noncomputable abbrev gv:Stmt:=top 15
noncomputable abbrev p5:Rf.Sg:=⟨[],[]⟩
theorem pK:Rf.tW gv pG p5 none=some fW:=by kernel_rfl
noncomputable abbrev kb:Stmt:=top 16
noncomputable abbrev wH:Rf.Sg:=⟨[("liked_pairs",1,bo),("is_long",3,aW),("are_parts",3,ee)],[]⟩
theorem xB:Rf.tW kb wA wH none=some fx:=by kernel_rfl
noncomputable abbrev lR:Stmt:=top 17
noncomputable abbrev zu:Rf.Sg:=⟨[],[]⟩
theorem zP:Rf.tW lR zc zu none=some l6:=by kernel_rfl
noncomputable abbrev eH:Stmt:=top 18
noncomputable abbrev m6:Rf.Sg:=⟨[("through",4,bD)],[]⟩
theorem m9:Rf.tW eH ng m6 none=some eK:=by kernel_rfl
noncomputable abbrev mw:Stmt:=top 19
noncomputable abbrev y3:Rf.Sg:=⟨[("is_long",3,aW),("keeps_amounts",3,cg),("is_whole",3,aM)],[]⟩
theorem z8:Rf.tW mw An y3 none=some jI:=by kernel_rfl
noncomputable abbrev gc:Stmt:=top 20
noncomputable abbrev pC:Rf.Sg:=⟨[("is_world",1,bg)],[]⟩
theorem pV:Rf.tW gc pF pC none=some cP:=by kernel_rfl
noncomputable abbrev iG:Stmt:=top 21
noncomputable abbrev tE:Rf.Sg:=⟨[("check_world",1,bz),("is_plan",2,dq)],[]⟩
theorem sR:Rf.tW iG rZ tE none=some dF:=by kernel_rfl
noncomputable abbrev gy:Stmt:=top 22
noncomputable abbrev pJ:Rf.Sg:=⟨[("is_whole",3,aM)],[]⟩
theorem p7:Rf.tW gy pU pJ none=some cQ:=by kernel_rfl
noncomputable abbrev fv:Stmt:=top 23
noncomputable abbrev nM:Rf.Sg:=⟨[("check_whole",3,d0)],[]⟩
theorem pe:Rf.tW fv n8 nM none=some cB:=by kernel_rfl
noncomputable abbrev ki:Stmt:=top 24
noncomputable abbrev xc:Rf.Sg:=⟨[],[]⟩
theorem xt:Rf.tW ki wb xc none=some jZ:=by kernel_rfl
noncomputable abbrev fq:Stmt:=top 25
noncomputable abbrev ow:Rf.Sg:=⟨[],[]⟩
theorem o6:Rf.tW fq oT ow (some "turned_order.<locals>.<lambda>")=some dA:=by kernel_rfl
noncomputable abbrev oi:Stmt:=top 26
noncomputable abbrev Bl:Rf.Sg:=⟨[("check_world",1,bz),("turned_order",1,aP)],[]⟩
theorem AA:Rf.tW oi BF Bl none=some kN:=by kernel_rfl
noncomputable abbrev fY:Stmt:=top 27
noncomputable abbrev pZ:Rf.Sg:=⟨[("check_plan",2,aR),("turned_order",1,aP)],[]⟩
theorem pO:Rf.tW fY pS pZ none=some d4:=by kernel_rfl
noncomputable abbrev vS:Stmt:=top 29
noncomputable abbrev IR:Rf.Sg:=⟨[("check_plan",2,aR),("check_number",2,bX),("through",4,bD)],[]⟩
theorem HX:Rf.tW vS Gd IR none=some rG:=by kernel_rfl
noncomputable abbrev tm:Stmt:=top 30
noncomputable abbrev EV:Rf.Sg:=⟨[("check_plan",2,aR),("check_number",2,bX),("through",4,bD)],[]⟩
theorem Dt:Rf.tW tm Fh EV none=some nH:=by kernel_rfl
noncomputable abbrev l9:Stmt:=top 31
noncomputable abbrev za:Rf.Sg:=⟨[],[]⟩
theorem y1:Rf.tW l9 zj za (some "ways_of.<locals>.<lambda>")=some js:=by kernel_rfl
noncomputable abbrev jm:Stmt:=top 32
noncomputable abbrev uf:Rf.Sg:=⟨[("ways_of",3,dU)],[]⟩
theorem vg:Rf.tW jm uO uf none=some fJ:=by kernel_rfl
noncomputable abbrev hZ:Stmt:=top 33
noncomputable abbrev tw:Rf.Sg:=⟨[("ways_of",3,dU),("through",4,bD)],[]⟩
theorem se:Rf.tW hZ tI tw none=some eQ:=by kernel_rfl
noncomputable abbrev ke:Stmt:=top 34
noncomputable abbrev xi:Rf.Sg:=⟨[("wants_more",4,bZ)],[]⟩
theorem vY:Rf.tW ke wN xi none=some iC:=by kernel_rfl
noncomputable abbrev eI:Stmt:=top 35
noncomputable abbrev mS:Rf.Sg:=⟨[("why_kept",3,b8)],[]⟩
theorem mY:Rf.tW eI mV mS none=some cY:=by kernel_rfl
noncomputable abbrev j8:Stmt:=top 36
noncomputable abbrev w4:Rf.Sg:=⟨[("first_leaving",2,cU)],[]⟩
theorem xk:Rf.tW j8 wL w4 none=some ib:=by kernel_rfl
noncomputable abbrev l0:Stmt:=top 37
noncomputable abbrev Ah:Rf.Sg:=⟨[("check_plan",2,aR),("why_kept",3,b8)],[]⟩
theorem zi:Rf.tW l0 yY Ah none=some jx:=by kernel_rfl
noncomputable abbrev sL:Stmt:=top 38
noncomputable abbrev Et:Rf.Sg:=⟨[("check_plan",2,aR),("is_still",2,iD)],[]⟩
theorem DB:Rf.tW sL DM Et none=some nF:=by kernel_rfl
noncomputable abbrev eL:Stmt:=top 40
noncomputable abbrev mU:Rf.Sg:=⟨[("chosen_by",4,dg)],[]⟩
theorem mW:Rf.tW eL ni mU none=some cT:=by kernel_rfl
noncomputable abbrev oQ:Stmt:=top 41
noncomputable abbrev Cf:Rf.Sg:=⟨[],[]⟩
theorem BB:Rf.tW oQ AJ Cf none=some oo:=by kernel_rfl
noncomputable abbrev lP:Stmt:=top 42
noncomputable abbrev zT:Rf.Sg:=⟨[("replaced",3,ik)],[]⟩
theorem z7:Rf.tW lP y2 zT none=some me:=by kernel_rfl
noncomputable abbrev lO:Stmt:=top 43
noncomputable abbrev zH:Rf.Sg:=⟨[("chosen_by_all",3,aU)],[]⟩
theorem zv:Rf.tW lO zK zH none=some jE:=by kernel_rfl
noncomputable abbrev tH:Stmt:=top 44
noncomputable abbrev Fb:Rf.Sg:=⟨[("limits",1,eB),("refused",2,dm),("lowered",3,bV)],[]⟩
theorem Ft:Rf.tW tH Eu Fb none=some nA:=by kernel_rfl
noncomputable abbrev nL:Stmt:=top 45
noncomputable abbrev AK:Rf.Sg:=⟨[("limits",1,eB),("lowered",3,bV)],[]⟩
theorem Df:Rf.tW nL Ay AK none=some lF:=by kernel_rfl
noncomputable abbrev gz:Stmt:=top 46
noncomputable abbrev pD:Rf.Sg:=⟨[("check_world",1,bz),("chosen_by_all",3,aU),("capped",2,kJ),("steps",1,nv)],[]⟩
theorem pH:Rf.tW gz pQ pD none=some d5:=by kernel_rfl
noncomputable abbrev gp:Stmt:=top 47
noncomputable abbrev qb:Rf.Sg:=⟨[("turned",1,cR),("turned_plan",2,aQ),("givers_best",1,bj)],[]⟩
theorem p8:Rf.tW gp pM qb none=some d7:=by kernel_rfl
noncomputable abbrev jg:Stmt:=top 49
noncomputable abbrev vf:Rf.Sg:=⟨[],[]⟩
theorem tQ:Rf.tW jg uM vf none=some fO:=by kernel_rfl
noncomputable abbrev ip:Stmt:=top 50
noncomputable abbrev sd:Rf.Sg:=⟨[("_law_cell",2,dh)],[]⟩
theorem sg:Rf.tW ip sT sd none=some iB:=by kernel_rfl
noncomputable abbrev gu:Stmt:=top 51
noncomputable abbrev qg:Rf.Sg:=⟨[("_law_drawn",3,aj)],[]⟩
theorem pI:Rf.tW gu qd qg none=some gn:=by kernel_rfl
noncomputable abbrev iu:Stmt:=top 52
noncomputable abbrev sG:Rf.Sg:=⟨[("_law_orders",3,bB),("_law_drawn",3,aj)],[]⟩
theorem rP:Rf.tW iu rS sG none=some dB:=by kernel_rfl
noncomputable abbrev iW:Stmt:=top 53
noncomputable abbrev uF:Rf.Sg:=⟨[],[]⟩
theorem vz:Rf.tW iW uB uF none=some jb:=by kernel_rfl
noncomputable abbrev je:Stmt:=top 54
noncomputable abbrev vC:Rf.Sg:=⟨[("_law_used",4,cI)],[]⟩
theorem uG:Rf.tW je uj vC none=some fV:=by kernel_rfl
noncomputable abbrev kF:Stmt:=top 55
noncomputable abbrev jf:Stmt:=top 56
noncomputable abbrev u4:Rf.Sg:=⟨[("_law_fits",2,cF),("_law_drawn",3,aj)],[]⟩
theorem tR:Rf.tW jf uN u4 none=some fM:=by kernel_rfl
noncomputable abbrev Da:Stmt:=top 57
noncomputable abbrev JQ:Rf.Sg:=⟨[("_law_world",3,bM),("_law_plan",3,eu),("turned",1,cR),("turned_plan",2,aQ),("rests",2,hX),("takers_best",1,bN),("givers_best",1,bj),("is_world",1,bg),("is_plan",2,dq),("sent",3,j7),("taken",3,iA),("leaving",2,dY)],[]⟩
theorem JK:Rf.tW Da qw JQ none=some jv:=by kernel_rfl
structure Ki (K:PySem.W.Frag):Prop where
 c0:aG K "is_whole" ka ["thing","least","most"]
 c1:aG K "is_number" ja ["thing","many"]
 c2:aG K "is_long" md ["thing","least","most"]
 c3:aG K "are_likes" iQ ["thing","many"]
 c4:aG K "is_end" nY ["thing","many"]
 c5:aG K "is_way" oK ["thing","givers","takers"]
 c6:aG K "are_parts" ji ["givers","takers","ways"]
 c7:aG K "liked_pairs" gv ["places"]
 c8:aG K "is_world" kb ["thing"]
 c9:aG K "through" lR ["world","plan","side","place"]
 c10:aG K "keeps_amounts" eH ["world","plan","side"]
 c11:aG K "is_plan" mw ["world","thing"]
 c12:aG K "check_world" gc ["world"]
 c13:aG K "check_plan" iG ["world","plan"]
 c14:aG K "check_whole" gy ["thing","least","most"]
 c15:aG K "check_number" fv ["thing","many"]
 c16:aG K "replaced" ki ["parts","number","part"]
 c17:mR K "turned_order" fq ["world"]
 c18:aG K "turned" oi ["world"]
 c19:aG K "turned_plan" fY ["world","plan"]
 c20:aG K "sent" vS ["world","plan","giver"]
 c21:aG K "taken" tm ["world","plan","taker"]
 c22:mR K "ways_of" l9 ["world","side","place"]
 c23:aG K "chosen_by" jm ["world","side","place","offers"]
 c24:aG K "wants_more" hZ ["world","plan","side","way"]
 c25:aG K "why_kept" ke ["world","plan","way"]
 c26:aG K "first_leaving" eI ["world","plan"]
 c27:aG K "is_still" j8 ["world","plan"]
 c28:aG K "leaving" l0 ["world","plan"]
 c29:aG K "rests" sL ["world","plan"]
 c30:aG K "chosen_by_all" eL ["world","side","offers"]
 c31:aG K "limits" oQ ["world"]
 c32:aG K "lowered" lP ["caps","way","cap"]
 c33:aG K "refused" lO ["world","caps"]
 c34:aG K "steps" tH ["world"]
 c35:aG K "capped" nL ["world","rows"]
 c36:aG K "givers_best" gz ["world"]
 c37:aG K "takers_best" gp ["world"]
 c38:aG K "_law_cell" jg ["_law_script","_law_k"]
 c39:aG K "_law_drawn" ip ["_law_script","_law_k","_law_many"]
 c40:aG K "_law_orders" gu ["_law_script","_law_at","_law_rows"]
 c41:aG K "_law_world" iu ["_law_script","_law_at","_law_most"]
 c42:aG K "_law_used" iW ["_law_world_here","_law_plan_here","_law_side","_law_place"]
 c43:aG K "_law_fits" je ["_law_world_here","_law_plan_here"]
 c44:aG K "_law_plans" kF ["_law_world_here"]
 c45:aG K "_law_plan" jf ["_law_script","_law_at","_law_world_here"]
 c46:aG K "law" Da ["_law_script"]
 i_MOST_PLACES:∃t,PySem.W.nsIn K mainGlobals "MOST_PLACES"=some (some (.int 4 t))
 i_MOST:∃t,PySem.W.nsIn K mainGlobals "MOST"=some (some (.int 9 t))
 b:∀x∈cH,PySem.W.nsIn K mainGlobals x=some none
structure bH (K:PySem.W.Frag) (mg:Str->Option Value):Prop where
 c0:bE K mg "is_whole" ka ["thing","least","most"]
 c1:bE K mg "is_number" ja ["thing","many"]
 c2:bE K mg "is_long" md ["thing","least","most"]
 c3:bE K mg "are_likes" iQ ["thing","many"]
 c4:bE K mg "is_end" nY ["thing","many"]
 c5:bE K mg "is_way" oK ["thing","givers","takers"]
 c6:bE K mg "are_parts" ji ["givers","takers","ways"]
 c7:bE K mg "liked_pairs" gv ["places"]
 c8:bE K mg "is_world" kb ["thing"]
 c9:bE K mg "through" lR ["world","plan","side","place"]
 c10:bE K mg "keeps_amounts" eH ["world","plan","side"]
 c11:bE K mg "is_plan" mw ["world","thing"]
 c12:bE K mg "check_world" gc ["world"]
 c13:bE K mg "check_plan" iG ["world","plan"]
 c14:bE K mg "check_whole" gy ["thing","least","most"]
 c15:bE K mg "check_number" fv ["thing","many"]
 c16:bE K mg "replaced" ki ["parts","number","part"]
 c17:Bm K mg "turned_order" fq ["world"]
 c18:bE K mg "turned" oi ["world"]
 c19:bE K mg "turned_plan" fY ["world","plan"]
 c20:bE K mg "sent" vS ["world","plan","giver"]
 c21:bE K mg "taken" tm ["world","plan","taker"]
 c22:Bm K mg "ways_of" l9 ["world","side","place"]
 c23:bE K mg "chosen_by" jm ["world","side","place","offers"]
 c24:bE K mg "wants_more" hZ ["world","plan","side","way"]
 c25:bE K mg "why_kept" ke ["world","plan","way"]
 c26:bE K mg "first_leaving" eI ["world","plan"]
 c27:bE K mg "is_still" j8 ["world","plan"]
 c28:bE K mg "leaving" l0 ["world","plan"]
 c29:bE K mg "rests" sL ["world","plan"]
 c30:bE K mg "chosen_by_all" eL ["world","side","offers"]
 c31:bE K mg "limits" oQ ["world"]
 c32:bE K mg "lowered" lP ["caps","way","cap"]
 c33:bE K mg "refused" lO ["world","caps"]
 c34:bE K mg "steps" tH ["world"]
 c35:bE K mg "capped" nL ["world","rows"]
 c36:bE K mg "givers_best" gz ["world"]
 c37:bE K mg "takers_best" gp ["world"]
 c38:bE K mg "_law_cell" jg ["_law_script","_law_k"]
 c39:bE K mg "_law_drawn" ip ["_law_script","_law_k","_law_many"]
 c40:bE K mg "_law_orders" gu ["_law_script","_law_at","_law_rows"]
 c41:bE K mg "_law_world" iu ["_law_script","_law_at","_law_most"]
 c42:bE K mg "_law_used" iW ["_law_world_here","_law_plan_here","_law_side","_law_place"]
 c43:bE K mg "_law_fits" je ["_law_world_here","_law_plan_here"]
 c44:bE K mg "_law_plans" kF ["_law_world_here"]
 c45:bE K mg "_law_plan" jf ["_law_script","_law_at","_law_world_here"]
 c46:bE K mg "law" Da ["_law_script"]
 i_MOST_PLACES:∃t,mg "MOST_PLACES"=some (.int 4 t)
 i_MOST:∃t,mg "MOST"=some (.int 9 t)
 b:∀x∈cH,mg x=none
theorem Ki.defs {K:PySem.W.Frag}{h:Heap}{mg:Str->Option Value}(I:Ki K) (X:K.In h) (G:h.Ns mainGlobals mg):bH K mg :=
 ⟨I.c0.mg X G,I.c1.mg X G,I.c2.mg X G,I.c3.mg X G,I.c4.mg X G,I.c5.mg X G,I.c6.mg X G,I.c7.mg X G,I.c8.mg X G,I.c9.mg X G,I.c10.mg X G,I.c11.mg X G,I.c12.mg X G,I.c13.mg X G,I.c14.mg X G,I.c15.mg X G,I.c16.mg X G,I.c17.mg X G,I.c18.mg X G,I.c19.mg X G,I.c20.mg X G,I.c21.mg X G,I.c22.mg X G,I.c23.mg X G,I.c24.mg X G,I.c25.mg X G,I.c26.mg X G,I.c27.mg X G,I.c28.mg X G,I.c29.mg X G,I.c30.mg X G,I.c31.mg X G,I.c32.mg X G,I.c33.mg X G,I.c34.mg X G,I.c35.mg X G,I.c36.mg X G,I.c37.mg X G,I.c38.mg X G,I.c39.mg X G,I.c40.mg X G,I.c41.mg X G,I.c42.mg X G,I.c43.mg X G,I.c44.mg X G,I.c45.mg X G,I.c46.mg X G,(let ⟨t,h⟩:=I.i_MOST_PLACES;⟨t,PySem.W.mg_of X G h⟩),(let ⟨t,h⟩:=I.i_MOST;⟨t,PySem.W.mg_of X G h⟩),fun x hx=>PySem.W.mg_none_of X G (I.b x hx)⟩
section
variable {P:Program}{w:World}{K:PySem.W.Frag}{mg:Str->Option Value}{base:Heap}
theorem ft (D:bH K mg):du P w K mg base 1 "is_whole" 3 aM:=Rf.fX (j:=0) D.c0 D.b Rf.bI Rf.bJ we
theorem mI (D:bH K mg):du P w K mg base 2 "is_number" 2 bK:=Rf.fX (j:=1) D.c1 D.b (Rf.fm (ft D) Rf.bI) Rf.bJ vp
theorem gH (D:bH K mg):du P w K mg base 1 "is_long" 3 aW:=Rf.fX (j:=0) D.c2 D.b Rf.bI Rf.bJ zp
theorem vm (D:bH K mg):du P w K mg base 3 "are_likes" 2 eC:=Rf.fX (j:=2) D.c3 D.b (Rf.fm (mI D) Rf.bI) Rf.bJ uh
theorem BA (D:bH K mg):du P w K mg base 4 "is_end" 2 ej:=Rf.fX (j:=3) D.c4 D.b (Rf.fm (gH D) (Rf.fm (ft D) (Rf.fm (vm D) Rf.bI))) (Rf.A0 D.i_MOST Rf.bJ) A4
theorem BK (D:bH K mg):du P w K mg base 3 "is_way" 3 gE:=Rf.fX (j:=2) D.c5 D.b (Rf.fm (gH D) (Rf.fm (mI D) (Rf.fm (ft D) Rf.bI))) (Rf.A0 D.i_MOST Rf.bJ) Cj
theorem uZ (D:bH K mg):du P w K mg base 5 "are_parts" 3 ee:=Rf.fX (j:=4) D.c6 D.b (Rf.fm (gH D) (Rf.fm (BA D) (Rf.fm (BK D) Rf.bI))) (Rf.A0 D.i_MOST_PLACES Rf.bJ) ur
theorem pL (D:bH K mg):du P w K mg base 1 "liked_pairs" 1 bo:=Rf.fX (j:=0) D.c7 D.b Rf.bI Rf.bJ pK
theorem oV (D:bH K mg):du P w K mg base 6 "is_world" 1 bg:=Rf.fX (j:=5) D.c8 D.b (Rf.fm (pL D) (Rf.fm (gH D) (Rf.fm (uZ D) Rf.bI))) Rf.bJ xB
theorem jy (D:bH K mg):du P w K mg base 1 "through" 4 bD:=Rf.fX (j:=0) D.c9 D.b Rf.bI Rf.bJ zP
theorem nh (D:bH K mg):du P w K mg base 2 "keeps_amounts" 3 cg:=Rf.fX (j:=1) D.c10 D.b (Rf.fm (jy D) Rf.bI) Rf.bJ m9
theorem rC (D:bH K mg):du P w K mg base 3 "is_plan" 2 dq:=Rf.fX (j:=2) D.c11 D.b (Rf.fm (gH D) (Rf.fm (nh D) (Rf.fm (ft D) Rf.bI))) Rf.bJ z8
theorem gg (D:bH K mg):du P w K mg base 7 "check_world" 1 bz:=Rf.fX (j:=6) D.c12 D.b (Rf.fm (oV D) Rf.bI) Rf.bJ pV
theorem dy (D:bH K mg):du P w K mg base 8 "check_plan" 2 aR:=Rf.fX (j:=7) D.c13 D.b (Rf.fm (gg D) (Rf.fm (rC D) Rf.bI)) Rf.bJ sR
theorem pX (D:bH K mg):du P w K mg base 2 "check_whole" 3 d0:=Rf.fX (j:=1) D.c14 D.b (Rf.fm (ft D) Rf.bI) Rf.bJ p7
theorem iS (D:bH K mg):du P w K mg base 3 "check_number" 2 bX:=Rf.fX (j:=2) D.c15 D.b (Rf.fm (pX D) Rf.bI) Rf.bJ pe
theorem xq (D:bH K mg):du P w K mg base 1 "replaced" 3 ik:=Rf.fX (j:=0) D.c16 D.b Rf.bI Rf.bJ xt
theorem jn (D:bH K mg):du P w K mg base 4 "turned_order" 1 aP:=Rf.LG (j:=0) D.c17 D.b Rf.bI Rf.bJ o6
theorem uI (D:bH K mg):du P w K mg base 8 "turned" 1 cR:=Rf.fX (j:=7) D.c18 D.b (Rf.fm (gg D) (Rf.fm (jn D) Rf.bI)) Rf.bJ AA
theorem jS (D:bH K mg):du P w K mg base 9 "turned_plan" 2 aQ:=Rf.fX (j:=8) D.c19 D.b (Rf.fm (dy D) (Rf.fm (jn D) Rf.bI)) Rf.bJ pO
theorem IL (D:bH K mg):du P w K mg base 9 "sent" 3 j7:=Rf.fX (j:=8) D.c20 D.b (Rf.fm (dy D) (Rf.fm (iS D) (Rf.fm (jy D) Rf.bI))) Rf.bJ HX
theorem Fc (D:bH K mg):du P w K mg base 9 "taken" 3 iA:=Rf.fX (j:=8) D.c21 D.b (Rf.fm (dy D) (Rf.fm (iS D) (Rf.fm (jy D) Rf.bI))) Rf.bJ Dt
theorem qv (D:bH K mg):du P w K mg base 4 "ways_of" 3 dU:=Rf.LG (j:=0) D.c22 D.b Rf.bI Rf.bJ y1
theorem va (D:bH K mg):du P w K mg base 5 "chosen_by" 4 dg:=Rf.fX (j:=4) D.c23 D.b (Rf.fm (qv D) Rf.bI) Rf.bJ vg
theorem sN (D:bH K mg):du P w K mg base 5 "wants_more" 4 bZ:=Rf.fX (j:=4) D.c24 D.b (Rf.fm (qv D) (Rf.fm (jy D) Rf.bI)) Rf.bJ se
theorem nN (D:bH K mg):du P w K mg base 6 "why_kept" 3 b8:=Rf.fX (j:=5) D.c25 D.b (Rf.fm (sN D) Rf.bI) Rf.bJ vY
theorem mX (D:bH K mg):du P w K mg base 7 "first_leaving" 2 cU:=Rf.fX (j:=6) D.c26 D.b (Rf.fm (nN D) Rf.bI) Rf.bJ mY
theorem v9 (D:bH K mg):du P w K mg base 8 "is_still" 2 iD:=Rf.fX (j:=7) D.c27 D.b (Rf.fm (mX D) Rf.bI) Rf.bJ xk
theorem yV (D:bH K mg):du P w K mg base 9 "leaving" 2 dY:=Rf.fX (j:=8) D.c28 D.b (Rf.fm (dy D) (Rf.fm (nN D) Rf.bI)) Rf.bJ zi
theorem Fp (D:bH K mg):du P w K mg base 9 "rests" 2 hX:=Rf.fX (j:=8) D.c29 D.b (Rf.fm (dy D) (Rf.fm (v9 D) Rf.bI)) Rf.bJ DB
theorem iK (D:bH K mg):du P w K mg base 6 "chosen_by_all" 3 aU:=Rf.fX (j:=5) D.c30 D.b (Rf.fm (va D) Rf.bI) Rf.bJ mW
theorem uR (D:bH K mg):du P w K mg base 1 "limits" 1 eB:=Rf.fX (j:=0) D.c31 D.b Rf.bI Rf.bJ BB
theorem qj (D:bH K mg):du P w K mg base 2 "lowered" 3 bV:=Rf.fX (j:=1) D.c32 D.b (Rf.fm (xq D) Rf.bI) Rf.bJ z7
theorem y4 (D:bH K mg):du P w K mg base 7 "refused" 2 dm:=Rf.fX (j:=6) D.c33 D.b (Rf.fm (iK D) Rf.bI) Rf.bJ zv
theorem Ex (D:bH K mg):du P w K mg base 8 "steps" 1 nv:=Rf.fX (j:=7) D.c34 D.b (Rf.fm (uR D) (Rf.fm (y4 D) (Rf.fm (qj D) Rf.bI))) Rf.bJ Ft
theorem A2 (D:bH K mg):du P w K mg base 3 "capped" 2 kJ:=Rf.fX (j:=2) D.c35 D.b (Rf.fm (uR D) (Rf.fm (qj D) Rf.bI)) Rf.bJ Df
theorem jT (D:bH K mg):du P w K mg base 9 "givers_best" 1 bj:=Rf.fX (j:=8) D.c36 D.b (Rf.fm (gg D) (Rf.fm (iK D) (Rf.fm (A2 D) (Rf.fm (Ex D) Rf.bI)))) Rf.bJ pH
theorem pW (D:bH K mg):du P w K mg base 10 "takers_best" 1 bN:=Rf.fX (j:=9) D.c37 D.b (Rf.fm (uI D) (Rf.fm (jS D) (Rf.fm (jT D) Rf.bI))) Rf.bJ p8
theorem vI (D:bH K mg):du P w K mg base 1 "_law_cell" 2 dh:=Rf.fX (j:=0) D.c38 D.b Rf.bI Rf.bJ tQ
theorem iF (D:bH K mg):du P w K mg base 2 "_law_drawn" 3 aj:=Rf.fX (j:=1) D.c39 D.b (Rf.fm (vI D) Rf.bI) Rf.bJ sg
theorem p9 (D:bH K mg):du P w K mg base 3 "_law_orders" 3 bB:=Rf.fX (j:=2) D.c40 D.b (Rf.fm (iF D) Rf.bI) Rf.bJ pI
theorem rQ (D:bH K mg):du P w K mg base 4 "_law_world" 3 bM:=Rf.fX (j:=3) D.c41 D.b (Rf.fm (p9 D) (Rf.fm (iF D) Rf.bI)) Rf.bJ rP
theorem uV (D:bH K mg):du P w K mg base 1 "_law_used" 4 cI:=Rf.fX (j:=0) D.c42 D.b Rf.bI Rf.bJ vz
theorem uL (D:bH K mg):du P w K mg base 2 "_law_fits" 2 cF:=Rf.fX (j:=1) D.c43 D.b (Rf.fm (uV D) Rf.bI) Rf.bJ uG
theorem vF (D:bH K mg):du P w K mg base 3 "_law_plan" 3 eu:=Rf.fX (j:=2) D.c45 D.b (Rf.fm (uL D) (Rf.fm (iF D) Rf.bI)) Rf.bJ tR
end
theorem Ij {P:Program}{w:World}{K:PySem.W.Frag}{h:Heap}{mg:Str->Option Value}{fa:Addr}(X:K.In h) (G:h.Ns mainGlobals mg) (hfa:mg "law"=some (.ref fa)) (I:Ki K):∃fd:FuncData,(∀ (s:Shared) (v:Value),BindsTo s fd ⟨[v],[]⟩ [("_law_script",v)])/\∀base:Heap,K.In base->base.Ns mainGlobals mg->j1 P w K mg base FS 11 fa fd ["_law_script"] (JL K 1 gF):=by
 have D:=I.defs X G
 obtain⟨f,fd,hm,F,hb⟩:=D.c46.ex
 rw[hfa] at hm;cases hm
 refine⟨fd,fun s v=>?_,fun base _ _=>FY F (Rf.Ll (N:=qw)) fun X hP hw hK hm' hb' C _ _ HF H=>by subst hP;subst hw;subst hK;subst hm';subst hb';exact Rf.FO (j:=10) C D.b (Rf.fm (rQ D) (Rf.fm (vF D) (Rf.fm (uI D) (Rf.fm (jS D) (Rf.fm (Fp D) (Rf.fm (pW D) (Rf.fm (jT D) (Rf.fm (oV D) (Rf.fm (rC D) (Rf.fm (IL D) (Rf.fm (Fc D) (Rf.fm (yV D) Rf.bI)))))))))))) Rf.bJ JK⟩
 obtain⟨oc,od,kV,doc,pm,an,cdv,ct,osl,rfl,lk,hcd⟩:=F.ex
 exact .of_eq rfl
theorem walk {l:PySem.W.OpenLaw}{q:Program}{loose:List Str}{XP:(Str->Option Value)->Heap->Prop}{YP:World->Heap->Prop}{d:DefRec}{K:Params->PySem.W.Frag}{ts:List Addr}(hn:l.most=some 63) (hdf:d.params.defaults=[]) (hname:d.name="law")
  (hY:∀ (w:World) (h:Heap),YP w h->(K w.params).In h/\∀P∈ts,h.get? P=some (PySem.W.tabObj #[])) (ht:∀w:World,lx (K w.params) ts=true) (hI:∀w:World,Ki (K w.params)) (main:∀ns:List Int,ns.length<=63->gF [.list (ns.map PyData.int)]=some (.bool true)) :
  PySem.W.WalkO q loose XP YP l.row.toRowW d [] (fun f vs=>PySem.call f vs) :=
 AL (n:=63) (k:=11) (x:="_law_script") (CX:=fun _=>FS) (sp:=fun w=>JL (K w.params) 1 gF) hn (by decide) hdf ⟨rfl,by decide,by decide⟩ hY ht (fun w mg fa h KX G hmg=>Ij KX G (by rw[<- hname];exact hmg) (hI w)) (fun _ _ a ns hl hT hS=>wz hS hT (main ns hl)) fun _ _ _ _ _ z=>z
end K03
namespace Dl
open PySem L2 PySem.Spec PyProof.Rows
noncomputable def uq:D->Prop|.none=>True|.bool _=>True|.int _=>True|.str x=>PyData.canLay0 (.str x)=true|_=>False
noncomputable def ie (b:Nat):Nat->D->Prop
 | 0,d=>uq d
 | k+1,d=>uq d\/(∃xs,(d=.list xs\/d=.tuple xs)/\xs.length<=b/\∀x∈xs,ie b k x)
theorem ie.leaf {b k:Nat}{d:D}(h:uq d):ie b k d:=by
 cases k with
 | zero=>exact h
 | succ k=>exact .inl h
theorem ie.tup {b k:Nat}{xs:List D}(hb:xs.length<=b) (h:∀x∈xs,ie b k x):ie b (k+1) (.tuple xs):=.inr ⟨xs,.inr rfl,hb,h⟩
theorem ie.lst {b k:Nat}{xs:List D}(hb:xs.length<=b) (h:∀x∈xs,ie b k x):ie b (k+1) (.list xs):=.inr ⟨xs,.inl rfl,hb,h⟩
theorem ie.of_tup {b k:Nat}{xs:List D}(h:ie b k (.tuple xs)):∃j,k=j+1/\xs.length<=b/\∀x∈xs,ie b j x:=by
 cases k with
 | zero=>cases h
 | succ k =>
  rcases h with h|⟨ys,h|h,h1,h2⟩
  ·cases h
  ·cases h
  ·cases h;exact⟨k,rfl,h1,h2⟩
theorem ie.mono {b b':Nat}(hb:b<=b'):∀ {k k':Nat}{d:D},k<=k'->ie b k d->ie b' k' d
 | 0,k',d,_,h=>.leaf h
 | k+1,0,d,hk,h=>by omega
 | k+1,k'+1,d,hk,h=>by
  rcases h with h|⟨xs,h,h1,h2⟩
  ·exact .inl h
  ·exact .inr ⟨xs,h,Nat.le_trans h1 hb,fun x hx=>(h2 x hx).mono hb (by omega)⟩
theorem x3 {b k:Nat}:∀ {xs:List D},(∀x∈xs,PyData.canLay0 x=true/\x.depth<=k)->PyData.canLayAll0 xs=true/\PyData.depthAll xs<=k
 | [],_=>⟨by simp[PyData.canLayAll0],by simp[PyData.depthAll]⟩
 | x::xs,h=>by
  obtain⟨a,c⟩:=x3 (b:=b) (xs:=xs) fun y hy=>h y (List.mem_cons_of_mem _ hy)
  obtain⟨a',c'⟩:=h x List.mem_cons_self
  exact⟨by simp[PyData.canLayAll0,a,a'],by simp[PyData.depthAll];omega⟩
theorem ie.lay {b:Nat}:∀ {k:Nat}{d:D},ie b k d->PyData.canLay0 d=true/\d.depth<=k:=by
 have lf:∀ {k:Nat}{d:D},uq d->PyData.canLay0 d=true/\d.depth<=k:=fun {k d} h=>by
  cases d<;>simp only[uq] at h<;>first|exact⟨h,by simp[PyData.depth]⟩|exact⟨by simp[PyData.canLay0],by simp[PyData.depth]⟩
 intro k
 induction k with
 | zero=>exact fun h=>lf h
 | succ k ih =>
  intro d h
  rcases h with h|⟨xs,h,h1,h2⟩
  ·exact lf h
  ·obtain⟨a,c⟩:=x3 (b:=b) (xs:=xs) fun y hy=>ih (h2 y hy)
   rcases h with rfl|rfl
   ·exact⟨by simp[PyData.canLay0,a],by simp[PyData.depth];omega⟩
   ·exact⟨by simp[PyData.canLay0,a],by simp[PyData.depth];omega⟩
theorem ie.shaped {b k:Nat}{d:D}(h:ie b k d) (hk:k<=64):SeqAt.shaped d=true:=by
 obtain⟨a,c⟩:=h.lay
 simp[SeqAt.shaped,a];omega
theorem ie.noDict {b k:Nat}{d:D}(h:ie b k d):∀kv,d≠.dict kv:=by
 rintro kv rfl
 have:=h.lay.1
 simp[PyData.canLay0] at this
noncomputable def my:D->Bool|.dict _=>false|_=>true
theorem ie.nd {b k:Nat}{d:D}(h:ie b k d):my d=true:=by
 cases d<;>first|rfl|exact absurd rfl (h.noDict _)
noncomputable def LK:D->Bool|.int _=>true|.bool _=>true|_=>false
noncomputable def LO:D->Bool|.bool _=>true|_=>false
noncomputable def FM:D->Bool|.tuple _=>true|_=>false
theorem kI {d:D}(h:my d=true):sA (f7 d) "int"=some (LK d):=by cases d<;>first|cases h;done|exact Fu _ (by simp[f7])
theorem kB {d:D}(h:my d=true):sA (f7 d) "bool"=some (LO d):=by cases d<;>first|cases h;done|exact C4 _ (by simp[f7])
theorem kT {d:D}(h:my d=true):sA (f7 d) "tuple"=some (FM d):=by cases d<;>first|cases h;done|exact kit_tuple _ (by simp[f7])
noncomputable def whole (a b:Int):D->Bool|.int i=>decide (a<=i)&&decide (i<=b)|_=>false
theorem qN {tgt:Env->D->Option Env}{te:Env->Option D}{ρ:Env}{h:D->D}:∀ {ds:List D},(∀d∈ds,∃ρ',tgt ρ d=some ρ'/\te ρ'=some (h d))->cq tgt (fun _=>some true) te ρ ds=some (ds.map h)
 | [],_=>rfl
 | d::ds,hh=>by
  obtain⟨ρ',h1,h2⟩:=hh d List.mem_cons_self
  have ih:=qN (ds:=ds) fun y hy=>hh y (List.mem_cons_of_mem _ hy)
  unfold cq
  rw[h1]
  simp[h2,ih]
theorem kY {tgt:Env->D->Option Env}{tt:Env->Option Bool}{te:Env->Option D}{ρ:Env}{p:D->Bool}{h:D->D}:∀ {ds:List D},(∀d∈ds,∃ρ',tgt ρ d=some ρ'/\tt ρ'=some (p d)/\(p d=true->te ρ'=some (h d)))->cq tgt tt te ρ ds=some ((ds.filter p).map h)
 | [],_=>rfl
 | d::ds,hh=>by
  obtain⟨ρ',h1,h2,h3⟩:=hh d List.mem_cons_self
  have ih:=kY (ds:=ds) fun y hy=>hh y (List.mem_cons_of_mem _ hy)
  unfold cq
  rw[h1]
  simp only[Option.bind_some,h2]
  cases hp:p d with
  | true=>rw[if_pos rfl,h3 hp];simp[ih,List.filter_cons,hp]
  | false=>simp[ih,List.filter_cons,hp]
theorem mL {p:D->Bool}:∀ds:List D,boolsOf (ds.map fun d=>.bool (p d))=some (ds.map p)
 | []=>rfl
 | d::ds=>by simp[boolsOf,mL ds]
theorem lg {p:D->Bool}(ds:List D):lH [.list (ds.map fun d=>.bool (p d))]=some (.bool (ds.all p)):=by
 simp only[lH,oneOf,Option.bind_some,mL,Option.map_some,List.all_map]
 rfl
theorem bq {ds:List D}(h:ds.length<=4000):small ds=some ds:=if_pos (Nat.le_trans h (by decide))
theorem kU {ds:List D}{i:Nat}(h:i < ds.length):sH ds (i:Nat)=some (ds.getD i .none):=by
 have:=sZ (xs:=ds) (j:=i) (v:=ds[i]) (List.getElem?_eq_some_iff.mpr ⟨h,rfl⟩)
 rw[this]
 simp[List.getD,h]
theorem yF {ds:List D}(h:0 < ds.length):sH ds 0=some (ds.getD 0 .none):=kU (i:=0) h
theorem u3 {ds:List D}(h:1 < ds.length):sH ds 1=some (ds.getD 1 .none):=kU (i:=1) h
theorem FX {ds:List D}(h:2 < ds.length):sH ds 2=some (ds.getD 2 .none):=kU (i:=2) h
end Dl
namespace Wm
open PySem L2 Dl PySem.Spec PyProof.Rows Pg
theorem vJ {fa fb fc:Dl.Env->Option D}{ρ:Dl.Env}{a i b:Int}(ha:fa ρ=some (.int a)) (hb:fb ρ=some (.int i)) (hc:fc ρ=some (.int b)):i6 yf yf fa fb fc ρ=some (.bool (decide (a<=i)&&decide (i<=b))):=by
 simp only[i6,ha,hb,hc,Option.bind_some,yf,rM,if_true]
 by_cases h:a<=i<;>simp[h]
theorem oM (i j:Int):Dl.fZ (.int i) (.int j)=some (.int (i - j)):=rfl
theorem gS (i j:Int):Dl.aE (.int i) (.int j)=some (.int (i+j)):=rfl
theorem sP (d:D):Slot.all (.val d)=some d:=rfl
theorem sM (ds:List D):Slot.all (.own ds)=some (.list ds):=rfl
theorem yC:Slot.all .non=none:=rfl
theorem xK (d:D):Slot.frz (.val d)=some d:=rfl
theorem yJ (ds:List D):Slot.frz (.own ds)=none:=rfl
theorem yn:Slot.frz .non=none:=rfl
local macro_rules|`(tactic| simp! [$ts,*])=>`(tactic| simp only[bc,av,eX,aF,eU,kl,mM,bA,fB,gB,Ga,ab,fC,jK,Lj,Gf,Jn,f1,f2,oM,gS,aa,ae,ag,aY,hV,bu,cM,oneOf,fQ,bb,sP,sM,yC,xK,yJ,yn,aS,cw,bF,aH,iz,au,  List.map_cons,List.map_nil,List.cons_append,List.nil_append,List.length_cons,List.length_nil,List.replicate,List.getElem?_cons_zero,List.getElem?_cons_succ,Option.getD_some,Option.getD_none,Option.bind_some,Option.bind_none,Option.map_some,Option.map_none,Nat.reduceAdd,Nat.reduceSub,Nat.zero_add,Nat.sub_self,if_true,reduceIte,$ts,*])
theorem fg {d:D}(h:my d=true) (a b:Int):aM [d,.int a,.int b]=some (.bool (whole a b d)):=by
 simp! [aM,kr,kI h,kB h]
 cases d<;>simp[LK,LO,whole]
 rw[vJ rfl rfl rfl]
theorem jj {d:D}(h:my d=true) (n:Int):bK [d,.int n]=some (.bool (whole 0 (n - 1) d)):=by
 simp! [bK,jh,fg h]
noncomputable def long (a b:Int):D->Bool|.tuple ds=>decide (a<=(ds.length:Int))&&decide ((ds.length:Int)<=b)|_=>false
theorem dO {d:D}(h:my d=true) (a b:Int):aW [d,.int a,.int b]=some (.bool (long a b d)):=by
 simp! [aW,l5,kT h]
 cases d<;>simp[FM,long]
 rw[vJ rfl (i:=_) rfl rfl]
noncomputable def g0:D->Int|.int i=>i|_=>0
theorem eT {a b:Int}{d:D}(h:whole a b d=true):d=.int (g0 d)/\a<=g0 d/\g0 d<=b:=by
 cases d<;>simp[whole] at h
 exact⟨rfl,h⟩
theorem j4 {a b:Int}:∀ {ls:List D},ls.all (whole a b)=true->ls=(ls.map g0).map PyData.int
 | [],_=>rfl
 | d::ls,h=>by
  rw[List.all_cons,Bool.and_eq_true] at h
  rw[List.map_cons,List.map_cons,<- (eT h.1).1,<- j4 h.2]
noncomputable def hJ (n:Int):D->Bool|.tuple ls=>ls.all (whole 0 (n - 1))&&decide ((ls.map g0).Nodup)|_=>false
theorem dz (i j:Int):bS (.int i) (.int j)=some (.bool (decide (i=j))):=by
 simp[bS,Im,SeqAt.shaped,PyData.canLay0,PyData.depth,PyData.eqv]
 rfl
theorem zl {ls:List D}{a b:Int}(h:ls.all (whole a b)=true) (hl:ls.length<=100):f2 bS (f1 jB (fun _=>some (.tuple ls))) (aY bu (aa (fun _=>some (.tuple ls)) ae)) []=some (.bool (decide ((ls.map g0).Nodup))):=by
 have e:=j4 h
 have e1:jB (.tuple ls)=some (.int (many (ls.map g0))):=by
  simp only[jB,lh]
  conv=>lhs;rw[e]
  rw[cA,Option.bind_some,if_pos]
  rw[List.length_map]
  exact Nat.lt_of_le_of_lt (Nat.add_le_add_right hl 1) (by decide)
 simp! [e1,dz]
 have:=wq (ls.map g0)
 rw[List.length_map] at this
 simp only[<- this,Int.ofNat_inj,Option.some.injEq,PyData.bool.injEq]
theorem JU (r:Dl.Env) (d:D):fG 0 (none::r) d=some (some d::r):=by simp[fG,isFree]
theorem bW {cs:List Nat}{fi:Dl.Env->Option (List D)}{ds:List D}{te:Dl.Env->Option D}{h:D->D}{ρ:Dl.Env}(hfi:fi ρ=some ds) (hl:ds.length<=4000) (hh:∀d∈ds,te (some d::cs.map fun j=>(ρ[j]?).getD none)=some (h d)):ak 1 cs fi (fG 0) (fun _=>some true) te ρ=some (ds.map h):=by
 simp only[ak,hfi,Option.bind_some,eh,List.replicate,List.cons_append,List.nil_append]
 rw[qN (h:=h) fun d hd=>⟨_,JU _ d,hh d hd⟩,Option.bind_some,bq (by rw[List.length_map];exact hl)]
theorem lG {cs:List Nat}{fi:Dl.Env->Option (List D)}{ds:List D}{tt:Dl.Env->Option Bool}{te:Dl.Env->Option D}{p:D->Bool}{h:D->D}{ρ:Dl.Env}(hfi:fi ρ=some ds) (hl:ds.length<=4000)
  (hp:∀d∈ds,tt (some d::cs.map fun j=>(ρ[j]?).getD none)=some (p d)) (hh:∀d∈ds,p d=true->te (some d::cs.map fun j=>(ρ[j]?).getD none)=some (h d)):ak 1 cs fi (fG 0) tt te ρ=some ((ds.filter p).map h):=by
 simp only[ak,hfi,Option.bind_some,eh,List.replicate,List.cons_append,List.nil_append]
 rw[kY (p:=p) (h:=h) fun d hd=>⟨_,JU _ d,hp d hd,hh d hd⟩,Option.bind_some,bq (by rw[List.length_map];exact Nat.le_trans (List.length_filter_le _ _) hl)]
theorem tY {b k:Nat}{d:D}(h:ie b k d) (hb:b<=100) (n:Int):eC [d,.int n]=some (.bool (hJ n d)):=by
 simp! [eC,iR,kT h.nd]
 cases d<;>try (simp[FM,hJ];done)
 rename_i ls
 obtain⟨j,rfl,hl,hf⟩:=h.of_tup
 have c:=bW (cs:=[1]) (fi:=aS (ab 0)) (te:=(ag 2 bK (aa (ab 0) (aa (ab 1) ae)))) (h:=fun x=>.bool (whole 0 (n - 1) x)) (ρ:=[some (.tuple ls),some (.int n)]) rfl (by omega) fun x hx=>by simp! [jj (hf x hx).nd]
 simp! [FM,Bool.not_true,Bool.false_eq_true,c,lg]
 cases e:ls.all (whole 0 (n - 1)) with
 | false=>simp[hJ,e]
 | true =>
  have:=zl e (Nat.le_trans hl hb)
  simp only[f2,f1,aY,aa,ae,Option.bind_some,Option.map_some] at this
  simp! [hJ,e,Bool.not_true,Bool.false_eq_true,Bool.true_and]
  simp only[bu,cM,oneOf,Option.bind_some,fQ,Option.map_some] at this
  simp! [this]
noncomputable def placeOk (n:Int):D->Bool|.tuple ds=>decide (ds.length=2)&&(whole 0 9 (ds.getD 0 .none)&&hJ n (ds.getD 1 .none))|_=>false
noncomputable def iL (g t:Int):D->Bool|.tuple ds=>decide (ds.length=3)&&(whole 0 (g - 1) (ds.getD 0 .none)&&(whole 0 (t - 1) (ds.getD 1 .none)&&whole 1 9 (ds.getD 2 .none)))|_=>false
theorem sD (n:Nat) (ds:List D):long (n:Int) (n:Int) (.tuple ds)=decide (ds.length=n):=by
 simp only[long]
 by_cases h:ds.length=n
 ·simp[h]
 ·rw[decide_eq_false h,Bool.and_eq_false_iff,decide_eq_false_iff_not,decide_eq_false_iff_not];omega
theorem getD_mem {ds:List D}{i:Nat}(h:i < ds.length):ds.getD i .none∈ds:=by simp[List.getD,h]
theorem vj {b k:Nat}{d:D}(h:ie b k d) (hb:b<=100) (n:Int):ej [d,.int n]=some (.bool (placeOk n d)):=by
 simp! [ej,oC,dO h.nd]
 cases d<;>try (simp[long,placeOk];done)
 rename_i ds
 obtain⟨j,rfl,hl,hf⟩:=h.of_tup
 rw[show long 2 2 (.tuple ds)=decide (ds.length=2) from sD 2 ds]
 by_cases e:ds.length=2
 ·have f0:=hf _ (getD_mem (i:=0) (by omega))
  have f1:=hf _ (getD_mem (i:=1) (by omega))
  simp! [e,decide_true,yF (show 0 < ds.length by omega),u3 (show 1 < ds.length by omega),fg f0.nd,tY f1 hb,placeOk]
  cases whole 0 9 (ds.getD 0 .none)<;>simp
 ·simp[e,placeOk]
theorem AD {b k:Nat}{d:D}(h:ie b k d) (hb:b<=100) (g t:Int):gE [d,.int g,.int t]=some (.bool (iL g t d)):=by
 simp! [gE,o3,dO h.nd]
 cases d<;>try (simp[long,iL];done)
 rename_i ds
 obtain⟨j,rfl,hl,hf⟩:=h.of_tup
 rw[show long 3 3 (.tuple ds)=decide (ds.length=3) from sD 3 ds]
 by_cases e:ds.length=3
 ·have f0:=hf _ (getD_mem (i:=0) (by omega))
  have f1:=hf _ (getD_mem (i:=1) (by omega))
  have f2':=hf _ (getD_mem (i:=2) (by omega))
  simp! [e,decide_true,Bool.not_true,Bool.false_eq_true,yF (show 0 < ds.length by omega),u3 (show 1 < ds.length by omega),FX (show 2 < ds.length by omega),fg f2'.nd,jj f0.nd,jj f1.nd,iL]
  cases whole 0 (g - 1) (ds.getD 0 .none)<;>cases whole 0 (t - 1) (ds.getD 1 .none)<;>simp
 ·simp[e,iL]
noncomputable def bh:D->List D|.tuple ds=>ds|_=>[]
noncomputable def lT (d:D):Bool:=long 1 4 d
noncomputable def d9 (g t w:D):Bool:=lT g&&(lT t&&((bh g).all (placeOk (bh t).length)&&((bh t).all (placeOk (bh g).length)&&(FM w&&(bh w).all (iL (bh g).length (bh t).length)))))
theorem iU {a b:Int}{d:D}(h:long a b d=true):d=.tuple (bh d):=by cases d<;>first|rfl|cases h
theorem mB {b k:Nat}{g t w:D}(hg:ie b k g) (ht:ie b k t) (hw:ie b k w) (hb:b<=100):ee [g,t,w]=some (.bool (d9 g t w)):=by
 simp! [ee,iP,dO hg.nd,dO ht.nd,kT hw.nd]
 unfold d9 lT
 cases e1:long 1 4 g with
 | false=>simp
 | true =>
  cases e2:long 1 4 t with
  | false=>simp
  | true =>
   obtain⟨gs,rfl⟩:∃gs,g=.tuple gs:=⟨_,iU e1⟩
   obtain⟨ts,rfl⟩:∃ts,t=.tuple ts:=⟨_,iU e2⟩
   obtain⟨j,rfl,hgl,hgf⟩:=hg.of_tup
   obtain⟨j',hj,htl,htf⟩:=ht.of_tup
   have c1:=bW (cs:=[1]) (fi:=aS (ab 0)) (te:=(ag 2 ej (aa (ab 0) (aa (aY bu (aa (ab 1) ae)) ae)))) (h:=fun x=>.bool (placeOk ts.length x)) (ρ:=[some (.tuple gs),some (.tuple ts),some w]) rfl (by omega) fun x hx=>by simp! [vj (hgf x hx) hb]
   have c2:=bW (cs:=[0]) (fi:=aS (ab 1)) (te:=(ag 2 ej (aa (ab 0) (aa (aY bu (aa (ab 1) ae)) ae)))) (h:=fun x=>.bool (placeOk gs.length x)) (ρ:=[some (.tuple gs),some (.tuple ts),some w]) rfl (by omega) fun x hx=>by simp! [vj (htf x hx) hb]
   simp! [Bool.not_true,Bool.false_eq_true,c1,lg,bh,Bool.true_and]
   cases e3:gs.all (placeOk ts.length) with
   | false=>simp
   | true =>
    simp! [Bool.not_true,Bool.false_eq_true,c2,lg,Bool.true_and]
    cases e4:ts.all (placeOk gs.length) with
    | false=>simp
    | true =>
     cases hT:FM w with
     | false=>simp! [Bool.not_true,Bool.false_eq_true,kT hw.nd,hT,Bool.false_and,Bool.and_false]
     | true =>
     obtain⟨ws,rfl⟩:∃ws,w=.tuple ws:=by cases w<;>first|exact⟨_,rfl⟩|cases hT
     obtain⟨j2,hj2,hwl,hwf⟩:=hw.of_tup
     have c3:=bW (cs:=[0,1]) (fi:=aS (ab 2)) (te:=(ag 3 gE (aa (ab 0) (aa (aY bu (aa (ab 1) ae)) (aa (aY bu (aa (ab 2) ae)) ae))))) (h:=fun x=>.bool (iL gs.length ts.length x)) (ρ:=[some (.tuple gs),some (.tuple ts),some (.tuple ws)]) rfl (by omega) fun x hx=>by simp! [AD (hwf x hx) hb]
     simp! [Bool.not_true,Bool.false_eq_true,c3,lg,Bool.true_and,kT hw.nd,FM]
theorem oP:∀ (a b:List Int),PyData.eqvAll (a.map PyData.int) (b.map PyData.int)=decide (a=b)
 | [],[]=>by simp[PyData.eqvAll]
 | [],_::_=>by simp[PyData.eqvAll]
 | _::_,[]=>by simp[PyData.eqvAll]
 | i::a,j::b=>by
  rw[List.map_cons,List.map_cons,PyData.eqvAll,oP a b]
  by_cases h:i=j
  ·subst h;simp[PyData.eqv]
  ·simp[PyData.eqv,h]
theorem ou:∀ (a b:List (List Int)),PyData.eqvAll (a.map af) (b.map af)=decide (a=b)
 | [],[]=>by simp[PyData.eqvAll]
 | [],_::_=>by simp[PyData.eqvAll]
 | _::_,[]=>by simp[PyData.eqvAll]
 | x::a,y::b=>by
  rw[List.map_cons,List.map_cons,PyData.eqvAll,ou a b,af,af,PyData.eqv,oP]
  by_cases h:x=y
  ·subst h;simp
  ·simp[h]
theorem jD {b k:Nat}(i:Int):ie b k (.int i):=.leaf trivial
theorem xI {b k:Nat}{r:List Int}(h:r.length<=b):ie b (k+1) (af r):=.tup (by rw[List.length_map];exact h) fun x hx=>by
 obtain⟨i,_,rfl⟩:=List.mem_map.mp hx
 exact jD i
theorem CW {b k:Nat}{a:List (List Int)}(h:a.length<=b) (hr:∀r∈a,r.length<=b):ie b (k+2) (.list (a.map af)):=.lst (by rw[List.length_map];exact h) fun x hx=>by
 obtain⟨r,hr',rfl⟩:=List.mem_map.mp hx
 exact xI (hr r hr')
theorem zI (a:List (List Int)):∃b,a.length<=b/\∀r∈a,r.length<=b:=by
 induction a with
 | nil=>exact⟨0,Nat.le_refl _,fun r h=>by cases h⟩
 | cons x a ih =>
  obtain⟨b,h1,h2⟩:=ih
  refine⟨b+1+x.length,by rw[List.length_cons];omega,fun r hr=>?_⟩
  rcases List.mem_cons.mp hr with rfl|hr
  ·omega
  ·have:=h2 r hr;omega
theorem mD (a:List (List Int)):SeqAt.shaped (.list (a.map af))=true:=by
 obtain⟨b,h1,h2⟩:=zI a
 exact (CW (b:=b) (k:=0) h1 h2).shaped (by decide)
theorem yZ (a b:List (List Int)):bS (.list (a.map af)) (.list (b.map af))=some (.bool (decide (a=b))):=by
 simp only[bS,Im,mD,and_self,if_true,PyData.eqv,ou,Option.map_some]
noncomputable def dJ (d:D):List Int:=(bh ((bh d).getD 1 .none)).map g0
theorem b0 {n:Int}{d:D}(h:placeOk n d=true):∃a ds,d=.tuple ds/\ds.length=2/\ds.getD 0 .none=.int a/\0<=a/\a<=9/\ds.getD 1 .none=.tuple ((dJ d).map PyData.int)/\(dJ d).Nodup/\∀j∈dJ d,0<=j/\j<=n - 1:=by
 cases d<;>simp only[placeOk] at h<;>try cases h
 rename_i ds
 simp only[Bool.and_eq_true,decide_eq_true_eq] at h
 obtain⟨h1,h2,h3⟩:=h
 have e:dJ (.tuple ds)=(bh (ds.getD 1 .none)).map g0:=rfl
 rw[e]
 generalize hl:ds.getD 1 .none=l at h3
 cases l<;>simp only[hJ] at h3<;>try cases h3
 rename_i ls
 simp only[Bool.and_eq_true,decide_eq_true_eq] at h3
 obtain⟨w1,w2,w3⟩:=eT h2
 refine⟨_,ds,rfl,h1,w1,w2,w3,?_,h3.2,fun j hj=>?_⟩
 ·rw[show bh (.tuple ls)=ls from rfl,<- j4 h3.1];exact hl
 ·obtain⟨x,hx,rfl⟩:=List.mem_map.mp hj
  exact (eT (List.all_eq_true.mp h3.1 x hx)).2
noncomputable def gQ (k:Nat):List D->List (List Int)|[]=>[]|p::ps=>(dJ p).map (fun j=>[((k:Nat):Int),j])++gQ (k+1) ps
theorem oA:∀ (n:Nat) {l:List Int},l.Nodup->(∀j∈l,0<=j/\j<=(n:Int) - 1)->l.length<=n:=by
 intro n l hn h
 have hs:l.map Int.toNat ⊆ List.range n:=fun x hx=>by
  obtain⟨j,hj,rfl⟩:=List.mem_map.mp hx
  have:=h j hj
  exact List.mem_range.mpr (by omega)
 have hnd:(l.map Int.toNat).Nodup:=by
  refine List.pairwise_map.mpr (hn.imp_of_mem fun {x y} hx hy hne e=>hne ?_)
  have:=h x hx;have:=h y hy;omega
 have:=List.Nodup.length_le_of_subset hnd hs
 simpa using this
theorem sY {n:Nat}:∀ {ps:List D}{k:Nat},(∀p∈ps,placeOk n p=true)->(gQ k ps).length<=ps.length * n
 | [],k,_=>Nat.zero_le _
 | p::ps,k,h=>by
  obtain⟨_,_,_,_,_,_,_,_,hn,hr⟩:=b0 (h p List.mem_cons_self)
  have h1:=oA n hn hr
  have h2:=sY (ps:=ps) (k:=k+1) fun q hq=>h q (List.mem_cons_of_mem _ hq)
  rw[gQ,List.length_append,List.length_map,List.length_cons,Nat.succ_mul]
  omega
noncomputable def pB:ai->Option Out:=Ai 1 [2,3] (ak 1 [2] (aS (f2 au (ab 3) (fC (.int 1)))) (fG 0) (fun _=>some true) (aH (aa (ab 1) (aa (ab 0) ae))))
theorem Iq {n:Nat}{p x:D}{acc:List D}{k:Nat}(hp:placeOk n p=true) (hn:n<=100) (ha:acc.length<=1000):pB [.val x,.own acc,.val (.int (k:Nat)),.val p]=some (.nx [.val x,.own (acc++((dJ p).map fun j=>af [((k:Nat):Int),j])),.val (.int (k:Nat)),.val p]):=by
 obtain⟨a,ds,rfl,hl,_,_,_,h1,hnd,hr⟩:=b0 hp
 have hb:=oA n hnd hr
 generalize dJ (.tuple ds)=ls at *
 have c:=bW (cs:=[2]) (fi:=aS (f2 au (ab 3) (fC (.int 1)))) (te:=aH (aa (ab 1) (aa (ab 0) ae))) (h:=fun y=>.tuple [.int (k:Nat),y]) (ρ:=[some x,none,some (.int (k:Nat)),some (.tuple ds)]) (ds:=ls.map PyData.int)
  (by simp! [u3 (show 1 < ds.length by omega),h1]) (by rw[List.length_map];omega) fun y hy=>by
   simp! [bq (show [PyData.int (k:Nat),y].length<=4000 by simp)]
 have hh:hand [2,3] 0 [Slot.val x,.own acc,.val (.int (k:Nat)),.val (.tuple ds)]=[Slot.val x,.own acc,.val (.int (k:Nat)),.val (.tuple ds)]:=rfl
 simp only[pB,Ai,hh,bR,List.map_cons,List.map_nil,Slot.frz,c,Option.bind_some,nc,List.getElem?_cons_succ,List.getElem?_cons_zero]
 rw[if_pos]
 ·simp only[Option.map_some,List.set_cons_succ,List.set_cons_zero,List.map_map]
  rfl
 ·simp only[List.length_map]
  exact Nat.le_trans (show acc.length+ls.length<=1100 by omega) (by decide)
theorem qG {n:Nat}{x:D}(hn:n<=100):∀ {ps:List D}{k:Nat}{acc:List D}{s2 s3:Slot},(∀p∈ps,placeOk n p=true)->acc.length+ps.length * n<=1000 ->
  ∃t2 t3,eE (eR 2 3) pB (bw k ps) [.val x,.own acc,s2,s3]=some (.nx [.val x,.own (acc++(gQ k ps).map af),t2,t3])
 | [],k,acc,s2,s3,_,_=>⟨s2,s3,by simp[bw,eE,gQ]⟩
 | p::ps,k,acc,s2,s3,h,hl=>by
  have hp:=h p List.mem_cons_self
  obtain⟨_,_,_,_,_,_,_,_,hnd,hr⟩:=b0 hp
  have hb:=oA n hnd hr
  rw[List.length_cons,Nat.succ_mul] at hl
  obtain⟨t2,t3,e⟩:=qG hn (x:=x) (ps:=ps) (k:=k+1) (acc:=acc++((dJ p).map fun j=>af [((k:Nat):Int),j])) (s2:=.val (.int (k:Nat))) (s3:=.val p) (fun q hq=>h q (List.mem_cons_of_mem _ hq)) (by rw[List.length_append,List.length_map];omega)
  refine⟨t2,t3,?_⟩
  have hs:eR 2 3 [.val x,.own acc,s2,s3] (.tuple [.int (k:Nat),p])=some [.val x,.own acc,.val (.int (k:Nat)),.val p]:=rfl
  simp only[bw,eE,hs,Option.bind_some,Iq hp hn (show acc.length<=1000 by omega)]
  rw[e]
  simp[gQ,List.map_map,Function.comp_def]
theorem xF {n:Nat}{ps:List D}(h:∀p∈ps,placeOk n p=true) (hn:n<=100) (hl:ps.length * n<=1000):bo [.tuple ps]=some (.list ((gQ 0 ps).map af)):=by
 obtain⟨t2,t3,e⟩:=qG hn (x:=.tuple ps) (k:=0) (acc:=[]) (s2:=.non) (s3:=.non) h (by simpa using hl)
 have hs:aK 1 [] (iz ae) [Slot.val (.tuple ps),.non,.non,.non]=some (.nx [.val (.tuple ps),.own [],.non,.non]):=rfl
 have hh:hand [0] 0 [Slot.val (.tuple ps),.own [],.non,.non]=[Slot.val (.tuple ps),.own [],.non,.non]:=rfl
 have hf:br (aa (ab 0) ae) (bR [Slot.val (.tuple ps),.own [],.non,.non])=some (bw 0 ps):=rfl
 simp! [bo,fW,hs,dW,hh,hf]
 rw[show Ai 1 [2,3] (ak 1 [2] (aS (f2 au (ab 3) (fC (.int 1)))) (fG 0) (fun _=>some true) (aH (aa (ab 1) (aa (ab 0) ae))))=pB from rfl,e]
 simp! []
noncomputable def cJ (d:D):List Int:=[g0 ((bh d).getD 0 .none),g0 ((bh d).getD 1 .none)]
theorem n5 {g t:Int}{d:D}(h:iL g t d=true):∃ds c,d=.tuple ds/\ds.length=3/\ds.getD 0 .none=.int (g0 (ds.getD 0 .none))/\ds.getD 1 .none=.int (g0 (ds.getD 1 .none))/\ds.getD 2 .none=.int c/\1<=c/\c<=9 /\
  0<=g0 (ds.getD 0 .none)/\g0 (ds.getD 0 .none)<=g - 1/\0<=g0 (ds.getD 1 .none)/\g0 (ds.getD 1 .none)<=t - 1:=by
 cases d<;>simp only[iL] at h<;>try cases h
 rename_i ds
 simp only[Bool.and_eq_true,decide_eq_true_eq] at h
 obtain⟨h1,h2,h3,h4⟩:=h
 have a:=eT h2
 have b:=eT h3
 have c:=eT h4
 exact⟨ds,_,rfl,h1,a.1,b.1,c.1,c.2.1,c.2.2,a.2.1,a.2.2,b.2.1,b.2.2⟩
noncomputable def oE (g t w:D):Bool:=decide ((bh w).map cJ=gW (gQ 0 (bh g)))&&decide ((bh w).map cJ=gW ((gQ 0 (bh t)).map List.reverse))
noncomputable def Kw (d:D):Bool:=long 3 3 d&&(d9 ((bh d).getD 0 .none) ((bh d).getD 1 .none) ((bh d).getD 2 .none)&&oE ((bh d).getD 0 .none) ((bh d).getD 1 .none) ((bh d).getD 2 .none))
theorem jA:∀ {ps:List D}{k:Nat},∀r∈gQ k ps,∃i j,r=[i,j]
 | [],k,r,h=>by cases h
 | p::ps,k,r,h=>by
  rcases List.mem_append.mp h with h|h
  ·obtain⟨j,_,rfl⟩:=List.mem_map.mp h;exact⟨_,_,rfl⟩
  ·exact jA r h
theorem kA {a:List (List Int)}(h:∀r∈a,∃i j,r=[i,j]) (hl:a.length < 64):cx [.list (a.map af)]=some ((gW a).map af):=by
 have:∀ns∈a,ns≠[]:=fun ns hn=>by obtain⟨i,j,rfl⟩:=h ns hn;exact List.cons_ne_nil _ _
 simp only[cx,oneOf,Option.bind_some,ig this,if_pos hl]
theorem qC:∀ {a:List (List Int)},(∀r∈a,∃i j,r=[i,j])->cq (fI 0 1) (fun _=>some true) (aH (aa (ab 1) (aa (ab 0) ae))) [none,none] (a.map af)=some ((a.map List.reverse).map af)
 | [],_=>rfl
 | r::a,h=>by
  obtain⟨i,j,rfl⟩:=h r List.mem_cons_self
  have ih:=qC (a:=a) fun q hq=>h q (List.mem_cons_of_mem _ hq)
  have e:fI 0 1 [none,none] (af [i,j])=some [some (.int i),some (.int j)]:=rfl
  rw[List.map_cons,cq,e,Option.bind_some,Option.bind_some,if_pos rfl,ih]
  simp! [bq (show [PyData.int j,.int i].length<=4000 by simp)]
  rfl
theorem Ar {a:List (List Int)}{fi:Dl.Env->Option (List D)}{ρ:Dl.Env}(hfi:fi ρ=some (a.map af)) (hl:a.length<=4000) (h:∀r∈a,∃i j,r=[i,j]):ak 2 [] fi (fI 0 1) (fun _=>some true) (aH (aa (ab 1) (aa (ab 0) ae))) ρ=some ((a.map List.reverse).map af):=by
 simp only[ak,hfi,Option.bind_some,eh,List.replicate,List.cons_append,List.nil_append,List.map_nil]
 rw[qC h,Option.bind_some,bq (by rw[List.length_map,List.length_map];exact hl)]
theorem mO {g t w:D}(h:d9 g t w=true):∃gs ts ws,g=.tuple gs/\t=.tuple ts/\w=.tuple ws/\1<=gs.length/\gs.length<=4/\1<=ts.length/\ts.length<=4/\(∀p∈gs,placeOk ts.length p=true)/\(∀p∈ts,placeOk gs.length p=true)/\∀x∈ws,iL gs.length ts.length x=true:=by
 simp only[d9,lT,Bool.and_eq_true] at h
 obtain⟨h1,h2,h3,h4,h5,h6⟩:=h
 cases w<;>try cases h5
 rename_i ws
 have e1:=iU h1
 have e2:=iU h2
 generalize bh g=gs at *
 generalize bh t=ts at *
 subst e1 e2
 simp only[long,Bool.and_eq_true,decide_eq_true_eq] at h1 h2
 exact⟨gs,ts,ws,rfl,rfl,rfl,by omega,by omega,by omega,by omega,List.all_eq_true.mp h3,List.all_eq_true.mp h4,List.all_eq_true.mp h6⟩
theorem nO {b k:Nat}{d:D}(h:ie b k d) (hb:b<=100):bg [d]=some (.bool (Kw d)):=by
 unfold Kw
 cases e1:long 3 3 d with
 | false=>simp! [bg,fx,dO h.nd,e1,Bool.not_false,Bool.false_and]
 | true =>
  obtain⟨ds,rfl⟩:∃ds,d=.tuple ds:=⟨_,iU e1⟩
  obtain⟨j,rfl,hl,hf⟩:=h.of_tup
  rw[show long 3 3 (.tuple ds)=decide (ds.length=3) from sD 3 ds,decide_eq_true_eq] at e1
  have f0:=hf _ (getD_mem (i:=0) (by omega))
  have f1:=hf _ (getD_mem (i:=1) (by omega))
  have f2':=hf _ (getD_mem (i:=2) (by omega))
  have i0:=yF (show 0 < ds.length by omega)
  have i1:=u3 (show 1 < ds.length by omega)
  have i2:=FX (show 2 < ds.length by omega)
  have el:aW [.tuple ds,.int 3,.int 3]=some (.bool true):=by rw[dO rfl,show long 3 3 (.tuple ds)=decide (ds.length=3) from sD 3 ds,decide_eq_true e1]
  rw[show bh (.tuple ds)=ds from rfl,Bool.true_and]
  generalize hg:ds.getD 0 .none=g at *
  generalize ht:ds.getD 1 .none=t at *
  generalize hw:ds.getD 2 .none=w at *
  cases e2:d9 g t w with
  | false=>simp! [bg,fx,el,i0,i1,i2,mB f0 f1 f2' hb,e2,Bool.not_false,Bool.not_true,Bool.false_and]
  | true =>
   obtain⟨gs,ts,ws,rfl,rfl,rfl,g1,g4,t1,t4,hG,hT,hW⟩:=mO e2
   have hfw:=f2'.of_tup
   obtain⟨j2,_,hwl,_⟩:=hfw
   have q1:=sY (k:=0) hG
   have q2:=sY (k:=0) hT
   have m1:gs.length * ts.length<=16:=Nat.mul_le_mul g4 t4
   have m2:ts.length * gs.length<=16:=Nat.mul_le_mul t4 g4
   have l1:=xF hG (by omega) (by omega)
   have l2:=xF hT (by omega) (by omega)
   have s1:=kA (a:=gQ 0 gs) jA (by omega)
   have s2:=kA (a:=(gQ 0 ts).map List.reverse) (fun r hr=>by
    obtain⟨q,hq,rfl⟩:=List.mem_map.mp hr
    obtain⟨i,j,rfl⟩:=jA q hq
    exact⟨j,i,rfl⟩) (by rw[List.length_map];omega)
   have c1:ak 1 [] (aS (f2 au (ab 0) (fC (.int 2)))) (fG 0) (fun _=>some true) (aH (aa (f2 au (ab 0) (fC (.int 0))) (aa (f2 au (ab 0) (fC (.int 1))) ae))) [some (.tuple ds),none,none,none]=some ((ws.map cJ).map af):=by
    rw[bW (ds:=ws) (h:=fun x=>af (cJ x)) (by simp! [i2]) (by omega) fun x hx=>?_,List.map_map]
    ·rfl
    ·obtain⟨vs,c,rfl,v3,v0,v1,_⟩:=n5 (hW x hx)
     simp! [yF (show 0 < vs.length by omega),u3 (show 1 < vs.length by omega),bq (show [vs.getD 0 PyData.none,vs.getD 1 .none].length<=4000 by simp),af,cJ,bh]
     rw[<- v0,<- v1]
   have c2:∀x y z,ak 2 [] (aS (ag 1 bo (aa (f2 au (ab 0) (fC (.int 1))) ae))) (fI 0 1) (fun _=>some true) (aH (aa (ab 1) (aa (ab 0) ae))) [some (.tuple ds),x,y,z]=some (((gQ 0 ts).map List.reverse).map af):=fun x y z =>
    Ar (by simp! [i1,l2]) (by omega) jA
   have st1:aK 1 [0] (ak 1 [] (aS (f2 au (ab 0) (fC (.int 2)))) (fG 0) (fun _=>some true) (aH (aa (f2 au (ab 0) (fC (.int 0))) (aa (f2 au (ab 0) (fC (.int 1))) ae)))) [Slot.val (.tuple ds),.non,.non,.non]=some (.nx [.val (.tuple ds),.own ((ws.map cJ).map af),.non,.non]):=by
    have hh:hand [0] 0 [Slot.val (.tuple ds),.non,.non,.non]=[Slot.val (.tuple ds),.non,.non,.non]:=rfl
    simp only[aK,hh,bR,List.map_cons,List.map_nil,Slot.frz,c1,Option.map_some,List.set_cons_succ,List.set_cons_zero]
   have st2:aK 2 [0] (hV cx (aa (ag 1 bo (aa (f2 au (ab 0) (fC (.int 0))) ae)) ae)) [Slot.val (.tuple ds),.own ((ws.map cJ).map af),.non,.non]=some (.nx [.val (.tuple ds),.own ((ws.map cJ).map af),.own ((gW (gQ 0 gs)).map af),.non]):=by
    have hh:hand [0] 0 [Slot.val (.tuple ds),.own ((ws.map cJ).map af),.non,.non]=[Slot.val (.tuple ds),.own ((ws.map cJ).map af),.non,.non]:=rfl
    simp only[aK,hh,bR,List.map_cons,List.map_nil,Slot.frz]
    simp! [i0,l1,s1,List.set_cons_succ,List.set_cons_zero]
   have st3:aK 3 [0] (hV cx (aa (cw (ak 2 [] (aS (ag 1 bo (aa (f2 au (ab 0) (fC (.int 1))) ae))) (fI 0 1) (fun _=>some true) (aH (aa (ab 1) (aa (ab 0) ae))))) ae)) [Slot.val (.tuple ds),.own ((ws.map cJ).map af),.own ((gW (gQ 0 gs)).map af),.non]
      =some (.nx [.val (.tuple ds),.own ((ws.map cJ).map af),.own ((gW (gQ 0 gs)).map af),.own ((gW ((gQ 0 ts).map List.reverse)).map af)]):=by
    have hh:hand [0] 0 [Slot.val (.tuple ds),.own ((ws.map cJ).map af),.own ((gW (gQ 0 gs)).map af),.non]=[Slot.val (.tuple ds),.own ((ws.map cJ).map af),.own ((gW (gQ 0 gs)).map af),.non]:=rfl
    simp only[aK,hh,bR,List.map_cons,List.map_nil,Slot.frz]
    simp! [c2,s2,List.set_cons_succ,List.set_cons_zero]
   simp! [bg,fx,el,i0,i1,i2,mB f0 f1 f2' hb,e2,Bool.not_true,Bool.false_eq_true,st1,st2,st3,yZ,oE,bh,Bool.true_and]
   by_cases hq:List.map cJ ws=gW (gQ 0 gs)<;>simp[hq]
theorem wX (xs:List D):PyData.eqvAll xs []=xs.isEmpty:=by cases xs<;>simp[PyData.eqvAll]
theorem wa:SeqAt.shaped (.list [])=true:=by simp[SeqAt.shaped,PyData.canLay0,PyData.canLayAll0,PyData.depth,PyData.depthAll]
theorem Cg {b k:Nat}{xs:List D}(h:∀x∈xs,ie b k x) (hk:k<=60):bS (.list xs) (.list [])=some (.bool xs.isEmpty):=by
 have hs:SeqAt.shaped (.list xs)=true:=(ie.lst (b:=max b xs.length) (k:=k) (Nat.le_max_right _ _) fun x hx=>(h x hx).mono (Nat.le_max_left _ _) (Nat.le_refl _)).shaped (by omega)
 simp only[bS,Im,hs,wa,and_self,if_true,PyData.eqv,wX,Option.map_some]
theorem gY:small []=some []:=rfl
theorem AZ {α:Type}(xs:List α) (k:Nat):cut xs none (some (k:Int))=xs.take k:=by
 simp only[cut,HT.u6,HT.xP,List.drop_zero,Nat.sub_zero]
 rw[List.take_eq_take_iff];omega
theorem uu {α:Type}(xs:List α) (k:Nat):cut xs (some (k:Int)) none=xs.drop k:=by
 simp only[cut,HT.u6,HT.xP]
 rw[List.take_of_length_le (by rw[List.length_drop];omega)]
 by_cases h:k<=xs.length
 ·rw[Nat.min_eq_left h]
 ·rw[Nat.min_eq_right (by omega),List.drop_of_length_le (Nat.le_refl _),List.drop_of_length_le (by omega)]
noncomputable def FQ:List (List Int)->Bool|a::b::r=>lexLt a b&&FQ (b::r)|_=>true
theorem fS (b:Bool):gB (.bool b)=some b:=rfl
noncomputable def Jt (P:List (List Int)) (i j:Int) (lp lq:List Int):Bool:=decide ([i,j]∈P) == decide (j∈lp)&&decide ([i,j]∈P) == decide (i∈lq)
noncomputable def JV (P:List (List Int)) (i:Int) (lp:List Int):Nat->List D->Bool|_,[]=>true|k,q::qs=>Jt P i k lp (dJ q)&&JV P i lp (k+1) qs
noncomputable def Ho (P:List (List Int)) (ts:List D):Nat->List D->Bool|_,[]=>true|k,p::ps=>JV P k (dJ p) 0 ts&&Ho P ts (k+1) ps
theorem xb (a b:D):small [a,b]=some [a,b]:=rfl
noncomputable def Kn (d:D):Bool:=long 3 3 d&&(d9 ((bh d).getD 0 .none) ((bh d).getD 1 .none) ((bh d).getD 2 .none)&&(FQ ((bh ((bh d).getD 2 .none)).map cJ)&&Ho ((bh ((bh d).getD 2 .none)).map cJ) (bh ((bh d).getD 1 .none)) 0 (bh ((bh d).getD 0 .none))))
theorem k5:∀ (ρ:ai) (k:Nat),hand [] k ρ=ρ
 | [],k=>rfl
 | s::r,k=>by simp[hand,k5 r]
theorem ju:∀ {ps:List D}{k:Nat}{i j:Int},[i,j]∈gQ k ps↔∃m p,ps[m]?=some p/\i=((k+m:Nat):Int)/\j∈dJ p
 | [],k,i,j=>by simp[gQ]
 | p::ps,k,i,j=>by
  rw[gQ,List.mem_append,ju (ps:=ps)]
  constructor
  ·rintro (h|⟨m,q,h1,h2,h3⟩)
   ·obtain⟨y,hy,e⟩:=List.mem_map.mp h
    injection e with e1 e2
    injection e2 with e2 _
    exact⟨0,p,rfl,by simpa using e1.symm,e2 ▸ hy⟩
   ·exact⟨m+1,q,by simpa using h1,by rw[h2];congr 1;omega,h3⟩
  ·rintro⟨m,q,h1,h2,h3⟩
   cases m with
   | zero =>
    simp at h1
    subst h1
    exact .inl (List.mem_map.mpr ⟨j,h3,by rw[h2];rfl⟩)
   | succ m=>exact .inr ⟨m,q,by simpa using h1,by rw[h2];congr 1;omega,h3⟩
theorem mi:∀ {ps:List D}{k:Nat},(∀p∈ps,(dJ p).Nodup)->(gQ k ps).Nodup
 | [],k,_=>List.nodup_nil
 | p::ps,k,h=>by
  rw[gQ,List.nodup_append]
  refine⟨List.pairwise_map.mpr ((h p List.mem_cons_self).imp fun hne e=>hne ?_),mi fun q hq=>h q (List.mem_cons_of_mem _ hq),?_⟩
  rotate_left
  ·injection e with _ e2
   injection e2
  ·rintro a ha b hb rfl
   obtain⟨y,hy,rfl⟩:=List.mem_map.mp ha
   obtain⟨m,q,h1,h2,h3⟩:=ju.mp hb
   omega
theorem vd:∀ {P:List (List Int)},FQ P=true->P.Pairwise fun a b=>Dl.lexLt a b=true
 | [],_=>List.Pairwise.nil
 | [a],_=>List.pairwise_singleton _ _
 | a::b::r,h=>by
  rw[FQ,Bool.and_eq_true] at h
  have ih:=vd h.2
  refine List.Pairwise.cons (fun c hc=>?_) ih
  rcases List.mem_cons.mp hc with rfl|hc
  ·exact h.1
  ·exact di h.1 ((List.pairwise_cons.mp ih).1 c hc)
theorem nV:∀ {P:List (List Int)},(P.Pairwise fun a b=>Dl.lexLt a b=true)->FQ P=true
 | [],_=>rfl
 | [a],_=>rfl
 | a::b::r,h=>by
  rw[List.pairwise_cons] at h
  rw[FQ,Bool.and_eq_true]
  exact⟨h.1 b List.mem_cons_self,nV h.2⟩
theorem ye {P:List (List Int)}{i:Int}{lp:List Int}:∀ {qs:List D}{k:Nat},JV P i lp k qs=true↔∀ (l:Nat) (q:D),qs[l]?=some q->Jt P i ((k+l:Nat):Int) lp (dJ q)=true
 | [],k=>by simp[JV]
 | q::qs,k=>by
  rw[JV,Bool.and_eq_true,ye (qs:=qs)]
  constructor
  ·rintro⟨h1,h2⟩ l q' hl
   cases l with
   | zero=>simp at hl;subst hl;exact h1
   | succ l=>have:=h2 l q' (by simpa using hl);rw[show k+(l+1)=k+1+l by omega];exact this
  ·intro h
   refine⟨by have:=h 0 q rfl;exact this,fun l q' hl=>?_⟩
   have:=h (l+1) q' (by simpa using hl)
   rw[show k+1+l=k+(l+1) by omega];exact this
theorem rF {P:List (List Int)}{ts:List D}:∀ {ps:List D}{k:Nat},Ho P ts k ps=true↔∀ (m:Nat) (p:D),ps[m]?=some p->∀ (l:Nat) (q:D),ts[l]?=some q->Jt P ((k+m:Nat):Int) (l:Int) (dJ p) (dJ q)=true
 | [],k=>by simp[Ho]
 | p::ps,k=>by
  rw[Ho,Bool.and_eq_true,rF (ps:=ps),ye]
  constructor
  ·rintro⟨h1,h2⟩ m p' hm l q hl
   cases m with
   | zero=>simp at hm;subst hm;have:=h1 l q hl;rw[Nat.zero_add] at this;exact this
   | succ m=>have:=h2 m p' (by simpa using hm) l q hl;rw[show k+(m+1)=k+1+m by omega];exact this
  ·intro h
   refine⟨fun l q hl=>by have:=h 0 p rfl l q hl;rw[Nat.zero_add];exact this,fun m p' hm l q hl=>?_⟩
   have:=h (m+1) p' (by simpa using hm) l q hl
   rw[show k+1+m=k+(m+1) by omega];exact this
theorem rV {P:List (List Int)}{i j:Int}{lp lq:List Int}:Jt P i j lp lq=true↔([i,j]∈P↔j∈lp)/\([i,j]∈P↔i∈lq):=by
 simp only[Jt,Bool.and_eq_true,beq_iff_eq,decide_eq_decide]
theorem Kd {a b:List Int}(h:Dl.lexLt a b=true):lexLe a b=true:=by
 unfold lexLe
 cases e:Dl.lexLt b a with
 | false=>rfl
 | true=>have:=di h e;rw[fu] at this;cases this
theorem Cv {ts:List D}{n:Nat}{j:Int}(h:ts.length=n) (h0:0<=j) (h1:j<=(n:Int) - 1):∃ (l:Nat) (q:D),ts[l]?=some q/\j=(l:Int):=by
 have hl:j.toNat < ts.length:=by omega
 exact⟨j.toNat,ts[j.toNat],List.getElem?_eq_some_iff.mpr ⟨hl,rfl⟩,by omega⟩
theorem Ab {g t w:D}(h:d9 g t w=true):oE g t w=(FQ ((bh w).map cJ)&&Ho ((bh w).map cJ) (bh t) 0 (bh g)):=by
 obtain⟨gs,ts,ws,rfl,rfl,rfl,g1,g4,t1,t4,hG,hT,hW⟩:=mO h
 have e0:(oE (.tuple gs) (.tuple ts) (.tuple ws)=true)↔(ws.map cJ=gW (gQ 0 gs)/\ws.map cJ=gW ((gQ 0 ts).map List.reverse)):=by
  unfold oE
  rw[Bool.and_eq_true,decide_eq_true_eq,decide_eq_true_eq]
  exact Iff.rfl
 rw[Bool.eq_iff_iff,e0,Bool.and_eq_true,rF]
 simp only[bh]
 generalize hP:ws.map cJ=P
 have pin:∀r∈P,∃i j,r=[i,j]/\0<=i/\i<=(gs.length:Int) - 1/\0<=j/\j<=(ts.length:Int) - 1:=fun r hr=>by
  rw[<- hP] at hr
  obtain⟨x,hx,rfl⟩:=List.mem_map.mp hr
  obtain⟨vs,c,rfl,v3,v0,v1,v2,_,_,a1,a2,a3,a4⟩:=n5 (hW x hx)
  exact⟨_,_,rfl,a1,a2,a3,a4⟩
 have nG:(gQ 0 gs).Nodup:=mi fun p hp=>by
  obtain⟨_,_,_,_,_,_,_,_,hnd,_⟩:=b0 (hG p hp);exact hnd
 have nT0:(gQ 0 ts).Nodup:=mi fun p hp=>by
  obtain⟨_,_,_,_,_,_,_,_,hnd,_⟩:=b0 (hT p hp);exact hnd
 have nT:((gQ 0 ts).map List.reverse).Nodup:=List.pairwise_map.mpr (nT0.imp fun hne e=>hne (List.reverse_inj.mp e))
 have mG:∀r∈gQ 0 gs,∃i j,r=[i,j]/\0<=i/\i<=(gs.length:Int) - 1/\0<=j/\j<=(ts.length:Int) - 1:=fun r hr=>by
  obtain⟨i,j,rfl⟩:=jA r hr
  obtain⟨m,p,h1,h2,h3⟩:=ju.mp hr
  obtain⟨_,_,_,_,_,_,_,_,_,hr'⟩:=b0 (hG p (List.mem_of_getElem? h1))
  have:=hr' j h3
  have hm:=(List.getElem?_eq_some_iff.mp h1).1
  exact⟨i,j,rfl,by omega,by omega,this.1,this.2⟩
 have mT:∀r∈(gQ 0 ts).map List.reverse,∃i j,r=[i,j]/\[j,i]∈gQ 0 ts/\0<=i/\i<=(gs.length:Int) - 1/\0<=j/\j<=(ts.length:Int) - 1:=fun r hr=>by
  obtain⟨s,hs,rfl⟩:=List.mem_map.mp hr
  obtain⟨j,i,rfl⟩:=jA s hs
  obtain⟨m,p,h1,h2,h3⟩:=ju.mp hs
  obtain⟨_,_,_,_,_,_,_,_,_,hr'⟩:=b0 (hT p (List.mem_of_getElem? h1))
  have:=hr' i h3
  have hm:=(List.getElem?_eq_some_iff.mp h1).1
  exact⟨i,j,rfl,hs,this.1,this.2,by omega,by omega⟩
 have Km:∀ {m:Nat}{p:D}{j:Int},gs[m]?=some p->([(m:Int),j]∈gQ 0 gs↔j∈dJ p):=fun {m p j} hm=>by
  rw[ju]
  constructor
  ·rintro⟨m',p',h1,h2,h3⟩
   have:m=m':=by omega
   subst this
   rw[hm] at h1
   cases h1
   exact h3
  ·exact fun hj=>⟨m,p,hm,by omega,hj⟩
 have Kz:∀ {l:Nat}{q:D}{i:Int},ts[l]?=some q->([i,(l:Int)]∈(gQ 0 ts).map List.reverse↔i∈dJ q):=fun {l q i} hl=>by
  have:[i,(l:Int)]∈(gQ 0 ts).map List.reverse↔[(l:Int),i]∈gQ 0 ts:=by
   constructor
   ·intro hh
    obtain⟨s,hs,e⟩:=List.mem_map.mp hh
    have:s=[(l:Int),i]:=by rw[<- List.reverse_reverse s,e];rfl
    exact this ▸ hs
   ·exact fun hh=>List.mem_map.mpr ⟨_,hh,rfl⟩
  rw[this,ju]
  constructor
  ·rintro⟨m',p',h1,h2,h3⟩
   have:l=m':=by omega
   subst this
   rw[hl] at h1
   cases h1
   exact h3
  ·exact fun hj=>⟨l,q,hl,by omega,hj⟩
 constructor
 ·rintro⟨e1,e2⟩
  have p1:P.Perm (gQ 0 gs):=e1 ▸ lI _
  have p2:P.Perm ((gQ 0 ts).map List.reverse):=e2 ▸ lI _
  refine⟨nV ?_,fun m p hm l q hl=>rV.mpr ⟨?_,?_⟩⟩
  ·have up:P.Pairwise fun a b=>lexLe a b=true:=e1 ▸ xn _
   have nd:P.Nodup:=p1.symm.nodup nG
   refine (up.and nd).imp fun {a b} hab=>?_
   cases e:Dl.lexLt a b with
   | true=>rfl
   | false =>
    have h2:Dl.lexLt b a=false:=by have:=hab.1;unfold lexLe at this;simpa using this
    exact absurd (gU e h2) hab.2
  ·rw[Nat.zero_add,p1.mem_iff];exact Km hm
  ·rw[Nat.zero_add,p2.mem_iff];exact Kz hl
 ·rintro⟨ha,hk⟩
  have lt:=vd ha
  have up:P.Pairwise fun a b=>lexLe a b=true:=lt.imp fun h=>Kd h
  have nd:P.Nodup:=lt.imp fun {a b} h e=>by subst e;rw[fu] at h;cases h
  have key:∀ {i j:Int},0<=i->i<=(gs.length:Int) - 1->0<=j->j<=(ts.length:Int) - 1->([i,j]∈P↔[i,j]∈gQ 0 gs)/\([i,j]∈P↔[i,j]∈(gQ 0 ts).map List.reverse):=fun {i j} a1 a2 a3 a4=>by
   obtain⟨m,p,hm,rfl⟩:=Cv rfl a1 a2
   obtain⟨l,q,hl,rfl⟩:=Cv rfl a3 a4
   have:=rV.mp (hk m p hm l q hl)
   rw[Nat.zero_add] at this
   exact⟨this.1.trans (Km hm).symm,this.2.trans (Kz hl).symm⟩
  refine⟨sU ((List.perm_ext_iff_of_nodup nd nG).mpr fun r=>⟨fun hr=>?_,fun hr=>?_⟩) up,sU ((List.perm_ext_iff_of_nodup nd nT).mpr fun r=>⟨fun hr=>?_,fun hr=>?_⟩) up⟩
  ·obtain⟨i,j,rfl,a1,a2,a3,a4⟩:=pin r hr;exact (key a1 a2 a3 a4).1.mp hr
  ·obtain⟨i,j,rfl,a1,a2,a3,a4⟩:=mG r hr;exact (key a1 a2 a3 a4).1.mpr hr
  ·obtain⟨i,j,rfl,a1,a2,a3,a4⟩:=pin r hr;exact (key a1 a2 a3 a4).2.mp hr
  ·obtain⟨i,j,rfl,_,a1,a2,a3,a4⟩:=mT r hr;exact (key a1 a2 a3 a4).2.mpr hr
theorem B1 (d:D):Kw d=Kn d:=by
 unfold Kw Kn
 cases h:d9 ((bh d).getD 0 .none) ((bh d).getD 1 .none) ((bh d).getD 2 .none) with
 | false=>rw[Bool.false_and,Bool.false_and]
 | true=>rw[Ab h]
theorem eD {i j:Int}(h:pY i j):Dl.dP (.int i) (.int j)=some (.int (i * j)):=by
 simp only[Dl.dP,rM,if_pos h,Option.some_or]
theorem gK {i j:Int}(h:0 < j):Dl.jM (.int i) (.int j)=some (.int (i % j)):=if_pos h
theorem iX {i j:Int}(h:0 < j/\j < 1073741824):Dl.k9 (.int i) (.int j)=some (.int (i / j)):=if_pos h
theorem fR (i j:Int):Dl.xD (.int i) (.int j)=some (.bool (decide (j < i))):=rfl
theorem k4 (i j:Int):Dl.Av (.int i) (.int j)=some (.bool (decide (i < j))):=rfl
theorem kf {i j:Int}(h:-(2 ^ 64) < i/\i < 2 ^ 64):pY i j:=.inl h
theorem Ht {i j:Int}(h:-(2 ^ 64) < j/\j < 2 ^ 64):pY i j:=.inr h
theorem uJ (i:Int):Dl.m7 (.int i)=true:=rfl
theorem uQ (i:List D):Dl.m7 (.tuple i)=false:=rfl
noncomputable def bC (ns:List Int):D:=.list (ns.map PyData.int)
theorem Ig {ns:List Int}(k:Int) (hl:ns.length<=63):∃c,dh [bC ns,.int k]=some (.int c):=by
 have heq:bS (.list (ns.map PyData.int)) (.list [])=some (.bool ns.isEmpty):=by
  have:=Cg (b:=0) (k:=0) (xs:=ns.map PyData.int) (fun x hx=>by obtain⟨i,_,rfl⟩:=List.mem_map.mp hx;exact jD i) (by decide)
  rw[this];cases ns<;>rfl
 by_cases hn:ns=[]
 ·subst hn
  refine⟨7 * k,?_⟩
  rw[List.map_nil,List.isEmpty_nil] at heq
  simp! [dh,fO,bC,gY,heq,List.isEmpty_nil,eD (kf (i:=7) (j:=k) (by decide))]
 ·have hpos:(0:Int) < (ns.length:Int):=by have:=List.length_pos_iff.mpr hn;omega
  have he:ns.isEmpty=false:=by cases ns<;>first|rfl|exact absurd rfl hn
  obtain⟨j,hj⟩:=Int.eq_ofNat_of_zero_le (Int.emod_nonneg k (show (ns.length:Int)≠0 by omega))
  have hlt:=Int.emod_lt_of_pos k hpos
  have hx:sH (ns.map PyData.int) (k % (ns.length:Int))=some (.int (ns.getD j 0)):=by
   rw[hj]
   have:j < (ns.map PyData.int).length:=by rw[List.length_map];omega
   rw[kU this,List.getD_eq_getElem?_getD,List.getElem?_map,List.getD_eq_getElem?_getD]
   rw[List.getElem?_eq_getElem (by omega)]
   rfl
  refine⟨ns.getD j 0+6553 * (k / (ns.length:Int)),?_⟩
  simp! [dh,fO,bC,gY,heq,he,Bool.false_eq_true,List.length_map,gK hpos,hx,iX (i:=k) (j:=(ns.length:Int)) ⟨hpos,by omega⟩,eD (kf (i:=6553) (j:=k / (ns.length:Int)) (by decide))]
theorem DQ {ns:List Int}(k many:Int) (hl:ns.length<=63) (hm:0 < many):∃r,aj [bC ns,.int k,.int many]=some (.int r)/\0<=r/\r < many:=by
 obtain⟨c,hc⟩:=Ig k hl
 have m1:∀i:Int,Dl.jM (.int i) (.int 2147483563)=some (.int (i % 2147483563)):=fun i=>gK (by decide)
 have m2:∀i:Int,Dl.jM (.int i) (.int 2147483399)=some (.int (i % 2147483399)):=fun i=>gK (by decide)
 have m3:∀i:Int,Dl.jM (.int i) (.int 2147483647)=some (.int (i % 2147483647)):=fun i=>gK (by decide)
 have d1:∀i:Int,Dl.k9 (.int i) (.int 3)=some (.int (i / 3)):=fun i=>iX (by decide)
 have d2:∀i:Int,Dl.k9 (.int i) (.int 7)=some (.int (i / 7)):=fun i=>iX (by decide)
 have d3:∀i:Int,Dl.k9 (.int i) (.int 11)=some (.int (i / 11)):=fun i=>iX (by decide)
 have u1:∀i:Int,Dl.dP (.int i) (.int 69069)=some (.int (i * 69069)):=fun i=>eD (Ht (by decide))
 have u2:∀i:Int,Dl.dP (.int 104723) (.int i)=some (.int (104723 * i)):=fun i=>eD (kf (by decide))
 have b1:∀x:Int,Dl.dP (.int (x % 2147483563)) (.int (x % 2147483563))=some (.int (x % 2147483563 * (x % 2147483563))):=fun x=>eD (kf (by
  have:=Int.emod_nonneg x (show (2147483563:Int)≠0 by decide)
  have:=Int.emod_lt_of_pos x (show (0:Int) < 2147483563 by decide)
  omega))
 have b2:∀x:Int,Dl.dP (.int (x % 2147483399)) (.int (x % 2147483399))=some (.int (x % 2147483399 * (x % 2147483399))):=fun x=>eD (kf (by
  have:=Int.emod_nonneg x (show (2147483399:Int)≠0 by decide)
  have:=Int.emod_lt_of_pos x (show (0:Int) < 2147483399 by decide)
  omega))
 suffices h:∃x,aj [bC ns,.int k,.int many]=some (.int (x % many)) by
  obtain⟨x,hx⟩:=h
  exact⟨_,hx,Int.emod_nonneg x (show many≠0 by omega),Int.emod_lt_of_pos x hm⟩
 ·refine⟨(((((c % 2147483563 * 69069+104723 * (k+1)) % 2147483563) * ((c % 2147483563 * 69069+104723 * (k+1)) % 2147483563)+((c % 2147483563 * 69069+104723 * (k+1)) % 2147483563) / 3) % 2147483399) * ((((c % 2147483563 * 69069+104723 * (k+1)) % 2147483563) * ((c % 2147483563 * 69069+104723 * (k+1)) % 2147483563)+((c % 2147483563 * 69069+104723 * (k+1)) % 2147483563) / 3) % 2147483399)+((((c % 2147483563 * 69069+104723 * (k+1)) % 2147483563) * ((c % 2147483563 * 69069+104723 * (k+1)) % 2147483563)+((c % 2147483563 * 69069+104723 * (k+1)) % 2147483563) / 3) % 2147483399) / 7) % 2147483647 / 11,?_⟩
  simp! [aj,iB,hc,m1,u1,u2,Dl.aB,uJ,List.set_cons_succ,List.set_cons_zero,b1,d1,m2,b2,d2,m3,d3,gK (j:=many) hm]
noncomputable def dr (ns:List Int) (k many:Int):Int:=g0 ((aj [bC ns,.int k,.int many]).getD .none)
theorem e9 {ns:List Int}(k many:Int) (hl:ns.length<=63) (hm:0 < many):aj [bC ns,.int k,.int many]=some (.int (dr ns k many))/\0<=dr ns k many/\dr ns k many < many:=by
 obtain⟨r,h1,h2⟩:=DQ k many hl hm
 have:dr ns k many=r:=by simp only[dr,h1,Option.getD_some,g0]
 rw[this];exact⟨h1,h2⟩
theorem qS {ns:List Int}(k many:Int) (hl:ns.length<=63) (hm:0 < many):aj [bC ns,.int k,.int many]=some (.int (dr ns k many)):=(e9 k many hl hm).1
theorem F6 {ns:List Int}(k many:Int) (hl:ns.length<=63) (hm:0 < many):0<=dr ns k many:=(e9 k many hl hm).2.1
theorem FR {ns:List Int}(k many:Int) (hl:ns.length<=63) (hm:0 < many):dr ns k many < many:=(e9 k many hl hm).2.2
noncomputable def bY (r:List Int):D:=.list (r.map PyData.int)
noncomputable def insI (ds:List Int) (k:Int) (d:Int):List Int:=let j:=if k < 0 then (k+(ds.length:Int)).toNat else min k.toNat ds.length;ds.take j++d::ds.drop j
theorem Al (ds:List Int) (k d:Int):yE (ds.map PyData.int) k (.int d)=(insI ds k d).map PyData.int:=by
 simp only[yE,insI,List.length_map,List.map_append,List.map_cons,List.map_take,List.map_drop]
theorem insI_perm (ds:List Int) (k d:Int):(insI ds k d).Perm (d::ds):=by
 simp only[insI]
 refine List.perm_middle.trans ?_
 rw[List.take_append_drop]
noncomputable def oB:ai->Option Out:=(B6 6 [8] (ag 3 aj (aa (ab 0) (aa (f2 aE (f2 aE (ab 1) (f2 dP (fC (.int 4)) (ab 4))) (ab 7)) (aa (f2 aE (aY bu (aa (ab 6) ae)) (fC (.int 1))) ae)))) (ab 8))
theorem Gg {ns order:List Int}{a k j x:Int}{s2 s3 s5:Slot}(hl:ns.length<=63) (ho:order.length<=1000) :
  oB [.val (bC ns),.val (.int a),s2,s3,.val (.int k),s5,.own (order.map PyData.int),.val (.int j),.val (.int x)] =
   some (.nx [.val (bC ns),.val (.int a),s2,s3,.val (.int k),s5,.own ((insI order (dr ns (a+4 * k+j) ((order.length:Int)+1)) x).map PyData.int),.val (.int j),.val (.int x)]):=by
 have h4:Dl.dP (.int 4) (.int k)=some (.int (4 * k)):=eD (kf (by decide))
 have hd:=e9 (ns:=ns) (a+4 * k+j) ((order.length:Int)+1) hl (by omega)
 have hr:vM (dr ns (a+4 * k+j) ((order.length:Int)+1))=true:=by
  simp only[vM,Bool.and_eq_true,decide_eq_true_eq]
  omega
 have hz:(order.map PyData.int).length < sizeLine:=by rw[List.length_map];exact Nat.lt_of_le_of_lt ho (by decide)
 simp! [oB,B6,jP,uJ,nc,List.length_map,h4,hd.1]
 rw[List.length_map] at hz
 simp only[hr,hz,and_self,if_true,Option.map_some,Al,List.set_cons_succ,List.set_cons_zero]
theorem C0 {ns:List Int}{a k:Int}{s2 s3 s5:Slot}(hl:ns.length<=63):∀ {row order:List Int}{j:Nat}{s7 s8:Slot},order.length+row.length<=1000 ->
  ∃ (o:List Int) (t7 t8:Slot),eE (eR 7 8) oB (bw j (row.map PyData.int)) [.val (bC ns),.val (.int a),s2,s3,.val (.int k),s5,.own (order.map PyData.int),s7,s8] =
   some (.nx [.val (bC ns),.val (.int a),s2,s3,.val (.int k),s5,.own (o.map PyData.int),t7,t8])/\o.Perm (row++order)
 | [],order,j,s7,s8,_=>⟨order,s7,s8,by simp[bw,eE],by simp⟩
 | x::row,order,j,s7,s8,h=>by
  rw[List.length_cons] at h
  have hp:=insI_perm order (dr ns (a+4 * k+((j:Nat):Int)) ((order.length:Int)+1)) x
  have hlen:=hp.length_eq
  rw[List.length_cons] at hlen
  obtain⟨o,t7,t8,e,p⟩:=C0 (s2:=s2) (s3:=s3) (s5:=s5) (a:=a) (k:=k) hl (row:=row) (order:=insI order (dr ns (a+4 * k+((j:Nat):Int)) ((order.length:Int)+1)) x) (j:=j+1) (s7:=.val (.int (j:Nat))) (s8:=.val (.int x)) (by omega)
  refine⟨o,t7,t8,?_,p.trans ?_⟩
  ·have hs:eR 7 8 [.val (bC ns),.val (.int a),s2,s3,.val (.int k),s5,.own (order.map PyData.int),s7,s8] (.tuple [.int (j:Nat),.int x])=some [.val (bC ns),.val (.int a),s2,s3,.val (.int k),s5,.own (order.map PyData.int),.val (.int (j:Nat)),.val (.int x)]:=rfl
   simp only[List.map_cons,bw,eE,hs,Option.bind_some,Gg hl (show order.length<=1000 by omega),e]
  ·refine (hp.append_left row).trans ?_
   rw[List.cons_append]
   exact List.perm_middle
noncomputable def o7:List (List Int)->List (List Int)->Prop|[],[]=>True|a::l,b::m=>a.Perm b/\o7 l m|_,_=>False
noncomputable def rB:ai->Option Out:=(av (aK 6 [] (iz ae)) (av (dW [5] (br (aa (ab 5) ae)) (eR 7 8) oB) (kg 3 [6] (aY bF (aa (ab 6) ae)))))
theorem GQ {ns row:List Int}{a k:Int}{rows:D}{found:List D}{s6 s7 s8:Slot}(hl:ns.length<=63) (hr:row.length<=1000) (hf:found.length<=1000) :
  ∃ (o:List Int) (t7 t8:Slot),rB [.val (bC ns),.val (.int a),.val rows,.own found,.val (.int k),.val (bY row),s6,s7,s8]=some (.nx [.val (bC ns),.val (.int a),.val rows,.own (found++[af o]),.val (.int k),.val (bY row),.val (bY o),t7,t8])/\o.Perm row:=by
 obtain⟨o,t7,t8,e,p⟩:=C0 (s2:=.val rows) (s3:=.own found) (s5:=.val (bY row)) (a:=a) (k:=k) hl (row:=row) (order:=[]) (j:=0) (s7:=s7) (s8:=s8) (by simpa using hr)
 rw[List.append_nil] at p
 refine⟨o,t7,t8,?_,p⟩
 have h1:aK 6 [] (iz ae) [.val (bC ns),.val (.int a),.val rows,.own found,.val (.int k),.val (bY row),s6,s7,s8]=some (.nx [.val (bC ns),.val (.int a),.val rows,.own found,.val (.int k),.val (bY row),.own [],s7,s8]):=by
  simp only[aK,k5,iz,ae,Option.bind_some,gY,Option.map_some,List.set_cons_succ,List.set_cons_zero]
 have h2:dW [5] (br (aa (ab 5) ae)) (eR 7 8) oB [.val (bC ns),.val (.int a),.val rows,.own found,.val (.int k),.val (bY row),.own [],s7,s8]=some (.nx [.val (bC ns),.val (.int a),.val rows,.own found,.val (.int k),.val (bY row),.own (o.map PyData.int),t7,t8]):=by
  have hh:hand [5] 0 [Slot.val (bC ns),.val (.int a),.val rows,.own found,.val (.int k),.val (bY row),.own [],s7,s8]=[Slot.val (bC ns),.val (.int a),.val rows,.own found,.val (.int k),.val (bY row),.own [],s7,s8]:=rfl
  have hq:br (aa (ab 5) ae) (bR [Slot.val (bC ns),.val (.int a),.val rows,.own found,.val (.int k),.val (bY row),.own [],s7,s8])=some (bw 0 (row.map PyData.int)):=by
   simp only[bR,List.map_cons,List.map_nil]
   simp! [br,bY]
  simp only[dW,hh,hq,Option.bind_some]
  exact e
 have h3:kg 3 [6] (aY bF (aa (ab 6) ae)) [.val (bC ns),.val (.int a),.val rows,.own found,.val (.int k),.val (bY row),.own (o.map PyData.int),t7,t8]=some (.nx [.val (bC ns),.val (.int a),.val rows,.own (found++[af o]),.val (.int k),.val (bY row),.val (bY o),t7,t8]):=by
  have hz:found.length < sizeLine:=Nat.lt_of_le_of_lt hf (by decide)
  have hh:hand [6] 0 [Slot.val (bC ns),.val (.int a),.val rows,.own found,.val (.int k),.val (bY row),.own (o.map PyData.int),t7,t8]=[Slot.val (bC ns),.val (.int a),.val rows,.own found,.val (.int k),.val (bY row),.val (bY o),t7,t8]:=rfl
  simp only[kg,jP,hh,bR,List.map_cons,List.map_nil]
  simp! [uQ,Bool.false_eq_true,nc,hz,List.set_cons_succ,List.set_cons_zero,bY,af]
 simp only[rB,av,h1,h2,h3,Option.bind_some]
theorem Co {ns:List Int}{a:Int}{rws:D}(hl:ns.length<=63):∀ {rows:List (List Int)}{found:List D}{k:Nat}{s4 s5 s6 s7 s8:Slot},(∀r∈rows,r.length<=1000)->found.length+rows.length<=1000 ->
  ∃ (os:List (List Int)) (t4 t5 t6 t7 t8:Slot),eE (eR 4 5) rB (bw k (rows.map bY)) [.val (bC ns),.val (.int a),.val rws,.own found,s4,s5,s6,s7,s8]=some (.nx [.val (bC ns),.val (.int a),.val rws,.own (found++os.map af),t4,t5,t6,t7,t8])/\o7 os rows
 | [],found,k,s4,s5,s6,s7,s8,_,_=>⟨[],s4,s5,s6,s7,s8,by simp[bw,eE],trivial⟩
 | r::rows,found,k,s4,s5,s6,s7,s8,h,hf=>by
  rw[List.length_cons] at hf
  obtain⟨o,u7,u8,e1,p1⟩:=GQ (rows:=rws) (a:=a) (k:=((k:Nat):Int)) (s6:=s6) (s7:=s7) (s8:=s8) hl (h r List.mem_cons_self) (show found.length<=1000 by omega)
  obtain⟨os,t4,t5,t6,t7,t8,e,p⟩:=Co hl (rws:=rws) (a:=a) (rows:=rows) (found:=found++[af o]) (k:=k+1) (s4:=.val (.int (k:Nat))) (s5:=.val (bY r)) (s6:=.val (bY o)) (s7:=u7) (s8:=u8) (fun r' hr'=>h r' (List.mem_cons_of_mem _ hr')) (by rw[List.length_append,List.length_singleton];omega)
  refine⟨o::os,t4,t5,t6,t7,t8,?_,p1,p⟩
  have hs:eR 4 5 [.val (bC ns),.val (.int a),.val rws,.own found,s4,s5,s6,s7,s8] (.tuple [.int (k:Nat),bY r])=some [.val (bC ns),.val (.int a),.val rws,.own found,.val (.int (k:Nat)),.val (bY r),s6,s7,s8]:=rfl
  simp only[List.map_cons,bw,eE,hs,Option.bind_some,e1]
  rw[e,List.append_assoc]
  rfl
theorem vo {ns:List Int}{a:Int}{rows:List (List Int)}(hl:ns.length<=63) (hr:∀r∈rows,r.length<=1000) (hn:rows.length<=1000):∃os:List (List Int),bB [bC ns,.int a,.list (rows.map bY)]=some (.list (os.map af))/\o7 os rows:=by
 obtain⟨os,t4,t5,t6,t7,t8,e,p⟩:=Co hl (rws:=.list (rows.map bY)) (a:=a) (rows:=rows) (found:=[]) (k:=0) (s4:=.non) (s5:=.non) (s6:=.non) (s7:=.non) (s8:=.non) hr (by simpa using hn)
 refine⟨os,?_,p⟩
 rw[List.nil_append] at e
 have h1:aK 3 [] (iz ae) [.val (bC ns),.val (.int a),.val (.list (rows.map bY)),.non,.non,.non,.non,.non,.non]=some (.nx [.val (bC ns),.val (.int a),.val (.list (rows.map bY)),.own [],.non,.non,.non,.non,.non]):=by
  simp only[aK,k5,iz,ae,Option.bind_some,gY,Option.map_some,List.set_cons_succ,List.set_cons_zero]
 have h2:dW [2] (br (aa (ab 2) ae)) (eR 4 5) rB [.val (bC ns),.val (.int a),.val (.list (rows.map bY)),.own [],.non,.non,.non,.non,.non]=some (.nx [.val (bC ns),.val (.int a),.val (.list (rows.map bY)),.own (os.map af),t4,t5,t6,t7,t8]):=by
  have hh:hand [2] 0 [Slot.val (bC ns),.val (.int a),.val (.list (rows.map bY)),.own [],.non,.non,.non,.non,.non]=[Slot.val (bC ns),.val (.int a),.val (.list (rows.map bY)),.own [],.non,.non,.non,.non,.non]:=rfl
  have hq:br (aa (ab 2) ae) (bR [Slot.val (bC ns),.val (.int a),.val (.list (rows.map bY)),.own [],.non,.non,.non,.non,.non])=some (bw 0 (rows.map bY)):=by
   simp only[bR,List.map_cons,List.map_nil]
   simp! [br]
  simp only[dW,hh,hq,Option.bind_some]
  exact e
 unfold rB oB at h2
 simp! [bB,gn,h1,h2]
noncomputable abbrev Pl:=Int×List Int
noncomputable abbrev Wy:=Int×Int×Int
noncomputable def bf (p:Pl):D:=.tuple [.int p.1,af p.2]
noncomputable def ao (w:Wy):D:=.tuple [.int w.1,.int w.2.1,.int w.2.2]
noncomputable def ar (G T:List Pl) (W:List Wy):D:=.tuple [.tuple (G.map bf),.tuple (T.map bf),.tuple (W.map ao)]
noncomputable def yQ (W:List Wy) (i:Int):List Int:=(W.filter fun w=>decide (w.1=i)).map fun w=>w.2.1
noncomputable def ofT (W:List Wy) (j:Int):List Int:=(W.filter fun w=>decide (w.2.1=j)).map fun w=>w.1
noncomputable abbrev u9 (W:List Wy):Prop:=W.Pairwise fun a b=>a.1 < b.1\/(a.1=b.1/\a.2.1 < b.2.1)
structure Wd (G T:List Pl) (W:List Wy):Prop where
 g1:1<=G.length
 g4:G.length<=4
 t1:1<=T.length
 t4:T.length<=4
 ga:∀p∈G,0<=p.1/\p.1<=9
 ta:∀p∈T,0<=p.1/\p.1<=9
 gl:∀ (i:Nat) (p:Pl),G[i]?=some p->p.2.Perm (yQ W i)
 tl:∀ (j:Nat) (p:Pl),T[j]?=some p->p.2.Perm (ofT W j)
 wr:∀w∈W,(0<=w.1/\w.1 < G.length)/\(0<=w.2.1/\w.2.1 < T.length)/\1<=w.2.2/\w.2.2<=9
 wp:u9 W
 wl:W.length<=16
theorem xJ {W:List Wy}{i j:Int}:j∈yQ W i↔[i,j]∈W.map fun w=>[w.1,w.2.1]:=by
 simp only[yQ,List.mem_map,List.mem_filter,decide_eq_true_eq,List.cons.injEq,and_true]
 constructor
 ·rintro⟨w,⟨h1,h2⟩,h3⟩;exact⟨w,h1,h2,h3⟩
 ·rintro⟨w,h1,h2,h3⟩;exact⟨w,⟨h1,h2⟩,h3⟩
theorem yz {W:List Wy}{i j:Int}:i∈ofT W j↔[i,j]∈W.map fun w=>[w.1,w.2.1]:=by
 simp only[ofT,List.mem_map,List.mem_filter,decide_eq_true_eq,List.cons.injEq,and_true]
 constructor
 ·rintro⟨w,⟨h1,h2⟩,h3⟩;exact⟨w,h1,h3,h2⟩
 ·rintro⟨w,h1,h2,h3⟩;exact⟨w,⟨h1,h3⟩,h2⟩
theorem qt {W:List Wy}(h:u9 W) (i:Int):(yQ W i).Nodup:=by
 unfold yQ List.Nodup
 rw[List.pairwise_map,List.pairwise_filter]
 refine h.imp fun hab ha hb=>?_
 rw[decide_eq_true_eq] at ha hb
 omega
theorem qX {W:List Wy}(h:u9 W) (i:Int):(ofT W i).Nodup:=by
 unfold ofT List.Nodup
 rw[List.pairwise_map,List.pairwise_filter]
 refine h.imp fun hab ha hb=>?_
 rw[decide_eq_true_eq] at ha hb
 omega
theorem ma (p:Pl):dJ (bf p)=p.2:=by
 show ((p.2.map PyData.int).map g0)=p.2
 rw[List.map_map]
 exact List.map_id _
theorem mx {n:Int}{p:Pl}(ha:0<=p.1/\p.1<=9) (hn:p.2.Nodup) (hr:∀j∈p.2,0<=j/\j < n):placeOk n (bf p)=true:=by
 have e:(p.2.map PyData.int).map g0=p.2:=ma p
 have e2:(p.2.map PyData.int).all (whole 0 (n - 1))=true:=by
  rw[List.all_eq_true]
  intro x hx
  obtain⟨j,hj,rfl⟩:=List.mem_map.mp hx
  have:=hr j hj
  simp only[whole,Bool.and_eq_true,decide_eq_true_eq]
  omega
 simp only[placeOk,bf,af,List.length_cons,List.length_nil,List.getD_cons_zero,List.getD_cons_succ,hJ,whole,e,e2,ha.1,ha.2,hn,decide_true,Bool.and_self]
theorem Ao {g t:Int}{w:Wy}(h:(0<=w.1/\w.1 < g)/\(0<=w.2.1/\w.2.1 < t)/\1<=w.2.2/\w.2.2<=9):iL g t (ao w)=true:=by
 obtain⟨⟨a,b⟩,⟨c,d⟩,e,f⟩:=h
 have b':w.1<=g - 1:=by omega
 have d':w.2.1<=t - 1:=by omega
 simp only[iL,ao,List.length_cons,List.length_nil,List.getD_cons_zero,List.getD_cons_succ,whole,a,b',c,d',e,f,decide_true,Bool.and_self]
theorem Lg {a b c d:Int}(h:a < c\/(a=c/\b < d)):Dl.lexLt [a,b] [c,d]=true:=by
 show HT.lexLt [a,b] [c,d]=true
 rw[HT.da]
 by_cases e:a=c
 ·rw[if_pos e,HT.da,if_neg (by omega)]
  simp only[decide_eq_true_eq];omega
 ·rw[if_neg e];simp only[decide_eq_true_eq];omega
theorem Wd.glike {G T:List Pl}{W:List Wy}(h:Wd G T W) {p:Pl}(hp:p∈G):∃i:Nat,i < G.length/\p.2.Perm (yQ W i):=by
 obtain⟨i,hi,e⟩:=List.getElem_of_mem hp
 exact⟨i,hi,h.gl i p (by rw[List.getElem?_eq_getElem hi,e])⟩
theorem Wd.tlike {G T:List Pl}{W:List Wy}(h:Wd G T W) {p:Pl}(hp:p∈T):∃i:Nat,i < T.length/\p.2.Perm (ofT W i):=by
 obtain⟨i,hi,e⟩:=List.getElem_of_mem hp
 exact⟨i,hi,h.tl i p (by rw[List.getElem?_eq_getElem hi,e])⟩
theorem Wd.gok {G T:List Pl}{W:List Wy}(h:Wd G T W):(G.map bf).all (placeOk T.length)=true:=by
 rw[List.all_eq_true]
 intro x hx
 obtain⟨p,hp,rfl⟩:=List.mem_map.mp hx
 obtain⟨i,hi,q⟩:=h.glike hp
 refine mx (h.ga p hp) (q.nodup_iff.mpr (qt h.wp _)) fun j hj=>?_
 obtain⟨w,hw,e⟩:=List.mem_map.mp (xJ.mp (q.mem_iff.mp hj))
 injection e with e1 e2
 injection e2 with e2 _
 have:=(h.wr w hw).2.1
 rw[e2] at this;exact this
theorem Wd.tok {G T:List Pl}{W:List Wy}(h:Wd G T W):(T.map bf).all (placeOk G.length)=true:=by
 rw[List.all_eq_true]
 intro x hx
 obtain⟨p,hp,rfl⟩:=List.mem_map.mp hx
 obtain⟨i,hi,q⟩:=h.tlike hp
 refine mx (h.ta p hp) (q.nodup_iff.mpr (qX h.wp _)) fun j hj=>?_
 obtain⟨w,hw,e⟩:=List.mem_map.mp (yz.mp (q.mem_iff.mp hj))
 injection e with e1 e2
 have:=(h.wr w hw).1
 rw[e1] at this;exact this
theorem Wd.lok {G T:List Pl}{W:List Wy}(h:Wd G T W):Kn (ar G T W)=true:=by
 have hP:(W.map ao).map cJ=W.map fun w=>[w.1,w.2.1]:=by rw[List.map_map];rfl
 have hadj:FQ (W.map fun w=>[w.1,w.2.1])=true:=nV (List.pairwise_map.mpr (h.wp.imp fun hab=>Lg hab))
 have hokg:Ho (W.map fun w=>[w.1,w.2.1]) (T.map bf) 0 (G.map bf)=true:=by
  rw[rF]
  intro m p hp l q hq
  rw[List.getElem?_map] at hp hq
  obtain⟨p',hp',rfl⟩:=Option.map_eq_some_iff.mp hp
  obtain⟨q',hq',rfl⟩:=Option.map_eq_some_iff.mp hq
  rw[rV,ma,ma,(h.gl m p' hp').mem_iff,(h.tl l q' hq').mem_iff,xJ,yz,Nat.zero_add]
  exact⟨Iff.rfl,Iff.rfl⟩
 have hw:(W.map ao).all (iL G.length T.length)=true:=by
  rw[List.all_eq_true]
  intro x hx
  obtain⟨w,hw,rfl⟩:=List.mem_map.mp hx
  exact Ao (h.wr w hw)
 have hs:∀ {L:List Pl},1<=L.length->L.length<=4->lT (.tuple (L.map bf))=true:=fun {L} a b=>by
  simp only[lT,long,List.length_map,Bool.and_eq_true,decide_eq_true_eq];omega
 have h3:long 3 3 (ar G T W)=true:=rfl
 have hg:=h.gok
 have ht:=h.tok
 unfold Kn
 rw[h3,Bool.true_and]
 simp only[ar,bh,List.getD_cons_zero,List.getD_cons_succ,hP,hadj,hokg,Bool.and_true,d9,hs h.g1 h.g4,hs h.t1 h.t4,List.length_map,hg,ht,hw,FM]
theorem nX {W:List Wy}{p:Wy->Bool}(h:W.length<=16):(W.filter p).length<=16:=Nat.le_trans (List.length_filter_le _ _) h
theorem yl {p:Pl}(h:p.2.length<=16):ie 16 2 (bf p):=.tup (by simp only[List.length_cons,List.length_nil];omega) fun x hx=>by
 rcases List.mem_cons.mp hx with rfl|hx
 ·exact jD _
 ·rw[List.mem_singleton] at hx
  subst hx
  exact xI h
theorem Fl (w:Wy):ie 16 1 (ao w):=.tup (by simp only[List.length_cons,List.length_nil];omega) fun x hx=>by
 simp only[List.mem_cons,List.not_mem_nil,or_false] at hx
 rcases hx with rfl|rfl|rfl<;>exact jD _
theorem Wd.fit {G T:List Pl}{W:List Wy}(h:Wd G T W):ie 16 4 (ar G T W):=by
 refine .tup (by simp only[List.length_cons,List.length_nil];omega) fun x hx=>?_
 simp only[List.mem_cons,List.not_mem_nil,or_false] at hx
 have h4:=h.g4
 have h5:=h.t4
 have h6:=h.wl
 rcases hx with rfl|rfl|rfl
 ·refine .tup (by rw[List.length_map];omega) fun x hx=>?_
  obtain⟨p,hp,rfl⟩:=List.mem_map.mp hx
  obtain⟨i,hi,q⟩:=h.glike hp
  exact yl (by rw[q.length_eq,yQ,List.length_map];exact nX h.wl)
 ·refine .tup (by rw[List.length_map];omega) fun x hx=>?_
  obtain⟨p,hp,rfl⟩:=List.mem_map.mp hx
  obtain⟨i,hi,q⟩:=h.tlike hp
  exact yl (by rw[q.length_eq,ofT,List.length_map];exact nX h.wl)
 ·refine .tup (by rw[List.length_map];omega) fun x hx=>?_
  obtain⟨p,hp,rfl⟩:=List.mem_map.mp hx
  exact (Fl p).mono (Nat.le_refl _) (by decide)
theorem Ad {c:Int}(h0:0<=c) (h9:c<=9):Wd [(c,[0,1]),(c,[1,0])] [(c,[1,0]),(c,[0,1])] [(0,0,2),(0,1,2),(1,0,2),(1,1,2)] where
 g1:=by simp only[List.length_cons,List.length_nil];omega
 g4:=by simp only[List.length_cons,List.length_nil];omega
 t1:=by simp only[List.length_cons,List.length_nil];omega
 t4:=by simp only[List.length_cons,List.length_nil];omega
 ga:=by intro p hp;simp only[List.mem_cons,List.not_mem_nil,or_false] at hp;rcases hp with rfl|rfl<;>exact⟨h0,h9⟩
 ta:=by intro p hp;simp only[List.mem_cons,List.not_mem_nil,or_false] at hp;rcases hp with rfl|rfl<;>exact⟨h0,h9⟩
 gl:=by
  intro i p hp
  match i,hp with
  | 0,hp=>injection hp with hp;subst hp;exact (show List.Perm ([0,1]:List Int) (yQ [(0,0,2),(0,1,2),(1,0,2),(1,1,2)] ((0:Nat):Int)) by decide)
  | 1,hp=>injection hp with hp;subst hp;exact (show List.Perm ([1,0]:List Int) (yQ [(0,0,2),(0,1,2),(1,0,2),(1,1,2)] ((1:Nat):Int)) by decide)
 tl:=by
  intro i p hp
  match i,hp with
  | 0,hp=>injection hp with hp;subst hp;exact (show List.Perm ([1,0]:List Int) (ofT [(0,0,2),(0,1,2),(1,0,2),(1,1,2)] ((0:Nat):Int)) by decide)
  | 1,hp=>injection hp with hp;subst hp;exact (show List.Perm ([0,1]:List Int) (ofT [(0,0,2),(0,1,2),(1,0,2),(1,1,2)] ((1:Nat):Int)) by decide)
 wr:=show ∀w∈([(0,0,2),(0,1,2),(1,0,2),(1,1,2)]:List Wy),(0<=w.1/\w.1 < ((2:Nat):Int))/\(0<=w.2.1/\w.2.1 < ((2:Nat):Int))/\1<=w.2.2/\w.2.2<=9 by decide
 wp:=by decide
 wl:=by decide
noncomputable def iN (f:Nat->Int):Nat->List (List Int)->List Pl|_,[]=>[]|k,r::rs=>(f k,r)::iN f (k+1) rs
theorem gC (f:Nat->Int):∀ (rs:List (List Int)) (k:Nat),(iN f k rs).length=rs.length
 | [],k=>rfl
 | r::rs,k=>by rw[iN,List.length_cons,List.length_cons,gC f rs]
theorem gL (f:Nat->Int):∀ {rs:List (List Int)}{k i:Nat}{p:Pl},(iN f k rs)[i]?=some p->∃r,rs[i]?=some r/\p=(f (k+i),r)
 | [],k,i,p,h=>by simp[iN] at h
 | r::rs,k,0,p,h=>by simp[iN] at h;exact⟨r,rfl,h.symm⟩
 | r::rs,k,i+1,p,h=>by
  simp only[iN,List.getElem?_cons_succ] at h
  obtain⟨y,h1,h2⟩:=gL f h
  exact⟨y,by simpa using h1,by rw[h2];congr 2;omega⟩
theorem dQ:∀ {a b:List (List Int)},o7 a b->a.length=b.length
 | [],[],_=>rfl
 | x::a,y::b,h=>by rw[List.length_cons,List.length_cons,dQ h.2]
 | [],_::_,h=>h.elim
 | _::_,[],h=>h.elim
theorem lX:∀ {a b:List (List Int)}{i:Nat}{r:List Int},o7 a b->a[i]?=some r->∃s,b[i]?=some s/\r.Perm s
 | [],[],i,r,_,h=>by simp at h
 | x::a,y::b,0,r,h,e=>by
  simp only[List.getElem?_cons_zero,Option.some.injEq] at e
  subst e
  exact⟨y,rfl,h.1⟩
 | x::a,y::b,i+1,r,h,e=>by
  simp only[List.getElem?_cons_succ] at e
  obtain⟨s,h1,h2⟩:=lX h.2 e
  exact⟨s,by simpa using h1,h2⟩
 | [],_::_,i,r,h,_=>h.elim
 | _::_,[],i,r,h,_=>h.elim
noncomputable def jR (W:List Wy) (m:Nat):List (List Int):=(List.range m).map fun i=>yQ W ((i:Nat):Int)
noncomputable def jX (W:List Wy) (m:Nat):List (List Int):=(List.range m).map fun i=>ofT W ((i:Nat):Int)
theorem DC {m s:Nat}{W:List Wy}{mine yours:List (List Int)}{f g:Nat->Int}(m1:1<=m) (m4:m<=4) (s1:1<=s) (s4:s<=4) (hf:∀k,0<=f k/\f k<=9) (hg:∀k,0<=g k/\g k<=9)
  (hm:o7 mine (jR W m)) (hy:o7 yours (jX W s)) (wr:∀w∈W,(0<=w.1/\w.1 < m)/\(0<=w.2.1/\w.2.1 < s)/\1<=w.2.2/\w.2.2<=9) (wp:u9 W) (wl:W.length<=16):Wd (iN f 0 mine) (iN g 0 yours) W:=by
 have lm:(iN f 0 mine).length=m:=by rw[gC,dQ hm,jR,List.length_map,List.length_range]
 have ly:(iN g 0 yours).length=s:=by rw[gC,dQ hy,jX,List.length_map,List.length_range]
 have am:∀ {h:Nat->Int}{rs:List (List Int)},(∀k,0<=h k/\h k<=9)->∀p∈iN h 0 rs,0<=p.1/\p.1<=9:=fun {h rs} hh p hp=>by
  obtain⟨i,hi⟩:=List.mem_iff_getElem?.mp hp
  obtain⟨r,_,rfl⟩:=gL h hi
  exact hh _
 refine⟨by omega,by omega,by omega,by omega,am hf,am hg,fun i p hp=>?_,fun i p hp=>?_,by rw[lm,ly];exact wr,wp,wl⟩
 ·obtain⟨r,h1,rfl⟩:=gL f hp
  obtain⟨t,h2,h3⟩:=lX hm h1
  rw[jR,List.getElem?_map] at h2
  obtain⟨k,hk,rfl⟩:=Option.map_eq_some_iff.mp h2
  have:k=i:=by
   rw[List.getElem?_eq_some_iff] at hk
   obtain⟨h,e⟩:=hk
   rw[List.getElem_range] at e
   exact e.symm
  subst this
  exact h3
 ·obtain⟨r,h1,rfl⟩:=gL g hp
  obtain⟨t,h2,h3⟩:=lX hy h1
  rw[jX,List.getElem?_map] at h2
  obtain⟨k,hk,rfl⟩:=Option.map_eq_some_iff.mp h2
  have:k=i:=by
   rw[List.getElem?_eq_some_iff] at hk
   obtain⟨h,e⟩:=hk
   rw[List.getElem_range] at e
   exact e.symm
  subst this
  exact h3
theorem bU {i:Nat}{fz:List Nat}{f:Dl.Env->Option D}{ρ ρ':ai}{d:D}(hf:f (bb ρ)=some d) (hs:Dl.m7 d=false) (hh:hand fz 0 ρ=ρ') (hv:bR ρ'=bb ρ):Dl.aB i fz f ρ=some (.nx (ρ'.set i (.val d))):=by
 simp only[Dl.aB,hf,Option.bind_some,hs,Bool.false_eq_true,if_false,hh,hv,Option.map_some]
theorem dX {i:Nat}{fz:List Nat}{f:Dl.Env->Option D}{ρ:ai}{d:D}(hf:f (bb ρ)=some d) (hs:Dl.m7 d=true):Dl.aB i fz f ρ=some (.nx (ρ.set i (.val d))):=by
 simp only[Dl.aB,hf,Option.bind_some,hs,if_true]
theorem FU (w:Wy):au (ao w) (.int 0)=some (.int w.1):=rfl
theorem F2 (w:Wy):au (ao w) (.int 1)=some (.int w.2.1):=rfl
theorem xr (a b c:D):small [a,b,c]=some [a,b,c]:=rfl
theorem Kj {a b s:Int}(hs:s=1\/s=2\/s=3) (h:a < b):a / s < b / s\/(a / s=b / s/\a % s < b % s):=by rcases hs with rfl|rfl|rfl<;>omega
theorem GY {k m s:Int}(hs:s=1\/s=2\/s=3) (hm:m=1\/m=2\/m=3) (h0:0<=k) (h:k < m * s):(0<=k / s/\k / s < m)/\0<=k % s/\k % s < s:=by
 rcases hs with rfl|rfl|rfl<;>rcases hm with rfl|rfl|rfl<;>omega
noncomputable def lB:ai->Option Out:=(eX (mM (fB (f2 Av (aY bu (aa (ab 7) ae)) (ab 2))) (fB (f2 xD (ag 3 aj (aa (ab 0) (aa (f2 aE (f2 aE (ab 1) (fC (.int 2))) (ab 8)) (aa (fC (.int 4)) ae)))) (fC (.int 0))))) (kg 7 [0,1,6,8] (aH (aa (f2 k9 (ab 8) (ab 6)) (aa (f2 jM (ab 8) (ab 6)) (aa (f2 aE (fC (.int 1)) (ag 3 aj (aa (ab 0) (aa (f2 aE (f2 aE (ab 1) (fC (.int 12))) (ab 8)) (aa (fC (.int 2)) ae))))) ae))))) eU)
noncomputable abbrev st (ns:List Int) (a mo m s:Int) (x4 x7 x8 x9 x10 x11:Slot):ai:=[.val (bC ns),.val (.int a),.val (.int mo),.non,x4,.val (.int m),.val (.int s),x7,x8,x9,x10,x11]
noncomputable def DZ (ns:List Int) (a mo s k:Int) (W:List Wy):List Wy:=if (W.length:Int) < mo/\0 < dr ns (a+2+k) 4 then W++[(k / s,k % s,1+dr ns (a+12+k) 2)] else W
theorem Hu {ns:List Int}{a mo m s k:Int}{W:List Wy}(hl:ns.length<=63) (hs:s=1\/s=2\/s=3) (hw:W.length<=9) :
  lB (st ns a mo m s .non (.own (W.map ao)) (.val (.int k)) .non .non .non)=some (.nx (st ns a mo m s .non (.own ((DZ ns a mo s k W).map ao)) (.val (.int k)) .non .non .non)):=by
 have hs0:0 < s:=by omega
 have hz:W.length < sizeLine:=Nat.lt_of_le_of_lt hw (by decide)
 have hd:Dl.k9 (.int k) (.int s)=some (.int (k / s)):=iX ⟨hs0,by omega⟩
 have hm:Dl.jM (.int k) (.int s)=some (.int (k % s)):=gK hs0
 have e4:=qS (ns:=ns) (a+2+k) 4 hl (by decide)
 have e2:=qS (ns:=ns) (a+12+k) 2 hl (by decide)
 have hh:hand [0,1,6,8] 0 (st ns a mo m s .non (.own (W.map ao)) (.val (.int k)) .non .non .non)=st ns a mo m s .non (.own (W.map ao)) (.val (.int k)) .non .non .non:=rfl
 have ha:kg 7 [0,1,6,8] (aH (aa (f2 k9 (ab 8) (ab 6)) (aa (f2 jM (ab 8) (ab 6)) (aa (f2 aE (fC (.int 1)) (ag 3 aj (aa (ab 0) (aa (f2 aE (f2 aE (ab 1) (fC (.int 12))) (ab 8)) (aa (fC (.int 2)) ae))))) ae)))) (st ns a mo m s .non (.own (W.map ao)) (.val (.int k)) .non .non .non)=some (.nx (st ns a mo m s .non (.own ((W++[(k / s,k % s,1+dr ns (a+12+k) 2)]).map ao)) (.val (.int k)) .non .non .non)):=by
  simp only[kg,jP,hh,bR,List.map_cons,List.map_nil]
  simp! [uQ,Bool.false_eq_true,nc,hd,hm,e2,xr,List.length_map,hz,List.set_cons_succ,List.set_cons_zero,List.map_append]
  rfl
 by_cases c1:(W.length:Int) < mo
 ·by_cases c2:0 < dr ns (a+2+k) 4
  ·rw[show DZ ns a mo s k W=W++[(k / s,k % s,1+dr ns (a+12+k) 2)] from if_pos ⟨c1,c2⟩,<- ha]
   simp! [lB,k4,fR,List.length_map,c1,c2,decide_true,fS,e4]
  ·rw[show DZ ns a mo s k W=W from if_neg fun h=>c2 h.2]
   simp! [lB,k4,fR,List.length_map,c1,c2,decide_true,decide_false,fS,e4,Bool.false_eq_true]
 ·rw[show DZ ns a mo s k W=W from if_neg fun h=>c1 h.1]
  simp! [lB,k4,fR,List.length_map,c1,decide_false,fS,Bool.false_eq_true]
structure zf (mo s k:Int) (W:List Wy):Prop where
 mem:∀w∈W,∃j:Int,0<=j/\j < k/\w.1=j / s/\w.2.1=j % s/\1<=w.2.2/\w.2.2<=2
 ris:u9 W
 len:(W.length:Int)<=k
 lem:(W.length:Int)<=mo
theorem zf.next {ns:List Int}{a mo s k:Int}{W:List Wy}(hl:ns.length<=63) (hs:s=1\/s=2\/s=3) (hk:0<=k) (h:zf mo s k W):zf mo s (k+1) (DZ ns a mo s k W):=by
 have old:∀w∈W,∃j:Int,0<=j/\j < k+1/\w.1=j / s/\w.2.1=j % s/\1<=w.2.2/\w.2.2<=2:=fun w hw=>by
  obtain⟨j,a,b,c⟩:=h.mem w hw
  exact⟨j,a,by omega,c⟩
 by_cases c:(W.length:Int) < mo/\0 < dr ns (a+2+k) 4
 ·rw[show DZ ns a mo s k W=W++[(k / s,k % s,1+dr ns (a+12+k) 2)] from if_pos c]
  have g1:=F6 (ns:=ns) (a+12+k) 2 hl (by decide)
  have g2:=FR (ns:=ns) (a+12+k) 2 hl (by decide)
  refine⟨fun w hw=>?_,?_,?_,?_⟩
  ·rcases List.mem_append.mp hw with hw|hw
   ·exact old w hw
   ·rw[List.mem_singleton] at hw
    subst hw
    exact⟨k,hk,by omega,rfl,rfl,by simp only;omega,by simp only;omega⟩
  ·refine List.pairwise_append.mpr ⟨h.ris,List.pairwise_singleton _ _,fun a ha b hb=>?_⟩
   rw[List.mem_singleton] at hb
   subst hb
   obtain⟨j,_,b,c1,c2,_⟩:=h.mem a ha
   rw[c1,c2]
   exact Kj hs b
  ·have:=h.len;rw[List.length_append,List.length_singleton];omega
  ·have:=c.1;rw[List.length_append,List.length_singleton];omega
 ·rw[show DZ ns a mo s k W=W from if_neg c]
  exact⟨old,h.ris,by have:=h.len;omega,h.lem⟩
theorem B4 {ns:List Int}{a mo m s:Int}(hl:ns.length<=63) (hs:s=1\/s=2\/s=3):∀ (n k:Nat) {W:List Wy}{x8:Slot},k+n<=9->zf mo s k W ->
  ∃W' t8,eE (tN 8) lB ((List.range' k n).map fun i=>PyData.int ((i:Nat):Int)) (st ns a mo m s .non (.own (W.map ao)) x8 .non .non .non)=some (.nx (st ns a mo m s .non (.own (W'.map ao)) t8 .non .non .non))/\(n=0/\t8=x8\/∃d,t8=.val d)/\zf mo s ((k+n:Nat):Int) W'
 | 0,k,W,x8,hk,h=>⟨W,x8,rfl,.inl ⟨rfl,rfl⟩,h⟩
 | n+1,k,W,x8,hk,h=>by
  have h':zf mo s ((k+1:Nat):Int) (DZ ns a mo s k W):=by
   have:=h.next (ns:=ns) (a:=a) hl hs (by omega)
   rwa [show ((k:Int)+1)=((k+1:Nat):Int) by omega] at this
  obtain⟨W',t8,e,q,b⟩:=B4 hl hs n (k+1) (W:=DZ ns a mo s k W) (x8:=.val (.int (k:Nat))) (by omega) h'
  refine⟨W',t8,?_,.inr (q.elim (fun z=>⟨_,z.2⟩) id),by rw[show k+(n+1)=k+1+n by omega];exact b⟩
  have hsg:∀d,tN 8 (st ns a mo m s .non (.own (W.map ao)) x8 .non .non .non) d=some (st ns a mo m s .non (.own (W.map ao)) (.val d) .non .non .non):=fun d=>rfl
  rw[List.range'_succ,List.map_cons,eE,hsg,Option.bind_some,Hu hl hs (by have:=h.len;omega)]
  exact e
theorem Km (W:List Wy) (i:Int) (hw:W.length<=20):ak 1 [0] (aS (ab 1)) (fG 0) (fB (f2 bS (f2 au (ab 0) (fC (.int 0))) (ab 1))) (f2 au (ab 0) (fC (.int 1))) [some (.int i),some (.list (W.map ao))]=some ((yQ W i).map PyData.int):=by
 rw[lG (ds:=W.map ao) (p:=fun d=>decide (g0 ((bh d).getD 0 .none)=i)) (h:=fun d=>(bh d).getD 1 .none) rfl (by rw[List.length_map];omega) (fun d hd=>?_) fun d hd _=>?_]
 ·rw[List.filter_map,List.map_map,yQ,List.map_map];rfl
 ·obtain⟨w,_,rfl⟩:=List.mem_map.mp hd
  simp! [FU,dz,fS]
  rfl
 ·obtain⟨w,_,rfl⟩:=List.mem_map.mp hd
  simp! [F2]
  rfl
theorem Kz (W:List Wy) (i:Int) (hw:W.length<=20):ak 1 [0] (aS (ab 1)) (fG 0) (fB (f2 bS (f2 au (ab 0) (fC (.int 1))) (ab 1))) (f2 au (ab 0) (fC (.int 0))) [some (.int i),some (.list (W.map ao))]=some ((ofT W i).map PyData.int):=by
 rw[lG (ds:=W.map ao) (p:=fun d=>decide (g0 ((bh d).getD 1 .none)=i)) (h:=fun d=>(bh d).getD 0 .none) rfl (by rw[List.length_map];omega) (fun d hd=>?_) fun d hd _=>?_]
 ·rw[List.filter_map,List.map_map,ofT,List.map_map];rfl
 ·obtain⟨w,_,rfl⟩:=List.mem_map.mp hd
  simp! [F2,dz,fS]
  rfl
 ·obtain⟨w,_,rfl⟩:=List.mem_map.mp hd
  simp! [FU]
  rfl
theorem tK {m:Nat}(hm:m<=1000):vM ((m:Nat):Int)=true:=by
 unfold vM
 rw[Bool.and_eq_true,decide_eq_true_eq,decide_eq_true_eq]
 have h1:(0:Int)<=(m:Int):=Int.natCast_nonneg m
 have h2:(m:Int)<=1000:=by omega
 exact⟨Int.le_trans (by decide) h1,Int.lt_of_le_of_lt h2 (by decide)⟩
theorem uk {j:Int}(h:vM j=true):j6 [.int j]=some ((List.range j.toNat).map fun i=>PyData.int ((i:Nat):Int)):=by
 rw[j6,if_pos h]
theorem tJ {fi:Dl.Env->Option D}{ρ:Dl.Env}(m:Nat) (hm:m<=1000) (h:fi ρ=some (.int (m:Nat))):bG (aa fi ae) ρ=some ((List.range m).map fun i=>PyData.int ((i:Nat):Int)):=by
 have e:aa fi ae ρ=some [.int ((m:Nat):Int)]:=by simp only[aa,ae,h,Option.bind_some,Option.map_some]
 have e2:bG (aa fi ae) ρ=(aa fi ae ρ).bind j6:=rfl
 rw[e2,e,Option.bind_some,uk (tK hm),Int.toNat_natCast]
theorem Ei {W:List Wy}{m:Nat}{i7 i5:Nat}{ρ:Dl.Env}(hw:W.length<=20) (hm:m<=1000) (h5:ab i5 ρ=some (.int (m:Nat))) (h7:(ρ[i7]?).getD none=some (.list (W.map ao))) :
  ak 1 [i7] (bG (aa (ab i5) ae)) (fG 0) (fun _=>some true) (cw (ak 1 [0] (aS (ab 1)) (fG 0) (fB (f2 bS (f2 au (ab 0) (fC (.int 0))) (ab 1))) (f2 au (ab 0) (fC (.int 1))))) ρ=some ((jR W m).map bY):=by
 rw[bW (h:=fun d=>bY (yQ W (g0 d))) (tJ m hm h5) (by rw[List.length_map,List.length_range];omega) fun d hd=>?_]
 ·rw[jR,List.map_map,List.map_map];rfl
 ·obtain⟨i,_,rfl⟩:=List.mem_map.mp hd
  simp only[List.map_cons,List.map_nil,h7,cw,Km W _ hw,Option.map_some,bY,g0]
theorem DP {W:List Wy}{m:Nat}{i7 i5:Nat}{ρ:Dl.Env}(hw:W.length<=20) (hm:m<=1000) (h5:ab i5 ρ=some (.int (m:Nat))) (h7:(ρ[i7]?).getD none=some (.list (W.map ao))) :
  ak 1 [i7] (bG (aa (ab i5) ae)) (fG 0) (fun _=>some true) (cw (ak 1 [0] (aS (ab 1)) (fG 0) (fB (f2 bS (f2 au (ab 0) (fC (.int 1))) (ab 1))) (f2 au (ab 0) (fC (.int 0))))) ρ=some ((jX W m).map bY):=by
 rw[bW (h:=fun d=>bY (ofT W (g0 d))) (tJ m hm h5) (by rw[List.length_map,List.length_range];omega) fun d hd=>?_]
 ·rw[jX,List.map_map,List.map_map];rfl
 ·obtain⟨i,_,rfl⟩:=List.mem_map.mp hd
  simp only[List.map_cons,List.map_nil,h7,cw,Kz W _ hw,Option.map_some,bY,g0]
noncomputable def Gb (c:Int):Dl.Env->Option D:=(aH (aa (ag 3 aj (aa (ab 2) (aa (f2 aE (f2 aE (ab 3) (fC (.int c))) (ab 0)) (aa (fC (.int 4)) ae)))) (aa (ab 1) ae)))
theorem Kh {ns:List Int}{a:Int}(c:Int) (hl:ns.length<=63):∀ (mine:List (List Int)) (k:Nat),cq (fI 0 1) (fun _=>some true) (Gb c) [none,none,some (bC ns),some (.int a)] (bw k (mine.map af))=some ((iN (fun k=>dr ns (a+c+((k:Nat):Int)) 4) k mine).map bf)
 | [],k=>rfl
 | r::mine,k=>by
  have hg:fI 0 1 [none,none,some (bC ns),some (.int a)] (.tuple [.int ((k:Nat):Int),af r])=some [some (.int ((k:Nat):Int)),some (af r),some (bC ns),some (.int a)]:=rfl
  have he:Gb c [some (.int ((k:Nat):Int)),some (af r),some (bC ns),some (.int a)]=some (bf (dr ns (a+c+((k:Nat):Int)) 4,r)):=by
   simp! [Gb,qS (ns:=ns) (a+c+((k:Nat):Int)) 4 hl (by decide),xb,bf]
  have ih:=Kh (a:=a) c hl mine (k+1)
  rw[List.map_cons,bw,cq,hg]
  simp only[Option.bind_some,if_true,he,ih,Option.map_some,iN,List.map_cons]
theorem jJ:∀ (ds:List D) (k:Nat),(bw k ds).length=ds.length
 | [],k=>rfl
 | d::ds,k=>by rw[bw,List.length_cons,List.length_cons,jJ ds]
theorem uS {ns:List Int}{a c:Int}{i9:Nat}{ρ:Dl.Env}{mine:List (List Int)}(hl:ns.length<=63) (hm:mine.length<=1000) (h9:ab i9 ρ=some (.list (mine.map af))) (h0:(ρ[0]?).getD none=some (bC ns)) (h1:(ρ[1]?).getD none=some (.int a)) :
  aY bF (aa (cw (ak 2 [0,1] (br (aa (ab i9) ae)) (fI 0 1) (fun _=>some true) (Gb c))) ae) ρ=some (.tuple ((iN (fun k=>dr ns (a+c+((k:Nat):Int)) 4) 0 mine).map bf)):=by
 have hi:br (aa (ab i9) ae) ρ=some (bw 0 (mine.map af)):=by
  simp only[br,aa,ae,h9,Option.bind_some,Option.map_some,cM,oneOf,fQ]
 have hc:ak 2 [0,1] (br (aa (ab i9) ae)) (fI 0 1) (fun _=>some true) (Gb c) ρ=some ((iN (fun k=>dr ns (a+c+((k:Nat):Int)) 4) 0 mine).map bf):=by
  simp only[ak,hi,Option.bind_some,eh,List.map_cons,List.map_nil,h0,h1,List.replicate,List.cons_append,List.nil_append,Kh c hl]
  exact bq (by rw[List.length_map,gC];omega)
 simp only[aY,aa,ae,cw,hc,Option.map_some,Option.bind_some,bF,cM,oneOf,fQ]
theorem ah {g1 g2:ai->Option Out}{ρ ρ':ai}(h:g1 ρ=some (.nx ρ')):av g1 g2 ρ=g2 ρ':=by
 simp only[av,h,Option.bind_some]
theorem aI {g:ai->Option Out}{n:Nat}{args:List D}{d:D}(h:g (args.map Slot.val++List.replicate (n - args.length) .non)=some (.rt d)):bc g n args=some d:=by
 simp only[bc,h,Option.map_some]
theorem gZ {g:D->D->Option D}{fa fb:Dl.Env->Option D}{ρ:Dl.Env}{a b:D}(ha:fa ρ=some a) (hb:fb ρ=some b):f2 g fa fb ρ=g a b:=by
 simp only[f2,ha,hb,Option.bind_some]
theorem HR {ns:List Int}{a mo:Int}{m s:Nat}(m1:m<=3) (s1:s<=3):f2 dP (ab 5) (ab 6) (bR (st ns a mo m s .non (.own []) .non .non .non .non))=some (.int ((m * s:Nat):Int)):=by
 have h:Dl.dP (.int (m:Int)) (.int (s:Int))=some (.int ((m:Int) * (s:Int))):=eD (kf (by omega))
 rw[gZ (a:=.int (m:Int)) (b:=.int (s:Int)) rfl rfl,h,Int.natCast_mul]
theorem Gv {ns:List Int}{a mo:Int}{m s:Nat}(m1:m<=3) (s1:s<=3) (hms:m * s<=9) {W:List Wy}{t8:Slot}(e: eE (tN 8) lB ((List.range' 0 (m * s)).map fun i=>PyData.int ((i:Nat):Int)) (st ns a mo m s .non (.own (([]:List Wy).map ao)) .non .non .non .non)=some (.nx (st ns a mo m s .non (.own (W.map ao)) t8 .non .non .non))):dW [5,6] (bG (aa (f2 dP (ab 5) (ab 6)) ae)) (tN 8) lB (st ns a mo m s .non (.own []) .non .non .non .non)=some (.nx (st ns a mo m s .non (.own (W.map ao)) t8 .non .non .non)):=by
 have hh:hand [5,6] 0 (st ns a mo m s .non (.own []) .non .non .non .non)=st ns a mo m s .non (.own []) .non .non .non .non:=rfl
 have hr:=tJ (fi:=f2 dP (ab 5) (ab 6)) (ρ:=bR (st ns a mo m s .non (.own []) .non .non .non .non)) (m * s) (by omega) (HR m1 s1)
 rw[List.range_eq_range'] at hr
 rw[List.map_nil] at e
 simp only[dW,hh,hr,Option.bind_some]
 exact e
structure KM (mo:Int) (G T:List Pl) (W:List Wy):Prop where
 g3:G.length<=3
 t3:T.length<=3
 w2:∀w∈W,w.2.2<=2
 ga:∀p∈G,p.1<=3
 ta:∀p∈T,p.1<=3
 wm:(W.length:Int)<=mo
theorem r9 {ns:List Int}{a mo:Int}(hl:ns.length<=63) (hmo:3 < mo) (c:dr ns (a+64) 4=0):∃G T W,bM [bC ns,.int a,.int mo]=some (ar G T W)/\Wd G T W/\KM mo G T W:=by
 have e64:=qS (ns:=ns) (a+64) 4 hl (by decide)
 have e65:=e9 (ns:=ns) (a+65) 2 hl (by decide)
 refine⟨_,_,_,?_,Ad (c:=1+dr ns (a+65) 2) (by omega) (by omega),⟨by simp,by simp,by decide,fun p hp=>?_,fun p hp=>?_,by simp;omega⟩⟩
 rotate_left
 ·simp only[List.mem_cons,List.not_mem_nil,or_false] at hp;rcases hp with rfl|rfl<;>(simp only;omega)
 ·simp only[List.mem_cons,List.not_mem_nil,or_false] at hp;rcases hp with rfl|rfl<;>(simp only;omega)
 have s1:Dl.aB 3 [0,1] (f2 aE (fC (.int 1)) (ag 3 aj (aa (ab 0) (aa (f2 aE (ab 1) (fC (.int 65))) (aa (fC (.int 2)) ae))))) [.val (bC ns),.val (.int a),.val (.int mo),.non,.non,.non,.non,.non,.non,.non,.non,.non]=some (.nx [.val (bC ns),.val (.int a),.val (.int mo),.val (.int (1+dr ns (a+65) 2)),.non,.non,.non,.non,.non,.non,.non,.non]) :=
  dX (d:=.int (1+dr ns (a+65) 2)) (by simp! [e65.1]) rfl
 generalize 1+dr ns (a+65) 2=x at *
 have s2:Dl.aB 4 [3] (aH (aa (aH (aa (ab 3) (aa (aH (aa (fC (.int 1)) (aa (fC (.int 0)) ae))) ae))) (aa (aH (aa (ab 3) (aa (aH (aa (fC (.int 0)) (aa (fC (.int 1)) ae))) ae))) ae))) [.val (bC ns),.val (.int a),.val (.int mo),.val (.int x),.non,.non,.non,.non,.non,.non,.non,.non]=some (.nx [.val (bC ns),.val (.int a),.val (.int mo),.val (.int x),.val (.tuple [bf (x,[1,0]),bf (x,[0,1])]),.non,.non,.non,.non,.non,.non,.non]) :=
  bU (d:=.tuple [bf (x,[1,0]),bf (x,[0,1])]) (by simp! [xb];rfl) rfl rfl rfl
 simp! [bM,dB,fR,e64,c,dz,decide_true,fS,show decide ((3:Int) < mo)=true from decide_eq_true hmo,s1,s2,xb,xr,show ∀a b c d:D,small [a,b,c,d]=some [a,b,c,d] from fun _ _ _ _=>rfl]
 rfl
theorem sr {ns:List Int}{a mo:Int}(hl:ns.length<=63) (hm0:0<=mo) (c:¬ (3 < mo/\dr ns (a+64) 4=0)):∃G T W,bM [bC ns,.int a,.int mo]=some (ar G T W)/\Wd G T W/\KM mo G T W:=by
 have e64:=qS (ns:=ns) (a+64) 4 hl (by decide)
 have em:=e9 (ns:=ns) a 3 hl (by decide)
 have es:=e9 (ns:=ns) (a+1) 3 hl (by decide)
 obtain⟨m,hm⟩:=Int.eq_ofNat_of_zero_le (show 0<=1+dr ns a 3 by omega)
 obtain⟨s,hs⟩:=Int.eq_ofNat_of_zero_le (show 0<=1+dr ns (a+1) 3 by omega)
 have m1:1<=m/\m<=3:=by omega
 have s1:1<=s/\s<=3:=by omega
 have hs':(s:Int)=1\/(s:Int)=2\/(s:Int)=3:=by omega
 have hm':(m:Int)=1\/(m:Int)=2\/(m:Int)=3:=by omega
 have t5:Dl.aB 5 [0,1] (f2 aE (fC (.int 1)) (ag 3 aj (aa (ab 0) (aa (ab 1) (aa (fC (.int 3)) ae))))) [.val (bC ns),.val (.int a),.val (.int mo),.non,.non,.non,.non,.non,.non,.non,.non,.non]=some (.nx [.val (bC ns),.val (.int a),.val (.int mo),.non,.non,.val (.int (m:Nat)),.non,.non,.non,.non,.non,.non]) :=
  dX (d:=.int (m:Nat)) (by simp! [em.1,hm]) rfl
 have t6:Dl.aB 6 [0,1] (f2 aE (fC (.int 1)) (ag 3 aj (aa (ab 0) (aa (f2 aE (ab 1) (fC (.int 1))) (aa (fC (.int 3)) ae))))) [.val (bC ns),.val (.int a),.val (.int mo),.non,.non,.val (.int (m:Nat)),.non,.non,.non,.non,.non,.non]=some (.nx (st ns a mo m s .non .non .non .non .non .non)) :=
  dX (d:=.int (s:Nat)) (by simp! [es.1,hs]) rfl
 have t7:aK 7 [] (iz ae) (st ns a mo m s .non .non .non .non .non .non)=some (.nx (st ns a mo m s .non (.own []) .non .non .non .non)):=by
  simp only[aK,k5,iz,ae,Option.bind_some,gY,Option.map_some,List.set_cons_succ,List.set_cons_zero]
 have hms:m * s<=9:=Nat.mul_le_mul m1.2 s1.2
 have hms1:1<=m * s:=Nat.mul_le_mul m1.1 s1.1
 obtain⟨W,t8,e,h8,I⟩:=B4 (ns:=ns) (a:=a) (m:=m) (s:=s) hl hs' (m * s) 0 (W:=[]) (x8:=.non) (by omega) (mo:=mo) ⟨fun w hw=>(by cases hw),List.Pairwise.nil,by decide,hm0⟩
 rw[Nat.zero_add] at I
 obtain⟨d8,rfl⟩:∃d,t8=.val d:=h8.elim (fun z=>by omega) id
 have hlen9:W.length<=9:=by have:=I.len;omega
 have tf:=Gv m1.2 s1.2 hms e
 unfold lB at tf
 have hwl:W.length<=20:=by omega
 have wr:∀w∈W,(0<=w.1/\w.1 < m)/\(0<=w.2.1/\w.2.1 < s)/\1<=w.2.2/\w.2.2<=9:=fun w hw=>by
  obtain⟨j,j0,jk,ea,b,c1,c2⟩:=I.mem w hw
  have:=GY hs' hm' j0 (by rw[<- Int.natCast_mul];exact jk)
  rw[ea,b]
  exact⟨this.1,this.2,c1,by omega⟩
 have lenG:∀r∈jR W m,r.length<=1000:=fun r hr=>by
  obtain⟨i,_,rfl⟩:=List.mem_map.mp hr
  rw[yQ,List.length_map]
  exact Nat.le_trans (List.length_filter_le _ _) (by omega)
 have lenT:∀r∈jX W s,r.length<=1000:=fun r hr=>by
  obtain⟨i,_,rfl⟩:=List.mem_map.mp hr
  rw[ofT,List.length_map]
  exact Nat.le_trans (List.length_filter_le _ _) (by omega)
 obtain⟨mine,om,pm⟩:=vo (ns:=ns) (a:=a+24) (rows:=jR W m) hl lenG (by rw[jR,List.length_map,List.length_range];omega)
 obtain⟨yours,oy,py⟩:=vo (ns:=ns) (a:=a+40) (rows:=jX W s) hl lenT (by rw[jX,List.length_map,List.length_range];omega)
 have lm:mine.length<=1000:=by rw[dQ pm,jR,List.length_map,List.length_range];omega
 have ly:yours.length<=1000:=by rw[dQ py,jX,List.length_map,List.length_range];omega
 have t9:Dl.aB 9 [0,1,5,7] (ag 3 bB (aa (ab 0) (aa (f2 aE (ab 1) (fC (.int 24))) (aa (cw (ak 1 [7] (bG (aa (ab 5) ae)) (fG 0) (fun _=>some true) (cw (ak 1 [0] (aS (ab 1)) (fG 0) (fB (f2 bS (f2 au (ab 0) (fC (.int 0))) (ab 1))) (f2 au (ab 0) (fC (.int 1))))))) ae)))) (st ns a mo m s .non (.own (W.map ao)) (.val d8) .non .non .non)=some (.nx (st ns a mo m s .non (.val (.list (W.map ao))) (.val d8) (.val (.list (mine.map af))) .non .non)):=by
  refine (bU (ρ':=st ns a mo m s .non (.val (.list (W.map ao))) (.val d8) .non .non .non) (d:=.list (mine.map af)) ?_ rfl rfl ?_).trans rfl
  ·have q:=Ei (ρ:=bb (st ns a mo m s .non (.own (W.map ao)) (.val d8) .non .non .non)) (i5:=5) (i7:=7) hwl (show m<=1000 by omega) rfl rfl
   simp only[ag,aa,ae,cw,q,Option.map_some,Option.bind_some]
   simp! [om]
  ·simp only[st,bR,bb,List.map_cons,List.map_nil];rfl
 have t10:Dl.aB 10 [0,1,6,7] (ag 3 bB (aa (ab 0) (aa (f2 aE (ab 1) (fC (.int 40))) (aa (cw (ak 1 [7] (bG (aa (ab 6) ae)) (fG 0) (fun _=>some true) (cw (ak 1 [0] (aS (ab 1)) (fG 0) (fB (f2 bS (f2 au (ab 0) (fC (.int 1))) (ab 1))) (f2 au (ab 0) (fC (.int 0))))))) ae)))) (st ns a mo m s .non (.val (.list (W.map ao))) (.val d8) (.val (.list (mine.map af))) .non .non)=some (.nx (st ns a mo m s .non (.val (.list (W.map ao))) (.val d8) (.val (.list (mine.map af))) (.val (.list (yours.map af))) .non)):=by
  refine (bU (ρ':=st ns a mo m s .non (.val (.list (W.map ao))) (.val d8) (.val (.list (mine.map af))) .non .non) (d:=.list (yours.map af)) ?_ rfl ?_ ?_).trans rfl
  ·have q:=DP (ρ:=bb (st ns a mo m s .non (.val (.list (W.map ao))) (.val d8) (.val (.list (mine.map af))) .non .non)) (i5:=6) (i7:=7) hwl (show s<=1000 by omega) rfl rfl
   simp only[ag,aa,ae,cw,q,Option.map_some,Option.bind_some]
   simp! [oy]
  ·rfl
  ·simp only[st,bR,bb,List.map_cons,List.map_nil];rfl
 have t11:Dl.aB 11 [0,1,8,9] (aY bF (aa (cw (ak 2 [0,1] (br (aa (ab 9) ae)) (fI 0 1) (fun _=>some true) (Gb 56))) ae)) (st ns a mo m s .non (.val (.list (W.map ao))) (.val d8) (.val (.list (mine.map af))) (.val (.list (yours.map af))) .non)=some (.nx (st ns a mo m s .non (.val (.list (W.map ao))) (.val d8) (.val (.list (mine.map af))) (.val (.list (yours.map af))) (.val (.tuple ((iN (fun k=>dr ns (a+56+((k:Nat):Int)) 4) 0 mine).map bf))))):=by
  refine (bU (ρ':=st ns a mo m s .non (.val (.list (W.map ao))) (.val d8) (.val (.list (mine.map af))) (.val (.list (yours.map af))) .non) (uS hl lm rfl rfl rfl) rfl rfl ?_).trans rfl
  simp only[st,bR,bb,List.map_cons,List.map_nil];rfl
 have t4:∀G:D,Dl.aB 4 [0,1,8,10] (aY bF (aa (cw (ak 2 [0,1] (br (aa (ab 10) ae)) (fI 0 1) (fun _=>some true) (Gb 60))) ae)) (st ns a mo m s .non (.val (.list (W.map ao))) (.val d8) (.val (.list (mine.map af))) (.val (.list (yours.map af))) (.val G))=some (.nx (st ns a mo m s (.val (.tuple ((iN (fun k=>dr ns (a+60+((k:Nat):Int)) 4) 0 yours).map bf))) (.val (.list (W.map ao))) (.val d8) (.val (.list (mine.map af))) (.val (.list (yours.map af))) (.val G))):=fun G=>by
  refine (bU (ρ':=st ns a mo m s .non (.val (.list (W.map ao))) (.val d8) (.val (.list (mine.map af))) (.val (.list (yours.map af))) (.val G)) (uS hl ly rfl rfl rfl) rfl rfl ?_).trans rfl
  simp only[st,bR,bb,List.map_cons,List.map_nil];rfl
 refine⟨_,_,W,?_,DC (f:=fun k=>dr ns (a+56+((k:Nat):Int)) 4) (g:=fun k=>dr ns (a+60+((k:Nat):Int)) 4) m1.1 (by omega) s1.1 (by omega) (fun k=>?_) (fun k=>?_) pm py wr I.ris (by omega),⟨by rw[gC,dQ pm,jR,List.length_map,List.length_range];omega,by rw[gC,dQ py,jX,List.length_map,List.length_range];omega,fun w hw=>(by obtain⟨j,_,_,_,_,_,z⟩:=I.mem w hw;exact z),fun p hp=>?_,fun p hp=>?_,I.lem⟩⟩
 ·unfold Gb at t11 t4
  have tA:∀g,eX (mM (fB (f2 xD (ab 2) (fC (.int 3)))) (fB (f2 bS (ag 3 aj (aa (ab 0) (aa (f2 aE (ab 1) (fC (.int 64))) (aa (fC (.int 4)) ae)))) (fC (.int 0))))) g eU [.val (bC ns),.val (.int a),.val (.int mo),.non,.non,.non,.non,.non,.non,.non,.non,.non]=some (.nx [.val (bC ns),.val (.int a),.val (.int mo),.non,.non,.non,.non,.non,.non,.non,.non,.non]):=fun g=>by
   by_cases c1:3 < mo
   ·have c2:¬ dr ns (a+64) 4=0:=fun z=>c ⟨c1,z⟩
    simp! [fR,e64,c1,c2,dz,decide_false,decide_true,fS,Bool.false_eq_true]
   ·simp! [fR,c1,decide_false,fS,Bool.false_eq_true]
  refine aI ?_
  show dB [.val (bC ns),.val (.int a),.val (.int mo),.non,.non,.non,.non,.non,.non,.non,.non,.non]=_
  unfold dB
  rw[ah (tA _),ah t5,ah t6,ah t7,ah tf,ah t9,ah t10,ah t11,ah (t4 _)]
  simp! [xr,ar]
 ·have q:=e9 (ns:=ns) (a+56+((k:Nat):Int)) 4 hl (by decide)
  exact⟨q.2.1,by omega⟩
 ·have q:=e9 (ns:=ns) (a+60+((k:Nat):Int)) 4 hl (by decide)
  exact⟨q.2.1,by omega⟩
 ·obtain⟨i,hi⟩:=List.getElem?_of_mem hp
  obtain⟨r,_,rfl⟩:=gL _ hi
  have q:=e9 (ns:=ns) (a+56+((0+i:Nat):Int)) 4 hl (by decide)
  simp only;omega
 ·obtain⟨i,hi⟩:=List.getElem?_of_mem hp
  obtain⟨r,_,rfl⟩:=gL _ hi
  have q:=e9 (ns:=ns) (a+60+((0+i:Nat):Int)) 4 hl (by decide)
  simp only;omega
theorem vt {ns:List Int}{a mo:Int}(hl:ns.length<=63) (hm0:0<=mo):∃G T W,bM [bC ns,.int a,.int mo]=some (ar G T W)/\Wd G T W/\KM mo G T W:=by
 by_cases c:3 < mo/\dr ns (a+64) 4=0
 ·exact r9 hl c.1 c.2
 ·exact sr hl hm0 c
noncomputable def sI (b:Bool):Int:=if b then 1 else 0
noncomputable def bp (b:Bool) (w:Wy):Int:=if b then w.2.1 else w.1
noncomputable def dC (b:Bool) (w:Wy):Int:=bp (!b) w
noncomputable def bx (b:Bool) (G T:List Pl):List Pl:=if b then T else G
theorem nu (b:Bool) (G T:List Pl) (W:List Wy):au (ar G T W) (.int (sI b))=some (.tuple ((bx b G T).map bf)):=by cases b<;>rfl
theorem rW (G T:List Pl) (W:List Wy):au (ar G T W) (.int 2)=some (.tuple (W.map ao)):=rfl
theorem ny (b:Bool) (w:Wy):au (ao w) (.int (sI b))=some (.int (bp b w)):=by cases b<;>rfl
theorem E6 (b:Bool) (w:Wy):au (ao w) (.int (1 - sI b))=some (.int (dC b w)):=by cases b<;>rfl
theorem xO (w:Wy):au (ao w) (.int 2)=some (.int w.2.2):=rfl
theorem E4 (p:Pl):au (bf p) (.int 0)=some (.int p.1):=rfl
theorem D6 (p:Pl):au (bf p) (.int 1)=some (af p.2):=rfl
theorem oq {ds:List D}{i:Nat}{d:D}(h:ds[i]?=some d):au (.tuple ds) (.int ((i:Nat):Int))=some d:=by
 show sH ds (i:Nat)=_
 exact sZ h
theorem Gy {ds:List D}{i:Nat}{d:D}(h:ds[i]?=some d):au (.list ds) (.int ((i:Nat):Int))=some d:=by
 show sH ds (i:Nat)=_
 exact sZ h
theorem mm {α:Type}{f:α->D}{l:List α}{i:Nat}{x:α}(h:l[i]?=some x):au (.tuple (l.map f)) (.int ((i:Nat):Int))=some (f x):=oq (by rw[List.getElem?_map,h];rfl)
theorem DR {α:Type}{f:α->D}{l:List α}{i:Nat}{x:α}(h:l[i]?=some x):au (.list (l.map f)) (.int ((i:Nat):Int))=some (f x):=Gy (by rw[List.getElem?_map,h];rfl)
noncomputable def IY (b:Bool) (W:List Wy) (p:Int):List Int:=(W.filter fun w=>decide (bp b w=p)).map (dC b)
theorem Wd.lik {G T:List Pl}{W:List Wy}(h:Wd G T W) {b:Bool}{i:Nat}{p:Pl}(e:(bx b G T)[i]?=some p):p.2.Perm (IY b W i):=by
 cases b
 ·exact h.gl i p e
 ·exact h.tl i p e
theorem Wd.nod {G T:List Pl}{W:List Wy}(h:Wd G T W) (b:Bool) (i:Int):(IY b W i).Nodup:=by
 cases b
 ·exact qt h.wp i
 ·exact qX h.wp i
theorem oX {tt:Dl.Env->Option Bool}{te:Dl.Env->Option D}{r:List (Option D)}{p:Nat->D->Bool}{h:Nat->D->D}:∀ {ds:List D}{k:Nat},
  (∀i d,ds[i]?=some d->tt (some (.int ((k+i:Nat):Int))::some d::r)=some (p (k+i) d)/\(p (k+i) d=true->te (some (.int ((k+i:Nat):Int))::some d::r)=some (h (k+i) d))) ->
  cq (fI 0 1) tt te (none::none::r) (bw k ds)=some (((ds.zipIdx k).filter fun q=>p q.2 q.1).map fun q=>h q.2 q.1)
 | [],k,_=>rfl
 | d::ds,k,hh=>by
  obtain⟨h1,h2⟩:=hh 0 d rfl
  have ih:=oX (ds:=ds) (k:=k+1) fun i x hx=>by
   have:=hh (i+1) x (by simpa using hx)
   rw[show k+1+i=k+(i+1) by omega]
   exact this
  have hg:fI 0 1 (none::none::r) (.tuple [.int ((k:Nat):Int),d])=some (some (.int ((k:Nat):Int))::some d::r):=by
   simp only[fI,isFree,List.getElem?_cons_zero,List.getElem?_cons_succ,Option.getD_some,Option.isNone_none,and_self,if_true,List.set_cons_zero,List.set_cons_succ]
  rw[bw,cq,hg,List.zipIdx_cons]
  simp only[Nat.add_zero] at h1 h2
  simp only[Option.bind_some,h1]
  cases hp:p k d with
  | true=>simp[h2 hp,ih,hp]
  | false=>simp[ih,hp]
theorem zh {cs:List Nat}{fi:Dl.Env->Option (List D)}{tt:Dl.Env->Option Bool}{te:Dl.Env->Option D}{ρ:Dl.Env}{ds:List D}{p:Nat->D->Bool}{h:Nat->D->D}(hfi:fi ρ=some (bw 0 ds)) (hl:ds.length<=1000)
  (hh:∀i d,ds[i]?=some d->tt (some (.int ((i:Nat):Int))::some d::cs.map fun j=>(ρ[j]?).getD none)=some (p i d)/\(p i d=true->te (some (.int ((i:Nat):Int))::some d::cs.map fun j=>(ρ[j]?).getD none)=some (h i d))) :
  ak 2 cs fi (fI 0 1) tt te ρ=some ((ds.zipIdx.filter fun q=>p q.2 q.1).map fun q=>h q.2 q.1):=by
 have:=oX (tt:=tt) (te:=te) (r:=cs.map fun j=>(ρ[j]?).getD none) (p:=p) (h:=h) (ds:=ds) (k:=0) (by simpa using hh)
 simp only[ak,hfi,Option.bind_some,eh,List.replicate,List.cons_append,List.nil_append,this]
 refine bq ?_
 rw[List.length_map]
 refine Nat.le_trans (List.length_filter_le _ _) ?_
 rw[List.length_zipIdx]
 omega
theorem gw {α:Type}(f:α->Int):∀ {l m:List α},l.Perm m->(l.Pairwise fun a b=>f a<=f b)->(m.Pairwise fun a b=>f a < f b)->l=m
 | l,[],hp,_,_=>hp.eq_nil
 | [],x::m,hp,_,_=>absurd hp.symm.eq_nil (by simp)
 | y::l,x::m,hp,h1,h2=>by
  rw[List.pairwise_cons] at h1 h2
  have e:y=x:=by
   have hx:x∈y::l:=hp.mem_iff.mpr List.mem_cons_self
   rcases List.mem_cons.mp hx with z|hx
   ·exact z.symm
   ·have hy:y∈x::m:=hp.mem_iff.mp List.mem_cons_self
    rcases List.mem_cons.mp hy with z|hy
    ·exact z
    ·have:=h1.1 x hx
     have:=h2.1 y hy
     omega
  subst e
  rw[gw f ((List.perm_cons y).mp hp) h1.2 h2.2]
theorem ph {α:Type}(z:Nat->Int) (l:List α) (d:α) (f:α->Int) (h:∀i,i < l.length->z i=f (l.getD i d)):(nr z l d).Pairwise fun a b=>f a<=f b:=by
 unfold nr
 split
 ·rename_i hl
  match l,hl with
  | [],_=>exact List.Pairwise.nil
  | [a],_=>exact List.pairwise_singleton _ _
 ·rename_i hl
  obtain⟨hp,hs⟩:=SP.fT (z:=z) (n:=l.length) (by omega)
  rw[List.pairwise_map] at hs ⊢
  refine hs.imp_of_mem fun {i j} hi hj hij=>?_
  have hi':i < l.length:=by have:=hp.mem_iff.mp hi;simpa using this
  have hj':j < l.length:=by have:=hp.mem_iff.mp hj;simpa using this
  rw[<- h i hi',<- h j hj']
  exact hij
noncomputable def ax (W:List Wy) (i:Nat):Wy:=W.getD i (0,0,0)
theorem f9 {W:List Wy}{k:Nat}(hk:k < W.length):W[k]=ax W k:=by simp[ax,hk]
theorem kX {W:List Wy}{k:Nat}(hk:k < W.length):W[k]?=some (ax W k):=by rw[List.getElem?_eq_getElem hk,f9 hk]
noncomputable def own (b:Bool) (W:List Wy) (p:Int):List Nat:=(List.range W.length).filter fun i=>decide (bp b (ax W i)=p)
noncomputable def tL (b:Bool) (W:List Wy) (p o:Int):Nat:=W.findIdx fun w=>decide (bp b w=p)&&decide (dC b w=o)
noncomputable def eP (b:Bool) (W:List Wy) (p:Int) (L:List Int):List Nat:=L.map (tL b W p)
theorem cX {b:Bool}{W:List Wy}{p:Int}{i:Nat}:i∈own b W p↔i < W.length/\bp b (ax W i)=p:=by simp[own]
theorem map_range {α β:Type}(d:α) (f:α->β) (l:List α):(List.range l.length).map (fun i=>f (l.getD i d))=l.map f:=by
 apply List.ext_getElem
 ·simp
 ·intro i h1 h2
  have:i < l.length:=by simpa using h2
  simp[this]
theorem rL {α:Type}(d:α) (q:α->Bool):∀ (l:List α),((List.range l.length).filter fun i=>q (l.getD i d)).map (fun i=>l.getD i d)=l.filter q:=by
 intro l
 have e:l=(List.range l.length).map fun i=>l.getD i d:=by
  have:=map_range d (fun x=>x) l
  simp at this
  simpa using this.symm
 conv=>rhs;rw[e]
 rw[List.filter_map]
 rfl
theorem lJ (b:Bool) (W:List Wy) (p:Int):(own b W p).map (fun i=>dC b (ax W i))=IY b W p:=by
 unfold own IY ax
 rw[<- rL (0,0,0) (fun w=>decide (bp b w=p)) W,List.map_map]
 rfl
theorem rN {W:List Wy}(h:u9 W) {i j:Nat}(hi:i < W.length) (hj:j < W.length) (h1:(ax W i).1=(ax W j).1) (h2:(ax W i).2.1=(ax W j).2.1):i=j:=by
 have e:∀k,k < W.length->W[k]?=some (ax W k):=fun k hk=>by simp[ax,hk]
 rcases Nat.lt_trichotomy i j with z|z|z
 ·have:=List.pairwise_iff_getElem.mp h i j hi hj z
  have a:=e i hi
  have b:=e j hj
  rw[List.getElem?_eq_getElem hi] at a
  rw[List.getElem?_eq_getElem hj] at b
  rw[Option.some.inj a,Option.some.inj b] at this
  rcases this with z|z<;>omega
 ·exact z
 ·have:=List.pairwise_iff_getElem.mp h j i hj hi z
  have a:=e i hi
  have b:=e j hj
  rw[List.getElem?_eq_getElem hi] at a
  rw[List.getElem?_eq_getElem hj] at b
  rw[Option.some.inj a,Option.some.inj b] at this
  rcases this with z|z<;>omega
theorem ve {W:List Wy}(h:u9 W) {b:Bool}{i j:Nat}(hi:i < W.length) (hj:j < W.length) (h1:bp b (ax W i)=bp b (ax W j)) (h2:dC b (ax W i)=dC b (ax W j)):i=j:=by
 cases b
 ·exact rN h hi hj h1 h2
 ·exact rN h hi hj h2 h1
theorem xw {W:List Wy}(h:u9 W) {b:Bool}{p:Int}{i:Nat}(hi:i∈own b W p):tL b W p (dC b (ax W i))=i:=by
 obtain⟨hl,he⟩:=cX.mp hi
 have hw:W[i]=ax W i:=by simp[ax,hl]
 unfold tL
 have hlt:W.findIdx (fun w=>decide (bp b w=p)&&decide (dC b w=dC b (ax W i))) < W.length:=by
  apply List.findIdx_lt_length_of_exists
  exact⟨W[i],List.getElem_mem _,by rw[hw];simp[he]⟩
 have hq:=List.findIdx_getElem (w:=hlt)
 rw[Bool.and_eq_true,decide_eq_true_eq,decide_eq_true_eq] at hq
 rw[f9 hlt] at hq
 exact ve h hlt hl (by rw[hq.1,he]) hq.2
theorem e8 {G T:List Pl}{W:List Wy}(h:Wd G T W) {b:Bool}{i:Nat}{p:Pl}(e:(bx b G T)[i]?=some p):(eP b W i p.2).Perm (own b W i):=by
 have h1:=(h.lik e).map (tL b W i)
 rw[<- lJ b W i,List.map_map] at h1
 have e2:(own b W i).map (tL b W i ∘ fun j=>dC b (ax W j))=own b W i:=by
  conv=>rhs;rw[<- List.map_id (own b W i)]
  exact List.map_congr_left fun j hj=>xw h.wp hj
 rw[e2] at h1
 exact h1
theorem kK {G T:List Pl}{W:List Wy}(h:Wd G T W) {b:Bool}{i:Nat}{p:Pl}(e:(bx b G T)[i]?=some p) {o:Int}(ho:o∈p.2):tL b W i o < W.length/\bp b (ax W (tL b W i o))=i/\dC b (ax W (tL b W i o))=o:=by
 have hm:=(h.lik e).mem_iff.mp ho
 rw[<- lJ b W i] at hm
 obtain⟨j,hj,rfl⟩:=List.mem_map.mp hm
 rw[xw h.wp hj]
 obtain⟨h1,h2⟩:=cX.mp hj
 exact⟨h1,h2,rfl⟩
noncomputable def kD (b:Bool) (W:List Wy) (L:List Int) (d:D):Int:=(L.findIdx fun o=>decide (o=dC b (ax W (g0 d).toNat)):Nat)
theorem lV:∀ {L:List Int}{x:Int},x∈L->uy x L=some (L.findIdx fun o=>decide (o=x))
 | [],x,h=>by cases h
 | o::L,x,h=>by
  unfold uy
  by_cases e:o=x
  ·simp[e,List.findIdx_cons]
  ·rw[if_neg e]
   have hx:x∈L:=(List.mem_cons.mp h).resolve_left fun z=>e z.symm
   rw[lV hx]
   simp[List.findIdx_cons,e]
theorem Dh {G T:List Pl}{W:List Wy}(h:Wd G T W) {b:Bool}{i:Nat}{p:Pl}(e:(bx b G T)[i]?=some p) (z:Nat->Int) (hz:∀j,j < (own b W i).length->z j=kD b W p.2 (((own b W i).map fun n=>PyData.int ((n:Nat):Int)).getD j .none)) :
  nr z ((own b W i).map fun n=>PyData.int ((n:Nat):Int)) .none=(eP b W i p.2).map fun n=>PyData.int ((n:Nat):Int):=by
 refine gw (kD b W p.2) ((fA _ _ _).trans ((e8 h e).symm.map _)) (ph z _ _ _ fun j hj=>hz j (by simpa using hj)) ?_
 have hn:p.2.Nodup:=(h.lik e).nodup_iff.mpr (h.nod b i)
 unfold eP
 rw[List.map_map,List.pairwise_map]
 have key:∀k (hk:k < p.2.length),kD b W p.2 (PyData.int ((tL b W i p.2[k]:Nat):Int))=(k:Nat):=fun k hk=>by
  obtain⟨_,_,e3⟩:=kK h e (List.getElem_mem hk)
  unfold kD
  simp only[g0,Int.toNat_natCast,e3]
  congr 1
  rw[List.findIdx_eq (by exact hk)]
  refine⟨by simp,fun j hj=>?_⟩
  have:=List.pairwise_iff_getElem.mp hn j k (by omega) hk hj
  simpa using this
 refine List.pairwise_iff_getElem.mpr fun j k hj hk hjk=>?_
 show kD b W p.2 (PyData.int ((tL b W i p.2[j]:Nat):Int)) < kD b W p.2 (PyData.int ((tL b W i p.2[k]:Nat):Int))
 rw[key j hj,key k hk]
 omega
noncomputable abbrev nD (n:Nat):D:=.int ((n:Nat):Int)
theorem lM {te:Dl.Env->Option D}{ρ:Dl.Env}{h:D->D}:∀ {ds:List D},(∀d∈ds,te (ρ.set 0 (some d))=some (h d))->gP te ρ ds=some (ds.map h)
 | [],_=>rfl
 | d::ds,hh=>by
  unfold gP
  rw[hh d List.mem_cons_self,Option.bind_some,lM fun x hx=>hh x (List.mem_cons_of_mem _ hx)]
  rfl
theorem rK (b:Bool) (W:List Wy) (p:Int):(own b W p).length<=W.length:=by
 unfold own
 refine Nat.le_trans (List.length_filter_le _ _) ?_
 rw[List.length_range]
 exact Nat.le_refl _
theorem vT (b:Bool) (W:List Wy) (p:Int):(((W.map ao).zipIdx.filter fun q=>decide (bp b (ax W q.2)=p)).map fun q=>nD q.2)=(own b W p).map nD:=by
 have e:(W.map ao).zipIdx=(List.range W.length).map fun i=>(ao (ax W i),i):=by
  apply List.ext_getElem
  ·simp
  ·intro i h1 h2
   have:i < W.length:=by simpa using h2
   simp[f9 this]
 rw[e,List.filter_map,List.map_map]
 rfl
theorem rA {G T:List Pl}{W:List Wy}(h:Wd G T W) {b:Bool}{i:Nat}{p:Pl}(e:(bx b G T)[i]?=some p):dU [ar G T W,.int (sI b),nD i]=some (.list ((eP b W i p.2).map nD)):=by
 have hw:=h.wl
 have ep:au (.tuple ((bx b G T).map bf)) (nD i)=some (bf p):=mm e
 have hl:=rK b W i
 have t3:Dl.aB 3 [0] (f2 au (ab 0) (fC (.int 2))) [.val (ar G T W),.val (.int (sI b)),.val (nD i),.non,.non,.non]=some (.nx [.val (ar G T W),.val (.int (sI b)),.val (nD i),.val (.tuple (W.map ao)),.non,.non]) :=
  bU (d:=.tuple (W.map ao)) rfl rfl rfl rfl
 have t4:Dl.aB 4 [0,1,2] (f2 au (f2 au (f2 au (ab 0) (ab 1)) (ab 2)) (fC (.int 1))) [.val (ar G T W),.val (.int (sI b)),.val (nD i),.val (.tuple (W.map ao)),.non,.non]=some (.nx [.val (ar G T W),.val (.int (sI b)),.val (nD i),.val (.tuple (W.map ao)),.val (af p.2),.non]):=by
  refine bU (d:=af p.2) ?_ rfl rfl rfl
  rw[gZ (a:=bf p) (b:=.int 1) ?_ rfl,D6]
  rw[gZ (a:=.tuple ((bx b G T).map bf)) (b:=nD i) ?_ rfl,ep]
  rw[gZ (a:=ar G T W) (b:=.int (sI b)) rfl rfl,nu]
 have c5:ak 2 [1,2] (br (aa (ab 3) ae)) (fI 0 1) (fB (f2 bS (f2 au (ab 1) (ab 2)) (ab 3))) (ab 0) [some (ar G T W),some (.int (sI b)),some (nD i),some (.tuple (W.map ao)),some (af p.2),none]=some ((own b W i).map nD):=by
  rw[zh (ds:=W.map ao) (p:=fun j _=>decide (bp b (ax W j)=i)) (h:=fun j _=>nD j) rfl (by rw[List.length_map];omega) fun j d hd=>?_,vT]
  rw[List.getElem?_map] at hd
  obtain⟨w,hw',rfl⟩:=Dl.map_some hd
  have hj:j < W.length:=(List.getElem?_eq_some_iff.mp hw').1
  rw[kX hj] at hw'
  cases hw'
  refine⟨?_,fun _=>rfl⟩
  show fB (f2 bS (f2 au (ab 1) (ab 2)) (ab 3)) [some (nD j),some (ao (ax W j)),some (.int (sI b)),some (nD i)]=_
  simp only[fB]
  rw[gZ (a:=.int (bp b (ax W j))) (b:=nD i) (by rw[gZ (a:=ao (ax W j)) (b:=.int (sI b)) rfl rfl,ny]) rfl,dz]
  rfl
 have t5:aK 5 [1,2,3] (ak 2 [1,2] (br (aa (ab 3) ae)) (fI 0 1) (fB (f2 bS (f2 au (ab 1) (ab 2)) (ab 3))) (ab 0)) [.val (ar G T W),.val (.int (sI b)),.val (nD i),.val (.tuple (W.map ao)),.val (af p.2),.non]=some (.nx [.val (ar G T W),.val (.int (sI b)),.val (nD i),.val (.tuple (W.map ao)),.val (af p.2),.own ((own b W i).map nD)]):=by
  have hh:hand [1,2,3] 0 [Slot.val (ar G T W),.val (.int (sI b)),.val (nD i),.val (.tuple (W.map ao)),.val (af p.2),.non]=[Slot.val (ar G T W),.val (.int (sI b)),.val (nD i),.val (.tuple (W.map ao)),.val (af p.2),.non]:=rfl
  simp only[aK,hh,bR,List.map_cons,List.map_nil,Slot.frz,c5,Option.map_some,List.set_cons_succ,List.set_cons_zero]
 have hk:gP (f2 mZ (ab 3) (f2 au (f2 au (ab 2) (ab 0)) (f2 Dl.fZ (fC (.int 1)) (ab 1)))) [none,some (.int (sI b)),some (.tuple (W.map ao)),some (af p.2)] ((own b W i).map nD)=some (((own b W i).map nD).map fun d=>.int (kD b W p.2 d)):=by
  refine lM fun d hd=>?_
  obtain⟨j,hj,rfl⟩:=List.mem_map.mp hd
  obtain⟨hjl,hje⟩:=cX.mp hj
  show f2 mZ (ab 3) (f2 au (f2 au (ab 2) (ab 0)) (f2 Dl.fZ (fC (.int 1)) (ab 1))) [some (nD j),some (.int (sI b)),some (.tuple (W.map ao)),some (af p.2)]=_
  have ew:au (.tuple (W.map ao)) (nD j)=some (ao (ax W j)):=mm (kX hjl)
  rw[gZ (a:=af p.2) (b:=.int (dC b (ax W j))) rfl ?_]
  ·have hm:dC b (ax W j)∈p.2:=(h.lik e).mem_iff.mpr (by rw[<- lJ];exact List.mem_map.mpr ⟨j,hj,rfl⟩)
   simp only[mZ,af,cA,Option.bind_some,lV hm,Option.map_some,kD,g0,Int.toNat_natCast]
   first|rfl|(congr 3;funext o;congr)
  ·rw[gZ (a:=ao (ax W j)) (b:=.int (1 - sI b)) ?_ ?_,E6]
   ·rw[gZ (a:=.tuple (W.map ao)) (b:=nD j) rfl rfl,ew]
   ·rw[gZ (a:=.int 1) (b:=.int (sI b)) rfl rfl,oM]
 have hi:intsOf (((own b W i).map nD).map fun d=>PyData.int (kD b W p.2 d))=some (((own b W i).map nD).map (kD b W p.2)):=by
  rw[show (((own b W i).map nD).map fun d=>PyData.int (kD b W p.2 d))=(((own b W i).map nD).map (kD b W p.2)).map PyData.int by simp only[List.map_map];rfl,cA]
 have t6:aF (cw (mr [1,3,4] (ab 5) (f2 mZ (ab 3) (f2 au (f2 au (ab 2) (ab 0)) (f2 Dl.fZ (fC (.int 1)) (ab 1)))))) [.val (ar G T W),.val (.int (sI b)),.val (nD i),.val (.tuple (W.map ao)),.val (af p.2),.own ((own b W i).map nD)]=some (.rt (.list ((eP b W i p.2).map nD))):=by
  have es:mr [1,3,4] (ab 5) (f2 mZ (ab 3) (f2 au (f2 au (ab 2) (ab 0)) (f2 Dl.fZ (fC (.int 1)) (ab 1)))) [some (ar G T W),some (.int (sI b)),some (nD i),some (.tuple (W.map ao)),some (af p.2),some (.list ((own b W i).map nD))]=some ((eP b W i p.2).map nD):=by
   unfold mr
   show (gP _ [none,some (.int (sI b)),some (.tuple (W.map ao)),some (af p.2)] ((own b W i).map nD)).bind _=_
   rw[hk,Option.bind_some,hi,Option.bind_some,if_pos (by rw[List.length_map];omega),Dh h e _ fun j hj=>?_]
   simp[hj]
  simp only[aF,bb,List.map_cons,List.map_nil,sP,sM,cw,es,Option.map_some]
 refine aI ?_
 show js [.val (ar G T W),.val (.int (sI b)),.val (nD i),.non,.non,.non]=_
 unfold js
 rw[ah t3,ah t4,ah t5,t6]
local macro_rules|`(tactic| dsimp! [$ts,*])=>`(tactic| simp only[ab,fC,f1,f2,aa,ae,ag,aY,hV,aS,fQ,cw,fB,gB,bA,mM,kl,br,bb,bR,sP,sM,yC,xK,yJ,yn,List.map_cons,List.map_nil,List.getElem?_cons_zero,List.getElem?_cons_succ,Option.bind_some,Option.map_some,Option.getD_some,List.length_cons,List.length_nil,Nat.reduceAdd,Nat.zero_add,reduceIte,List.set_cons_succ,List.set_cons_zero,$ts,*])
theorem kP {S α:Type}{tgt:ai->D->Option ai}{gb:ai->Option Out}(R:S->ai->Prop) (f:α->D) (st:S->α->S):∀ {l:List α}{s:S}{ρ:ai},
  (∀s ρ x,x∈l->R s ρ->∃ρ1 ρ2,tgt ρ (f x)=some ρ1/\gb ρ1=some (.nx ρ2)/\R (st s x) ρ2)->R s ρ->∃ρ',eE tgt gb (l.map f) ρ=some (.nx ρ')/\R (l.foldl st s) ρ'
 | [],s,ρ,_,h=>⟨ρ,rfl,h⟩
 | d::ds,s,ρ,hh,h=>by
  obtain⟨ρ1,ρ2,e1,e2,h2⟩:=hh s ρ d List.mem_cons_self h
  obtain⟨ρ',e3,h3⟩:=kP R f st (fun s ρ x hx=>hh s ρ x (List.mem_cons_of_mem _ hx)) h2
  refine⟨ρ',?_,h3⟩
  rw[List.map_cons,eE,e1,Option.bind_some,e2]
  exact e3
theorem fy {α:Type}{tgt:ai->D->Option ai}{gb:ai->Option Out}(R:ai->Prop) (f:α->D) (q:α->Bool) (out:α->D):∀ {l:List α}{ρ:ai},
  (∀ρ x,x∈l->R ρ->∃ρ1,tgt ρ (f x)=some ρ1/\(q x=true->gb ρ1=some (.rt (out x)))/\(q x=false->∃ρ2,gb ρ1=some (.nx ρ2)/\R ρ2))->R ρ ->
  (∀x,l.find? q=some x->eE tgt gb (l.map f) ρ=some (.rt (out x)))/\(l.find? q=none->∃ρ',eE tgt gb (l.map f) ρ=some (.nx ρ')/\R ρ')
 | [],ρ,_,h=>⟨fun x hx=>(by cases hx),fun _=>⟨ρ,rfl,h⟩⟩
 | x::l,ρ,hh,h=>by
  obtain⟨ρ1,e1,e2,e3⟩:=hh ρ x List.mem_cons_self h
  rw[List.map_cons,eE,e1,Option.bind_some]
  cases hq:q x with
  | true =>
   rw[List.find?_cons_of_pos (by simpa using hq),e2 hq]
   exact⟨fun y hy=>(by cases hy;rfl),fun hn=>(by cases hn)⟩
  | false =>
   obtain⟨ρ2,e4,h2⟩:=e3 hq
   rw[List.find?_cons_of_neg (by simp[hq]),e4]
   exact fy R f q out (fun ρ x hx=>hh ρ x (List.mem_cons_of_mem _ hx)) h2
theorem b9 {fz:List Nat}{fi:Dl.Env->Option (List D)}{tgt:ai->D->Option ai}{gb:ai->Option Out}{ρ ρ1:ai}{ds:List D}{o:Option Out}(h:eE tgt gb ds ρ1=o) (hi:fi (bR ρ1)=some ds) (hh:hand fz 0 ρ=ρ1):dW fz fi tgt gb ρ=o:=by
 simp only[dW,hh,hi,Option.bind_some,h]
theorem td {i:Nat}{fz:List Nat}{f:Dl.Env->Option (List D)}{ρ ρ':ai}{ds:List D}(hh:hand fz 0 ρ=ρ') (hf:f (bR ρ')=some ds):aK i fz f ρ=some (.nx (ρ'.set i (.own ds))):=by
 simp only[aK,hh,hf,Option.map_some]
theorem gO {i:Nat}{fz:List Nat}{f:Dl.Env->Option (List D)}{ρ:ai}{ds:List D}(hf:f (bR ρ)=some ds) (hh:hand fz 0 ρ=ρ):aK i fz f ρ=some (.nx (ρ.set i (.own ds))):=td hh hf
theorem oY {i:Nat}{fz:List Nat}{f:Dl.Env->Option D}{ρ ρ':ai}(hh:hand fz 0 ρ=ρ') {d:D}(hA:f (bb ρ)=some d) (hF:f (bR ρ')=some d) (hs:Dl.m7 d=false):Dl.aB i fz f ρ=some (.nx (ρ'.set i (.val d))):=by
 simp only[Dl.aB,hA,Option.bind_some,hs,Bool.false_eq_true,if_false,hh,hF,Option.map_some]
theorem call_of {n:Nat}{m:List D->Option D}{fs:Dl.Env->Option (List D)}{ρ:Dl.Env}{ds:List D}{d:D}(h:m ds=some d) (hf:fs ρ=some ds) (hn:ds.length=n):ag n m fs ρ=some d:=by
 unfold ag
 rw[hf,Option.bind_some,if_pos hn,h]
theorem cons_of {f:Dl.Env->Option D}{fs:Dl.Env->Option (List D)}{ρ:Dl.Env}{d:D}{ds:List D}(h:f ρ=some d) (hs:fs ρ=some ds):aa f fs ρ=some (d::ds):=by
 unfold aa
 rw[h,hs]
 rfl
theorem aL {f:Dl.Env->Option D}{ρ:ai}{d:D}(hf:f (bb ρ)=some d):aF f ρ=some (.rt d):=by
 simp only[aF,hf,Option.map_some]
theorem eV {f:Dl.Env->Option D}{ρ:ai}{d:D}(hf:f (bb ρ)=some d):j5 f ρ=some (.nx ρ):=by
 simp only[j5,hf,Option.map_some]
theorem cC {t:Dl.Env->Option Bool}{g:ai->Option Out}{ρ:ai}(h:t (bb ρ)=some false):eX t g eU ρ=some (.nx ρ):=by
 simp[eX,h,eU]
theorem fK {t:Dl.Env->Option Bool}{g g2:ai->Option Out}{ρ:ai}(h:t (bb ρ)=some true):eX t g g2 ρ=g ρ:=by
 simp[eX,h]
theorem hC {g1 g2:ai->Option Out}{ρ:ai}{d:D}(h:g1 ρ=some (.rt d)):av g1 g2 ρ=some (.rt d):=by
 simp only[av,h,Option.bind_some]
theorem zY {i:Nat}{fz:List Nat}{fk f:Dl.Env->Option D}{ρ:ai}{d:D}{k:Nat}{ds:List D}(hf:f (bb ρ)=some d) (hs:Dl.m7 d=true) (hk:fk (bb ρ)=some (nD k)) (ho:ρ[i]?=some (.own ds)) (hl:k < ds.length):xx i fz fk f ρ=some (.nx (ρ.set i (.own (ds.set k d)))):=by
 have hx:Dm ds.length ((k:Nat):Int)=some k:=by
  unfold Dm
  rw[if_pos (Int.natCast_nonneg k),if_pos (by omega)]
  simp
 simp only[xx,jP,hf,Option.bind_some,hs,if_true,hk,nc,ho,hx,Option.map_some]
noncomputable def lp {S:Type}(cont:S->Bool) (st:S->S):Nat->S->S
 | 0,s=>s
 | n+1,s=>if cont s=true then lp cont st n (st s) else s
theorem vb {S:Type}{t:Dl.Env->Option Bool}{gb:ai->Option Out}(R:S->ai->Prop) (cont:S->Bool) (st:S->S) (μ:S->Nat)
  (ht:∀s ρ,R s ρ->t (bb ρ)=some (cont s)) (hb:∀s ρ,R s ρ->cont s=true->∃ρ',gb ρ=some (.nx ρ')/\R (st s) ρ'/\μ (st s) < μ s) :
  ∀ (n:Nat) (s:S) (ρ:ai),μ s < n->R s ρ->∃ρ',Er t gb n ρ=some (.nx ρ')/\R (lp cont st n s) ρ'/\cont (lp cont st n s)=false
 | 0,s,ρ,h,_=>absurd h (by omega)
 | n+1,s,ρ,h,r=>by
  rw[Er,ht s ρ r,Option.bind_some,lp]
  cases hc:cont s with
  | false=>exact⟨ρ,by simp,by simpa [hc] using r,by simpa [hc] using hc⟩
  | true =>
   obtain⟨ρ',e,r',hm⟩:=hb s ρ r hc
   obtain⟨ρ2,e2,r2,c2⟩:=vb R cont st μ ht hb n (st s) ρ' (by omega) r'
   refine⟨ρ2,?_,by simpa [hc] using r2,by simpa [hc] using c2⟩
   simp only[if_true,e,Option.bind_some]
   exact e2
theorem ox {off:List Int}{i:Nat}(h:i < off.length):au (af off) (nD i)=some (.int (off.getD i 0)):=mm (f:=PyData.int) (l:=off) (by simp[h])
theorem IA {off:List Int}{i:Nat}(h:i < off.length):au (.list (off.map PyData.int)) (nD i)=some (.int (off.getD i 0)):=DR (f:=PyData.int) (l:=off) (by simp[h])
theorem j9 {W:List Wy}{i:Nat}(h:i < W.length):au (.tuple (W.map ao)) (nD i)=some (ao (ax W i)):=mm (kX h)
theorem KL (a b c:Int):uK [.int a,.int b,.int c]=some (.int (min (min a b) c)):=rfl
theorem yq (l:List Int) (k:Nat) (v:Int):(l.map PyData.int).set k (.int v)=(l.set k v).map PyData.int:=by rw[List.map_set]
theorem Fy (l:List Int):bF [.list (l.map PyData.int)]=some (af l):=rfl
theorem Ax (l:List D):bF [.list l]=some (.tuple l):=rfl
theorem yA (l:List D):bu [.tuple l]=some (nD l.length):=rfl
theorem Fw (l:List Int):bu [af l]=some (nD l.length):=by
 show some (PyData.int ((l.map PyData.int).length:Nat))=_
 rw[List.length_map]
theorem Am {n:Nat}(h:n<=1000):j6 [nD n]=some ((List.range n).map nD):=by
 rw[uk (tK h),Int.toNat_natCast]
theorem mf {fs:Dl.Env->Option (List D)}{ρ:Dl.Env}{n:Nat}(h:fs ρ=some [nD n]) (hn:n<=1000):bG fs ρ=some ((List.range n).map nD):=by
 unfold bG
 rw[h,Option.bind_some,Am hn]
theorem sub_int (i j:Int):Dl.fZ (.int i) (.int j)=some (.int (i - j)):=oM i j
theorem zeros {fi:Dl.Env->Option (List D)}{ρ:Dl.Env}{ds:List D}(hfi:fi ρ=some ds) (hl:ds.length<=1000):ak 1 [] fi (fG 0) (fun _=>some true) (fC (.int 0)) ρ=some ((List.replicate ds.length (0:Int)).map PyData.int):=by
 rw[bW (h:=fun _=>.int 0) hfi (by omega) fun d hd=>rfl]
 simp[List.map_const']
theorem F3:∀n,(List.replicate n [PyData.int 0]).flatten=(List.replicate n (0:Int)).map PyData.int
 | 0=>rfl
 | n+1=>by rw[List.replicate_succ,List.flatten_cons,F3 n,List.replicate_succ];rfl
theorem rh {r:List (Option D)}:∀ (a b:List Int),cq (fI 0 1) (fun _=>some true) (f2 aE (ab 0) (ab 1)) (none::none::r) (gN (a.map PyData.int) (b.map PyData.int))=some ((List.zipWith (·+·) a b).map PyData.int)
 | [],b=>by cases b<;>rfl
 | x::a,[]=>rfl
 | x::a,y::b=>by
  have ih:=rh (r:=r) a b
  have hg:fI 0 1 (none::none::r) (.tuple [.int x,.int y])=some (some (.int x)::some (.int y)::r):=by
   simp only[fI,isFree,List.getElem?_cons_zero,List.getElem?_cons_succ,Option.getD_some,Option.isNone_none,and_self,if_true,List.set_cons_zero,List.set_cons_succ]
  rw[List.map_cons,List.map_cons,gN,cq,hg,Option.bind_some]
  dsimp! [gS,ih,List.zipWith_cons_cons]
theorem Bi {fi:Dl.Env->Option (List D)}{ρ:Dl.Env}{a b:List Int}(hfi:fi ρ=some (gN (a.map PyData.int) (b.map PyData.int))) (hl:a.length<=1000) :
  ak 2 [] fi (fI 0 1) (fun _=>some true) (f2 aE (ab 0) (ab 1)) ρ=some ((List.zipWith (·+·) a b).map PyData.int):=by
 have:=rh (r:=[]) a b
 simp only[ak,hfi,Option.bind_some,eh,List.replicate,List.map_nil,List.append_nil,this]
 refine bq ?_
 rw[List.length_map,List.length_zipWith]
 omega
noncomputable def cV (W:List Wy) (off:List Int) (left:Int) (i:Nat):Int:=min (min (off.getD i 0) (ax W i).2.2) left
noncomputable def lL (W:List Wy) (off:List Int) (s:Int×List Int) (i:Nat):Int×List Int:=(s.1 - cV W off s.1 i,s.2.set i (cV W off s.1 i))
noncomputable def qA (W:List Wy) (off:List Int) (amt:Int) (is:List Nat):List Int:=(is.foldl (lL W off) (amt,List.replicate W.length 0)).2
theorem xW (W:List Wy) (off:List Int):∀ (is:List Nat) (s:Int×List Int),(is.foldl (lL W off) s).2.length=s.2.length
 | [],s=>rfl
 | i::is,s=>by rw[List.foldl_cons,xW W off is];simp[lL]
theorem tq (W:List Wy) (off:List Int) (amt:Int) (is:List Nat):(qA W off amt is).length=W.length:=by rw[qA,xW];simp
theorem Ju {G T:List Pl}{W:List Wy}{b:Bool}{i:Nat}{p:Pl}(e:(bx b G T)[i]?=some p):au (.tuple ((bx b G T).map bf)) (nD i)=some (bf p):=mm e
theorem Gp {G T:List Pl}{W:List Wy}{off:List Int}{d1 d2:D}{s:Int×List Int}{i:Nat}(hi:i < W.length) (ho:off.length=W.length) (hs:s.2.length=W.length) :
  (av (xx 4 [0,3,5,6] (ab 6) (aY uK (aa (f2 au (ab 3) (ab 6)) (aa (f2 au (f2 au (f2 au (ab 0) (fC (.int 2))) (ab 6)) (fC (.int 2))) (aa (ab 5) ae))))) (Dl.aB 5 [4,5,6] (f2 Dl.fZ (ab 5) (f2 au (ab 4) (ab 6))))) [.val (ar G T W),.val d1,.val d2,.val (af off),.own (s.2.map PyData.int),.val (.int s.1),.val (nD i)]=some (.nx [.val (ar G T W),.val d1,.val d2,.val (af off),.own ((lL W off s i).2.map PyData.int),.val (.int (lL W off s i).1),.val (nD i)]):=by
 have hv:(aY uK (aa (f2 au (ab 3) (ab 6)) (aa (f2 au (f2 au (f2 au (ab 0) (fC (.int 2))) (ab 6)) (fC (.int 2))) (aa (ab 5) ae)))) (bb [.val (ar G T W),.val d1,.val d2,.val (af off),.own (s.2.map PyData.int),.val (.int s.1),.val (nD i)])=some (.int (cV W off s.1 i)):=by
  dsimp! [ox (show i < off.length by omega),rW,j9 hi,xO,KL,cV]
 have t1:=zY (i:=4) (fz:=[0,3,5,6]) (fk:=ab 6) (k:=i) (ds:=s.2.map PyData.int) hv rfl rfl rfl (by rw[List.length_map];omega)
 rw[yq] at t1
 rw[ah t1]
 have hl:i < (s.2.set i (cV W off s.1 i)).length:=by rw[List.length_set];omega
 have hg:(s.2.set i (cV W off s.1 i)).getD i 0=cV W off s.1 i:=by
  have:i < s.2.length:=by omega
  simp[this]
 have hv2:(f2 Dl.fZ (ab 5) (f2 au (ab 4) (ab 6))) (bb ([.val (ar G T W),.val d1,.val d2,.val (af off),.own (s.2.map PyData.int),.val (.int s.1),.val (nD i)].set 4 (.own ((s.2.set i (cV W off s.1 i)).map PyData.int))))=some (.int (lL W off s i).1):=by
  dsimp! [IA hl,sub_int,hg,lL]
 rw[dX hv2 rfl]
 rfl
theorem mz {G T:List Pl}{W:List Wy}{off:List Int}(h:Wd G T W) (ho:off.length=W.length) {b:Bool}{i:Nat}{p:Pl}(e:(bx b G T)[i]?=some p) :
  dg [ar G T W,.int (sI b),nD i,af off]=some (af (qA W off p.1 (eP b W i p.2))):=by
 have hw:W.length<=16:=h.wl
 have t4:aK 4 [0] (ak 1 [] (aS (f2 au (ab 0) (fC (.int 2)))) (fG 0) (fun _=>some true) (fC (.int 0))) [.val (ar G T W),.val (.int (sI b)),.val (nD i),.val (af off),.non,.non,.non]=some (.nx [.val (ar G T W),.val (.int (sI b)),.val (nD i),.val (af off),.own ((List.replicate W.length (0:Int)).map PyData.int),.non,.non]):=by
  have z:=zeros (fi:=aS (f2 au (ab 0) (fC (.int 2)))) (ρ:=bR [.val (ar G T W),.val (.int (sI b)),.val (nD i),.val (af off),.non,.non,.non]) (ds:=W.map ao) rfl (by rw[List.length_map];omega)
  rw[List.length_map] at z
  exact td rfl z
 have t5:Dl.aB 5 [0,1,2] (f2 au (f2 au (f2 au (ab 0) (ab 1)) (ab 2)) (fC (.int 0))) [.val (ar G T W),.val (.int (sI b)),.val (nD i),.val (af off),.own ((List.replicate W.length (0:Int)).map PyData.int),.non,.non]=some (.nx [.val (ar G T W),.val (.int (sI b)),.val (nD i),.val (af off),.own ((List.replicate W.length (0:Int)).map PyData.int),.val (.int p.1),.non]) :=
  dX (d:=.int p.1) (by dsimp! [nu,Ju (W:=W) e,E4]) rfl
 obtain⟨ρ',e3,hs',x,rfl⟩:=kP (tgt:=tN 6) (gb:=(av (xx 4 [0,3,5,6] (ab 6) (aY uK (aa (f2 au (ab 3) (ab 6)) (aa (f2 au (f2 au (f2 au (ab 0) (fC (.int 2))) (ab 6)) (fC (.int 2))) (aa (ab 5) ae))))) (Dl.aB 5 [4,5,6] (f2 Dl.fZ (ab 5) (f2 au (ab 4) (ab 6)))))) (R:=fun s ρ=>s.2.length=W.length/\∃x,ρ=[.val (ar G T W),.val (.int (sI b)),.val (nD i),.val (af off),.own (s.2.map PyData.int),.val (.int s.1),x]) nD (lL W off)
  (l:=eP b W i p.2) (s:=(p.1,List.replicate W.length (0:Int))) (ρ:=[.val (ar G T W),.val (.int (sI b)),.val (nD i),.val (af off),.own ((List.replicate W.length (0:Int)).map PyData.int),.val (.int p.1),.non])
  (fun s ρ j hj ⟨hs,x,hρ⟩=>by
   subst hρ
   obtain⟨hjl,_⟩:=cX.mp ((e8 h e).mem_iff.mp hj)
   refine⟨_,_,rfl,Gp hjl ho hs,?_,.val (nD j),rfl⟩
   simp[lL,hs]) ⟨by simp,_,rfl⟩
 refine aI ?_
 show fJ [.val (ar G T W),.val (.int (sI b)),.val (nD i),.val (af off),.non,.non,.non]=_
 unfold fJ
 rw[ah t4,ah t5,ah (b9 e3 (by dsimp! [rA h e]) rfl)]
 exact aL rfl
noncomputable def cy (b:Bool) (G T:List Pl) (i:Nat):Pl:=(bx b G T).getD i (0,[])
noncomputable def tV (b:Bool) (G T:List Pl) (W:List Wy) (off s:List Int) (i:Nat):List Int:=List.zipWith (·+·) s (qA W off (cy b G T i).1 (eP b W i (cy b G T i).2))
noncomputable def fH (b:Bool) (G T:List Pl) (W:List Wy) (off:List Int):List Int:=(List.range (bx b G T).length).foldl (tV b G T W off) (List.replicate W.length 0)
theorem oe {b:Bool}{G T:List Pl}{i:Nat}(h:i < (bx b G T).length):(bx b G T)[i]?=some (cy b G T i):=by simp[cy,h]
theorem nE {b:Bool}{G T:List Pl}{W:List Wy}{off s:List Int}{i:Nat}(h:s.length=W.length):(tV b G T W off s i).length=W.length:=by
 unfold tV
 rw[List.length_zipWith,tq,h,Nat.min_self]
theorem jt {S α:Type}{f:S->α->S}(R:S->Prop):∀ {l:List α}{s:S},(∀s x,x∈l->R s->R (f s x))->R s->R (l.foldl f s)
 | [],s,_,h=>h
 | x::l,s,hh,h=>by
  rw[List.foldl_cons]
  exact jt (l:=l) R (fun s y hy=>hh s y (List.mem_cons_of_mem _ hy)) (hh s x List.mem_cons_self h)
theorem lj (b:Bool) (G T:List Pl) (W:List Wy) (off:List Int):(fH b G T W off).length=W.length :=
 jt (fun s:List Int=>s.length=W.length) (fun s i _ h=>nE h) (by simp)
theorem Wd.pl {G T:List Pl}{W:List Wy}(h:Wd G T W) (b:Bool):(bx b G T).length<=4:=by
 cases b
 ·exact h.g4
 ·exact h.t4
noncomputable def LV:ai->Option Out:=(av (Dl.aB 5 [0,1,2,4] (ag 4 dg (aa (ab 0) (aa (ab 1) (aa (ab 4) (aa (ab 2) ae)))))) (aK 3 [3,5] (ak 2 [] (eO (aa (ab 3) (aa (ab 5) ae))) (fI 0 1) (fun _=>some true) (f2 aE (ab 0) (ab 1)))))
theorem eJ {G T:List Pl}{W:List Wy}{off:List Int}(h:Wd G T W) (ho:off.length=W.length) (b:Bool) :
  aU [ar G T W,.int (sI b),af off]=some (af (fH b G T W off)):=by
 have hw:W.length<=16:=h.wl
 have hp:=h.pl b
 have t3:aK 3 [0] (ak 1 [] (aS (f2 au (ab 0) (fC (.int 2)))) (fG 0) (fun _=>some true) (fC (.int 0))) [.val (ar G T W),.val (.int (sI b)),.val (af off),.non,.non,.non]=some (.nx [.val (ar G T W),.val (.int (sI b)),.val (af off),.own ((List.replicate W.length (0:Int)).map PyData.int),.non,.non]):=by
  have z:=zeros (fi:=aS (f2 au (ab 0) (fC (.int 2)))) (ρ:=bR [.val (ar G T W),.val (.int (sI b)),.val (af off),.non,.non,.non]) (ds:=W.map ao) rfl (by rw[List.length_map];omega)
  rw[List.length_map] at z
  exact gO z rfl
 obtain⟨ρ',e3,hs',x,y,rfl⟩:=kP (tgt:=tN 4) (gb:=LV) (R:=fun s ρ=>s.length=W.length/\∃x y,ρ=[.val (ar G T W),.val (.int (sI b)),.val (af off),.own (s.map PyData.int),x,y]) nD (tV b G T W off)
  (l:=List.range (bx b G T).length) (s:=List.replicate W.length (0:Int)) (ρ:=[.val (ar G T W),.val (.int (sI b)),.val (af off),.own ((List.replicate W.length (0:Int)).map PyData.int),.non,.non])
  (fun s ρ i hi ⟨hs,x,y,hρ⟩=>by
   subst hρ
   have ei:=oe (List.mem_range.mp hi)
   have t1:Dl.aB 5 [0,1,2,4] (ag 4 dg (aa (ab 0) (aa (ab 1) (aa (ab 4) (aa (ab 2) ae))))) [.val (ar G T W),.val (.int (sI b)),.val (af off),.own (s.map PyData.int),.val (nD i),y]=some (.nx [.val (ar G T W),.val (.int (sI b)),.val (af off),.own (s.map PyData.int),.val (nD i),.val (af (qA W off (cy b G T i).1 (eP b W i (cy b G T i).2)))]):=by
    refine oY (ρ':=[.val (ar G T W),.val (.int (sI b)),.val (af off),.own (s.map PyData.int),.val (nD i),y]) rfl (d:=af (qA W off (cy b G T i).1 (eP b W i (cy b G T i).2))) ?_ ?_ rfl
    ·dsimp! [mz h ho ei]
    ·dsimp! [mz h ho ei]
   have t2:aK 3 [3,5] (ak 2 [] (eO (aa (ab 3) (aa (ab 5) ae))) (fI 0 1) (fun _=>some true) (f2 aE (ab 0) (ab 1))) [.val (ar G T W),.val (.int (sI b)),.val (af off),.own (s.map PyData.int),.val (nD i),.val (af (qA W off (cy b G T i).1 (eP b W i (cy b G T i).2)))]=some (.nx [.val (ar G T W),.val (.int (sI b)),.val (af off),.own ((tV b G T W off s i).map PyData.int),.val (nD i),.val (af (qA W off (cy b G T i).1 (eP b W i (cy b G T i).2)))]):=by
    refine td (ρ':=[.val (ar G T W),.val (.int (sI b)),.val (af off),.val (.list (s.map PyData.int)),.val (nD i),.val (af (qA W off (cy b G T i).1 (eP b W i (cy b G T i).2)))]) rfl (ds:=(tV b G T W off s i).map PyData.int) ?_
    exact Bi (a:=s) (b:=qA W off (cy b G T i).1 (eP b W i (cy b G T i).2)) rfl (by omega)
   exact⟨_,_,rfl,(ah t1).trans t2,nE hs,_,_,rfl⟩) ⟨by simp,_,_,rfl⟩
 refine aI ?_
 show cT [.val (ar G T W),.val (.int (sI b)),.val (af off),.non,.non,.non]=_
 unfold cT
 rw[ah t3]
 refine (ah (b9 e3 (mf (by dsimp! [nu,yA,List.length_map]) (by omega)) rfl)).trans ?_
 exact aL rfl
theorem rR {xs ys:List D}(h:(xs++ys).length<=4000):Dl.aE (.tuple xs) (.tuple ys)=some (.tuple (xs++ys)):=by
 simp only[Dl.aE,rM,Fq,bq h,Option.map_some,Option.none_or,Option.some_or]
theorem Eo {f:Dl.Env->Option D}{ρ:Dl.Env}{d:D}(h:f ρ=some d):aH (aa f ae) ρ=some (.tuple [d]):=by
 simp only[aH,aa,ae,h,Option.bind_some,Option.map_some]
 rw[bq (by simp),Option.map_some]
theorem KQ {f g:Dl.Env->Option D}{ρ:Dl.Env}{d e:D}(h:f ρ=some d) (h2:g ρ=some e):aH (aa f (aa g ae)) ρ=some (.tuple [d,e]):=by
 simp only[aH,aa,ae,h,h2,Option.bind_some,Option.map_some]
 rw[bq (by simp),Option.map_some]
theorem aA {g:D->D->Option D}{fa fb:Dl.Env->Option D}{ρ:Dl.Env}{a b c:D}(h:g a b=some c) (ha:fa ρ=some a) (hb:fb ρ=some b):f2 g fa fb ρ=some c:=by rw[gZ ha hb,h]
theorem BE {f g:Dl.Env->Option D}{ρ:Dl.Env}{ds:List D}{k:Nat}(h:f ρ=some (.tuple ds)) (h2:g ρ=some (nD k)):jL eN f jN (vN g) ρ=some (.tuple (ds.take k)):=by
 simp only[jL,h,jN,vN,h2,Option.bind_some,gI,Option.map_some,eN,AZ]
theorem Hy {f g:Dl.Env->Option D}{ρ:Dl.Env}{ds:List D}{k:Nat}(h:f ρ=some (.tuple ds)) (h2:g ρ=some (nD k)):jL eN f (vN g) jN ρ=some (.tuple (ds.drop k)):=by
 simp only[jL,h,jN,vN,h2,Option.bind_some,gI,Option.map_some,eN,uu]
theorem Lq (d:D) (ds:List D):au (.tuple (d::ds)) (.int 0)=some d:=oq (i:=0) rfl
theorem KO (c d:D) (ds:List D):au (.tuple (c::d::ds)) (.int 1)=some d:=oq (i:=1) rfl
theorem yT (c:List Int) (i:Nat) (v:Int) (h:i < c.length):((c.map PyData.int).take i++[PyData.int v])++(c.map PyData.int).drop (i+1)=(c.set i v).map PyData.int:=by
 rw[List.set_eq_take_append_cons_drop,if_pos h]
 simp
theorem LR (i:Nat):Dl.aE (nD i) (.int 1)=some (nD (i+1)):=by
 rw[gS]
 rfl
theorem vZ {c:List Int}{i:Nat}{v:Int}(h:i < c.length) (hl:c.length<=1000):ik [af c,nD i,.int v]=some (af (c.set i v)):=by
 refine aI ?_
 show jZ [.val (af c),.val (nD i),.val (.int v)]=_
 refine aL ?_
 refine aA (a:=.tuple ((c.map PyData.int).take i++[PyData.int v])) (b:=.tuple ((c.map PyData.int).drop (i+1))) ?_ (aA (a:=.tuple ((c.map PyData.int).take i)) (b:=.tuple [.int v]) (rR ?_) (BE rfl rfl) (Eo rfl)) (Hy rfl (aA (LR i) rfl rfl))
 ·rw[rR,yT c i v h]
  ·rfl
  ·rw[yT c i v h];simp;omega
 ·simp;omega
theorem rq {c:List Int}{i:Nat}{v:Int}(h:i < c.length) (hl:c.length<=1000):bV [af c,nD i,.int v]=some (af (c.set i v)):=by
 refine aI ?_
 show me [.val (af c),.val (nD i),.val (.int v)]=_
 exact aL (call_of (vZ h hl) rfl rfl)
noncomputable def dI (W:List Wy):List Int:=W.map fun w=>w.2.2
theorem AM {G T:List Pl}{W:List Wy}(h:Wd G T W) {f:Dl.Env->Option D}{ρ:Dl.Env}(hf:f ρ=some (ar G T W)):(aY bF (aa (cw (ak 1 [] (aS (f2 au f (fC (.int 2)))) (fG 0) (fun _=>some true) (f2 au (ab 0) (fC (.int 2))))) ae)) ρ=some (af (dI W)):=by
 have hw:=h.wl
 have hs:(aS (f2 au f (fC (.int 2)))) ρ=some (W.map ao):=by
  unfold aS
  rw[aA (rW G T W) hf rfl]
  rfl
 have e:ak 1 [] (aS (f2 au f (fC (.int 2)))) (fG 0) (fun _=>some true) (f2 au (ab 0) (fC (.int 2))) ρ=some ((dI W).map PyData.int):=by
  rw[bW (h:=fun d=>.int (g0 ((bh d).getD 2 .none))) hs (by rw[List.length_map];omega) fun d hd=>?_]
  ·rw[dI,List.map_map,List.map_map]
   rfl
  ·obtain⟨w,hw',rfl⟩:=List.mem_map.mp hd
   rfl
 simp only[aY,aa,ae,cw,e,Option.map_some,Option.bind_some,Fy]
theorem kC {G T:List Pl}{W:List Wy}(h:Wd G T W):eB [ar G T W]=some (af (dI W)):=by
 refine aI ?_
 show oo [.val (ar G T W)]=_
 exact aL (AM h rfl)
theorem k7 (W:List Wy):(dI W).length=W.length:=by simp[dI]
noncomputable def ux (G T:List Pl) (W:List Wy) (c:List Int):List Int:=fH true G T W (fH false G T W c)
noncomputable def qR (G T:List Pl) (W:List Wy) (c:List Int) (k:Nat):Bool:=decide ((ux G T W c).getD k 0 < (fH false G T W c).getD k 0)
noncomputable def xj (G T:List Pl) (W:List Wy) (c:List Int):Option (Nat×Int):=((List.range W.length).find? (qR G T W c)).map fun k=>(k,(ux G T W c).getD k 0)
noncomputable def wD:Option (Nat×Int)->D
 | none=>.none
 | some p=>.tuple [nD p.1,.int p.2]
theorem enum_zip:∀ (ds:List D) (k:Nat),bw k ds=(ds.zipIdx k).map fun q=>.tuple [nD q.2,q.1]
 | [],k=>rfl
 | d::ds,k=>by rw[bw,enum_zip ds (k+1),List.zipIdx_cons];rfl
theorem zd (l:List Int):bw 0 (l.map PyData.int)=(List.range l.length).map fun k=>.tuple [nD k,.int (l.getD k 0)]:=by
 rw[enum_zip]
 apply List.ext_getElem
 ·simp
 ·intro i h1 h2
  have:i < l.length:=by simpa using h2
  simp[this]
theorem GO (G T:List Pl) (W:List Wy) (c:List Int):(ux G T W c).length=W.length:=lj _ _ _ _ _
noncomputable def Ls:ai->Option Out:=(eX (fB (f2 Av (ab 5) (f2 au (ab 2) (ab 4)))) (aF (aH (aa (ab 4) (aa (ab 5) ae)))) eU)
theorem jr {G T:List Pl}{W:List Wy}{c:List Int}(h:Wd G T W) (ho:c.length=W.length):dm [ar G T W,af c]=some (wD (xj G T W c)):=by
 have hw:W.length<=16:=h.wl
 have t2:Dl.aB 2 [0,1] (ag 3 aU (aa (ab 0) (aa (fC (.int 0)) (aa (ab 1) ae)))) [.val (ar G T W),.val (af c),.non,.non,.non,.non]=some (.nx [.val (ar G T W),.val (af c),.val (af (fH false G T W c)),.non,.non,.non]) :=
  bU (call_of (eJ h ho false) rfl rfl) rfl rfl rfl
 have t3:Dl.aB 3 [0,2] (ag 3 aU (aa (ab 0) (aa (fC (.int 1)) (aa (ab 2) ae)))) [.val (ar G T W),.val (af c),.val (af (fH false G T W c)),.non,.non,.non]=some (.nx [.val (ar G T W),.val (af c),.val (af (fH false G T W c)),.val (af (ux G T W c)),.non,.non]) :=
  bU (call_of (eJ h (lj _ _ _ _ _) true) rfl rfl) rfl rfl rfl
 have hl:=fy (tgt:=eR 4 5) (gb:=Ls) (R:=fun ρ=>∃x y,ρ=[.val (ar G T W),.val (af c),.val (af (fH false G T W c)),.val (af (ux G T W c)),x,y]) (fun k=>.tuple [nD k,.int ((ux G T W c).getD k 0)]) (qR G T W c) (fun k=>.tuple [nD k,.int ((ux G T W c).getD k 0)])
  (l:=List.range W.length) (ρ:=[.val (ar G T W),.val (af c),.val (af (fH false G T W c)),.val (af (ux G T W c)),.non,.non])
  (fun ρ k hk ⟨x,y,hρ⟩=>by
   subst hρ
   have hk':k < (fH false G T W c).length:=by rw[lj];exact List.mem_range.mp hk
   have hc:(fB (f2 Av (ab 5) (f2 au (ab 2) (ab 4)))) (bb [.val (ar G T W),.val (af c),.val (af (fH false G T W c)),.val (af (ux G T W c)),.val (nD k),.val (.int ((ux G T W c).getD k 0))])=some (qR G T W c k):=by
    dsimp! [ox hk',k4,qR]
   refine⟨[.val (ar G T W),.val (af c),.val (af (fH false G T W c)),.val (af (ux G T W c)),.val (nD k),.val (.int ((ux G T W c).getD k 0))],rfl,fun hq=>?_,fun hq=>?_⟩
   ·rw[hq] at hc
    unfold Ls
    rw[fK hc]
    exact aL (KQ rfl rfl)
   ·rw[hq] at hc
    unfold Ls
    rw[cC hc]
    exact⟨_,rfl,_,_,rfl⟩) ⟨_,_,rfl⟩
 have hi:(br (aa (ab 3) ae)) (bR [.val (ar G T W),.val (af c),.val (af (fH false G T W c)),.val (af (ux G T W c)),.non,.non])=some ((List.range W.length).map fun k=>.tuple [nD k,.int ((ux G T W c).getD k 0)]):=by
  have:=zd (ux G T W c)
  rw[GO] at this
  rw[<- this]
  rfl
 refine aI ?_
 show jE [.val (ar G T W),.val (af c),.non,.non,.non,.non]=_
 unfold jE
 rw[ah t2,ah t3]
 unfold xj
 cases hq:(List.range W.length).find? (qR G T W c) with
 | some k =>
  exact hC (b9 (hl.1 k hq) hi rfl)
 | none =>
  obtain⟨ρ',e,x,y,rfl⟩:=hl.2 hq
  exact (ah (b9 e hi rfl)).trans (aL rfl)
theorem gG (l:List Int) (k:Nat) (v:Int) (i:Nat):(l.set k v).getD i 0=if k=i/\i < l.length then v else l.getD i 0:=by
 simp only[List.getD_eq_getElem?_getD,List.getElem?_set]
 by_cases h:k=i
 ·subst h
  by_cases h2:k < l.length
  ·simp[h2]
  ·simp[h2]
 ·simp[h]
theorem vh {a b:List Int}{i:Nat}(ha:i < a.length) (hb:i < b.length):(List.zipWith (·+·) a b).getD i 0=a.getD i 0+b.getD i 0:=by
 rw[List.getD_eq_getElem?_getD,List.getD_eq_getElem?_getD,List.getD_eq_getElem?_getD,List.getElem?_zipWith,List.getElem?_eq_getElem ha,List.getElem?_eq_getElem hb]
 rfl
noncomputable def Off (off:List Int):Prop:=∀i,0<=off.getD i 0
noncomputable def Ku (W:List Wy):Prop:=∀i,0<=(ax W i).2.2
theorem Wd.lim {G T:List Pl}{W:List Wy}(h:Wd G T W):Ku W:=fun i=>by
 by_cases hi:i < W.length
 ·have:=h.wr (ax W i) (by rw[<- f9 hi];exact List.getElem_mem hi)
  omega
 ·simp only[ax,List.getD_eq_getElem?_getD]
  rw[List.getElem?_eq_none (by omega)]
  simp
theorem Wd.amt {G T:List Pl}{W:List Wy}(h:Wd G T W) (b:Bool) (i:Nat):0<=(cy b G T i).1:=by
 unfold cy
 rw[List.getD_eq_getElem?_getD]
 cases e:(bx b G T)[i]? with
 | none=>simp
 | some p =>
  have hm:=List.mem_of_getElem? e
  cases b
  ·exact (h.ga p hm).1
  ·exact (h.ta p hm).1
theorem Gq {W:List Wy}{off:List Int}(ho:Off off) (hl:Ku W) {amt:Int}(ha:0<=amt) (is:List Nat) (i:Nat):0<=(qA W off amt is).getD i 0/\(qA W off amt is).getD i 0<=off.getD i 0:=by
 have:=jt (l:=is) (f:=lL W off) (s:=(amt,List.replicate W.length 0)) (fun s=>0<=s.1/\∀i,0<=s.2.getD i 0/\s.2.getD i 0<=off.getD i 0) (fun s k _ ⟨h1,h2⟩=>by
  have ok:=ho k
  have lk:=hl k
  have v0:0<=cV W off s.1 k:=by unfold cV;omega
  have v1:cV W off s.1 k<=off.getD k 0:=by unfold cV;omega
  have v2:cV W off s.1 k<=s.1:=by unfold cV;omega
  refine⟨by simp only[lL];omega,fun i=>?_⟩
  simp only[lL,gG]
  split
  ·rename_i z
   rw[<- z.1]
   exact⟨v0,v1⟩
  ·exact h2 i) ⟨ha,fun i=>by
   have:=ho i
   have z:(List.replicate W.length (0:Int)).getD i 0=0:=by
    simp only[List.getD_eq_getElem?_getD,List.getElem?_replicate]
    split<;>rfl
   simp only[z]
   omega⟩
 exact this.2 i
theorem xS {W:List Wy}{off:List Int}{amt:Int}{is:List Nat}{i:Nat}(hi:i∉is):(qA W off amt is).getD i 0=0:=by
 refine jt (l:=is) (f:=lL W off) (s:=(amt,List.replicate W.length 0)) (fun s=>s.2.getD i 0=0) (fun s k hk h=>?_) ?_
 ·simp only[lL,gG]
  have hki:¬ (k=i/\i < s.2.length):=fun z=>hi (z.1 ▸ hk)
  rw[if_neg hki,h]
 ·simp only[List.getD_eq_getElem?_getD,List.getElem?_replicate]
  split<;>rfl
theorem rY {G T:List Pl}{W:List Wy}(h:Wd G T W) {off:List Int}(ho:Off off) (b:Bool):∀ (n:Nat),n<=(bx b G T).length ->
  ((List.range n).foldl (tV b G T W off) (List.replicate W.length 0)).length=W.length/\∀i,i < W.length->(0<=((List.range n).foldl (tV b G T W off) (List.replicate W.length 0)).getD i 0/\((List.range n).foldl (tV b G T W off) (List.replicate W.length 0)).getD i 0<=off.getD i 0)/\((n:Nat)<=bp b (ax W i)->((List.range n).foldl (tV b G T W off) (List.replicate W.length 0)).getD i 0=0)
 | 0,_=>by
  refine⟨by simp,fun i hi=>?_⟩
  have:=ho i
  have z:((List.range 0).foldl (tV b G T W off) (List.replicate W.length 0)).getD i 0=0:=by simp[List.getD_eq_getElem?_getD,hi]
  rw[z]
  exact⟨by omega,fun _=>rfl⟩
 | n+1,hn=>by
  obtain⟨h1,h2⟩:=rY h ho b n (by omega)
  rw[List.range_succ,List.foldl_append,List.foldl_cons,List.foldl_nil]
  generalize (List.range n).foldl (tV b G T W off) (List.replicate W.length 0)=s at h1 h2
  refine⟨nE h1,fun i hi=>?_⟩
  obtain⟨h3,h4⟩:=h2 i hi
  have e:=oe (b:=b) (G:=G) (T:=T) (i:=n) (by omega)
  have hc:=Gq ho h.lim (h.amt b n) (eP b W n (cy b G T n).2) i
  have hz:(tV b G T W off s n).getD i 0=s.getD i 0+(qA W off (cy b G T n).1 (eP b W n (cy b G T n).2)).getD i 0:=vh (by omega) (by rw[tq];exact hi)
  rw[hz]
  by_cases he:bp b (ax W i)=n
  ·rw[h4 (by omega)]
   exact⟨by omega,fun z=>by omega⟩
  ·have hni:i∉eP b W n (cy b G T n).2:=fun z=>he (cX.mp ((e8 h e).mem_iff.mp z)).2
   rw[xS hni]
   exact⟨by omega,fun z=>by rw[h4 (by omega)];rfl⟩
theorem tP {l:List Int}{i:Nat}(h:l.length<=i):l.getD i 0=0:=by simp[List.getD_eq_getElem?_getD,h]
theorem kE {G T:List Pl}{W:List Wy}(h:Wd G T W) {off:List Int}(ho:Off off) (b:Bool):Off (fH b G T W off):=fun i=>by
 by_cases hi:i < W.length
 ·exact ((rY h ho b _ (Nat.le_refl _)).2 i hi).1.1
 ·rw[tP (by rw[lj];omega)]
  exact Int.le_refl 0
theorem wO {G T:List Pl}{W:List Wy}(h:Wd G T W) {off:List Int}(ho:Off off) (b:Bool) {i:Nat}(hi:i < W.length):(fH b G T W off).getD i 0<=off.getD i 0 :=
 ((rY h ho b _ (Nat.le_refl _)).2 i hi).1.2
theorem De {G T:List Pl}{W:List Wy}(h:Wd G T W) {c:List Int}(ho:Off c) {p:Nat×Int}(e:xj G T W c=some p):p.1 < W.length/\0<=p.2/\p.2 < c.getD p.1 0:=by
 unfold xj at e
 obtain⟨k,hk,rfl⟩:=Dl.map_some e
 have hm:=List.mem_of_find?_eq_some hk
 have hq:=List.find?_some hk
 have hi:=List.mem_range.mp hm
 rw[qR,decide_eq_true_eq] at hq
 have a:=wO h ho false hi
 have b:=kE h (kE h ho false) true k
 exact⟨hi,b,by simp only;omega⟩
noncomputable def mea (c:List Int):Nat:=(c.map Int.toNat).sum
theorem xG:∀ {c:List Int}{k:Nat}{v:Int},0<=v->v < c.getD k 0->mea (c.set k v) < mea c
 | [],k,v,h0,h1=>by simp at h1;omega
 | x::c,0,v,h0,h1=>by
  simp at h1
  simp only[mea,List.set_cons_zero,List.map_cons,List.sum_cons]
  omega
 | x::c,k+1,v,h0,h1=>by
  have:=xG (c:=c) (k:=k) h0 (by simpa using h1)
  simp only[mea,List.set_cons_succ,List.map_cons,List.sum_cons] at this ⊢
  omega
theorem yR:∀ {W:List Wy},(∀w∈W,w.2.2<=9)->mea (dI W)<=9 * W.length
 | [],_=>by simp[mea,dI]
 | w::W,h=>by
  have:=yR (W:=W) fun x hx=>h x (List.mem_cons_of_mem _ hx)
  have:=h w List.mem_cons_self
  simp only[mea,dI,List.map_cons,List.sum_cons,List.length_cons] at *
  omega
theorem Fv {G T:List Pl}{W:List Wy}(h:Wd G T W):Off (dI W):=fun i=>by
 have:=h.lim i
 by_cases hi:i < W.length
 ·simpa [dI,ax,List.getD_eq_getElem?_getD,hi] using this
 ·rw[tP (by rw[k7];omega)]
  exact Int.le_refl 0
theorem Eg {c:List Int}(h:Off c) {k:Nat}{v:Int}(hv:0<=v):Off (c.set k v):=fun i=>by
 rw[gG]
 split
 ·exact hv
 ·exact h i
theorem oz (a:List Int):SeqAt.shaped (af a)=true :=
 (ie.tup (b:=a.length) (k:=0) (by simp) fun x hx=>by obtain⟨i,_,rfl⟩:=List.mem_map.mp hx;exact jD _).shaped (by decide)
theorem nZ (a b:List Int):PyData.eqv (af a) (af b)=decide (a=b):=by
 rw[af,af,PyData.eqv,oP]
theorem bQ {f:Dl.Env->Option D}{ρ:Dl.Env}{b:Bool}(h:f ρ=some (.bool b)):fB f ρ=some b:=by
 simp only[fB,h,Option.bind_some,gB]
theorem d6 {t:Dl.Env->Option Bool}{ρ:Dl.Env}{b:Bool}(h:t ρ=some b):bA t ρ=some (!b):=by
 simp only[bA,h,Option.map_some]
theorem xf {t u:Dl.Env->Option Bool}{ρ:Dl.Env}(h:t ρ=some false) (h2:u ρ=some false):kl t u ρ=some false:=by
 simp only[kl,h,Option.bind_some,h2]
theorem BP (a b:List Int):dM (af a) (af b)=some (.bool (!decide (a=b))):=by
 simp only[dM,FK,oz,and_self,if_true,nZ,Option.map_some]
theorem Bz (a b:List Int):bS (af a) (af b)=some (.bool (decide (a=b))):=by
 simp only[bS,Im,oz,and_self,if_true,nZ,Option.map_some]
theorem rD (a:List Int):dM (af a) (af a)=some (.bool false):=by rw[BP];simp
theorem z6 (a b:List (List Int)):dM (.list (a.map af)) (.list (b.map af))=some (.bool (!decide (a=b))):=by
 simp only[dM,FK,mD,and_self,if_true,PyData.eqv,ou,Option.map_some]
theorem E1 (x:Option (Nat×Int)):mF (wD x) .none=some (.bool x.isSome):=by cases x<;>rfl
theorem ba {i:Nat}{fz:List Nat}{f:Dl.Env->Option D}{ρ:ai}{d:D}(hA:f (bb ρ)=some d) (hF:f (bR ρ)=some d) (hh:hand fz 0 ρ=ρ):Dl.aB i fz f ρ=some (.nx (ρ.set i (.val d))):=by
 cases hs:Dl.m7 d with
 | true=>exact dX hA hs
 | false=>exact oY hh hA hF hs
theorem GB {i:Nat}{fz:List Nat}{f:Dl.Env->Option D}{ρ:ai}{d:D}{ds:List D}(hA:f (bb ρ)=some d) (hF:f (bR ρ)=some d) (hh:hand fz 0 ρ=ρ) (ho:ρ[i]?=some (.own ds)) (hl:ds.length < 4000):kg i fz f ρ=some (.nx (ρ.set i (.own (ds++[d])))):=by
 have hz:ds.length < sizeLine:=Nat.lt_of_lt_of_le hl (by decide)
 have hi:jP fz f ρ=some (d,ρ):=by
  unfold jP
  rw[hA,Option.bind_some,hh,hF]
  cases Dl.m7 d<;>rfl
 simp only[kg,hi,Option.bind_some,nc,ho,hz,if_true,Option.map_some]
theorem gx {G T:List Pl}{W:List Wy}(h:Wd G T W):bz [ar G T W]=some .none:=by
 have hw:bg [ar G T W]=some (.bool true):=by rw[nO h.fit (by decide),B1,h.lok]
 have hc:(bA (fB (ag 1 bg (aa (ab 0) ae)))) (bb [.val (ar G T W)])=some false:=d6 (bQ (call_of hw rfl rfl))
 have:cP [.val (ar G T W)]=some (.nx [.val (ar G T W)]):=by
  unfold cP
  rw[cC hc]
 show (cP [.val (ar G T W)]).map _=_
 rw[this]
 rfl
theorem qc {a b:Int}{i:Int}(h1:a<=i) (h2:i<=b):d0 [.int i,.int a,.int b]=some .none:=by
 have hw:aM [.int i,.int a,.int b]=some (.bool true):=by rw[fg rfl];simp[whole,h1,h2]
 have hc:(bA (fB (ag 3 aM (aa (ab 0) (aa (ab 1) (aa (ab 2) ae)))))) (bb [.val (.int i),.val (.int a),.val (.int b)])=some false:=d6 (bQ (call_of hw rfl rfl))
 have:cQ [.val (.int i),.val (.int a),.val (.int b)]=some (.nx [.val (.int i),.val (.int a),.val (.int b)]):=by
  unfold cQ
  rw[cC hc]
 show (cQ [.val (.int i),.val (.int a),.val (.int b)]).map _=_
 rw[this]
 rfl
theorem jl {n i:Int}(h1:0<=i) (h2:i<=n - 1):bX [.int i,.int n]=some .none:=by
 have:cB [.val (.int i),.val (.int n)]=some (.nx [.val (.int i),.val (.int n)]):=by
  unfold cB
  exact eV (call_of (qc h1 h2) (cons_of rfl (cons_of rfl (cons_of (aA (sub_int n 1) rfl rfl) rfl))) rfl)
 show (cB [.val (.int i),.val (.int n)]).map _=_
 rw[this]
 rfl
noncomputable abbrev Sp:=List (Nat×Int)×List Int
noncomputable def Jc (G T:List Pl) (W:List Wy) (s:Sp):Bool:=(xj G T W s.2).isSome
noncomputable def spS (G T:List Pl) (W:List Wy) (s:Sp):Sp:=match xj G T W s.2 with|some p=>(s.1++[p],s.2.set p.1 p.2)|none=>s
noncomputable def low (c:List Int) (p:Nat×Int):List Int:=c.set p.1 p.2
structure Au (W:List Wy) (s:Sp):Prop where
 len:s.2.length=W.length
 off:Off s.2
 eq:s.2=s.1.foldl low (dI W)
 bd:s.1.length+mea s.2<=mea (dI W)
 mem:∀p∈s.1,p.1 < W.length
theorem Au.start {G T:List Pl}{W:List Wy}(h:Wd G T W):Au W ([],dI W):=⟨k7 W,Fv h,rfl,by simp,fun p hp=>by cases hp⟩
theorem xg {G T:List Pl}{W:List Wy}{s:Sp}{p:Nat×Int}(e:xj G T W s.2=some p):spS G T W s=(s.1++[p],s.2.set p.1 p.2):=by
 unfold spS
 rw[e]
theorem Au.step {G T:List Pl}{W:List Wy}(h:Wd G T W) {s:Sp}(i:Au W s) {p:Nat×Int}(e:xj G T W s.2=some p):Au W (spS G T W s)/\mea (spS G T W s).2 < mea s.2:=by
 obtain⟨h1,h2,h3⟩:=De h i.off e
 have hm:=xG h2 h3
 rw[xg e]
 refine⟨⟨by simp[i.len],Eg i.off h2,?_,?_,fun q hq=>?_⟩,hm⟩
 ·rw[List.foldl_append,<- i.eq]
  rfl
 ·have:=i.bd
  simp only[List.length_append,List.length_singleton]
  omega
 ·rcases List.mem_append.mp hq with z|z
  ·exact i.mem q z
  ·rw[List.mem_singleton] at z
   rw[z]
   exact h1
theorem Wd.mea {G T:List Pl}{W:List Wy}(h:Wd G T W):mea (dI W)<=144:=by
 have:=yR (W:=W) fun w hw=>(h.wr w hw).2.2.2
 have:=h.wl
 omega
noncomputable def pA (r:List (Nat×Int)):List D:=(r.map fun p=>[((p.1:Nat):Int),p.2]).map af
theorem DJ (r:List (Nat×Int)) (p:Nat×Int):pA (r++[p])=pA r++[wD (some p)]:=by simp[pA];rfl
theorem DV (r:List (Nat×Int)):(pA r).length=r.length:=by simp[pA]
noncomputable def fin (G T:List Pl) (W:List Wy):Sp:=lp (Jc G T W) (spS G T W) Rf.turns ([],dI W)
noncomputable def KF:ai->Option Out:=(av (kg 1 [3] (ab 3)) (av (Dl.aB 2 [2,3] (ag 3 bV (aa (ab 2) (aa (f2 au (ab 3) (fC (.int 0))) (aa (f2 au (ab 3) (fC (.int 1))) ae))))) (Dl.aB 3 [0,2] (ag 2 dm (aa (ab 0) (aa (ab 2) ae))))))
noncomputable def FZ (G T:List Pl) (W:List Wy) (s:Sp):ai:=[.val (ar G T W),.own (pA s.1),.val (af s.2),.val (wD (xj G T W s.2))]
theorem Ej {G T:List Pl}{W:List Wy}(h:Wd G T W) {s:Sp}(i:Au W s) {p:Nat×Int}(e:xj G T W s.2=some p):KF (FZ G T W s)=some (.nx (FZ G T W (spS G T W s))):=by
 obtain⟨h1,h2,h3⟩:=De h i.off e
 obtain⟨i2,hm⟩:=i.step h e
 have hb:=h.mea
 have hbd:=i.bd
 have hw:=h.wl
 have t1:kg 1 [3] (ab 3) (FZ G T W s)=some (.nx [.val (ar G T W),.own (pA s.1++[wD (some p)]),.val (af s.2),.val (wD (some p))]):=by
  unfold FZ
  rw[e]
  exact GB rfl rfl rfl rfl (by rw[DV];omega)
 have hlow:∀ρ:Dl.Env,ab 2 ρ=some (af s.2)->ab 3 ρ=some (wD (some p))->(ag 3 bV (aa (ab 2) (aa (f2 au (ab 3) (fC (.int 0))) (aa (f2 au (ab 3) (fC (.int 1))) ae)))) ρ=some (af (s.2.set p.1 p.2)):=fun ρ a b =>
  call_of (rq (c:=s.2) (i:=p.1) (v:=p.2) (by rw[i.len];exact h1) (by rw[i.len];omega)) (cons_of a (cons_of (aA (Lq _ _) b rfl) (cons_of (aA (KO _ _ _) b rfl) rfl))) rfl
 have t2:Dl.aB 2 [2,3] (ag 3 bV (aa (ab 2) (aa (f2 au (ab 3) (fC (.int 0))) (aa (f2 au (ab 3) (fC (.int 1))) ae)))) [.val (ar G T W),.own (pA s.1++[wD (some p)]),.val (af s.2),.val (wD (some p))]=some (.nx [.val (ar G T W),.own (pA s.1++[wD (some p)]),.val (af (s.2.set p.1 p.2)),.val (wD (some p))]) :=
  ba (hlow _ rfl rfl) (hlow _ rfl rfl) rfl
 have hl2:(s.2.set p.1 p.2).length=W.length:=by rw[List.length_set,i.len]
 have t3:Dl.aB 3 [0,2] (ag 2 dm (aa (ab 0) (aa (ab 2) ae))) [.val (ar G T W),.own (pA s.1++[wD (some p)]),.val (af (s.2.set p.1 p.2)),.val (wD (some p))]=some (.nx [.val (ar G T W),.own (pA s.1++[wD (some p)]),.val (af (s.2.set p.1 p.2)),.val (wD (xj G T W (s.2.set p.1 p.2)))]) :=
  ba (call_of (jr h hl2) rfl rfl) (call_of (jr h hl2) rfl rfl) rfl
 unfold KF
 rw[ah t1,ah t2,t3,xg e]
 unfold FZ
 rw[DJ]
theorem uT {G T:List Pl}{W:List Wy}{s:Sp}(h:Jc G T W s=true):∃p,xj G T W s.2=some p:=Option.isSome_iff_exists.mp h
theorem D7 {G T:List Pl}{W:List Wy}(h:Wd G T W):nv [ar G T W]=some (.list (pA (fin G T W).1))/\Au W (fin G T W):=by
 have hb:=h.mea
 have t1:aK 1 [] (iz ae) [.val (ar G T W),.non,.non,.non]=some (.nx [.val (ar G T W),.own [],.non,.non]):=gO (f:=iz ae) (ds:=[]) (show small []=some [] from bq (by simp)) rfl
 have t2:Dl.aB 2 [0] (ag 1 eB (aa (ab 0) ae)) [.val (ar G T W),.own [],.non,.non]=some (.nx [.val (ar G T W),.own [],.val (af (dI W)),.non]) :=
  ba (call_of (kC h) rfl rfl) (call_of (kC h) rfl rfl) rfl
 have t3:Dl.aB 3 [0,2] (ag 2 dm (aa (ab 0) (aa (ab 2) ae))) [.val (ar G T W),.own [],.val (af (dI W)),.non]=some (.nx (FZ G T W ([],dI W))) :=
  ba (call_of (jr h (k7 W)) rfl rfl) (call_of (jr h (k7 W)) rfl rfl) rfl
 obtain⟨ρ',ew,⟨rfl,iv⟩,_⟩:=vb (t:=(fB (f2 mF (ab 3) (fC .none)))) (gb:=KF) (R:=fun s ρ=>ρ=FZ G T W s/\Au W s) (Jc G T W) (spS G T W) (fun s=>mea s.2)
  (fun s ρ ⟨hρ,i⟩=>by
   subst hρ
   exact bQ (aA (E1 _) rfl rfl))
  (fun s ρ ⟨hρ,i⟩ hc=>by
   subst hρ
   obtain⟨p,e⟩:=uT hc
   exact⟨_,Ej h i e,⟨rfl,(i.step h e).1⟩,(i.step h e).2⟩)
  Rf.turns ([],dI W) (FZ G T W ([],dI W)) (Nat.lt_of_le_of_lt hb (by decide)) ⟨rfl,Au.start h⟩
 refine⟨?_,iv⟩
 refine aI ?_
 show nA [.val (ar G T W),.non,.non,.non]=_
 unfold nA
 rw[ah t1,ah t2,ah t3]
 refine (ah ew).trans ?_
 exact aL rfl
theorem D2 (c:List Int) (p:Nat×Int):(low c p).length=c.length:=by simp[low]
theorem AE {G T:List Pl}{W:List Wy}(h:Wd G T W) {r:List (Nat×Int)}(hr:∀p∈r,p.1 < W.length):kJ [ar G T W,.list (pA r)]=some (af (r.foldl low (dI W))):=by
 have hw:=h.wl
 have t2:Dl.aB 2 [0] (ag 1 eB (aa (ab 0) ae)) [.val (ar G T W),.val (.list (pA r)),.non,.non,.non]=some (.nx [.val (ar G T W),.val (.list (pA r)),.val (af (dI W)),.non,.non]) :=
  ba (call_of (kC h) rfl rfl) (call_of (kC h) rfl rfl) rfl
 obtain⟨ρ',e3,hs',x,y,rfl⟩:=kP (tgt:=eR 3 4) (gb:=Dl.aB 2 [2,3,4] (ag 3 bV (aa (ab 2) (aa (ab 3) (aa (ab 4) ae))))) (R:=fun (c:List Int) ρ=>c.length=W.length/\∃x y,ρ=[.val (ar G T W),.val (.list (pA r)),.val (af c),x,y]) (fun p:Nat×Int=>af [((p.1:Nat):Int),p.2]) low
  (l:=r) (s:=dI W) (ρ:=[.val (ar G T W),.val (.list (pA r)),.val (af (dI W)),.non,.non])
  (fun c ρ p hp ⟨hc,x,y,hρ⟩=>by
   subst hρ
   have el:=rq (c:=c) (i:=p.1) (v:=p.2) (by rw[hc];exact hr p hp) (by omega)
   have t:Dl.aB 2 [2,3,4] (ag 3 bV (aa (ab 2) (aa (ab 3) (aa (ab 4) ae)))) [.val (ar G T W),.val (.list (pA r)),.val (af c),.val (nD p.1),.val (.int p.2)]=some (.nx [.val (ar G T W),.val (.list (pA r)),.val (af (low c p)),.val (nD p.1),.val (.int p.2)]) :=
    ba (call_of el rfl rfl) (call_of el rfl rfl) rfl
   exact⟨_,_,rfl,t,by rw[D2,hc],_,_,rfl⟩) ⟨k7 W,_,_,rfl⟩
 refine aI ?_
 show lF [.val (ar G T W),.val (.list (pA r)),.non,.non,.non]=_
 unfold lF
 rw[ah t2]
 refine (ah (b9 e3 ?_ rfl)).trans (aL rfl)
 show some (pA r)=_
 rw[pA,List.map_map]
 rfl
theorem qh {G T:List Pl}{W:List Wy}(h:Wd G T W):bj [ar G T W]=some (af (fH false G T W (fin G T W).2)):=by
 obtain⟨e1,i⟩:=D7 h
 have e2:=AE h i.mem
 rw[<- i.eq] at e2
 refine aI ?_
 show d5 [.val (ar G T W)]=_
 unfold d5
 refine (ah (eV (call_of (gx h) rfl rfl))).trans ?_
 exact aL (call_of (eJ h i.len false) (cons_of rfl (cons_of rfl (cons_of (call_of e2 (cons_of rfl (cons_of (call_of e1 rfl rfl) rfl)) rfl) rfl))) rfl)
noncomputable def Ik (w:Wy):Wy:=(w.2.1,w.1,w.2.2)
structure Ord (W:List Wy) (π:List Nat):Prop where
 perm:π.Perm (List.range W.length)
 up:π.Pairwise fun i j=>(ax W i).2.1 < (ax W j).2.1\/((ax W i).2.1=(ax W j).2.1/\(ax W i).1 < (ax W j).1)
noncomputable def cO (W:List Wy) (π:List Nat):List Wy:=π.map fun i=>Ik (ax W i)
noncomputable def jW (P:List Int) (π:List Nat):List Int:=π.map fun i=>P.getD i 0
section
variable {W:List Wy}{π π':List Nat}{P:List Int}{G T:List Pl}
theorem Ord.len (o:Ord W π):π.length=W.length:=by rw[o.perm.length_eq,List.length_range]
theorem Ord.lt (o:Ord W π) {k:Nat}(hk:k < W.length):π.getD k 0 < W.length:=by
 have h:k < π.length:=by rw[o.len];exact hk
 have:=o.perm.mem_iff.mp (List.getElem_mem h)
 rw[List.getD_eq_getElem?_getD,List.getElem?_eq_getElem h]
 simpa using this
theorem Ord.ex (o:Ord W π) {i:Nat}(hi:i < W.length):∃k,k < W.length/\π.getD k 0=i:=by
 have:i∈π:=o.perm.mem_iff.mpr (by simpa using hi)
 obtain⟨k,hk,e⟩:=List.getElem_of_mem this
 exact⟨k,by rw[<- o.len];exact hk,by rw[List.getD_eq_getElem?_getD,List.getElem?_eq_getElem hk];exact e⟩
theorem cL (o:Ord W π):(cO W π).length=W.length:=by simp[cO,o.len]
theorem EF (o:Ord W π):(jW P π).length=W.length:=by simp[jW,o.len]
theorem fw (o:Ord W π) {k:Nat}(hk:k < W.length):ax (cO W π) k=Ik (ax W (π.getD k 0)):=by
 have h:k < π.length:=by rw[o.len];exact hk
 simp[ax,cO,h,List.getD_eq_getElem?_getD]
theorem nJ (o:Ord W π) {k:Nat}(hk:k < W.length):(jW P π).getD k 0=P.getD (π.getD k 0) 0:=by
 have h:k < π.length:=by rw[o.len];exact hk
 simp[jW,h,List.getD_eq_getElem?_getD]
theorem rT (b:Bool) (w:Wy):bp (!b) (Ik w)=bp b w:=by cases b<;>rfl
theorem su (b:Bool) (w:Wy):dC (!b) (Ik w)=dC b w:=by cases b<;>rfl
theorem Ord.ris (o:Ord W π):u9 (cO W π):=by
 unfold u9 cO
 rw[List.pairwise_map]
 exact o.up
theorem GW (h:u9 W) {i j:Nat}(hi:i < W.length) (hj:j < W.length) (e:(ax W i).1 < (ax W j).1\/((ax W i).1=(ax W j).1/\(ax W i).2.1 < (ax W j).2.1)):i < j:=by
 rcases Nat.lt_or_ge i j with q|q
 ·exact q
 ·exfalso
  rcases Nat.eq_or_lt_of_le q with q|q
  ·subst q;omega
  ·have:=List.pairwise_iff_getElem.mp h j i hj hi q
   rw[f9 hi,f9 hj] at this
   omega
theorem xA {l:List Nat}{n:Nat}(p:l.Perm (List.range n)) (h:l.Pairwise (· < ·)):l=List.range n:=by
 refine gw (fun i=>((i:Nat):Int)) p (h.imp fun {a b} q=>by omega) (List.pairwise_lt_range.imp fun {a b} q=>by omega)
theorem map_getD (l:List Nat):(List.range l.length).map (fun k=>l.getD k 0)=l:=by
 apply List.ext_getElem
 ·simp
 ·intro i h1 h2
  simp[h2]
theorem Ord.back (h:u9 W) (o:Ord W π) (o':Ord (cO W π) π'):π'.map (fun k=>π.getD k 0)=List.range W.length:=by
 have hl:(cO W π).length=W.length:=cL o
 refine xA ?_ ?_
 ·have:=(o'.perm.map fun k=>π.getD k 0)
  rw[hl,<- o.len,map_getD] at this
  exact this.trans o.perm
 ·rw[List.pairwise_map]
  refine o'.up.imp_of_mem fun {i j} hi hj q=>?_
  have hi':i < W.length:=by have:=o'.perm.mem_iff.mp hi;rw[hl] at this;simpa using this
  have hj':j < W.length:=by have:=o'.perm.mem_iff.mp hj;rw[hl] at this;simpa using this
  rw[fw o hi',fw o hj'] at q
  exact GW h (o.lt hi') (o.lt hj') q
theorem Eb (h:u9 W) (o:Ord W π) (o':Ord (cO W π) π'):cO (cO W π) π'=W:=by
 have hl:(cO W π).length=W.length:=cL o
 have e:cO (cO W π) π'=(π'.map fun k=>π.getD k 0).map fun i=>ax W i:=by
  unfold cO
  rw[List.map_map]
  refine List.map_congr_left fun k hk=>?_
  have hk':k < W.length:=by have:=o'.perm.mem_iff.mp hk;rw[hl] at this;simpa using this
  have:=fw o hk'
  unfold cO at this
  rw[this];rfl
 rw[e,o.back h o']
 have:=map_range (0,0,0) (fun w:Wy=>w) W
 simpa [ax] using this
theorem xN (h:u9 W) (o:Ord W π) (o':Ord (cO W π) π') (hp:P.length=W.length):jW (jW P π) π'=P:=by
 have hl:(cO W π).length=W.length:=cL o
 have e:jW (jW P π) π'=(π'.map fun k=>π.getD k 0).map fun i=>P.getD i 0:=by
  rw[List.map_map]
  unfold jW
  refine List.map_congr_left fun k hk=>?_
  have hk':k < W.length:=by have:=o'.perm.mem_iff.mp hk;rw[hl] at this;simpa using this
  have:=nJ (P:=P) o hk'
  unfold jW at this
  rw[this];rfl
 rw[e,o.back h o',<- hp]
 have:=map_range 0 (fun x:Int=>x) P
 simpa using this
theorem CL (o:Ord W π) (b:Bool) (p:Int):((own (!b) (cO W π) p).map fun k=>π.getD k 0).Perm (own b W p):=by
 have hl:(cO W π).length=W.length:=cL o
 have e:((own (!b) (cO W π) p).map fun k=>π.getD k 0)=π.filter fun i=>decide (bp b (ax W i)=p):=by
  conv=>rhs;rw[<- map_getD π,List.filter_map,o.len]
  unfold own
  rw[hl]
  congr 1
  refine List.filter_congr fun k hk=>?_
  have hk':k < W.length:=by simpa using hk
  rw[fw o hk',rT];rfl
 rw[e]
 exact o.perm.filter _
theorem AN (o:Ord W π) (b:Bool) (p:Int):(IY (!b) (cO W π) p).Perm (IY b W p):=by
 have hl:(cO W π).length=W.length:=cL o
 rw[<- lJ,<- lJ]
 have:=(CL o b p).map fun i=>dC b (ax W i)
 rw[List.map_map] at this
 refine List.Perm.trans (List.Perm.of_eq ?_) this
 refine List.map_congr_left fun k hk=>?_
 have hk':k < W.length:=by have:=(cX.mp hk).1;rwa [hl] at this
 show dC (!b) (ax (cO W π) k)=dC b (ax W (π.getD k 0))
 rw[fw o hk',su]
theorem Ord.wd (h:Wd G T W) (o:Ord W π):Wd T G (cO W π) where
 g1:=h.t1
 g4:=h.t4
 t1:=h.g1
 t4:=h.g4
 ga:=h.ta
 ta:=h.ga
 gl:=fun i p e=>(h.tl i p e).trans (AN o true i).symm
 tl:=fun i p e=>(h.gl i p e).trans (AN o false i).symm
 wr:=fun w hw=>by
  obtain⟨i,hi,rfl⟩:=List.mem_map.mp hw
  have hi':i < W.length:=by have:=o.perm.mem_iff.mp hi;simpa using this
  have:=h.wr (ax W i) (by rw[<- f9 hi'];exact List.getElem_mem _)
  exact⟨this.2.1,this.1,this.2.2⟩
 wp:=o.ris
 wl:=by rw[cL o];exact h.wl
theorem sF (b:Bool) (G T:List Pl):bx (!b) T G=bx b G T:=by cases b<;>rfl
theorem CC (b:Bool) (G T:List Pl) (i:Nat):cy (!b) T G i=cy b G T i:=by unfold cy;rw[sF]
noncomputable def iO (b:Bool) (W:List Wy) (P:List Int) (p:Int):Int:=((own b W p).map fun i=>P.getD i 0).sum
theorem uE {l m:List Int}(p:l.Perm m):l.sum=m.sum:=by
 induction p with
 | nil=>rfl
 | cons x _ ih=>simp[ih]
 | swap x y l=>simp only[List.sum_cons];omega
 | trans _ _ h1 h2=>exact h1.trans h2
theorem r6 (o:Ord W π) (b:Bool) (p:Int):iO (!b) (cO W π) (jW P π) p=iO b W P p:=by
 have hl:(cO W π).length=W.length:=cL o
 have:=uE ((CL o b p).map fun i=>P.getD i 0)
 unfold iO
 rw[<- this,List.map_map]
 congr 1
 refine List.map_congr_left fun k hk=>?_
 have hk':k < W.length:=by have:=(cX.mp hk).1;rwa [hl] at this
 exact nJ o hk'
theorem Iw (h:Wd G T W) (o:Ord W π) {b:Bool}{i:Nat}{p:Pl}(e:(bx b G T)[i]?=some p) {x:Int}(hx:x∈p.2):tL (!b) (cO W π) i x < W.length/\π.getD (tL (!b) (cO W π) i x) 0=tL b W i x:=by
 have e':(bx (!b) T G)[i]?=some p:=by rw[sF];exact e
 obtain⟨h1,h2,h3⟩:=kK (o.wd h) e' hx
 obtain⟨g1,g2,g3⟩:=kK h e hx
 rw[cL o] at h1
 rw[fw o h1,rT] at h2
 rw[fw o h1,su] at h3
 exact⟨h1,ve h.wp (o.lt h1) g1 (by rw[h2,g2]) (by rw[h3,g3])⟩
end
noncomputable def Di (L:List Int) (x:Int):Nat:=L.findIdx fun o=>decide (o=x)
noncomputable def yw (b:Bool) (G T:List Pl) (W:List Wy) (P:List Int) (k:Nat):Bool :=
 decide (iO b W P (bp b (ax W k)) < (cy b G T (bp b (ax W k)).toNat).1) ||
 ((cy b G T (bp b (ax W k)).toNat).2.drop (Di (cy b G T (bp b (ax W k)).toNat).2 (dC b (ax W k))+1)).any fun o=>decide (0 < P.getD (tL b W (bp b (ax W k)) o) 0)
noncomputable def k8 (G T:List Pl) (W:List Wy) (P:List Int) (k:Nat):Nat :=
 if P.getD k 0=(ax W k).2.2 then 0 else if yw false G T W P k=false then 1 else if yw true G T W P k=false then 2 else 3
noncomputable def pk (G T:List Pl) (W:List Wy) (P:List Int):List Nat:=(List.range W.length).filter fun k=>decide (k8 G T W P k=3)
section
variable {W:List Wy}{π π':List Nat}{P:List Int}{G T:List Pl}
theorem Wd.end_pl (h:Wd G T W) (b:Bool) {k:Nat}(hk:k < W.length):0<=bp b (ax W k)/\(bp b (ax W k)).toNat < (bx b G T).length/\((bp b (ax W k)).toNat:Int)=bp b (ax W k):=by
 have:=h.wr (ax W k) (by rw[<- f9 hk];exact List.getElem_mem _)
 cases b
 ·simp only[bp,bx,Bool.false_eq_true,if_false];omega
 ·simp only[bp,bx,if_true];omega
theorem qm {α:Type}{p q:α->Bool}:∀ {l:List α},(∀x∈l,p x=q x)->l.any p=l.any q
 | [],_=>rfl
 | a::l,h=>by rw[List.any_cons,List.any_cons,h a List.mem_cons_self,qm fun x hx=>h x (List.mem_cons_of_mem _ hx)]
theorem C2 (h:Wd G T W) (o:Ord W π) (b:Bool) {k:Nat}(hk:k < W.length):yw (!b) T G (cO W π) (jW P π) k=yw b G T W P (π.getD k 0):=by
 obtain⟨h1,h2,h3⟩:=h.end_pl b (o.lt hk)
 unfold yw
 rw[fw o hk,rT,su,CC,r6 o]
 congr 1
 rw[<- h3]
 simp only[Int.toNat_natCast]
 refine qm fun x hx=>?_
 obtain⟨e1,e2⟩:=Iw h o (oe h2) (List.mem_of_mem_drop hx)
 rw[nJ o e1,e2]
theorem Gw (h:Wd G T W) (o:Ord W π) {k:Nat}(hk:k < W.length):(k8 T G (cO W π) (jW P π) k=3)↔(k8 G T W P (π.getD k 0)=3):=by
 have e1:=C2 (P:=P) h o false hk
 have e2:=C2 (P:=P) h o true hk
 simp only[Bool.not_false,Bool.not_true] at e1 e2
 unfold k8
 rw[nJ o hk,fw o hk,e1,e2]
 have:(Ik (ax W (π.getD k 0))).2.2=(ax W (π.getD k 0)).2.2:=rfl
 rw[this]
 cases yw false G T W P (π.getD k 0)<;>cases yw true G T W P (π.getD k 0)<;>simp<;>split<;>simp
theorem F7 (h:Wd G T W) (o:Ord W π):((pk T G (cO W π) (jW P π)).map fun k=>π.getD k 0).Perm (pk G T W P):=by
 have hl:(cO W π).length=W.length:=cL o
 have e:((pk T G (cO W π) (jW P π)).map fun k=>π.getD k 0)=π.filter fun i=>decide (k8 G T W P i=3):=by
  conv=>rhs;rw[<- map_getD π,List.filter_map,o.len]
  unfold pk
  rw[hl]
  congr 1
  refine List.filter_congr fun k hk=>?_
  have hk':k < W.length:=by simpa using hk
  exact decide_eq_decide.mpr (Gw h o hk')
 rw[e]
 exact o.perm.filter _
theorem Gz (h:Wd G T W) (o:Ord W π):(pk T G (cO W π) (jW P π)=[])↔(pk G T W P=[]):=by
 have:=(F7 (P:=P) h o).length_eq
 rw[List.length_map] at this
 rw[<- List.length_eq_zero_iff,<- List.length_eq_zero_iff,this]
theorem A6 (h:Wd G T W) (o:Ord W π):((pk T G (cO W π) (jW P π)).map fun k=>[(ax (cO W π) k).2.1,(ax (cO W π) k).1]).Perm ((pk G T W P).map fun k=>[(ax W k).1,(ax W k).2.1]):=by
 have:=(F7 (P:=P) h o).map fun k=>[(ax W k).1,(ax W k).2.1]
 rw[List.map_map] at this
 refine List.Perm.trans (List.Perm.of_eq ?_) this
 refine List.map_congr_left fun k hk=>?_
 have hk':k < W.length:=by
  have:=(List.mem_filter.mp hk).1
  rw[cL o] at this
  simpa using this
 show [(ax (cO W π) k).2.1,(ax (cO W π) k).1]=[(ax W (π.getD k 0)).1,(ax W (π.getD k 0)).2.1]
 rw[fw o hk'];rfl
structure Pn (G T:List Pl) (W:List Wy) (P:List Int):Prop where
 len:P.length=W.length
 bd:∀k,k < W.length->0<=P.getD k 0/\P.getD k 0<=(ax W k).2.2
 am:∀ (b:Bool) (i:Nat),i < (bx b G T).length->iO b W P i<=(cy b G T i).1
theorem Pn.tu (h:Wd G T W) (o:Ord W π) (p:Pn G T W P):Pn T G (cO W π) (jW P π) where
 len:=by rw[EF o,cL o]
 bd:=fun k hk=>by
  rw[cL o] at hk
  rw[nJ o hk,fw o hk]
  exact p.bd _ (o.lt hk)
 am:=fun b i hi=>by
  have:=p.am (!b) i (by rw[<- sF b T G] at hi;exact hi)
  rw[<- r6 o (!b),<- CC (!b),Bool.not_not] at this
  exact this
end
section
variable {W:List Wy}{G T:List Pl}{off:List Int}
theorem yP (h:Wd G T W) (b:Bool):∀ (n:Nat),n<=(bx b G T).length ->
  ((List.range n).foldl (tV b G T W off) (List.replicate W.length 0)).length=W.length/\∀k,k < W.length ->
   ((List.range n).foldl (tV b G T W off) (List.replicate W.length 0)).getD k 0=if bp b (ax W k) < n then (qA W off (cy b G T (bp b (ax W k)).toNat).1 (eP b W (bp b (ax W k)).toNat (cy b G T (bp b (ax W k)).toNat).2)).getD k 0 else 0
 | 0,_=>by
  refine⟨by simp,fun k hk=>?_⟩
  obtain⟨h1,_,_⟩:=h.end_pl b hk
  rw[if_neg (by omega)]
  simp[List.getD_eq_getElem?_getD,hk]
 | n+1,hn=>by
  obtain⟨h1,h2⟩:=yP h b n (by omega)
  rw[List.range_succ,List.foldl_append,List.foldl_cons,List.foldl_nil]
  generalize (List.range n).foldl (tV b G T W off) (List.replicate W.length 0)=s at h1 h2
  refine⟨nE h1,fun k hk=>?_⟩
  have hz:(tV b G T W off s n).getD k 0=s.getD k 0+(qA W off (cy b G T n).1 (eP b W n (cy b G T n).2)).getD k 0:=vh (by omega) (by rw[tq];exact hk)
  rw[hz,h2 k hk]
  obtain⟨g1,_,_⟩:=h.end_pl b hk
  have e:=oe (b:=b) (G:=G) (T:=T) (i:=n) (by omega)
  by_cases he:bp b (ax W k)=n
  ·have hn':(bp b (ax W k)).toNat=n:=by omega
   rw[if_neg (by omega),if_pos (by omega),hn']
   omega
  ·have hni:k∉eP b W n (cy b G T n).2:=fun z=>he (cX.mp ((e8 h e).mem_iff.mp z)).2
   rw[xS hni]
   by_cases hlt:bp b (ax W k) < n
   ·rw[if_pos hlt,if_pos (by omega)];omega
   ·rw[if_neg hlt,if_neg (by omega)];rfl
theorem Iz (h:Wd G T W) (b:Bool) {k:Nat}(hk:k < W.length):(fH b G T W off).getD k 0=(qA W off (cy b G T (bp b (ax W k)).toNat).1 (eP b W (bp b (ax W k)).toNat (cy b G T (bp b (ax W k)).toNat).2)).getD k 0:=by
 have:=(yP (off:=off) h b _ (Nat.le_refl _)).2 k hk
 obtain⟨_,h2,h3⟩:=h.end_pl b hk
 rw[if_pos (by omega)] at this
 exact this
theorem ya {amt:Int}:∀ (is:List Nat) (s:Int×List Int),is.Nodup->(∀i∈is,i < s.2.length/\s.2.getD i 0=0) ->
  ((is.foldl (lL W off) s).2.length=s.2.length)/\(is.map fun i=>(is.foldl (lL W off) s).2.getD i 0).sum=s.1 - (is.foldl (lL W off) s).1/\∀j,j∉is->(is.foldl (lL W off) s).2.getD j 0=s.2.getD j 0
 | [],s,_,_=>⟨rfl,by simp,fun _ _=>rfl⟩
 | i::is,s,hn,hz=>by
  rw[List.nodup_cons] at hn
  obtain⟨hi,h0⟩:=hz i List.mem_cons_self
  have hs:∀j∈is,j < (lL W off s i).2.length/\(lL W off s i).2.getD j 0=0:=fun j hj=>by
   obtain⟨a,b⟩:=hz j (List.mem_cons_of_mem _ hj)
   refine⟨by simpa [lL] using a,?_⟩
   simp only[lL,gG]
   have hne:¬ (i=j/\j < s.2.length):=fun z=>hn.1 (z.1 ▸ hj)
   rw[if_neg hne,b]
  obtain⟨r1,r2,r3⟩:=ya (amt:=amt) is (lL W off s i) hn.2 hs
  rw[List.foldl_cons]
  refine⟨by rw[r1];simp[lL],?_,fun j hj=>?_⟩
  ·rw[List.map_cons,List.sum_cons,r2,r3 i hn.1]
   simp only[lL,gG]
   rw[if_pos ⟨trivial,hi⟩]
   omega
  ·rw[r3 j fun z=>hj (List.mem_cons_of_mem _ z)]
   simp only[lL,gG]
   have hne:¬ (i=j/\j < s.2.length):=fun z=>hj (z.1 ▸ List.mem_cons_self)
   rw[if_neg hne]
theorem tX (ho:Off off) (hl:Ku W):∀ (is:List Nat) (s:Int×List Int),0<=s.1->0<=(is.foldl (lL W off) s).1
 | [],s,h=>h
 | i::is,s,h=>by
  rw[List.foldl_cons]
  refine tX ho hl is _ ?_
  simp only[lL,cV]
  have:=ho i;have:=hl i
  omega
theorem Dw (h:Wd G T W) (ho:Off off) {b:Bool}{i:Nat}(hi:i < (bx b G T).length) :
  ((own b W i).map fun k=>(qA W off (cy b G T i).1 (eP b W i (cy b G T i).2)).getD k 0).sum<=(cy b G T i).1:=by
 have e:=oe hi
 have pm:=e8 h e
 rw[<- uE (pm.map fun k=>(qA W off (cy b G T i).1 (eP b W i (cy b G T i).2)).getD k 0)]
 have hn:(eP b W i (cy b G T i).2).Nodup:=pm.nodup_iff.mpr (List.nodup_range.filter _)
 obtain⟨_,r2,_⟩:=ya (W:=W) (off:=off) (amt:=0) (eP b W i (cy b G T i).2) ((cy b G T i).1,List.replicate W.length 0) hn fun k hk=>by
  have hk':=(cX.mp (pm.mem_iff.mp hk)).1
  refine⟨by simpa using hk',by simp[List.getD_eq_getElem?_getD,hk']⟩
 have:=tX ho h.lim (eP b W i (cy b G T i).2) ((cy b G T i).1,List.replicate W.length 0) (h.amt b i)
 unfold qA
 rw[r2]
 show (cy b G T i).1 - _<=(cy b G T i).1
 omega
theorem yp (h:Wd G T W) (ho:Off off) {b:Bool}{i:Nat}(hi:i < (bx b G T).length):iO b W (fH b G T W off) i<=(cy b G T i).1:=by
 refine Int.le_trans (Int.le_of_eq ?_) (Dw h ho hi)
 unfold iO
 congr 1
 refine List.map_congr_left fun k hk=>?_
 obtain⟨hk',he⟩:=cX.mp hk
 have:=Iz (off:=off) h b hk'
 rw[he,Int.toNat_natCast] at this
 exact this
theorem mh {b:Bool}{P Q:List Int}{p:Int}(h:∀k,k < W.length->P.getD k 0=Q.getD k 0):iO b W P p=iO b W Q p:=by
 unfold iO
 congr 1
 exact List.map_congr_left fun k hk=>h k (cX.mp hk).1
theorem E3 (h:Wd G T W) {c:List Int}(ho:Off c) (hc:∀k,k < W.length->c.getD k 0<=(ax W k).2.2) (e:xj G T W c=none):Pn G T W (fH false G T W c) where
 len:=lj _ _ _ _ _
 bd:=fun k hk=>⟨kE h ho false k,Int.le_trans (wO h ho false hk) (hc k hk)⟩
 am:=fun b i hi=>by
  cases b
  ·exact yp h ho hi
  ·have hke:∀k,k < W.length->(ux G T W c).getD k 0=(fH false G T W c).getD k 0:=fun k hk=>by
    have h1:=wO h (kE h ho false) true hk
    have h2:qR G T W c k=false:=by
     unfold xj at e
     rw[Option.map_eq_none_iff] at e
     have:=List.find?_eq_none.mp e k (by simpa using hk)
     simpa using this
    unfold qR at h2
    have h3:=of_decide_eq_false h2
    unfold ux at h3 ⊢
    omega
   rw[<- mh hke]
   exact yp h (kE h ho false) hi
end
noncomputable def oU (G T:List Pl) (W:List Wy) (P:List Int):Bool :=
 ((List.range G.length).all fun i=>decide (iO false W P i<=(cy false G T i).1))&&((List.range T.length).all fun i=>decide (iO true W P i<=(cy true G T i).1))
noncomputable def zs (n:Nat):List Int:=List.replicate n 0
noncomputable def kq (d:Nat->Int) (G T:List Pl) (W:List Wy):Nat->List Int
 | 0=>[]
 | k+1=>if oU G T W ((kq d G T W k++[d k])++zs (W.length - (kq d G T W k++[d k]).length))=true then kq d G T W k++[d k] else kq d G T W k++[0]
section
variable {W:List Wy}{G T:List Pl}{d:Nat->Int}
theorem eW {P:List Int}:oU G T W P=true↔∀ (b:Bool) (i:Nat),i < (bx b G T).length->iO b W P i<=(cy b G T i).1:=by
 unfold oU
 rw[Bool.and_eq_true,List.all_eq_true,List.all_eq_true]
 constructor
 ·rintro⟨h1,h2⟩ b i hi
  cases b
  ·exact of_decide_eq_true (h1 i (by simpa [bx] using hi))
  ·exact of_decide_eq_true (h2 i (by simpa [bx] using hi))
 ·intro h
  exact⟨fun i hi=>decide_eq_true (h false i (by simpa [bx] using hi)),fun i hi=>decide_eq_true (h true i (by simpa [bx] using hi))⟩
theorem kW:∀k,(kq d G T W k).length=k
 | 0=>rfl
 | k+1=>by
  unfold kq
  split<;>simp[kW k]
theorem Cw {b:Bool}{P:List Int}{p:Int}(h:∀k,P.getD k 0=0):iO b W P p=0:=by
 unfold iO
 have:((own b W p).map fun i=>P.getD i 0)=(own b W p).map fun _=>(0:Int):=List.map_congr_left fun k _=>h k
 rw[this]
 generalize own b W p=l
 induction l with
 | nil=>rfl
 | cons a l ih=>simp[ih]
theorem FB (n k:Nat):(zs n).getD k 0=0:=by
 simp only[zs,List.getD_eq_getElem?_getD,List.getElem?_replicate]
 split<;>rfl
theorem CS (l:List Int) (n k:Nat):(l++zs n).getD k 0=l.getD k 0:=by
 by_cases h:k < l.length
 ·simp[List.getD_eq_getElem?_getD,List.getElem?_append_left h]
 ·have h':l.length<=k:=by omega
  have:=FB n (k - l.length)
  simp only[List.getD_eq_getElem?_getD] at this ⊢
  rw[List.getElem?_append_right h',this]
  simp[h']
theorem LD (l:List Int) (k:Nat):(l++[0]).getD k 0=l.getD k 0:=CS l 1 k
theorem yD (h:Wd G T W):∀k,oU G T W (kq d G T W k)=true
 | 0=>eW.mpr fun b i hi=>by
  rw[Cw fun k=>by simp[kq]]
  exact h.amt b i
 | k+1=>by
  unfold kq
  split
  ·rename_i e
   refine eW.mpr fun b i hi=>?_
   have:=eW.mp e b i hi
   rw[mh (Q:=kq d G T W k++[d k]) fun j _=>CS _ _ _] at this
   exact this
  ·refine eW.mpr fun b i hi=>?_
   rw[mh (Q:=kq d G T W k) fun j _=>LD _ _]
   exact eW.mp (yD h k) b i hi
theorem vX (hd:∀k,k < W.length->0<=d k/\d k<=(ax W k).2.2) (hl:Ku W):∀k,k<=W.length->∀j,j < k->0<=(kq d G T W k).getD j 0/\(kq d G T W k).getD j 0<=(ax W j).2.2
 | 0,_,j,hj=>by omega
 | k+1,hk,j,hj=>by
  have ih:=vX hd hl k (by omega) j
  have len:(kq d G T W k).length=k:=kW k
  have key:∀x,(0<=x/\x<=(ax W k).2.2)->0<=(kq d G T W k++[x]).getD j 0/\(kq d G T W k++[x]).getD j 0<=(ax W j).2.2:=fun x hx=>by
   by_cases hjk:j < k
   ·rw[List.getD_eq_getElem?_getD,List.getElem?_append_left (by omega),<- List.getD_eq_getElem?_getD]
    exact ih hjk
   ·have:j=k:=by omega
    subst this
    rw[List.getD_eq_getElem?_getD,List.getElem?_append_right (by omega),len]
    simpa using hx
  unfold kq
  split
  ·exact key _ (hd k (by omega))
  ·exact key _ ⟨by omega,hl k⟩
theorem HC (h:Wd G T W) (hd:∀k,k < W.length->0<=d k/\d k<=(ax W k).2.2):Pn G T W (kq d G T W W.length) where
 len:=kW _
 bd:=vX hd h.lim W.length (Nat.le_refl _)
 am:=eW.mp (yD h _)
theorem Pn.fit {P:List Int}(p:Pn G T W P):oU G T W P=true:=eW.mpr p.am
end
theorem qT {tt:Dl.Env->Option Bool}{te:Dl.Env->Option D}{r:List (Option D)}{x y h:Nat->D}{p:Nat->Bool}:∀ (is:List Nat),
  (∀i∈is,tt (some (x i)::some (y i)::r)=some (p i)/\(p i=true->te (some (x i)::some (y i)::r)=some (h i))) ->
  cq (fI 0 1) tt te (none::none::r) (is.map fun i=>.tuple [x i,y i])=some ((is.filter p).map h)
 | [],_=>rfl
 | i::is,hh=>by
  obtain⟨h1,h2⟩:=hh i List.mem_cons_self
  have ih:=qT is fun j hj=>hh j (List.mem_cons_of_mem _ hj)
  have hg:fI 0 1 (none::none::r) (.tuple [x i,y i])=some (some (x i)::some (y i)::r):=by
   simp only[fI,isFree,List.getElem?_cons_zero,List.getElem?_cons_succ,Option.getD_some,Option.isNone_none,and_self,if_true,List.set_cons_zero,List.set_cons_succ]
  rw[List.map_cons,cq,hg]
  simp only[Option.bind_some,h1]
  cases hp:p i with
  | true=>simp[h2 hp,ih,hp]
  | false=>simp[ih,hp]
theorem lu {cs:List Nat}{fi:Dl.Env->Option (List D)}{tt:Dl.Env->Option Bool}{te:Dl.Env->Option D}{ρ:Dl.Env}{n:Nat}{x y h:Nat->D}{p:Nat->Bool}(hfi:fi ρ=some ((List.range n).map fun i=>.tuple [x i,y i])) (hl:n<=1000)
  (hh:∀i,i < n->tt (some (x i)::some (y i)::cs.map fun j=>(ρ[j]?).getD none)=some (p i)/\(p i=true->te (some (x i)::some (y i)::cs.map fun j=>(ρ[j]?).getD none)=some (h i))) :
  ak 2 cs fi (fI 0 1) tt te ρ=some (((List.range n).filter p).map h):=by
 have:=qT (tt:=tt) (te:=te) (r:=cs.map fun j=>(ρ[j]?).getD none) (p:=p) (h:=h) (List.range n) fun i hi=>hh i (by simpa using hi)
 simp only[ak,hfi,Option.bind_some,eh,List.replicate,List.cons_append,List.nil_append,this]
 refine bq ?_
 rw[List.length_map]
 refine Nat.le_trans (List.length_filter_le _ _) ?_
 rw[List.length_range]
 omega
theorem qM {W:List Wy}{P:List Int}(h:P.length=W.length):gN (W.map ao) (P.map PyData.int)=(List.range W.length).map fun i=>.tuple [ao (ax W i),.int (P.getD i 0)]:=by
 apply List.ext_getElem?
 intro i
 by_cases hi:i < W.length
 ·have hz:i < (gN (W.map ao) (P.map PyData.int)).length:=by rw[lA];simp[h];exact hi
  rw[List.getElem?_eq_getElem hz]
  obtain⟨x,y,e1,e2,e3⟩:=oZ (List.getElem?_eq_getElem hz)
  rw[List.getElem?_map,kX hi] at e1
  rw[List.getElem?_map,List.getElem?_eq_getElem (by omega)] at e2
  cases e1
  have e2:PyData.int P[i]=y:=by simpa using e2
  rw[e3,<- e2]
  have:i < P.length:=by omega
  simp[hi,this,List.getD_eq_getElem?_getD]
 ·rw[List.getElem?_eq_none (by rw[lA];simp;omega),List.getElem?_eq_none (by simp;omega)]
noncomputable def Sm (P:List Int):Prop:=∀k,-1000000<=P.getD k 0/\P.getD k 0<=1000000
theorem yj {W:List Wy}{P:List Int}(hs:Sm P) (hw:W.length<=16) (b:Bool) (p:Int):HD ((own b W p).map fun i=>P.getD i 0)=true:=by
 unfold HD
 rw[Bool.and_eq_true,decide_eq_true_eq,List.all_eq_true]
 refine⟨?_,fun x hx=>?_⟩
 ·have:=rK b W p
  rw[List.length_map]
  omega
 ·obtain⟨i,_,rfl⟩:=List.mem_map.mp hx
  rw[Bool.and_eq_true,decide_eq_true_eq,decide_eq_true_eq]
  exact hs i
theorem jF {G T:List Pl}{W:List Wy}(h:Wd G T W) {P:List Int}(hp:P.length=W.length) (hs:Sm P) (b:Bool) (p:Int):bD [ar G T W,af P,.int (sI b),.int p]=some (.int (iO b W P p)):=by
 have hw:=h.wl
 refine aI ?_
 show l6 [.val (ar G T W),.val (af P),.val (.int (sI b)),.val (.int p)]=_
 have hz:eO (aa (f2 au (ab 0) (fC (.int 2))) (aa (ab 1) ae)) [some (ar G T W),some (af P),some (.int (sI b)),some (.int p)]=some ((List.range W.length).map fun i=>.tuple [ao (ax W i),.int (P.getD i 0)]):=by
  rw[<- qM hp]
  rfl
 have c:ak 2 [2,3] (eO (aa (f2 au (ab 0) (fC (.int 2))) (aa (ab 1) ae))) (fI 0 1) (fB (f2 bS (f2 au (ab 0) (ab 2)) (ab 3))) (ab 1) [some (ar G T W),some (af P),some (.int (sI b)),some (.int p)]=some ((own b W p).map fun i=>.int (P.getD i 0)):=by
  rw[lu (p:=fun i=>decide (bp b (ax W i)=p)) (h:=fun i=>.int (P.getD i 0)) hz (by omega) fun i hi=>⟨?_,fun _=>rfl⟩]
  ·rfl
  ·show fB (f2 bS (f2 au (ab 0) (ab 2)) (ab 3)) [some (ao (ax W i)),some (.int (P.getD i 0)),some (.int (sI b)),some (.int p)]=_
   exact bQ (by rw[gZ (a:=.int (bp b (ax W i))) (b:=.int p) (aA (ny b _) rfl rfl) rfl,dz])
 refine aL ?_
 have e:((own b W p).map fun i=>PyData.int (P.getD i 0))=((own b W p).map fun i=>P.getD i 0).map PyData.int:=by rw[List.map_map];rfl
 show aY pN (aa (cw (ak 2 [2,3] (eO (aa (f2 au (ab 0) (fC (.int 2))) (aa (ab 1) ae))) (fI 0 1) (fB (f2 bS (f2 au (ab 0) (ab 2)) (ab 3))) (ab 1))) ae) [some (ar G T W),some (af P),some (.int (sI b)),some (.int p)]=_
 rw[e] at c
 simp only[aY,aa,ae,cw,c,Option.map_some,Option.bind_some]
 show pN [.list (((own b W p).map fun i=>P.getD i 0).map PyData.int)]=_
 simp only[pN,cM,oneOf,fQ,Option.bind_some,cA,yj hs hw b p,if_true]
 rfl
theorem oS (L:List Pl):bw 0 (L.map bf)=(List.range L.length).map fun i=>.tuple [nD i,bf (L.getD i (0,[]))]:=by
 rw[enum_zip]
 apply List.ext_getElem
 ·simp
 ·intro i h1 h2
  have:i < L.length:=by simpa using h2
  simp[this,List.getD_eq_getElem?_getD]
theorem qo {p:Nat->Bool}(is:List Nat):lH [.list (is.map fun i=>.bool (p i))]=some (.bool (is.all p)):=by
 have:∀is:List Nat,boolsOf (is.map fun i=>PyData.bool (p i))=some (is.map p):=fun is=>by
  induction is with
  | nil=>rfl
  | cons i is ih=>simp[boolsOf,ih]
 simp only[lH,oneOf,Option.bind_some,this,Option.map_some,List.all_map]
 rfl
theorem ym {G T:List Pl}{W:List Wy}(h:Wd G T W) {P:List Int}(hp:P.length=W.length) (hs:Sm P) (b:Bool):cg [ar G T W,af P,.int (sI b)]=some (.bool ((List.range (bx b G T).length).all fun i=>decide (iO b W P i<=(cy b G T i).1))):=by
 have hl:=h.pl b
 refine aI ?_
 show eK [.val (ar G T W),.val (af P),.val (.int (sI b))]=_
 have he:br (aa (f2 au (ab 0) (ab 2)) ae) [some (ar G T W),some (af P),some (.int (sI b))]=some ((List.range (bx b G T).length).map fun i=>.tuple [nD i,bf (cy b G T i)]):=by
  have:=oS (bx b G T)
  unfold cy
  rw[<- this]
  cases b<;>rfl
 have c:=lu (cs:=[0,1,2]) (tt:=fun _=>some true) (te:=f2 yf (ag 4 bD (aa (ab 2) (aa (ab 3) (aa (ab 4) (aa (ab 0) ae))))) (f2 au (ab 1) (fC (.int 0)))) (p:=fun _=>true) (h:=fun i=>.bool (decide (iO b W P i<=(cy b G T i).1))) he (by omega) fun i hi=>⟨rfl,fun _=>aA (a:=.int (iO b W P i)) (b:=.int (cy b G T i).1) rfl (call_of (jF h hp hs b i) rfl rfl) rfl⟩
 refine aL ?_
 show aY lH (aa (cw (ak 2 [0,1,2] (br (aa (f2 au (ab 0) (ab 2)) ae)) (fI 0 1) (fun _=>some true) (f2 yf (ag 4 bD (aa (ab 2) (aa (ab 3) (aa (ab 4) (aa (ab 0) ae))))) (f2 au (ab 1) (fC (.int 0)))))) ae) [some (ar G T W),some (af P),some (.int (sI b))]=_
 simp only[aY,aa,ae,cw,c,Option.map_some,Option.bind_some]
 rw[show (List.range (bx b G T).length).filter (fun _=>true)=List.range (bx b G T).length by simp,qo]
theorem AR {fa fb:Dl.Env->Option D}{ρ:Dl.Env}{d:D}(ha:fa ρ=some (.bool true)) (hb:fb ρ=some d):jK fa fb ρ=some d:=by
 simp only[jK,ha,Option.bind_some,hb]
theorem Fj {fa fb:Dl.Env->Option D}{ρ:Dl.Env}(ha:fa ρ=some (.bool false)):jK fa fb ρ=some (.bool false):=by
 simp only[jK,ha,Option.bind_some]
theorem D1 {fa fb:Dl.Env->Option D}{ρ:Dl.Env}{a b:Bool}(ha:fa ρ=some (.bool a)) (hb:fb ρ=some (.bool b)):jK fa fb ρ=some (.bool (a&&b)):=by
 cases a
 ·exact Fj ha
 ·exact AR ha hb
theorem B3 {g:List D->Option D}{f:Dl.Env->Option D}{ρ:Dl.Env}{d:D}(h:f ρ=some d):aY g (aa f ae) ρ=g [d]:=by
 simp only[aY,aa,ae,h,Option.map_some,Option.bind_some]
theorem iZ {α:Type}{k:α->D}{f:Dl.Env->Option D}{ρ:Dl.Env}{l:List α}(h:f ρ=some (.tuple (l.map k))):aY bu (aa f ae) ρ=some (nD l.length):=by
 rw[B3 h,yA,List.length_map]
noncomputable def KA (W:List Wy) (P:List Int):Bool:=(List.range W.length).all fun k=>decide (0<=P.getD k 0)&&decide (P.getD k 0<=(ax W k).2.2)
noncomputable def yg (b:Bool) (G T:List Pl) (W:List Wy) (P:List Int):Bool:=(List.range (bx b G T).length).all fun i=>decide (iO b W P i<=(cy b G T i).1)
noncomputable def JP (G T:List Pl) (W:List Wy) (P:List Int):Bool:=KA W P&&(yg false G T W P&&yg true G T W P)
theorem E9 {G T:List Pl}{W:List Wy}{P:List Int}(hp:P.length=W.length):JP G T W P=true↔Pn G T W P:=by
 simp only[JP,KA,yg,Bool.and_eq_true,List.all_eq_true,List.mem_range,decide_eq_true_eq]
 constructor
 ·rintro⟨h1,h2,h3⟩
  exact⟨hp,h1,fun b=>by cases b<;>assumption⟩
 ·intro p
  exact⟨p.bd,p.am false,p.am true⟩
theorem HP (P:List Int):my (af P)=true:=rfl
theorem zU {G T:List Pl}{W:List Wy}(h:Wd G T W) {P:List Int}(hp:P.length=W.length) (hs:Sm P):dq [ar G T W,af P]=some (.bool (JP G T W P)):=by
 have hw:=h.wl
 have hlen:(P.map PyData.int).length=W.length:=by rw[List.length_map,hp]
 refine aI ?_
 show jI [.val (ar G T W),.val (af P),.non]=_
 unfold jI
 have t1:Dl.aB 2 [0] (f2 au (ab 0) (fC (.int 2))) [.val (ar G T W),.val (af P),.non]=some (.nx [.val (ar G T W),.val (af P),.val (.tuple (W.map ao))]):=bU (d:=.tuple (W.map ao)) rfl rfl rfl rfl
 rw[ah t1]
 have el:aW [af P,nD W.length,nD W.length]=some (.bool true):=by
  rw[show nD W.length=.int ((W.length:Nat):Int) from rfl,dO (HP P)]
  simp[long,af,hp]
 have hl:∀ρ:Dl.Env,ab 2 ρ=some (.tuple (W.map ao))->aY bu (aa (ab 2) ae) ρ=some (nD W.length):=fun ρ hr=>iZ hr
 have c1:(bA (fB (ag 3 aW (aa (ab 1) (aa (aY bu (aa (ab 2) ae)) (aa (aY bu (aa (ab 2) ae)) ae)))))) (bb [.val (ar G T W),.val (af P),.val (.tuple (W.map ao))])=some false :=
  d6 (bQ (call_of el (cons_of rfl (cons_of (hl _ rfl) (cons_of (hl _ rfl) rfl))) rfl))
 rw[ah (cC c1)]
 have hz:eO (aa (ab 2) (aa (ab 1) ae)) [some (ar G T W),some (af P),some (.tuple (W.map ao))]=some ((List.range W.length).map fun i=>.tuple [ao (ax W i),.int (P.getD i 0)]):=by
  rw[<- qM hp]
  rfl
 have c2:=lu (cs:=[]) (tt:=fun _=>some true) (te:=ag 3 aM (aa (ab 1) (aa (fC (.int 0)) (aa (f2 au (ab 0) (fC (.int 2))) ae)))) (p:=fun _=>true) (h:=fun k=>.bool (decide (0<=P.getD k 0)&&decide (P.getD k 0<=(ax W k).2.2))) hz (by omega)
  fun i hi=>⟨rfl,fun _=>call_of (fg (d:=.int (P.getD i 0)) rfl 0 (ax W i).2.2) rfl rfl⟩
 have hall:(fB (aY lH (aa (cw (ak 2 [] (eO (aa (ab 2) (aa (ab 1) ae))) (fI 0 1) (fun _=>some true) (ag 3 aM (aa (ab 1) (aa (fC (.int 0)) (aa (f2 au (ab 0) (fC (.int 2))) ae)))))) ae))) [some (ar G T W),some (af P),some (.tuple (W.map ao))]=some (KA W P):=by
  refine bQ ?_
  simp only[aY,aa,ae,cw,c2,Option.map_some,Option.bind_some]
  rw[show (List.range W.length).filter (fun _=>true)=List.range W.length by simp,qo]
  rfl
 have k0:=ym h hp hs false
 have k1:=ym h hp hs true
 cases hb:KA W P with
 | false =>
  rw[hb] at hall
  refine hC ((fK (d6 hall)).trans ?_)
  rw[JP,hb]
  exact aL rfl
 | true =>
  rw[hb] at hall
  rw[ah (cC (d6 hall)),JP,hb,Bool.true_and]
  exact aL (D1 (call_of k0 rfl rfl) (call_of k1 rfl rfl))
theorem tj {W:List Wy}{k:Nat}(hk:k < W.length):ax W k∈W:=f9 hk ▸ List.getElem_mem hk
theorem Pn.sm {G T:List Pl}{W:List Wy}(h:Wd G T W) {P:List Int}(p:Pn G T W P):Sm P:=fun k=>by
 by_cases hk:k < W.length
 ·have:=p.bd k hk
  have:=(h.wr _ (tj hk)).2.2.2
  omega
 ·rw[List.getD_eq_getElem?_getD,List.getElem?_eq_none (by rw[p.len];omega)]
  simp
section
variable {G T:List Pl}{W:List Wy}{P:List Int}
theorem jQ (h:Wd G T W) (p:Pn G T W P):dq [ar G T W,af P]=some (.bool true):=by
 rw[zU h p.len (p.sm h),(E9 p.len).mpr p]
theorem dD (h:Wd G T W) (p:Pn G T W P):aR [ar G T W,af P]=some .none:=by
 have:dF [.val (ar G T W),.val (af P)]=some (.nx [.val (ar G T W),.val (af P)]):=by
  unfold dF
  refine (ah (eV (call_of (gx h) rfl rfl))).trans ?_
  exact cC (d6 (bQ (call_of (jQ h p) rfl rfl)))
 show (dF [.val (ar G T W),.val (af P)]).map _=_
 rw[this]
 rfl
theorem CU (h:Wd G T W) (p:Pn G T W P) {i:Nat}(hi:i < G.length):j7 [ar G T W,af P,nD i]=some (.int (iO false W P i)):=by
 refine aI ?_
 show rG [.val (ar G T W),.val (af P),.val (nD i)]=_
 unfold rG
 refine (ah (eV (call_of (dD h p) rfl rfl))).trans ?_
 have hl:(aY bu (aa (f2 au (ab 0) (fC (.int 0))) ae)) [some (ar G T W),some (af P),some (nD i)]=some (nD G.length):=iZ (l:=G) (k:=bf) (aA (a:=ar G T W) (c:=.tuple (G.map bf)) rfl rfl rfl)
 refine (ah (eV (call_of (jl (n:=(G.length:Nat)) (i:=(i:Nat)) (by omega) (by omega)) (cons_of rfl (cons_of hl rfl)) rfl))).trans ?_
 exact aL (call_of (jF h p.len (p.sm h) false i) rfl rfl)
theorem yv (h:Wd G T W) (p:Pn G T W P) {i:Nat}(hi:i < T.length):iA [ar G T W,af P,nD i]=some (.int (iO true W P i)):=by
 refine aI ?_
 show nH [.val (ar G T W),.val (af P),.val (nD i)]=_
 unfold nH
 refine (ah (eV (call_of (dD h p) rfl rfl))).trans ?_
 have hl:(aY bu (aa (f2 au (ab 0) (fC (.int 1))) ae)) [some (ar G T W),some (af P),some (nD i)]=some (nD T.length):=iZ (l:=T) (k:=bf) (aA (a:=ar G T W) (c:=.tuple (T.map bf)) rfl rfl rfl)
 refine (ah (eV (call_of (jl (n:=(T.length:Nat)) (i:=(i:Nat)) (by omega) (by omega)) (cons_of rfl (cons_of hl rfl)) rfl))).trans ?_
 exact aL (call_of (jF h p.len (p.sm h) true i) rfl rfl)
end
noncomputable def k3 (W:List Wy) (i:Nat):List Int:=[(ax W i).2.1,(ax W i).1]
noncomputable def fN (W:List Wy):List (List Int):=(List.range W.length).map (k3 W)
noncomputable def aX (W:List Wy):List Nat:=nr (fun i=>rk (fN W) ((fN W).getD i [])) (List.range W.length) 0
theorem CK (z:Nat->Int) (n:Nat):nr z ((List.range n).map nD) .none=(nr z (List.range n) 0).map nD:=by
 unfold nr
 rw[List.length_map]
 split
 ·rfl
 ·rename_i h
  rw[List.map_map]
  obtain⟨hp,_⟩:=SP.fT (z:=z) (n:=(List.range n).length) (by omega)
  refine List.map_congr_left fun i hi=>?_
  have hi':i < (List.range n).length:=by have:=hp.mem_iff.mp hi;simpa using this
  rw[List.length_range] at hi'
  simp[hi']
theorem CQ {W:List Wy}{i:Nat}(hi:i < W.length):(fN W).getD i []=k3 W i:=by
 simp[fN,hi]
theorem lb {W:List Wy}(h:u9 W):Ord W (aX W) where
 perm:=fA _ _ _
 up:=by
  have hp:(aX W).Perm (List.range W.length):=fA _ _ _
  have hs:(aX W).Pairwise fun i j=>rk (fN W) (k3 W i)<=rk (fN W) (k3 W j):=by
   refine ph _ _ _ (fun i=>rk (fN W) (k3 W i)) fun i hi=>?_
   rw[List.length_range] at hi
   have e:(List.range W.length).getD i 0=i:=by simp[hi]
   show rk (fN W) ((fN W).getD i [])=rk (fN W) (k3 W ((List.range W.length).getD i 0))
   rw[e,CQ hi]
  have hn:(aX W).Nodup:=hp.nodup_iff.mpr List.nodup_range
  refine (hs.and hn).imp_of_mem fun {i j} hi hj hij=>?_
  have hi':i < W.length:=by have:=hp.mem_iff.mp hi;simpa using this
  have hj':j < W.length:=by have:=hp.mem_iff.mp hj;simpa using this
  obtain⟨hle,hne⟩:=hij
  have mj:k3 W j∈fN W:=List.mem_map.mpr ⟨j,by simpa using hj',rfl⟩
  have n1:Dl.lexLt (k3 W j) (k3 W i)=false:=by
   rw[yS mj,decide_eq_false_iff_not]
   omega
  simp only[k3,HT.lexLt] at n1
  by_cases e1:(ax W j).2.1=(ax W i).2.1
  ·rw[if_pos e1] at n1
   by_cases e2:(ax W j).1=(ax W i).1
   ·exact absurd (rN h hj' hi' e2 e1).symm hne
   ·rw[if_neg e2,decide_eq_false_iff_not] at n1
    exact .inr ⟨e1.symm,by omega⟩
  ·rw[if_neg e1,decide_eq_false_iff_not] at n1
   exact .inl (by omega)
theorem tup_is {fs:Dl.Env->Option (List D)}{ρ:Dl.Env}{ds:List D}(h:fs ρ=some ds) (hl:ds.length<=1000):aH fs ρ=some (.tuple ds):=by
 simp only[aH,h,Option.bind_some,bq (show ds.length<=4000 by omega),Option.map_some]
theorem K3 (w:Wy):au (ao w) (.int 0)=some (.int w.1):=rfl
theorem Lv (w:Wy):au (ao w) (.int 1)=some (.int w.2.1):=rfl
section
variable {G T:List Pl}{W:List Wy}{P:List Int}
theorem iT (h:Wd G T W):aP [ar G T W]=some (.list ((aX W).map nD)):=by
 have hw:=h.wl
 have t1:Dl.aB 1 [0] (f2 au (ab 0) (fC (.int 2))) [.val (ar G T W),.non]=some (.nx [.val (ar G T W),.val (.tuple (W.map ao))]):=bU (d:=.tuple (W.map ao)) rfl rfl rfl rfl
 have hl:(aY bu (aa (ab 1) ae)) [some (ar G T W),some (.tuple (W.map ao))]=some (nD W.length):=iZ (l:=W) (k:=ao) rfl
 have hk:gP (aH (aa (f2 au (f2 au (ab 1) (ab 0)) (fC (.int 1))) (aa (f2 au (f2 au (ab 1) (ab 0)) (fC (.int 0))) ae))) [none,some (.tuple (W.map ao))] ((List.range W.length).map nD)=some (((List.range W.length).map nD).map fun d=>af (k3 W (g0 d).toNat)):=by
  refine lM fun d hd=>?_
  obtain⟨j,hj,rfl⟩:=List.mem_map.mp hd
  have hj':j < W.length:=by simpa using hj
  have a:∀ρ:Dl.Env,ab 1 ρ=some (.tuple (W.map ao))->ab 0 ρ=some (nD j)->(f2 au (ab 1) (ab 0)) ρ=some (ao (ax W j)):=fun ρ e1 e2=>aA (j9 hj') e1 e2
  show aH (aa (f2 au (f2 au (ab 1) (ab 0)) (fC (.int 1))) (aa (f2 au (f2 au (ab 1) (ab 0)) (fC (.int 0))) ae)) [some (nD j),some (.tuple (W.map ao))]=_
  have c2:(aa (f2 au (f2 au (ab 1) (ab 0)) (fC (.int 1))) (aa (f2 au (f2 au (ab 1) (ab 0)) (fC (.int 0))) ae)) [some (nD j),some (.tuple (W.map ao))]=some [.int (ax W j).2.1,.int (ax W j).1] :=
   cons_of (aA (Lv (ax W j)) (a _ rfl rfl) rfl) (cons_of (aA (K3 (ax W j)) (a _ rfl rfl) rfl) rfl)
  rw[tup_is c2 (by simp)]
  simp[g0,k3,af]
 have hr:rowsOf (((List.range W.length).map nD).map fun d=>af (k3 W (g0 d).toNat))=some (fN W):=by
  have e:(((List.range W.length).map nD).map fun d=>af (k3 W (g0 d).toNat))=(fN W).map af:=by
   simp only[List.map_map,fN]
   refine List.map_congr_left fun j hj=>?_
   simp[g0]
  rw[e,ig]
  intro ns hns
  obtain⟨j,_,rfl⟩:=List.mem_map.mp hns
  exact List.cons_ne_nil _ _
 refine aI ?_
 show dA [.val (ar G T W),.non]=_
 unfold dA
 rw[ah t1]
 refine aL ?_
 have es:o5 [1] (aa (aY bu (aa (ab 1) ae)) ae) (aH (aa (f2 au (f2 au (ab 1) (ab 0)) (fC (.int 1))) (aa (f2 au (f2 au (ab 1) (ab 0)) (fC (.int 0))) ae))) [some (ar G T W),some (.tuple (W.map ao))]=some ((aX W).map nD):=by
  unfold o5
  rw[cons_of hl rfl,Option.bind_some]
  show (if (0:Int)<=((W.length:Nat):Int)/\((W.length:Nat):Int) < 64 then _ else none)=_
  rw[if_pos ⟨by omega,by omega⟩,Int.toNat_natCast]
  show (gP _ [none,some (.tuple (W.map ao))] ((List.range W.length).map nD)).bind _=_
  rw[hk,Option.bind_some,hr,Option.map_some]
  exact congrArg some (CK _ _)
 show cw _ [some (ar G T W),some (.tuple (W.map ao))]=_
 simp only[cw,es,Option.map_some]
theorem jw {cs:List Nat}{fi:Dl.Env->Option (List D)}{te:Dl.Env->Option D}{ρ:Dl.Env}{is:List Nat}{f:Nat->D}(hfi:fi ρ=some (is.map nD)) (hl:is.length<=1000) (hh:∀i∈is,te (some (nD i)::cs.map fun j=>(ρ[j]?).getD none)=some (f i)):ak 1 cs fi (fG 0) (fun _=>some true) te ρ=some (is.map f):=by
 rw[bW (h:=fun d=>f (g0 d).toNat) hfi (by rw[List.length_map];omega) fun d hd=>?_]
 ·rw[List.map_map]
  refine congrArg some (List.map_congr_left fun i _=>?_)
  simp[g0]
 ·obtain⟨i,hi,rfl⟩:=List.mem_map.mp hd
  rw[hh i hi]
  simp[g0]
theorem lK {n:Nat}{m:List D->Option D}{fs:Dl.Env->Option (List D)}{ρ:Dl.Env}{ds es:List D}(h:m ds=some (.list es)) (hf:fs ρ=some ds) (hn:ds.length=n):aS (ag n m fs) ρ=some es:=by
 simp only[aS,call_of h hf hn,Option.bind_some,fQ]
theorem yi (h:u9 W) {i:Nat}(hi:i∈aX W):i < W.length:=by
 have:=(lb h).perm.mem_iff.mp hi
 simpa using this
theorem vD (h:u9 W):(aX W).length=W.length:=(lb h).len
theorem mP {r:List (Option D)}:∀ (l:List Wy),cq (Do 0 1 2) (fun _=>some true) (aH (aa (ab 1) (aa (ab 0) (aa (ab 2) ae)))) (none::none::none::r) (l.map ao)=some ((l.map Ik).map ao)
 | []=>rfl
 | w::l=>by
  have ih:=mP (r:=r) l
  have hg:Do 0 1 2 (none::none::none::r) (ao w)=some (some (.int w.1)::some (.int w.2.1)::some (.int w.2.2)::r):=rfl
  rw[List.map_cons,cq,hg,Option.bind_some]
  have e:aH (aa (ab 1) (aa (ab 0) (aa (ab 2) ae))) (some (.int w.1)::some (.int w.2.1)::some (.int w.2.2)::r)=some (ao (Ik w)):=rfl
  simp only[Option.bind_some,if_true,e,ih,Option.map_some,List.map_cons]
theorem ku (h:Wd G T W):cR [ar G T W]=some (ar T G (cO W (aX W))):=by
 have hw:=h.wl
 have hn:=vD h.wp
 refine aI ?_
 show kN [.val (ar G T W),.non]=_
 unfold kN
 refine (ah (eV (call_of (gx h) rfl rfl))).trans ?_
 have c:ak 1 [0] (aS (ag 1 aP (aa (ab 0) ae))) (fG 0) (fun _=>some true) (f2 au (f2 au (ab 1) (fC (.int 2))) (ab 0)) [some (ar G T W),none]=some ((aX W).map fun i=>ao (ax W i)) :=
  jw (lK (iT h) rfl rfl) (by omega) fun i hi=>aA (j9 (yi h.wp hi)) rfl rfl
 have t2:aK 1 [0] (ak 1 [0] (aS (ag 1 aP (aa (ab 0) ae))) (fG 0) (fun _=>some true) (f2 au (f2 au (ab 1) (fC (.int 2))) (ab 0))) [.val (ar G T W),.non]=some (.nx [.val (ar G T W),.own ((aX W).map fun i=>ao (ax W i))]):=gO c rfl
 rw[ah t2]
 refine aL ?_
 have e3:ak 3 [] (aS (ab 1)) (Do 0 1 2) (fun _=>some true) (aH (aa (ab 1) (aa (ab 0) (aa (ab 2) ae)))) [some (ar G T W),some (.list ((aX W).map fun i=>ao (ax W i)))]=some ((cO W (aX W)).map ao):=by
  have:=mP (r:=[]) ((aX W).map fun i=>ax W i)
  rw[List.map_map,List.map_map] at this
  have hf:aS (ab 1) [some (ar G T W),some (.list ((aX W).map fun i=>ao (ax W i)))]=some ((aX W).map fun i=>ao (ax W i)):=rfl
  unfold ak
  rw[hf,Option.bind_some]
  show (cq (Do 0 1 2) (fun _=>some true) (aH (aa (ab 1) (aa (ab 0) (aa (ab 2) ae)))) [none,none,none] ((aX W).map fun i=>ao (ax W i))).bind small=_
  rw[show ((aX W).map fun i=>ao (ax W i))=List.map (ao ∘ fun i=>ax W i) (aX W) from rfl,this,Option.bind_some]
  rw[bq (by simp;omega),cO]
  simp only[List.map_map]
  rfl
 show aH (aa (f2 au (ab 0) (fC (.int 1))) (aa (f2 au (ab 0) (fC (.int 0))) (aa (aY bF (aa (cw (ak 3 [] (aS (ab 1)) (Do 0 1 2) (fun _=>some true) (aH (aa (ab 1) (aa (ab 0) (aa (ab 2) ae)))))) ae)) ae))) [some (ar G T W),some (.list ((aX W).map fun i=>ao (ax W i)))]=_
 have e4:(aY bF (aa (cw (ak 3 [] (aS (ab 1)) (Do 0 1 2) (fun _=>some true) (aH (aa (ab 1) (aa (ab 0) (aa (ab 2) ae)))))) ae)) [some (ar G T W),some (.list ((aX W).map fun i=>ao (ax W i)))]=some (.tuple ((cO W (aX W)).map ao)):=by
  simp only[aY,aa,ae,cw,e3,Option.map_some,Option.bind_some,Ax]
 exact tup_is (ds:=[.tuple (T.map bf),.tuple (G.map bf),.tuple ((cO W (aX W)).map ao)]) (cons_of (aA (a:=ar G T W) (b:=.int 1) (c:=.tuple (T.map bf)) rfl rfl rfl) (cons_of (aA (a:=ar G T W) (b:=.int 0) (c:=.tuple (G.map bf)) rfl rfl rfl) (cons_of e4 rfl))) (by simp)
theorem cS (h:Wd G T W) (p:Pn G T W P):aQ [ar G T W,af P]=some (af (jW P (aX W))):=by
 have hw:=h.wl
 have hn:=vD h.wp
 refine aI ?_
 show d4 [.val (ar G T W),.val (af P)]=_
 unfold d4
 refine (ah (eV (call_of (dD h p) rfl rfl))).trans ?_
 have c:ak 1 [1] (aS (ag 1 aP (aa (ab 0) ae))) (fG 0) (fun _=>some true) (f2 au (ab 1) (ab 0)) [some (ar G T W),some (af P)]=some ((aX W).map fun i=>.int (P.getD i 0)) :=
  jw (lK (iT h) rfl rfl) (by omega) fun i hi=>aA (ox (by rw[p.len];exact yi h.wp hi)) rfl rfl
 refine aL ?_
 show aY bF (aa (cw (ak 1 [1] (aS (ag 1 aP (aa (ab 0) ae))) (fG 0) (fun _=>some true) (f2 au (ab 1) (ab 0)))) ae) [some (ar G T W),some (af P)]=_
 simp only[aY,aa,ae,cw,c,Option.map_some,Option.bind_some,Ax]
 simp[af,jW]
end
theorem Fi {f g:Dl.Env->Option D}{ρ:Dl.Env}{ds:List D}{k:Nat}(h:f ρ=some (.list ds)) (h2:g ρ=some (nD k)):jL eN f (vN g) jN ρ=some (.list (ds.drop k)):=by
 have:=uu ds k
 simp only[jL,h,vN,h2,jN,gI,eN,Option.bind_some,Option.map_some,this]
theorem y8 {p:Nat->Bool}(is:List Nat):Rf.A9 [.list (is.map fun i=>.bool (p i))]=some (.bool (is.any p)):=by
 have:∀is:List Nat,boolsOf (is.map fun i=>PyData.bool (p i))=some (is.map p):=fun is=>by
  induction is with
  | nil=>rfl
  | cons i is ih=>simp[boolsOf,ih]
 simp only[Rf.A9,oneOf,Option.bind_some,this,Option.map_some,List.any_map]
 rfl
theorem kM {α β:Type}(f:α->β) (p:β->Bool) (q:α->Bool):∀ (l:List α),(∀x∈l,p (f x)=q x)->(l.map f).findIdx p=l.findIdx q
 | [],_=>rfl
 | x::l,h=>by
  rw[List.map_cons,List.findIdx_cons,List.findIdx_cons,h x List.mem_cons_self,kM f p q l fun y hy=>h y (List.mem_cons_of_mem _ hy)]
section
variable {G T:List Pl}{W:List Wy}{P:List Int}
theorem GE (h:Wd G T W) {b:Bool}{i:Nat}{p:Pl}(e:(bx b G T)[i]?=some p) {k:Nat}(hk:k < W.length) (he:bp b (ax W k)=i):mZ (.list ((eP b W i p.2).map nD)) (nD k)=some (nD (Di p.2 (dC b (ax W k)))):=by
 have ko:k∈own b W i:=cX.mpr ⟨hk,he⟩
 have km:k∈eP b W i p.2:=(e8 h e).mem_iff.mpr ko
 have e1:(eP b W i p.2).map nD=((eP b W i p.2).map fun j=>((j:Nat):Int)).map PyData.int:=by rw[List.map_map];rfl
 have m1:((k:Nat):Int)∈(eP b W i p.2).map fun j=>((j:Nat):Int):=List.mem_map.mpr ⟨k,km,rfl⟩
 rw[e1]
 show (intsOf _).bind _=_
 rw[cA,Option.bind_some,lV m1,Option.map_some]
 have e2:((eP b W i p.2).map fun j=>((j:Nat):Int)).findIdx (fun o=>decide (o=((k:Nat):Int)))=Di p.2 (dC b (ax W k)):=by
  unfold eP Di
  rw[List.map_map]
  refine kM _ _ _ _ fun x hx=>?_
  obtain⟨hl,h1,h2⟩:=kK h e hx
  show decide (((tL b W i x:Nat):Int)=(k:Int))=decide (x=dC b (ax W k))
  rw[decide_eq_decide]
  constructor
  ·intro z
   have z:tL b W i x=k:=by omega
   rw[<- z,h2]
  ·intro z
   rw[z,xw h.wp ko]
 rw[e2]
theorem lz (h:Wd G T W) (hp:P.length=W.length) (hs:Sm P) (b:Bool) {k:Nat}(hk:k < W.length):bZ [ar G T W,af P,.int (sI b),nD k]=some (.bool (yw b G T W P k)):=by
 have hw:=h.wl
 obtain⟨z1,z2,z3⟩:=h.end_pl b hk
 have hx:(bx b G T)[(bp b (ax W k)).toNat]?=some (cy b G T (bp b (ax W k)).toNat):=by
  rw[List.getElem?_eq_getElem z2]
  simp[cy,z2]
 have hL:∀x∈(cy b G T (bp b (ax W k)).toNat).2,_:=fun x hx'=>kK h hx hx'
 have hb:(cy b G T (bp b (ax W k)).toNat).2.length<=16:=by
  have:=(e8 h hx).length_eq
  have h2:=rK b W ((bp b (ax W k)).toNat:Int)
  unfold eP at this
  rw[List.length_map] at this
  omega
 have ei:=GE h hx hk z3.symm
 have ew:=rA h hx
 generalize hpl:cy b G T (bp b (ax W k)).toNat=pl at *
 generalize hj:(bp b (ax W k)).toNat=j at *
 have ez:PyData.int (bp b (ax W k))=nD j:=by rw[<- z3]
 refine aI ?_
 show eQ [.val (ar G T W),.val (af P),.val (.int (sI b)),.val (nD k),.non,.non,.non]=_
 unfold eQ
 have t4:Dl.aB 4 [0,2,3] (f2 au (f2 au (f2 au (ab 0) (fC (.int 2))) (ab 3)) (ab 2)) [.val (ar G T W),.val (af P),.val (.int (sI b)),.val (nD k),.non,.non,.non]=some (.nx [.val (ar G T W),.val (af P),.val (.int (sI b)),.val (nD k),.val (nD j),.non,.non]):=by
  rw[<- ez]
  exact dX (d:=.int (bp b (ax W k))) (aA (ny b _) (aA (j9 hk) rfl rfl) rfl) rfl
 rw[ah t4]
 have ep:au (.tuple ((bx b G T).map bf)) (nD j)=some (bf pl):=mm hx
 have ct:(fB (f2 Av (ag 4 bD (aa (ab 0) (aa (ab 1) (aa (ab 2) (aa (ab 4) ae))))) (f2 au (f2 au (f2 au (ab 0) (ab 2)) (ab 4)) (fC (.int 0))))) (bb [.val (ar G T W),.val (af P),.val (.int (sI b)),.val (nD k),.val (nD j),.non,.non])=some (decide (iO b W P j < pl.1)):=by
  refine bQ (aA (k4 _ _) (call_of (jF h hp hs b j) rfl rfl) ?_)
  refine aA (a:=bf pl) (b:=.int 0) rfl (aA ep (aA (nu b G T W) rfl rfl) rfl) rfl
 have hm:yw b G T W P k=(decide (iO b W P j < pl.1)||(pl.2.drop (Di pl.2 (dC b (ax W k))+1)).any fun o=>decide (0 < P.getD (tL b W j o) 0)):=by
  unfold yw
  rw[hj,hpl,z3]
 rw[hm]
 cases hc:decide (iO b W P j < pl.1) with
 | true =>
  rw[hc] at ct
  exact hC ((fK ct).trans (aL rfl))
 | false =>
  rw[hc] at ct
  rw[ah (cC ct),Bool.false_or]
  have t5:Dl.aB 5 [0,2,4] (ag 3 dU (aa (ab 0) (aa (ab 2) (aa (ab 4) ae)))) [.val (ar G T W),.val (af P),.val (.int (sI b)),.val (nD k),.val (nD j),.non,.non]=some (.nx [.val (ar G T W),.val (af P),.val (.int (sI b)),.val (nD k),.val (nD j),.val (.list ((eP b W j pl.2).map nD)),.non]) :=
   ba (call_of ew rfl rfl) (call_of ew rfl rfl) rfl
  rw[ah t5]
  have cu:∀ρ:Dl.Env,ab 5 ρ=some (.list ((eP b W j pl.2).map nD))->ab 3 ρ=some (nD k)->(jL eN (ab 5) (vN (f2 aE (f2 mZ (ab 5) (ab 3)) (fC (.int 1)))) jN) ρ=some (.list (((eP b W j pl.2).map nD).drop (Di pl.2 (dC b (ax W k))+1))):=fun ρ a c =>
   Fi a (aA (gS _ _) (aA ei a c) rfl)
  have t6:Dl.aB 6 [3,5] (jL eN (ab 5) (vN (f2 aE (f2 mZ (ab 5) (ab 3)) (fC (.int 1)))) jN) [.val (ar G T W),.val (af P),.val (.int (sI b)),.val (nD k),.val (nD j),.val (.list ((eP b W j pl.2).map nD)),.non]=some (.nx [.val (ar G T W),.val (af P),.val (.int (sI b)),.val (nD k),.val (nD j),.val (.list ((eP b W j pl.2).map nD)),.val (.list (((eP b W j pl.2).drop (Di pl.2 (dC b (ax W k))+1)).map nD))]):=by
   rw[List.map_drop]
   exact ba (cu _ rfl rfl) (cu _ rfl rfl) rfl
  rw[ah t6]
  have c:ak 1 [1] (aS (ab 6)) (fG 0) (fun _=>some true) (f2 xD (f2 au (ab 1) (ab 0)) (fC (.int 0))) [some (ar G T W),some (af P),some (.int (sI b)),some (nD k),some (nD j),some (.list ((eP b W j pl.2).map nD)),some (.list (((eP b W j pl.2).drop (Di pl.2 (dC b (ax W k))+1)).map nD))]=some (((eP b W j pl.2).drop (Di pl.2 (dC b (ax W k))+1)).map fun i=>.bool (decide (0 < P.getD i 0))):=by
   refine jw rfl ?_ fun i hi=>?_
   ·rw[List.length_drop,eP,List.length_map]
    omega
   ·have hi':=List.mem_of_mem_drop hi
    unfold eP at hi'
    obtain⟨x,hx',rfl⟩:=List.mem_map.mp hi'
    exact aA (fR _ _) (aA (ox (by rw[hp];exact (hL x hx').1)) rfl rfl) rfl
  refine aL ?_
  show aY Rf.A9 (aa (cw (ak 1 [1] (aS (ab 6)) (fG 0) (fun _=>some true) (f2 xD (f2 au (ab 1) (ab 0)) (fC (.int 0))))) ae) [some (ar G T W),some (af P),some (.int (sI b)),some (nD k),some (nD j),some (.list ((eP b W j pl.2).map nD)),some (.list (((eP b W j pl.2).drop (Di pl.2 (dC b (ax W k))+1)).map nD))]=_
  simp only[aY,aa,ae,cw,c,Option.map_some,Option.bind_some,y8]
  unfold eP
  rw[<- List.map_drop,List.any_map]
  rfl
noncomputable def JD:Nat->D|0=>.str "full" | 1=>.str "giver" | 2=>.str "taker" | _=>.none
theorem oI (h:Wd G T W) (hp:P.length=W.length) (hs:Sm P) {k:Nat}(hk:k < W.length):b8 [ar G T W,af P,nD k]=some (JD (k8 G T W P k)):=by
 refine aI ?_
 show iC [.val (ar G T W),.val (af P),.val (nD k)]=_
 unfold iC k8
 have c1:(fB (f2 bS (f2 au (ab 1) (ab 2)) (f2 au (f2 au (f2 au (ab 0) (fC (.int 2))) (ab 2)) (fC (.int 2))))) (bb [.val (ar G T W),.val (af P),.val (nD k)])=some (decide (P.getD k 0=(ax W k).2.2)) :=
  bQ (aA (dz _ _) (aA (ox (by rw[hp];exact hk)) rfl rfl) (aA (a:=ao (ax W k)) (b:=.int 2) rfl (aA (j9 hk) rfl rfl) rfl))
 have w0:=lz h hp hs false hk
 have w1:=lz h hp hs true hk
 have c2:(bA (fB (ag 4 bZ (aa (ab 0) (aa (ab 1) (aa (fC (.int 0)) (aa (ab 2) ae))))))) (bb [.val (ar G T W),.val (af P),.val (nD k)])=some (!(yw false G T W P k)):=d6 (bQ (call_of w0 rfl rfl))
 have c3:(bA (fB (ag 4 bZ (aa (ab 0) (aa (ab 1) (aa (fC (.int 1)) (aa (ab 2) ae))))))) (bb [.val (ar G T W),.val (af P),.val (nD k)])=some (!(yw true G T W P k)):=d6 (bQ (call_of w1 rfl rfl))
 by_cases e1:P.getD k 0=(ax W k).2.2
 ·rw[decide_eq_true e1] at c1
  rw[if_pos e1]
  exact hC ((fK c1).trans (aL rfl))
 ·rw[decide_eq_false e1] at c1
  rw[if_neg e1,ah (cC c1)]
  cases e2:yw false G T W P k with
  | false =>
   rw[e2] at c2
   rw[if_pos rfl]
   exact hC ((fK c2).trans (aL rfl))
  | true =>
   rw[e2] at c2
   rw[if_neg (by simp),ah (cC c2)]
   cases e3:yw true G T W P k with
   | false =>
    rw[e3] at c3
    rw[if_pos rfl]
    exact hC ((fK c3).trans (aL rfl))
   | true =>
    rw[e3] at c3
    rw[if_neg (by simp),ah (cC c3)]
    exact aL rfl
theorem BJ (G T:List Pl) (W:List Wy) (P:List Int) (k:Nat):k8 G T W P k<=3:=by
 unfold k8
 split
 ·omega
 ·split
  ·omega
  ·split<;>omega
theorem yB (n:Nat) (h:n<=3):m8 (JD n) .none=some (.bool (decide (n=3))):=by
 match n,h with
 | 0,_=>rfl
 | 1,_=>rfl
 | 2,_=>rfl
 | 3,_=>rfl
theorem vK {ρ:Dl.Env}{f:Dl.Env->Option D}(hp:P.length=W.length) (hf:f ρ=some (af P)):(aa (aY bu (aa f ae)) ae) ρ=some [nD W.length]:=by
 have:=Fw P
 rw[hp] at this
 refine cons_of ?_ rfl
 rw[B3 hf,this]
theorem m5 (h:Wd G T W) (hp:P.length=W.length) (hs:Sm P):cU [ar G T W,af P]=some (match (List.range W.length).find? fun k=>decide (k8 G T W P k=3) with|some k=>nD k|none=>.none):=by
 have hw:=h.wl
 refine aI ?_
 show cY [.val (ar G T W),.val (af P),.non]=_
 unfold cY
 obtain⟨f1,f2'⟩:=fy (tgt:=tN 2) (gb:=eX (fB (f2 m8 (ag 3 b8 (aa (ab 0) (aa (ab 1) (aa (ab 2) ae)))) (fC .none))) (aF (ab 2)) eU) (fun ρ=>∃x,ρ=[.val (ar G T W),.val (af P),x]) nD (fun k=>decide (k8 G T W P k=3)) nD
  (l:=List.range W.length) (ρ:=[.val (ar G T W),.val (af P),.non])
  (fun ρ k hk hρ=>by
   obtain⟨x,rfl⟩:=hρ
   have hk':k < W.length:=by simpa using hk
   have c:(fB (f2 m8 (ag 3 b8 (aa (ab 0) (aa (ab 1) (aa (ab 2) ae)))) (fC .none))) (bb [.val (ar G T W),.val (af P),.val (nD k)])=some (decide (k8 G T W P k=3)) :=
    bQ (aA (yB _ (BJ G T W P k)) (call_of (oI h hp hs hk') rfl rfl) rfl)
   refine⟨_,rfl,fun hq=>?_,fun hq=>?_⟩
   ·show eX _ _ _ [.val (ar G T W),.val (af P),.val (nD k)]=_
    rw[hq] at c
    exact (fK c).trans (aL rfl)
   ·rw[hq] at c
    exact⟨_,cC c,_,rfl⟩) ⟨_,rfl⟩
 have hr:bG (aa (aY bu (aa (ab 1) ae)) ae) [some (ar G T W),some (af P),none]=some ((List.range W.length).map nD):=mf (vK hp rfl) (by omega)
 cases e:(List.range W.length).find? fun k=>decide (k8 G T W P k=3) with
 | some k=>exact hC (b9 (f1 k e) hr rfl)
 | none =>
  obtain⟨ρ',e',x,rfl⟩:=f2' e
  exact (ah (b9 e' hr rfl)).trans (aL rfl)
theorem vQ (h:Wd G T W) (hp:P.length=W.length) (hs:Sm P):iD [ar G T W,af P]=some (.bool (decide (pk G T W P=[]))):=by
 refine aI ?_
 show ib [.val (ar G T W),.val (af P)]=_
 unfold ib
 refine aL (aA ?_ (call_of (m5 h hp hs) rfl rfl) rfl)
 cases e:(List.range W.length).find? fun k=>decide (k8 G T W P k=3) with
 | some k =>
  have:pk G T W P≠[]:=fun z=>by
   have hm:=List.mem_of_find?_eq_some e
   have hq:=List.find?_some e
   have:k∈pk G T W P:=List.mem_filter.mpr ⟨hm,hq⟩
   rw[z] at this
   cases this
  rw[decide_eq_false this]
  rfl
 | none =>
  have:pk G T W P=[]:=by
   rw[List.find?_eq_none] at e
   exact List.filter_eq_nil_iff.mpr e
  rw[decide_eq_true this]
  rfl
theorem yx (h:Wd G T W) (p:Pn G T W P):hX [ar G T W,af P]=some (.bool (decide (pk G T W P=[]))):=by
 refine aI ?_
 show nF [.val (ar G T W),.val (af P)]=_
 unfold nF
 refine (ah (eV (call_of (dD h p) rfl rfl))).trans ?_
 exact aL (call_of (vQ h p.len (p.sm h)) rfl rfl)
theorem mH {tt:Dl.Env->Option Bool}{te:Dl.Env->Option D}{r:List (Option D)}{f:Nat->D}{q:Nat->Bool}:∀ (is:List Nat),(∀i∈is,tt (some (nD i)::r)=some (q i)/\(q i=true->te (some (nD i)::r)=some (f i)))->cq (fG 0) tt te (none::r) (is.map nD)=some ((is.filter q).map f)
 | [],_=>rfl
 | i::is,h=>by
  have ih:=mH (tt:=tt) (te:=te) (r:=r) (f:=f) (q:=q) is fun j hj=>h j (List.mem_cons_of_mem _ hj)
  obtain⟨h1,h2⟩:=h i List.mem_cons_self
  have hg:fG 0 (none::r) (nD i)=some (some (nD i)::r):=rfl
  rw[List.map_cons,cq,hg,Option.bind_some,h1,Option.bind_some,List.filter_cons]
  cases e:q i with
  | true =>
   rw[if_pos rfl,if_pos rfl,h2 e,Option.bind_some,ih]
   rfl
  | false =>
   rw[if_neg (by simp),if_neg (by simp),ih]
theorem wK {cs:List Nat}{fi:Dl.Env->Option (List D)}{tt:Dl.Env->Option Bool}{te:Dl.Env->Option D}{ρ:Dl.Env}{is:List Nat}{f:Nat->D}{q:Nat->Bool}(hfi:fi ρ=some (is.map nD)) (hl:is.length<=1000) (hh:∀i∈is,tt (some (nD i)::cs.map fun j=>(ρ[j]?).getD none)=some (q i)/\(q i=true->te (some (nD i)::cs.map fun j=>(ρ[j]?).getD none)=some (f i))):ak 1 cs fi (fG 0) tt te ρ=some ((is.filter q).map f):=by
 have:=mH is hh
 simp only[ak,hfi,Option.bind_some,eh,List.replicate,List.cons_append,List.nil_append,this]
 refine bq ?_
 rw[List.length_map]
 refine Nat.le_trans (List.length_filter_le _ _) ?_
 omega
theorem qE (h:Wd G T W) (p:Pn G T W P):dY [ar G T W,af P]=some (.list ((pk G T W P).map nD)):=by
 have hw:=h.wl
 have hp:=p.len
 refine aI ?_
 show jx [.val (ar G T W),.val (af P)]=_
 unfold jx
 refine (ah (eV (call_of (dD h p) rfl rfl))).trans ?_
 have c:ak 1 [0,1] (bG (aa (aY bu (aa (ab 1) ae)) ae)) (fG 0) (fB (f2 m8 (ag 3 b8 (aa (ab 1) (aa (ab 2) (aa (ab 0) ae)))) (fC .none))) (ab 0) [some (ar G T W),some (af P)]=some ((pk G T W P).map nD) :=
  wK (mf (vK hp rfl) (by omega)) (by rw[List.length_range];omega) fun k hk=>⟨bQ (aA (yB _ (BJ G T W P k)) (call_of (oI h hp (p.sm h) (by simpa using hk)) rfl rfl) rfl),fun _=>rfl⟩
 refine aL ?_
 show cw _ [some (ar G T W),some (af P)]=_
 simp only[cw,c,Option.map_some]
theorem jV (h:Wd G T W) {c:List Int}(hb:bj [ar T G (cO W (aX W))]=some (af c)) (p:Pn T G (cO W (aX W)) c):bN [ar G T W]=some (af (jW c (aX (cO W (aX W))))):=by
 have o:=lb h.wp
 have h':=o.wd h
 refine aI ?_
 show d7 [.val (ar G T W),.non]=_
 unfold d7
 have t1:Dl.aB 1 [0] (ag 1 cR (aa (ab 0) ae)) [.val (ar G T W),.non]=some (.nx [.val (ar G T W),.val (ar T G (cO W (aX W)))]):=ba (call_of (ku h) rfl rfl) (call_of (ku h) rfl rfl) rfl
 rw[ah t1]
 exact aL (call_of (cS h' p) (cons_of rfl (cons_of (call_of hb rfl rfl) rfl)) rfl)
end
theorem sk {tgt:ai->D->Option ai}{gb:ai->Option Out}(f:Nat->D) (R:Nat->ai->Prop):∀ (n k:Nat) (ρ:ai),
  (∀j ρ,k<=j->j < k+n->R j ρ->∃ρ1 ρ2,tgt ρ (f j)=some ρ1/\gb ρ1=some (.nx ρ2)/\R (j+1) ρ2)->R k ρ->∃ρ',eE tgt gb ((List.range' k n).map f) ρ=some (.nx ρ')/\R (k+n) ρ'
 | 0,k,ρ,_,h=>⟨ρ,rfl,h⟩
 | n+1,k,ρ,hh,h=>by
  obtain⟨ρ1,ρ2,e1,e2,h2⟩:=hh k ρ (Nat.le_refl _) (by omega) h
  obtain⟨ρ',e3,h3⟩:=sk f R n (k+1) ρ2 (fun j ρ a b=>hh j ρ (by omega) (by omega)) h2
  refine⟨ρ',?_,by rw[show k+(n+1)=k+1+n by omega];exact h3⟩
  rw[List.range'_succ,List.map_cons,eE,e1,Option.bind_some,e2]
  exact e3
theorem Jq {n:Nat}(hl:n<=1000):Dl.dP (.tuple [.int 0]) (nD n)=some (af (zs n)):=by
 have e:vG (.tuple [.int 0]) (nD n)=some (af (zs n)):=by
  show (if vM ((n:Nat):Int)=true/\[PyData.int 0].length * ((n:Nat):Int).toNat<=sizeLine then some (PyData.tuple (List.replicate ((n:Nat):Int).toNat [PyData.int 0]).flatten) else none)=_
  have hz:[PyData.int 0].length * n<=sizeLine:=by
   rw[List.length_singleton,Nat.one_mul]
   exact Nat.le_trans hl (by decide)
  rw[Int.toNat_natCast,if_pos ⟨tK hl,hz⟩,F3]
  rfl
 show ((rM pY fun i j=>PyData.int (i * j)) (.tuple [.int 0]) (nD n)).or (vG (.tuple [.int 0]) (nD n))=_
 rw[e]
 rfl
section
variable {G T:List Pl}{W:List Wy}{P:List Int}
theorem wc (h:P.length=W.length):gN (P.map PyData.int) (W.map ao)=(List.range W.length).map fun i=>.tuple [.int (P.getD i 0),ao (ax W i)]:=by
 have:∀ (a:List Int) (l:List Wy),a.length=l.length->gN (a.map PyData.int) (l.map ao)=(List.range l.length).map fun i=>.tuple [.int (a.getD i 0),ao (ax l i)]:=by
  intro a
  induction a with
  | nil=>intro l e;cases l with|nil=>rfl|cons _ _=>simp at e
  | cons x a ih =>
   intro l e
   cases l with
   | nil=>simp at e
   | cons w l =>
    rw[List.map_cons,List.map_cons,gN,ih l (by simpa using e),List.length_cons,List.range_succ_eq_map,List.map_cons,List.map_map]
    rfl
 exact this P W h
theorem xa (h:Wd G T W) (hp:P.length=W.length) (hs:Sm P) (b:Bool) (p:Int):cI [ar G T W,af P,.int (sI b),.int p]=some (.int (iO b W P p)):=by
 have hw:=h.wl
 refine aI ?_
 show jb [.val (ar G T W),.val (af P),.val (.int (sI b)),.val (.int p)]=_
 have hz:eO (aa (ab 1) (aa (f2 au (ab 0) (fC (.int 2))) ae)) [some (ar G T W),some (af P),some (.int (sI b)),some (.int p)]=some ((List.range W.length).map fun i=>.tuple [.int (P.getD i 0),ao (ax W i)]):=by
  rw[<- wc hp]
  rfl
 have c:ak 2 [2,3] (eO (aa (ab 1) (aa (f2 au (ab 0) (fC (.int 2))) ae))) (fI 0 1) (fB (f2 bS (f2 au (ab 1) (ab 2)) (ab 3))) (ab 0) [some (ar G T W),some (af P),some (.int (sI b)),some (.int p)]=some ((own b W p).map fun i=>.int (P.getD i 0)):=by
  rw[lu (p:=fun i=>decide (bp b (ax W i)=p)) (h:=fun i=>.int (P.getD i 0)) hz (by omega) fun i hi=>⟨?_,fun _=>rfl⟩]
  ·rfl
  ·show fB (f2 bS (f2 au (ab 1) (ab 2)) (ab 3)) [some (.int (P.getD i 0)),some (ao (ax W i)),some (.int (sI b)),some (.int p)]=_
   exact bQ (by rw[gZ (a:=.int (bp b (ax W i))) (b:=.int p) (aA (ny b _) rfl rfl) rfl,dz])
 refine aL ?_
 have e:((own b W p).map fun i=>PyData.int (P.getD i 0))=((own b W p).map fun i=>P.getD i 0).map PyData.int:=by rw[List.map_map];rfl
 show aY pN (aa (cw (ak 2 [2,3] (eO (aa (ab 1) (aa (f2 au (ab 0) (fC (.int 2))) ae))) (fI 0 1) (fB (f2 bS (f2 au (ab 1) (ab 2)) (ab 3))) (ab 0))) ae) [some (ar G T W),some (af P),some (.int (sI b)),some (.int p)]=_
 rw[e] at c
 simp only[aY,aa,ae,cw,c,Option.map_some,Option.bind_some]
 show pN [.list (((own b W p).map fun i=>P.getD i 0).map PyData.int)]=_
 simp only[pN,cM,oneOf,fQ,Option.bind_some,cA,yj hs hw b p,if_true]
 rfl
noncomputable def Lu:ai->Option Out:=(dW [0,2] (br (aa (f2 au (ab 0) (ab 2)) ae)) (eR 3 4) (eX (fB (f2 xD (ag 4 cI (aa (ab 0) (aa (ab 1) (aa (ab 2) (aa (ab 3) ae))))) (f2 au (ab 4) (fC (.int 0))))) (aF (fC (.bool false))) eU))
theorem EZ (h:Wd G T W) (hp:P.length=W.length) (hs:Sm P) (b:Bool) (x y:Slot):(yg b G T W P=false->Lu [.val (ar G T W),.val (af P),.val (.int (sI b)),x,y]=some (.rt (.bool false)))/\(yg b G T W P=true->∃x' y',Lu [.val (ar G T W),.val (af P),.val (.int (sI b)),x,y]=some (.nx [.val (ar G T W),.val (af P),.val (.int (sI b)),x',y'])):=by
 have hl:=h.pl b
 obtain⟨f1,f2'⟩:=fy (tgt:=eR 3 4) (gb:=eX (fB (f2 xD (ag 4 cI (aa (ab 0) (aa (ab 1) (aa (ab 2) (aa (ab 3) ae))))) (f2 au (ab 4) (fC (.int 0))))) (aF (fC (.bool false))) eU)
  (fun ρ=>∃x y,ρ=[.val (ar G T W),.val (af P),.val (.int (sI b)),x,y]) (fun i:Nat=>.tuple [nD i,bf (cy b G T i)]) (fun i=>decide ((cy b G T i).1 < iO b W P i)) (fun _=>.bool false)
  (l:=List.range (bx b G T).length) (ρ:=[.val (ar G T W),.val (af P),.val (.int (sI b)),x,y])
  (fun ρ i hi hρ=>by
   obtain⟨x,y,rfl⟩:=hρ
   have c:(fB (f2 xD (ag 4 cI (aa (ab 0) (aa (ab 1) (aa (ab 2) (aa (ab 3) ae))))) (f2 au (ab 4) (fC (.int 0))))) (bb [.val (ar G T W),.val (af P),.val (.int (sI b)),.val (nD i),.val (bf (cy b G T i))])=some (decide ((cy b G T i).1 < iO b W P i)) :=
    bQ (aA (fR _ _) (call_of (xa h hp hs b i) rfl rfl) (aA (a:=bf (cy b G T i)) (b:=.int 0) rfl rfl rfl))
   refine⟨_,rfl,fun hq=>?_,fun hq=>?_⟩
   ·rw[hq] at c
    exact (fK c).trans (aL rfl)
   ·rw[hq] at c
    exact⟨_,cC c,_,_,rfl⟩) ⟨_,_,rfl⟩
 have he:br (aa (f2 au (ab 0) (ab 2)) ae) (bR [.val (ar G T W),.val (af P),.val (.int (sI b)),x,y])=some ((List.range (bx b G T).length).map fun i=>.tuple [nD i,bf (cy b G T i)]):=by
  have:=oS (bx b G T)
  unfold cy
  rw[<- this]
  cases b<;>rfl
 have hh:hand [0,2] 0 [Slot.val (ar G T W),.val (af P),.val (.int (sI b)),x,y]=[Slot.val (ar G T W),.val (af P),.val (.int (sI b)),x,y]:=rfl
 unfold yg
 constructor
 ·intro hk
  cases e:(List.range (bx b G T).length).find? fun i=>decide ((cy b G T i).1 < iO b W P i) with
  | some i=>exact b9 (f1 i e) he hh
  | none =>
   rw[List.find?_eq_none] at e
   rw[List.all_eq_false] at hk
   obtain⟨i,hi,hn⟩:=hk
   have:=e i hi
   simp only[decide_eq_true_eq] at this hn
   omega
 ·intro hk
  have e:(List.range (bx b G T).length).find? (fun i=>decide ((cy b G T i).1 < iO b W P i))=none:=by
   rw[List.find?_eq_none]
   intro i hi
   have:=List.all_eq_true.mp hk i hi
   simp only[decide_eq_true_eq] at this ⊢
   omega
  obtain⟨ρ',e',x',y',rfl⟩:=f2' e
  exact⟨x',y',b9 e' he hh⟩
theorem Hm:oU G T W P=(yg false G T W P&&yg true G T W P):=rfl
theorem xp (h:Wd G T W) (hp:P.length=W.length) (hs:Sm P):cF [ar G T W,af P]=some (.bool (oU G T W P)):=by
 obtain⟨f1,f2'⟩:=fy (tgt:=tN 2) (gb:=Lu)
  (fun ρ=>∃x y z,ρ=[.val (ar G T W),.val (af P),x,y,z]) (fun b:Bool=>.int (sI b)) (fun b=>!(yg b G T W P)) (fun _=>.bool false)
  (l:=[false,true]) (ρ:=[.val (ar G T W),.val (af P),.non,.non,.non])
  (fun ρ b _ hρ=>by
   obtain⟨x,y,z,rfl⟩:=hρ
   obtain⟨r1,r2⟩:=EZ h hp hs b y z
   refine⟨_,rfl,fun hq=>?_,fun hq=>?_⟩
   ·exact r1 (by simpa using hq)
   ·obtain⟨x',y',e⟩:=r2 (by simpa using hq)
    exact⟨_,e,_,_,_,rfl⟩) ⟨_,_,_,rfl⟩
 have hr:bG (aa (fC (.int 2)) ae) (bR [.val (ar G T W),.val (af P),.non,.non,.non])=some ([false,true].map fun b=>.int (sI b)):=mf (n:=2) rfl (by omega)
 refine aI ?_
 show fV [.val (ar G T W),.val (af P),.non,.non,.non]=_
 unfold fV
 rw[Hm]
 cases e0:yg false G T W P with
 | false =>
  have e:[false,true].find? (fun b=>!(yg b G T W P))=some false:=by rw[List.find?_cons_of_pos (by simp[e0])]
  exact hC (b9 (f1 _ e) hr rfl)
 | true =>
  cases e1:yg true G T W P with
  | false =>
   have e:[false,true].find? (fun b=>!(yg b G T W P))=some true:=by rw[List.find?_cons_of_neg (by simp[e0]),List.find?_cons_of_pos (by simp[e1])]
   exact hC (b9 (f1 _ e) hr rfl)
  | true =>
   have e:[false,true].find? (fun b=>!(yg b G T W P))=none:=by rw[List.find?_cons_of_neg (by simp[e0]),List.find?_cons_of_neg (by simp[e1])];rfl
   obtain⟨ρ',e',x,y,z,rfl⟩:=f2' e
   exact (ah (b9 e' hr rfl)).trans (aL rfl)
end
theorem Sm.app {a b:List Int}(ha:Sm a) (hb:Sm b):Sm (a++b):=fun k=>by
 by_cases hk:k < a.length
 ·have:=ha k
  rwa [show (a++b).getD k 0=a.getD k 0 by simp[List.getElem?_append_left hk]]
 ·have:=hb (k - a.length)
  rwa [show (a++b).getD k 0=b.getD (k - a.length) 0 by simp[List.getElem?_append_right (by omega:a.length<=k)]]
theorem G9 {x:Int}(h1:-1000000<=x) (h2:x<=1000000):Sm [x]:=fun k=>by
 cases k with
 | zero=>exact⟨h1,h2⟩
 | succ k=>simp
theorem J9 (n:Nat):Sm (zs n):=fun k=>by rw[FB];omega
section
variable {ns:List Int}{G T:List Pl}{W:List Wy}{at':Int}
noncomputable def pq (ns:List Int) (at':Int) (W:List Wy) (k:Nat):Int:=dr ns (at'+(k:Nat)) ((ax W k).2.2+1)
theorem xC (hl:ns.length<=63) (h:Wd G T W) {k:Nat}(hk:k < W.length):0<=pq ns at' W k/\pq ns at' W k<=(ax W k).2.2:=by
 have:=(h.wr _ (tj hk)).2.2
 have h1:=F6 (ns:=ns) (at'+(k:Nat)) ((ax W k).2.2+1) hl (by omega)
 have h2:=FR (ns:=ns) (at'+(k:Nat)) ((ax W k).2.2+1) hl (by omega)
 unfold pq
 omega
noncomputable def Le:ai->Option Out:=(av (aB 6 [0,1,3,4,5] (f2 aE (ab 3) (aH (aa (ag 3 aj (aa (ab 0) (aa (f2 aE (ab 1) (ab 4)) (aa (f2 aE (f2 au (ab 5) (fC (.int 2))) (fC (.int 1))) ae)))) ae)))) (av (aB 7 [2,6] (ag 2 cF (aa (ab 2) (aa (f2 aE (ab 6) (f2 dP (aH (aa (fC (.int 0)) ae)) (f2 Dl.fZ (aY bu (aa (f2 au (ab 2) (fC (.int 2))) ae)) (aY bu (aa (ab 6) ae))))) ae)))) (aB 3 [3,6,7] (FV (fB (ab 7)) (ab 6) (f2 aE (ab 3) (aH (aa (fC (.int 0)) ae)))))))
theorem rX {a b:List Int}(h:a.length+b.length<=1000):Dl.aE (af a) (af b)=some (af (a++b)):=by
 unfold af
 rw[rR (by simp;omega),List.map_append]
theorem yk {tc:Dl.Env->Option Bool}{fa fb:Dl.Env->Option D}{ρ:Dl.Env}{d:D}(h:tc ρ=some true) (ha:fa ρ=some d):FV tc fa fb ρ=some d:=by
 simp only[FV,h,Option.bind_some,ha]
theorem B2 {tc:Dl.Env->Option Bool}{fa fb:Dl.Env->Option D}{ρ:Dl.Env}{d:D}(h:tc ρ=some false) (ha:fb ρ=some d):FV tc fa fb ρ=some d:=by
 simp only[FV,h,Option.bind_some,ha]
theorem HM (hl:ns.length<=63) (h:Wd G T W) {k:Nat}(hk:k<=W.length):Sm (kq (pq ns at' W) G T W k):=fun j=>by
 by_cases hj:j < k
 ·have:=vX (d:=pq ns at' W) (G:=G) (T:=T) (W:=W) (fun k hk=>xC hl h hk) h.lim k hk j hj
  have:=(h.wr _ (tj (show j < W.length by omega))).2.2
  omega
 ·rw[List.getD_eq_getElem?_getD,List.getElem?_eq_none (by rw[kW];omega)]
  simp
theorem EL (hl:ns.length<=63) (h:Wd G T W) {k:Nat}(hk:k < W.length) (x y:Slot):∃x' y',Le [.val (bC ns),.val (.int at'),.val (ar G T W),.val (af (kq (pq ns at' W) G T W k)),.val (nD k),.val (ao (ax W k)),x,y]=some (.nx [.val (bC ns),.val (.int at'),.val (ar G T W),.val (af (kq (pq ns at' W) G T W (k+1))),.val (nD k),.val (ao (ax W k)),x',y']):=by
 have hw:=h.wl
 have hr:=(h.wr _ (tj hk)).2.2
 have hsm:=HM (at':=at') hl h (Nat.le_of_lt hk)
 have hfl:=kW (d:=pq ns at' W) (G:=G) (T:=T) (W:=W) k
 have hdb:=xC (at':=at') hl h hk
 have e2:kq (pq ns at' W) G T W (k+1)=if oU G T W ((kq (pq ns at' W) G T W k++[pq ns at' W k])++zs (W.length - (kq (pq ns at' W) G T W k++[pq ns at' W k]).length))=true then kq (pq ns at' W) G T W k++[pq ns at' W k] else kq (pq ns at' W) G T W k++[0]:=rfl
 rw[e2]
 clear e2
 generalize hf:kq (pq ns at' W) G T W k=f at hsm hfl ⊢
 generalize hd:pq ns at' W k=d at hdb ⊢
 have ed:∀ρ:Dl.Env,ab 0 ρ=some (bC ns)->ab 1 ρ=some (.int at')->ab 4 ρ=some (nD k)->ab 5 ρ=some (ao (ax W k))->(ag 3 aj (aa (ab 0) (aa (f2 aE (ab 1) (ab 4)) (aa (f2 aE (f2 au (ab 5) (fC (.int 2))) (fC (.int 1))) ae)))) ρ=some (.int d):=fun ρ a b c e=>by
  rw[<- hd]
  exact call_of (qS (at'+((k:Nat):Int)) ((ax W k).2.2+1) hl (by omega)) (cons_of a (cons_of (aA (gS at' k) b c) (cons_of (aA (gS (ax W k).2.2 1) (aA (xO _) e rfl) rfl) rfl))) rfl
 have em:∀ρ:Dl.Env,ab 0 ρ=some (bC ns)->ab 1 ρ=some (.int at')->ab 3 ρ=some (af f)->ab 4 ρ=some (nD k)->ab 5 ρ=some (ao (ax W k))->(f2 aE (ab 3) (aH (aa (ag 3 aj (aa (ab 0) (aa (f2 aE (ab 1) (ab 4)) (aa (f2 aE (f2 au (ab 5) (fC (.int 2))) (fC (.int 1))) ae)))) ae))) ρ=some (af (f++[d])):=fun ρ a b z c e =>
  aA (rX (a:=f) (b:=[d]) (by simp;omega)) z (Eo (ed ρ a b c e))
 have t6:Dl.aB 6 [0,1,3,4,5] (f2 aE (ab 3) (aH (aa (ag 3 aj (aa (ab 0) (aa (f2 aE (ab 1) (ab 4)) (aa (f2 aE (f2 au (ab 5) (fC (.int 2))) (fC (.int 1))) ae)))) ae))) [.val (bC ns),.val (.int at'),.val (ar G T W),.val (af f),.val (nD k),.val (ao (ax W k)),x,y]=some (.nx [.val (bC ns),.val (.int at'),.val (ar G T W),.val (af f),.val (nD k),.val (ao (ax W k)),.val (af (f++[d])),y]) :=
  ba (em _ rfl rfl rfl rfl rfl) (em _ rfl rfl rfl rfl rfl) rfl
 have hlen:(f++[d]).length=k+1:=by simp[hfl]
 have hsub:((W.length:Nat):Int) - (((f++[d]).length:Nat):Int)=((W.length - (f++[d]).length:Nat):Int):=by omega
 have hwl:((f++[d])++zs (W.length - (f++[d]).length)).length=W.length:=by simp[zs,hfl];omega
 have hsl:Sm ((f++[d])++zs (W.length - (f++[d]).length)):=(hsm.app (G9 (by omega) (by omega))).app (J9 _)
 have ef:∀ρ:Dl.Env,ab 2 ρ=some (ar G T W)->ab 6 ρ=some (af (f++[d]))->(ag 2 cF (aa (ab 2) (aa (f2 aE (ab 6) (f2 dP (aH (aa (fC (.int 0)) ae)) (f2 Dl.fZ (aY bu (aa (f2 au (ab 2) (fC (.int 2))) ae)) (aY bu (aa (ab 6) ae))))) ae))) ρ=some (.bool (oU G T W ((f++[d])++zs (W.length - (f++[d]).length)))):=fun ρ a b=>by
  refine call_of (xp h hwl hsl) (cons_of a (cons_of (aA (rX ?_) b (aA (Jq (n:=W.length - (f++[d]).length) (by omega)) (Eo rfl) ?_)) rfl)) rfl
  ·rw[<- List.length_append,hwl];omega
  ·rw[show nD (W.length - (f++[d]).length)=.int (((W.length:Nat):Int) - (((f++[d]).length:Nat):Int)) by rw[hsub]]
   exact aA (sub_int _ _) (iZ (l:=W) (k:=ao) (aA (rW G T W) a rfl)) (iZ (l:=f++[d]) (k:=PyData.int) b)
 have t7:Dl.aB 7 [2,6] (ag 2 cF (aa (ab 2) (aa (f2 aE (ab 6) (f2 dP (aH (aa (fC (.int 0)) ae)) (f2 Dl.fZ (aY bu (aa (f2 au (ab 2) (fC (.int 2))) ae)) (aY bu (aa (ab 6) ae))))) ae))) [.val (bC ns),.val (.int at'),.val (ar G T W),.val (af f),.val (nD k),.val (ao (ax W k)),.val (af (f++[d])),y]=some (.nx [.val (bC ns),.val (.int at'),.val (ar G T W),.val (af f),.val (nD k),.val (ao (ax W k)),.val (af (f++[d])),.val (.bool (oU G T W ((f++[d])++zs (W.length - (f++[d]).length))))]) :=
  ba (ef _ rfl rfl) (ef _ rfl rfl) rfl
 unfold Le
 rw[ah t6,ah t7]
 have h0:∀ρ:Dl.Env,ab 3 ρ=some (af f)->(f2 aE (ab 3) (aH (aa (fC (.int 0)) ae))) ρ=some (af (f++[0])):=fun ρ z=>aA (rX (a:=f) (b:=[0]) (by simp;omega)) z (Eo rfl)
 generalize oU G T W ((f++[d])++zs (W.length - (f++[d]).length))=fb
 cases fb with
 | true =>
  rw[if_pos rfl]
  exact⟨_,_,ba (yk (bQ rfl) rfl) (yk (bQ rfl) rfl) rfl⟩
 | false =>
  rw[if_neg (by simp)]
  exact⟨_,_,ba (B2 (bQ rfl) (h0 _ rfl)) (B2 (bQ rfl) (h0 _ rfl)) rfl⟩
theorem zL (W:List Wy):bw 0 (W.map ao)=(List.range' 0 W.length).map fun i=>.tuple [nD i,ao (ax W i)]:=by
 rw[<- List.range_eq_range',enum_zip]
 apply List.ext_getElem
 ·simp
 ·intro i h1 h2
  have:i < W.length:=by simpa using h2
  simp[f9 this]
theorem wQ (hl:ns.length<=63) (h:Wd G T W):eu [bC ns,.int at',ar G T W]=some (af (kq (pq ns at' W) G T W W.length)):=by
 have hw:=h.wl
 obtain⟨ρ',e,x4,x5,x6,x7,rfl⟩:=sk (tgt:=eR 4 5) (gb:=Le) (fun i=>.tuple [nD i,ao (ax W i)]) (fun k ρ=>∃x4 x5 x6 x7,ρ=[.val (bC ns),.val (.int at'),.val (ar G T W),.val (af (kq (pq ns at' W) G T W k)),x4,x5,x6,x7]) W.length 0 [.val (bC ns),.val (.int at'),.val (ar G T W),.val (af []),.non,.non,.non,.non]
  (fun j ρ _ hj hρ=>by
   obtain⟨x4,x5,x6,x7,rfl⟩:=hρ
   obtain⟨x',y',e⟩:=EL (at':=at') hl h (show j < W.length by omega) x6 x7
   exact⟨_,_,rfl,e,_,_,_,_,rfl⟩) ⟨_,_,_,_,rfl⟩
 refine aI ?_
 show fM [.val (bC ns),.val (.int at'),.val (ar G T W),.non,.non,.non,.non,.non]=_
 unfold fM
 have t3:Dl.aB 3 [] (aH ae) [.val (bC ns),.val (.int at'),.val (ar G T W),.non,.non,.non,.non,.non]=some (.nx [.val (bC ns),.val (.int at'),.val (ar G T W),.val (af []),.non,.non,.non,.non]) :=
  ba (tup_is (ds:=[]) rfl (by simp)) (tup_is (ds:=[]) rfl (by simp)) rfl
 rw[ah t3]
 have he:br (aa (f2 au (ab 2) (fC (.int 2))) ae) (bR [.val (bC ns),.val (.int at'),.val (ar G T W),.val (af []),.non,.non,.non,.non])=some ((List.range' 0 W.length).map fun i=>.tuple [nD i,ao (ax W i)]):=by
  rw[<- zL]
  rfl
 rw[Nat.zero_add] at e
 exact (ah (b9 e he rfl)).trans (aL rfl)
theorem DN (hl:ns.length<=63) (h:Wd G T W):Pn G T W (kq (pq ns at' W) G T W W.length):=HC h fun k hk=>xC hl h hk
end
theorem yU {S:Type}(cont:S->Bool) (st:S->S) (μ:S->Nat) (I:S->Prop) (hb:∀s,I s->cont s=true->I (st s)/\μ (st s) < μ s):∀ (n:Nat) (s:S),μ s < n->I s->cont (lp cont st n s)=false/\I (lp cont st n s)
 | 0,s,h,_=>absurd h (by omega)
 | n+1,s,h,i=>by
  rw[lp]
  cases hc:cont s with
  | false=>exact⟨by simpa [hc] using hc,by simpa using i⟩
  | true =>
   obtain⟨i2,hm⟩:=hb s i hc
   have:=yU cont st μ I hb n (st s) (by omega) i2
   simpa using this
section
variable {G T:List Pl}{W:List Wy}
theorem Hj {k:Nat}(hk:k < W.length):(dI W).getD k 0=(ax W k).2.2:=by
 unfold dI
 rw[List.getD_eq_getElem?_getD,List.getElem?_map,kX hk]
 rfl
theorem EH (h:Wd G T W):xj G T W (fin G T W).2=none/\Au W (fin G T W)/\∀k,k < W.length->(fin G T W).2.getD k 0<=(ax W k).2.2:=by
 have hb:=h.mea
 obtain⟨h1,i,h2⟩:=yU (Jc G T W) (spS G T W) (fun s=>mea s.2) (fun s=>Au W s/\∀k,k < W.length->s.2.getD k 0<=(ax W k).2.2)
  (fun s ⟨i,l⟩ hc=>by
   obtain⟨p,e⟩:=uT hc
   obtain⟨a,b,c⟩:=De h i.off e
   obtain⟨i2,hm⟩:=i.step h e
   refine⟨⟨i2,fun k hk=>?_⟩,hm⟩
   rw[xg e]
   show (s.2.set p.1 p.2).getD k 0<=_
   by_cases z:k=p.1
   ·subst z
    have:=l p.1 a
    have hl:p.1 < s.2.length:=by rw[i.len];exact a
    rw[show (s.2.set p.1 p.2).getD p.1 0=p.2 by simp[hl]]
    omega
   ·rw[show (s.2.set p.1 p.2).getD k 0=s.2.getD k 0 by simp[List.getElem?_set_ne (Ne.symm z)]]
    exact l k hk) Rf.turns ([],dI W) (Nat.lt_of_le_of_lt hb (by decide)) ⟨Au.start h,fun k hk=>by rw[Hj hk];omega⟩
 refine⟨?_,i,h2⟩
 have:Jc G T W (fin G T W)=false:=h1
 unfold Jc at this
 exact Option.isNone_iff_eq_none.mp (by simpa using this)
noncomputable def Kp (G T:List Pl) (W:List Wy):List Int:=fH false G T W (fin G T W).2
theorem CO (h:Wd G T W):Pn G T W (Kp G T W):=by
 obtain⟨h1,i,h2⟩:=EH h
 exact E3 h i.off h2 h1
theorem AI (h:Wd G T W):bj [ar G T W]=some (af (Kp G T W)):=qh h
theorem mC:∀ {l:List D},(∀d∈l,PyData.eqv d d=true)->PyData.eqvAll l l=true
 | [],_=>by simp[PyData.eqvAll]
 | d::l,h=>by
  rw[PyData.eqvAll,h d List.mem_cons_self,mC fun x hx=>h x (List.mem_cons_of_mem _ hx)]
  rfl
theorem lE {l:List D}(h:∀d∈l,PyData.eqv d d=true):PyData.eqv (.tuple l) (.tuple l)=true:=by
 rw[PyData.eqv,mC h]
theorem wI (a:List Int):PyData.eqv (af a) (af a)=true:=by rw[nZ];simp
theorem Bq (a:Int):PyData.eqv (.int a) (.int a)=true:=by
 have:=wI [a]
 rw[af,PyData.eqv,List.map_cons,List.map_nil,PyData.eqvAll] at this
 simp only[Bool.and_eq_true] at this
 exact this.1
theorem xM (p:Pl):PyData.eqv (bf p) (bf p)=true:=lE fun d hd=>by
 rcases List.mem_cons.mp hd with rfl|hd
 ·exact Bq _
 ·rw[List.mem_singleton] at hd
  subst hd
  exact wI _
theorem Fd (w:Wy):PyData.eqv (ao w) (ao w)=true:=wI [w.1,w.2.1,w.2.2]
theorem Gj (G T:List Pl) (W:List Wy):PyData.eqv (ar G T W) (ar G T W)=true:=lE fun d hd=>by
 rcases List.mem_cons.mp hd with rfl|hd
 ·exact lE fun d hd=>by obtain⟨p,_,rfl⟩:=List.mem_map.mp hd;exact xM p
 rcases List.mem_cons.mp hd with rfl|hd
 ·exact lE fun d hd=>by obtain⟨p,_,rfl⟩:=List.mem_map.mp hd;exact xM p
 ·rw[List.mem_singleton] at hd
  subst hd
  exact lE fun d hd=>by obtain⟨p,_,rfl⟩:=List.mem_map.mp hd;exact Fd p
theorem EK (h:Wd G T W):dM (ar G T W) (ar G T W)=some (.bool false):=by
 have hs:SeqAt.shaped (ar G T W)=true:=h.fit.shaped (by decide)
 simp only[dM,FK,hs,and_self,if_true,Gj,Option.map_some,Bool.not_true]
theorem Af (a:Bool):dM (.bool a) (.bool a)=some (.bool false):=by cases a<;>simp[dM,FK,SeqAt.shaped,PyData.canLay0,PyData.depth,PyData.eqv]
theorem xX (a:Int):dM (.int a) (.int a)=some (.bool false):=by
 have hs:SeqAt.shaped (.int a)=true:=(jD (b:=1) (k:=0) a).shaped (by decide)
 simp only[dM,FK,hs,and_self,if_true,Bq,Option.map_some,Bool.not_true]
theorem IJ {l m:List (List Int)}(p:l.Perm m):gW l=gW m:=sU ((lI l).trans p) (xn l)
theorem oO (h:Wd G T W):bg [ar G T W]=some (.bool true):=by rw[nO h.fit (by decide),B1,h.lok]
end
namespace K03M
theorem mQ {cs:List Nat}{fi:Dl.Env->Option (List D)}{te:Dl.Env->Option D}{ρ:Dl.Env}{is:List Nat}{f:Nat->List Int}(hfi:fi ρ=some (is.map nD)) (hl:is.length<=16) (hn:∀i∈is,f i≠[]) (hh:∀i∈is,te (some (nD i)::cs.map fun j=>(ρ[j]?).getD none)=some (af (f i))):hV cx (aa (cw (ak 1 cs fi (fG 0) (fun _=>some true) te)) ae) ρ=some ((gW (is.map f)).map af):=by
 have c:=jw (f:=fun i=>af (f i)) hfi (by omega) hh
 have e:(is.map fun i=>af (f i))=(is.map f).map af:=by rw[List.map_map];rfl
 rw[e] at c
 have hr:rowsOf ((is.map f).map af)=some (is.map f):=ig fun ns hns=>by
  obtain⟨i,hi,rfl⟩:=List.mem_map.mp hns
  exact hn i hi
 simp only[hV,aa,ae,cw,c,Option.map_some,Option.bind_some,cx,oneOf,hr]
 rw[if_pos (by rw[List.length_map];omega)]
theorem Cq (G T:List Pl) (W:List Wy) (P:List Int):(pk G T W P).length<=W.length:=by
 refine Nat.le_trans (List.length_filter_le _ _) ?_
 rw[List.length_range]
 exact Nat.le_refl _
theorem F1 {G T:List Pl}{W:List Wy}{P:List Int}{k:Nat}(hk:k∈pk G T W P):k < W.length:=by
 have:=(List.mem_filter.mp hk).1
 simpa using this
theorem Li (w:Wy) {f:Dl.Env->Option D}{ρ:Dl.Env}(h:f ρ=some (ao w)):jL eN f jN (vN (fC (.int 2))) ρ=some (af [w.1,w.2.1]):=BE (k:=2) h rfl
theorem K1 (w:Wy) {f:Dl.Env->Option D}{ρ:Dl.Env}(h:f ρ=some (ao w)):f1 qH f ρ=some (af [w.2.1,w.1]):=by
 simp only[f1,h,Option.bind_some]
 rfl
theorem oH {n i:Nat}{t:Dl.Env->Option Bool}{g:ai->Option Out}{R:ai->Prop}{ρ:ai}(hh:∀ρ j,j < n->R ρ->t (bb (ρ.set i (.val (nD j))))=some false/\R (ρ.set i (.val (nD j)))) (h:R ρ):∃ρ',eE (tN i) (eX t g eU) ((List.range n).map nD) ρ=some (.nx ρ')/\R ρ':=by
 rw[List.range_eq_range']
 exact sk nD (fun _=>R) n 0 ρ (fun j ρ _ hj r=>by
  obtain⟨h1,h2⟩:=hh ρ j (by omega) r
  exact⟨_,_,rfl,cC h1,h2⟩) h
section
variable {G T:List Pl}{W:List Wy}
theorem main (ns:List Int) (hl:ns.length<=63):gF [.list (ns.map PyData.int)]=some (.bool true):=by
 obtain⟨G,T,W,ew,h,_⟩:=vt (ns:=ns) (a:=0) (mo:=9) hl (by omega)
 have ep:=wQ (ns:=ns) (at':=70) hl h
 have p:=DN (ns:=ns) (at':=70) hl h
 generalize kq (pq ns 70 W) G T W W.length=P at ep p
 have hw:=h.wl
 have o:=lb h.wp
 have h':=o.wd h
 have p':=p.tu h o
 have o':=lb h'.wp
 have eWW:=Eb h.wp o o'
 have ePP:=xN h.wp o o' p.len
 have hw':(cO W (aX W)).length=W.length:=cL o
 have et:=ku h
 have etp:=cS h p
 have et2:=ku h'
 have etp2:=cS h' p'
 rw[eWW] at et2
 rw[ePP] at etp2
 have er:=yx h p
 have er2:=yx h' p'
 have e0:decide (pk T G (cO W (aX W)) (jW P (aX W))=[])=decide (pk G T W P=[]):=decide_eq_decide.mpr (Gz h o)
 rw[e0] at er2
 have el:=qE h p
 have el2:=qE h' p'
 have hsr:gW ((pk T G (cO W (aX W)) (jW P (aX W))).map fun k=>[(ax (cO W (aX W)) k).2.1,(ax (cO W (aX W)) k).1])=gW ((pk G T W P).map fun k=>[(ax W k).1,(ax W k).2.1]):=IJ (A6 h o)
 have es:=fun (i:Nat) (hi:i < G.length)=>CU h p hi
 have ek:=fun (i:Nat) (hi:i < T.length)=>yv h p hi
 have es2:=fun (i:Nat) (hi:i < T.length)=>CU h' p' hi
 have ek2:=fun (i:Nat) (hi:i < G.length)=>yv h' p' hi
 have hth1:∀i:Int,iO true (cO W (aX W)) (jW P (aX W)) i=iO false W P i:=fun i=>r6 o false i
 have hth2:∀i:Int,iO false (cO W (aX W)) (jW P (aX W)) i=iO true W P i:=fun i=>r6 o true i
 have eb:=AI h
 have eb2:=AI h'
 have pb:=CO h
 have pb2:=CO h'
 generalize Kp G T W=A at eb pb
 generalize Kp T G (cO W (aX W))=B at eb2 pb2
 have etA:=cS h pb
 have ekb:bN [ar G T W]=some (af (jW B (aX (cO W (aX W))))):=jV h eb2 pb2
 have ekb2:bN [ar T G (cO W (aX W))]=some (af (jW A (aX W))):=by
  have:=jV h' (c:=A) (by rw[eWW];exact eb) (by rw[eWW];exact pb)
  rwa [eWW] at this
 have pB:Pn G T W (jW B (aX (cO W (aX W)))):=by
  have:=pb2.tu h' o'
  rwa [eWW] at this
 have etB:=cS h pB
 have eBB:jW (jW B (aX (cO W (aX W)))) (aX W)=B:=by
  have o2:Ord (cO (cO W (aX W)) (aX (cO W (aX W)))) (aX W):=by rw[eWW];exact o
  exact xN h'.wp o' o2 pb2.len
 rw[eBB] at etB
 have eiw:=oO h'
 have eip:=jQ h' p'
 generalize hW':cO W (aX W)=W' at *
 generalize hP':jW P (aX W)=P' at *
 clear eWW ePP hW' hP' o' e0
 refine aI ?_
 show jv [.val (bC ns),.non,.non,.non,.non,.non,.non,.non,.non]=_
 unfold jv
 have t1:Dl.aB 1 [0] (ag 3 bM (aa (ab 0) (aa (fC (.int 0)) (aa (fC (.int 9)) ae)))) [.val (bC ns),.non,.non,.non,.non,.non,.non,.non,.non]=some (.nx [.val (bC ns),.val (ar G T W),.non,.non,.non,.non,.non,.non,.non]) :=
  ba (call_of ew rfl rfl) (call_of ew rfl rfl) rfl
 rw[ah t1]
 have t2:Dl.aB 2 [0,1] (ag 3 eu (aa (ab 0) (aa (fC (.int 70)) (aa (ab 1) ae)))) [.val (bC ns),.val (ar G T W),.non,.non,.non,.non,.non,.non,.non]=some (.nx [.val (bC ns),.val (ar G T W),.val (af P),.non,.non,.non,.non,.non,.non]) :=
  ba (call_of ep rfl rfl) (call_of ep rfl rfl) rfl
 rw[ah t2]
 have t3:(Dl.aB 3 [1] (ag 1 cR (aa (ab 1) ae))) [.val (bC ns),.val (ar G T W),.val (af P),.non,.non,.non,.non,.non,.non]=some (.nx [.val (bC ns),.val (ar G T W),.val (af P),.val (ar T G W'),.non,.non,.non,.non,.non]):=ba (call_of et rfl rfl) (call_of et rfl rfl) rfl
 rw[ah t3]
 have t4:(Dl.aB 4 [1,2] (ag 2 aQ (aa (ab 1) (aa (ab 2) ae)))) [.val (bC ns),.val (ar G T W),.val (af P),.val (ar T G W'),.non,.non,.non,.non,.non]=some (.nx [.val (bC ns),.val (ar G T W),.val (af P),.val (ar T G W'),.val (af P'),.non,.non,.non,.non]):=ba (call_of etp rfl rfl) (call_of etp rfl rfl) rfl
 rw[ah t4]
 have t5:(eX (kl (fB (f2 dM (ag 1 cR (aa (ab 3) ae)) (ab 1))) (kl (fB (f2 dM (ag 2 aQ (aa (ab 3) (aa (ab 4) ae))) (ab 2))) (kl (bA (fB (ag 1 bg (aa (ab 3) ae)))) (bA (fB (ag 2 dq (aa (ab 3) (aa (ab 4) ae)))))))) (aF (fC (.bool false))) eU) [.val (bC ns),.val (ar G T W),.val (af P),.val (ar T G W'),.val (af P'),.non,.non,.non,.non]=some (.nx [.val (bC ns),.val (ar G T W),.val (af P),.val (ar T G W'),.val (af P'),.non,.non,.non,.non]) :=
  cC (xf (bQ (aA (EK h) (call_of et2 rfl rfl) rfl)) (xf (bQ (aA (rD P) (call_of etp2 rfl rfl) rfl)) (xf (d6 (bQ (call_of eiw rfl rfl))) (d6 (bQ (call_of eip rfl rfl))))))
 rw[ah t5]
 have t6:(eX (fB (f2 dM (ag 2 hX (aa (ab 1) (aa (ab 2) ae))) (ag 2 hX (aa (ab 3) (aa (ab 4) ae))))) (aF (fC (.bool false))) eU) [.val (bC ns),.val (ar G T W),.val (af P),.val (ar T G W'),.val (af P'),.non,.non,.non,.non]=some (.nx [.val (bC ns),.val (ar G T W),.val (af P),.val (ar T G W'),.val (af P'),.non,.non,.non,.non]) :=
  cC (bQ (aA (Af _) (call_of er rfl rfl) (call_of er2 rfl rfl)))
 rw[ah t6]
 generalize hL:((pk G T W P).map fun k=>[(ax W k).1,(ax W k).2.1])=L at *
 have t7:(aK 5 [1,2] (hV cx (aa (cw (ak 1 [1] (aS (ag 2 dY (aa (ab 1) (aa (ab 2) ae)))) (fG 0) (fun _=>some true) (jL eN (f2 au (f2 au (ab 1) (fC (.int 2))) (ab 0)) jN (vN (fC (.int 2)))))) ae))) [.val (bC ns),.val (ar G T W),.val (af P),.val (ar T G W'),.val (af P'),.non,.non,.non,.non]=some (.nx [.val (bC ns),.val (ar G T W),.val (af P),.val (ar T G W'),.val (af P'),.own ((gW L).map af),.non,.non,.non]):=by
  rw[<- hL]
  exact gO (mQ (lK el rfl rfl) (Nat.le_trans (Cq G T W P) hw) (fun i _=>List.cons_ne_nil _ _) fun i hi=>Li _ (aA (j9 (F1 hi)) rfl rfl)) rfl
 rw[ah t7]
 have t8:(aK 6 [3,4] (hV cx (aa (cw (ak 1 [3] (aS (ag 2 dY (aa (ab 3) (aa (ab 4) ae)))) (fG 0) (fun _=>some true) (f1 qH (f2 au (f2 au (ab 1) (fC (.int 2))) (ab 0))))) ae))) [.val (bC ns),.val (ar G T W),.val (af P),.val (ar T G W'),.val (af P'),.own ((gW L).map af),.non,.non,.non]=some (.nx [.val (bC ns),.val (ar G T W),.val (af P),.val (ar T G W'),.val (af P'),.own ((gW L).map af),.own ((gW L).map af),.non,.non]):=by
  rw[<- hsr]
  exact gO (mQ (lK el2 rfl rfl) (Nat.le_trans (Cq T G W' P') (by omega)) (fun i _=>List.cons_ne_nil _ _) fun i hi=>K1 _ (aA (j9 (F1 hi)) rfl rfl)) rfl
 rw[ah t8]
 have t9:(eX (fB (f2 dM (ab 5) (ab 6))) (aF (fC (.bool false))) eU) [.val (bC ns),.val (ar G T W),.val (af P),.val (ar T G W'),.val (af P'),.own ((gW L).map af),.own ((gW L).map af),.non,.non]=some (.nx [.val (bC ns),.val (ar G T W),.val (af P),.val (ar T G W'),.val (af P'),.own ((gW L).map af),.own ((gW L).map af),.non,.non]) :=
  cC (bQ (aA ((z6 _ _).trans (by simp)) rfl rfl))
 rw[ah t9]
 obtain⟨ρ1,f1,x7,rfl⟩:=oH (n:=G.length) (i:=7) (t:=(fB (f2 dM (ag 3 j7 (aa (ab 1) (aa (ab 2) (aa (ab 7) ae)))) (ag 3 iA (aa (ab 3) (aa (ab 4) (aa (ab 7) ae))))))) (g:=aF (fC (.bool false))) (R:=fun ρ=>∃x,ρ=[.val (bC ns),.val (ar G T W),.val (af P),.val (ar T G W'),.val (af P'),.own ((gW L).map af),.own ((gW L).map af),x,.non]) (ρ:=[.val (bC ns),.val (ar G T W),.val (af P),.val (ar T G W'),.val (af P'),.own ((gW L).map af),.own ((gW L).map af),.non,.non])
  (fun ρ j hj hr=>by
   obtain⟨x,rfl⟩:=hr
   exact⟨bQ (aA (xX (iO false W P j)) (call_of (es j hj) rfl rfl) (call_of ((ek2 j hj).trans (by rw[hth1])) rfl rfl)),_,rfl⟩) ⟨_,rfl⟩
 refine (ah (b9 f1 (mf (n:=G.length) (cons_of (iZ (l:=G) (k:=bf) (aA (a:=ar G T W) (b:=.int 0) (c:=.tuple (G.map bf)) rfl rfl rfl)) rfl) (by have:=h.g4;omega)) rfl)).trans ?_
 obtain⟨ρ2,f2',x8,rfl⟩:=oH (n:=T.length) (i:=8) (t:=(fB (f2 dM (ag 3 iA (aa (ab 1) (aa (ab 2) (aa (ab 8) ae)))) (ag 3 j7 (aa (ab 3) (aa (ab 4) (aa (ab 8) ae))))))) (g:=aF (fC (.bool false))) (R:=fun ρ=>∃x,ρ=[.val (bC ns),.val (ar G T W),.val (af P),.val (ar T G W'),.val (af P'),.own ((gW L).map af),.own ((gW L).map af),x7,x]) (ρ:=[.val (bC ns),.val (ar G T W),.val (af P),.val (ar T G W'),.val (af P'),.own ((gW L).map af),.own ((gW L).map af),x7,.non])
  (fun ρ j hj hr=>by
   obtain⟨x,rfl⟩:=hr
   exact⟨bQ (aA (xX (iO true W P j)) (call_of (ek j hj) rfl rfl) (call_of ((es2 j hj).trans (by rw[hth2])) rfl rfl)),_,rfl⟩) ⟨_,rfl⟩
 refine (ah (b9 f2' (mf (n:=T.length) (cons_of (iZ (l:=T) (k:=bf) (aA (a:=ar G T W) (b:=.int 1) (c:=.tuple (T.map bf)) rfl rfl rfl)) rfl) (by have:=h.t4;omega)) rfl)).trans ?_
 refine (ah (cC (ρ:=[.val (bC ns),.val (ar G T W),.val (af P),.val (ar T G W'),.val (af P'),.own ((gW L).map af),.own ((gW L).map af),x7,x8]) (bQ (aA (rD (jW A (aX W))) (call_of etA (cons_of rfl (cons_of (call_of eb rfl rfl) rfl)) rfl) (call_of ekb2 rfl rfl))))).trans ?_
 exact aL (aA ((Bz B B).trans (by simp)) (call_of etB (cons_of rfl (cons_of (call_of ekb rfl rfl) rfl)) rfl) (call_of eb2 rfl rfl))
end
end K03M
end Wm
namespace K03
open PySem L2 Dl PySem.Spec PyProof.Rows Pg Hd
theorem main (ns:List Int) (h:ns.length<=63):gF [.list (ns.map PyData.int)]=some (.bool true):=Wm.K03M.main ns h
theorem ins (P:Params):Ki (Kf P):=⟨f3 70 69 g8,f2 77 76 g8,f3 84 83 g8,f2 89 88 g8,f2 96 95 g8,f3 103 102 g8,f3 108 107 g8,f1 113 112 g8,f1 118 117 g8,f4 123 122 g8,f3 128 127 g8,f2 133 132 g8,f1 140 139 g8,f2 147 146 g8,f3 154 153 g8,f2 161 160 g8,f3 168 167 g8,l1 175 174 g8,f1 180 179 g8,f2 185 184 g8,f3 192 191 qJ,f3 199 198 qJ,l3 204 203 qJ,f4 209 208 qJ,f4 214 213 qJ,f3 221 220 qJ,f2 228 227 qJ,f2 235 234 qJ,f2 240 239 qJ,f2 247 246 qJ,f3 252 251 vL,f1 257 256 vL,f3 264 263 vL,f2 271 270 vL,f1 278 277 vL,f2 285 284 vL,f1 292 291 vL,f1 299 298 vL,f2 306 305 tM,f3 313 312 tM,f3 320 319 tM,f3 325 324 tM,f4 330 329 tM,f2 337 336 tM,f1 342 341 tM,f3 349 348 tM,f1 354 353 tM,Dl.F5 (t:=257) (by kernel_rfl),Dl.F5 (t:=259) (by kernel_rfl),Dl.Hv (by kernel_rfl) (by kernel_rfl) (by kernel_rfl) (by kernel_rfl) (by kernel_rfl) (by kernel_rfl) (by kernel_rfl) (by kernel_rfl) (by kernel_rfl) (by kernel_rfl) (by kernel_rfl) (by kernel_rfl) (by kernel_rfl) (by kernel_rfl) (by kernel_rfl) (by kernel_rfl) (by kernel_rfl)⟩
theorem L9 (w:World):lx (Kf w.params) [170,201]=true:=by kernel_rfl
end K03
open PySem PySem.W PyProof.Rows
theorem PySem.Challenge.cw_stillflow_k03_whole_turned_holds : PySem.Challenge.rw_stillflow_k03_whole_turned.Holds := by
 refine holds_law K03.KJ fun k1=>?_
 refine holds_open (XP:=XL K03.vw []) (YP:=K03.hk.says) K03.left K03.hk.of K03.hk.keeps (fun s e=>xl_of s (Bool.and_eq_true_iff.mp e).1) XL.keeps (by rfl) (by rfl) (by rfl) (fun s e=>recFacts_of (Bool.and_eq_true_iff.mp e).2) (by rfl) k1 (by decide +kernel) ⟨rfl,rfl,rfl,rfl,rfl,by decide +kernel⟩ ?hw ?hc
 case hw=>w_witness2
 case hc=>exact K03.walk (l:=PySem.Challenge.rw_stillflow_k03_whole_turned) (K:=K03.Kf) (ts:=[170,201]) rfl rfl rfl (fun w h Y=>⟨Y.1,Y.2⟩) K03.L9 (fun w=>K03.ins w.params) K03.main
